import Derived.Test.YtjppdacikihpdaaGreatDoorM1x
import Derived.Deep.OwnRows
import Derived.BigQuiet
import Derived.Deep.RegionWith
set_option linter.unusedVariables false
set_option linter.unusedSimpArgs false
set_option maxHeartbeats 16000000
set_option maxRecDepth 20000
namespace Go.Proofs.YtjppdacikihpdaaGreatDoor
section
open Go.RowKit
def gF(w:World):Prop:=∀ j,j<32->w.cell? ⟨1,j,none⟩=some (.int .u8 (Lib.deBruijn32tab.getD j 0))
theorem gF.below{B:Nat}{w w':World}(h:gF w)(hb:Below B w w')(hB:1<B):gF w':=fun j hj=>(hb.cell (p:=⟨1,j,none⟩) hB).trans (h j hj)
theorem gF.pos{w:World}(h:gF w):1<w.heap.size:=qh w ⟨1,0,none⟩ (h 0 (by decide))
theorem gF.belows{w w':World}(h:gF w)(hb:Below w.heap.size w w'):gF w':=h.below hb h.pos
theorem Ul (x k idx:Nat) (w:World) (hx0:((x:Int)==0)=false)
 (key:bits BinOp.and IntKind.u32 (x:Int) (-(x:Int)%4294967296)*125613361%4294967296/134217728=(idx:Int))
 (hi:idx<32) (hk:k<32) (hcell:w.cell? ⟨1,idx,none⟩=some (.int .u8 k)) :
 Calls Tryz.prog 187 #[.int .u32 x] w fun e w'=>e=.returned (.int .i64 k)/\w'=w:=by
 go_enter Tryz.func187,Tryz.ntmps187
 go_wp2_with (simp only[key])
 go_ret;exact⟨rfl,rfl⟩
theorem Ye(x a:Nat)(hx:x<4294967296)(hx0:x≠0)(hlow:x &&& (4294967296-x)=a) :
 bits BinOp.and IntKind.u32 (x:Int) (-(x:Int)%4294967296)*125613361%4294967296/134217728=((a*125613361%4294967296/134217728:Nat):Int):=by
 rw[show -(x:Int)%4294967296=((4294967296-x:Nat):Int) by omega,JF x _ hx (by omega),hlow];omega
theorem Yf(x:Nat)(hx:x<4294967296)(hx0:x≠0)(w:World)(hT:gF w) :
 Calls Tryz.prog 187 #[.int .u32 (x:Int)] w fun e w'=>e=.returned (.int .i64 (Lib.ctz 32 x:Nat))/\w'=w:=by
 obtain⟨hlow,hk⟩:=Lib.lowest_bit 32 x hx0 hx;obtain⟨hi,htab⟩:=Lib.deBruijn32_at _ hk;have hcell:=hT _ hi;rw[htab] at hcell;exact Ul x _ _ w (by simp;omega) (Ye x _ hx hx0 hlow) hi hk hcell
def lo(n:Nat):Nat:=if h:n=0 then 0 else if n%2=1 then 0 else lo (n/2)+1
termination_by n
decreasing_by omega
theorem Bw:lo 0=0:=by rw[lo];simp
theorem Pw(m:Nat):lo (2*m+1)=0:=by rw[lo];simp
theorem JO(i m:Nat):lo (2^i*(2*m+1))=i:=by
 induction i with
 | zero=>rw[fw,gI];exact Pw m
 | succ i ih =>
   have h:2^(i+1)*(2*m+1)=2*(2^i*(2*m+1)):=by rw[dC];grind
   have hp:0<2^i*(2*m+1):=iL (aU i) (by omega);rw[h,lo,dif_neg (by omega),if_neg (by omega),uK _ (by decide),ih]
theorem Px(xs:List Nat)(k:Nat)(hx:Wf xs)(hk:k<xs.length)(h0:sg xs 0 k=0)(hw:xs.getD k 0≠0):lo (val xs)=32*k+Lib.ctz 32 (xs.getD k 0):=by
 have hl:=hx.get k;obtain⟨m,hm,hc⟩:=Lib.ctzFrom_spec 32 (xs.getD k 0) (by omega) hl;have hcz:Lib.ctz 32 (xs.getD k 0)=Lib.ctzFrom 32 (xs.getD k 0):=by simp only[Lib.ctz,if_neg hw]
 rw[hcz];obtain⟨c,hc'⟩:∃ c,Lib.ctzFrom 32 (xs.getD k 0)=c:=⟨_,rfl⟩;rw[hc'] at hm hc |-;have e:=dD xs k (by omega);rw[<-jq,h0,cO,bZ xs k hk,hm] at e
 have e2:4294967296=2^c*(2*2^(31-c)):=by
  rw[<-aJ,bJ (2^c) 2,aJ,<-aI,show c+(31-c)=31 by omega]
 have e3:val xs=2^(32*k+c)*(2*(m+2^(31-c)*val (xs.drop (k+1)))+1):=by
  rw[e,aI,nN];have:(2^32:Nat)^k=pw k:=rfl;rw[this];have:4294967296*val (xs.drop (k+1))=2^c*(2*2^(31-c))*val (xs.drop (k+1)):=by rw[<-e2]
  rw[this]
  grind
 rw[e3,JO]
theorem Qbi{P:Prop}(h:P:=by
 exact⟨congrArg (fun z=>Ending.returned (Value.int IntKind.i64 z)) (by omega),rfl⟩):P:=h
theorem Um(xs:List Nat)(ao:Option Addr)(n cap B:Nat)(w:World)(hn:n=xs.length)(hm:n<=70368744177664)(hx:Wf xs)(hR:Rd B w ao xs)(hT:gF w) :
 Calls Tryz.prog 146 #[.slice ao n cap] w fun r w'=>r=.returned (.int .i64 (lo (val xs):Nat))/\w'=w:=by
 have HT:=(hid hT);have HR:=(fG hR hn hx);clear hR hn hx hT;go_enter Tryz.func146,Tryz.ntmps146;go_wp2
 go_loopg [7] n (fun gk i wr=>∃ k:Nat,gk+k=n/\i=.int .i64 (k:Nat)/\wr=w/\Aside (sg xs 0 k=0))
 case atStart=>exact⟨0,by omega,rfl,rfl,dF _ _⟩
 case round =>
  obtain⟨k,lU,rfl,rfl,HA⟩:=hrel
  by_cases hk:k<n
  · obtain⟨hR,hn,hx⟩:=HR.o;obtain⟨b,eX,JJ,rfl,hbc⟩:=hR (by intro e;subst e;simp at hn;omega);have hbk:=hbc k (by omega);obtain⟨x,eD⟩:∃ x:Nat,xs.getD k 0=x:=⟨_,rfl⟩;have hxl:x<4294967296:=eD ▸ hx.get _;rw[eD] at hbk
    by_cases h0:x=0
    · subst h0;have HX:=(ah eD);clear eD hR hn hx hbc;go_wp2;go_roundg (gk-1)
      case measure=>omega
      case rel =>
       obtain⟨hR,hn,hx⟩:=HR.o;refine⟨k+1,by omega,by go_num,rfl,?_⟩;have h1:=HA.o;rw[Aside,bA xs 0 k (by omega),cO,HX.o,h1];omega
    · have hz:=Px xs k hx (by omega) HA.o (by rw[eD];exact h0);rw[eD] at hz;obtain⟨hc,hc32⟩:=Lib.lowest_bit 32 x h0 hxl;have H:=hid (Yf x hxl h0 wr HT.o);obtain⟨c,hcc⟩:∃ c,Lib.ctz 32 x=c:=⟨_,rfl⟩;rw[hcc] at H hz hc32;have HZ:=(ah hz);clear eD hR hn hx hbc hc hz hcc;go_wp2_with fail;refine H.o.mono ?_;rintro r w1 ⟨rfl,rfl⟩;go_wp2;go_ret;rw[HZ.o];exact Qbi
  · obtain rfl:k=n:=by omega
    obtain⟨hR,hn,hx⟩:=HR.o;have h1:=HA.o;have h2:val xs=0:=by rw[<-dh,<-hn];exact h1
    have H2:=(ah h2);clear hR hn hx h1 h2 HA HR;go_wp2;go_ret;rw[H2.o,Bw];exact XS
theorem dw(z:Int)(n:Nat)(hz:z=(n:Int))(hn:n<=70368744177664)(w:World) :
 (Instr.makeSlice 77 (.int .i64 z) (.int .i64 z)).run Tryz.prog w=.ok (.slice (some ⟨w.heap.size,0,none⟩) n n) (w.alloc (.cells (madeCells #[.int .u32 0] n) 162)):=by
 subst hz;exact run_make_row' 77 162 (.int .u32 0) 4 Tryz.underlying77 Tryz.vN rfl .i64 .i64 n (by omega) (by omega) w
theorem Own.made(w:World)(n:Nat):Own (w.alloc (.cells (madeCells #[.int .u32 0] n) 162)) w.heap.size (List.replicate n 0):=by
 unfold Own;have h1:=gU w (.cells (madeCells #[.int .u32 0] n) 162);rw[h1];congr 2;apply Array.toList_inj.1;rw[toList_madeCells_one];simp[U]
theorem Rd.drop{B:Nat}{w:World}{b off:Nat}{xs:List Nat}(h:Rd B w (some ⟨b,off,none⟩) xs)(k:Nat):Rd B w (some ⟨b,off+k,none⟩) (xs.drop k):=by
 intro hx;have hx':xs≠[]:=by intro e;subst e;simp at hx
 obtain⟨b',off',hlt,e,hc⟩:=h hx'
 cases e
 refine⟨b,off+k,hlt,rfl,fun i hi=>?_⟩;simp only[nL] at hi;rw[mX,hc (k+i) (by omega)];simp[bG]
theorem jc (w:World) (g dLen dCap:Nat) (ao:Option Addr) (sLen sCap B:Nat) (ty:TypeId)
 (L xs:List Nat) (hO:Own w g L) (hL:dLen<=L.length) (hx:sLen=xs.length) (hR:Rd B w ao xs) (hle:sLen<=dLen) :
 ∃ w',(Builtin.copy_ #[77,77] ty #[.slice (some ⟨g,0,none⟩) dLen dCap,.slice ao sLen sCap]).run Tryz.prog w=.ok (.int .i64 (sLen:Int)) w'/\Own w' g (xs++L.drop sLen)/\But g w w':=by
 subst hx;have hmin:Nat.min xs.length dLen=xs.length:=ik hle
 by_cases h0:xs=[]
 · subst h0;exact⟨w,run_copy_none (P:=Tryz.prog) w 77 77 ty 162 _ _ _ _ _ _ Tryz.underlying77 (by kernel_rfl) (by simp at hmin |-),by simpa using hO,But.refl _ _⟩
 · obtain⟨b,off,hlt,rfl,hc⟩:=hR h0;have hadd:∀ j,(⟨b,off,none⟩:Addr).add j=⟨b,off+j,none⟩:=by intro j;unfold Addr.add;split <;> simp_all
   have hrun:=run_copy_row (P:=Tryz.prog) w 77 77 ty 162 g 0 dLen dCap ⟨b,off,none⟩ xs.length sCap (L.map U).toArray 162 (xs.map U) Tryz.underlying77 (by kernel_rfl) hO (by rw[hmin];simp) (by
    intro j v hv;rw[hadd]
    have hj:j<xs.length:=by
     have:=(uL.1 hv).1;simpa using this
    rw[hc j hj];simp[hj,U] at hv
    simp[hj,<-hv]) (by simp;omega) (by
    intro v hv;obtain⟨n,_,rfl⟩:=qR.1 hv
    rfl)
   refine⟨w.setRow g (((xs++L.drop xs.length).map U)).toArray,?_,setRow_heap w g _ _ 162 _ hO,⟨rfl,rfl,rfl,by simp[World.setRow],fun k _ hk=>setRow_other w g k _ hk⟩⟩;simpa [wz,List.map_drop,goInt] using hrun
theorem DT(xs:List Nat)(ao:Option Addr)(n cap B:Nat)(w:World)(hn:n=xs.length)(hc:n<=cap)(hm:n<=70368744177664)(hx:Wf xs)(hR:Rd B w ao xs)(hB:B<=w.heap.size) :
 Calls Tryz.prog 222 #[.slice ao n cap] w fun r w'=>r=.returned (.slice (some ⟨w.heap.size,0,none⟩) (ws (val xs)).length (ws (val xs)).length)/\Own w' w.heap.size (ws (val xs))/\Below w.heap.size w w':=by
 have H:=hid (dU xs ao n cap B w hn hc (by omega) hR);have hl:nl xs<=n:=by rw[hn];exact jK xs
 obtain⟨k,hk⟩:∃ k,nl xs=k:=⟨_,rfl⟩;have HF:Aside (xs.take k=ws (val xs)):=by rw[<-hk];exact oV xs hx
 have HR:Aside (Rd B w ao (xs.take k)/\k=(xs.take k).length):=⟨hR.take k,by rw[eY];omega⟩;rw[hk] at H hl;rw[<-HF.o];have hmk:=dw (k:Int) k rfl (by omega);have HO:=Own.made w k;have HO2:Hid (Own (w.alloc (.cells (madeCells #[.int .u32 0] k) 162)) w.heap.size (List.replicate k 0)):=HO;clear hk hR hn hx HO;go_enter Tryz.func222,Tryz.ntmps222;go_wp2_with fail;refine H.o.mono ?_;rintro r w1 ⟨rfl,rfl⟩;obtain⟨w2,hcp,hO2,aD⟩:=jc _ w1.heap.size k k ao k cap B 3 (List.replicate k 0) (xs.take k) HO2.o (by simp) HR.o.2 (HR.o.1.below ((ay _ _).alloc hB _)) (ak _);have HH:=hid (ai hO2 aD);clear hO2 aD HO2;go_wp2;go_ret;obtain⟨hO2,aD⟩:=HH.o;rw[<-HR.o.2];refine⟨rfl,by simpa using hO2,But.below ((ay _ _).alloc (ak _) _) aD (by simp) (ak _)⟩
theorem xx(xs:List Nat)(hx:Wf xs)(k:Nat)(hk:nl xs=k+1):val xs=sg xs 0 k+pw k*xs.getD k 0/\sg xs 0 k<pw k/\xs.getD k 0≠0/\k<xs.length:=by
 have hl:=jK xs;have h1:=ko xs hx;rw[hk,iB xs k (by omega),<-jq] at h1;have h2:=JE xs (by omega);rw[hk,lZ] at h2;exact⟨h1.symm,nz xs 0 k hx (by omega),h2,by omega⟩
theorem DU(xs:List Nat)(hx:Wf xs)(k:Nat)(hk:nl xs=k+1):bl (val xs)=32*k+bl (xs.getD k 0):=by
 obtain⟨e,hlt,h0,hl⟩:=xx xs hx k hk;obtain⟨t,ht⟩:∃ t,xs.getD k 0=t:=⟨_,rfl⟩;rw[ht] at e h0 |-;obtain⟨c,hc⟩:∃ c,bl t=c+1:=⟨bl t-1,by have:=dm t h0;omega⟩;have h1:=gL t h0;have h2:=iq t;rw[hc] at h1 h2 |-;rw[lZ] at h1;have p1:2^(32*k+c)=pw k*2^c:=mJ k c;have p2:2^(32*k+c+1)=pw k*2^(c+1):=by rw[mX,mJ]
 have:=DJ (val xs) (32*k+c) (by
  rw[p1,e];have:=eO (pw k) h1
  omega) (by
  rw[p2,e];have:pw k*(t+1)<=pw k*2^(c+1):=eO (pw k) (by omega);rw[mY] at this
  omega)
 omega
theorem q9(xs:List Nat)(ao:Option Addr)(n cap B:Nat)(w:World)(hn:n=xs.length)(hc:n<=cap)(hm:n<=70368744177664)(hx:Wf xs)(hR:Rd B w ao xs) :
 Calls Tryz.prog 84 #[.slice ao n cap] w fun r w'=>r=.returned (.int .i64 (bl (val xs):Nat))/\w'=w:=by
 have H:=hid (dU xs ao n cap B w hn hc (by omega) hR);have hl:=jK xs;rcases hk:nl xs with _|k
 · rw[(iM xs).1 hk,df];rw[hk] at H;clear hk hl hn hx hR;go_enter Tryz.func84,Tryz.ntmps84;go_wp2_with fail;refine H.o.mono ?_;rintro r w1 ⟨rfl,rfl⟩;go_wp2;go_ret;exact⟨rfl,rfl⟩
 · rw[DU xs hx k hk];rw[hk] at H hl;obtain⟨e,hlt,h0,hl2⟩:=xx xs hx k hk;obtain⟨b,off,hB,rfl,hcell⟩:=hR (by intro e;subst e;simp at hl);have hck:=hcell k hl2;obtain⟨t,ht⟩:∃ t,xs.getD k 0=t:=⟨_,rfl⟩;have htl:t<4294967296:=ht ▸ hx.get k;rw[ht] at hck |-;have H2:=hid (zG t w htl);have hb:=vO t htl;obtain⟨c,hc'⟩:∃ c,bl t=c:=⟨_,rfl⟩;rw[hc'] at H2 hb |-;have hkn:k<n:=by omega
   clear hk hl hn hx hR e hlt h0 hl2 hcell ht hc';go_enter Tryz.func84,Tryz.ntmps84;go_wp2_with fail;refine H.o.mono ?_;rintro r w1 ⟨rfl,rfl⟩;go_wp2_with fail;refine H2.o.mono ?_;rintro r w1 ⟨rfl,rfl⟩;go_wp2;go_ret;exact Qbi
theorem mK(x:Nat)(w:World)(hx:x<18446744073709551616) :
 Calls Tryz.prog 95 #[.int .u64 (x:Int)] w fun r w'=>∃ v,r=.returned v/\Nt w.heap.size w' v x/\Below w.heap.size w w':=by
 obtain⟨a,ha⟩:=af (x%4294967296);obtain⟨b,hb⟩:=af (x/4294967296);have e1:(x:Int)%4294967296=(a:Int):=by omega
 have e2:(x:Int)/4294967296=(b:Int):=by omega
 have hx2:(x:Int)<18446744073709551616:=by omega
 have hO:Own (w.alloc (.cells #[.int .u32 (a:Int),.int .u32 (b:Int)] 162)) w.heap.size [a,b]:=by
  unfold Own;rw[gU];rfl
 have hW:Wf [a,b]:=Wf.cons (by omega) (Wf.cons (by omega) Wf.nil);have hv:val [a,b]=x:=by simp only[val];omega
 have T:=hid (dU [a,b] (some ⟨w.heap.size,0,none⟩) 2 2 (w.heap.size+1) _ rfl (by omega) (by omega) (by simpa using Rd.gm hO 0 2));have HH:=(fG hO hW hv);clear hO hW hv ha hb hx;go_enter Tryz.func95,Tryz.ntmps95;go_wp2_with fail;refine T.o.mono ?_;rintro r w1 ⟨rfl,rfl⟩;go_wp2;go_ret;obtain⟨hO,hW,hv⟩:=HH.o;refine⟨_,rfl,?_,(ay _ _).alloc (ak _) _⟩;have N:=Nt.gm (lo:=w.heap.size) hO (ak _) hW (by simp[maxLen]);rw[hv] at N;exact N
theorem Own.but{w w':World}{g k:Nat}{L:List Nat}(h:Own w k L)(hb:But g w w')(hk:k≠g):Own w' k L:=by
 have:=h.lt;unfold Own at h |-;rw[hb.block k this hk];exact h
def Apart(v1 v2:Value):Prop:=∀ g,v1.ownBlock=some g->v2.ownBlock≠some g
theorem Nt.lt{lo:Nat}{w:World}{v:Value}{X:Nat}(h:Nt lo w v X):∀ g,v.ownBlock=some g->lo<=g/\g<w.heap.size:=fun g hg=>World.ownsRow.lt h g hg
theorem DV{lo m hi:Nat}{w w2:World}{v1 v2:Value}{X Y:Nat}(h1:Nt lo w v1 X)(h2:Nt m w2 v2 Y)(hm:w.heap.size<=m):Apart v1 v2:=by
 intro g hg e;have a:=(h1.lt g hg).2;have b:=(h2.lt g e).1;omega
theorem pq(v:Value):Apart (.slice none 0 0) v:=by intro g hg;simp[Value.ownBlock] at hg
theorem Py(p b q V o a c:Nat):b*p*q*V+(a+p*(o*V+c))=p*(o+b*q)*V+(a+p*c):=by grind
theorem JP(M:List Nat)(i k d:Nat)(hd:M.length=i+k+d)(hz:sg M (i+k) d=0):val M=sg M 0 i+pw i*sg M i k:=by
 have h1:=dh M;rw[hd] at h1;have h2:=iH M 0 (i+k) d (by omega);have h3:=iH M 0 i k (by omega);rw[cO] at h2 h3;rw[hz,nP,gJ] at h2;rw[<-h1,h2,h3]
theorem Yg(Q:List Nat)(i r o:Nat)(hQ:i+1+r=Q.length):sg (Q.set i o) i (r+1)=o+4294967296*sg Q (i+1) r:=by
 have h1:=kr (Q.set i o) i r (by simp;omega);have h2:=gD Q i o (by omega);have h3:=qX Q (i+1) r i o (by omega) (by omega);rw[h2,h3] at h1;exact h1
theorem Yh(a p s V:Nat)(h1:a<p)(h2:s<V):a+p*s<p*V:=by
 have h:p*(s+1)<=p*V:=eO _ h2;rw[mY,dM] at h;omega
theorem Pz (M M2 Q:List Nat) (i m r V o X:Nat) (hM:Wf M) (hi:i+(m+1)<=M.length) (ho:Out M M2 i (m+1))
 (hinv:X=pw (i+1)*sg Q (i+1) r*V+val M) (hz:sg M (i+(m+1)) (M.length-(i+(m+1)))=0) (hQ:i+1+r=Q.length)
 (hs:sg M i (m+1)=o*V+sg M2 i (m+1)) (hlt:sg M2 i (m+1)<V) :
 X=pw i*sg (Q.set i o) i (r+1)*V+val M2/\val M2<pw i*V:=by
 obtain⟨d,hd⟩:=af (M.length-(i+(m+1)));rw[<-hd] at hz;have hl:M2.length=M.length:=ho.1;have e1:=JP M i (m+1) d (by omega) hz;have hz2:sg M2 (i+(m+1)) d=0:=by rw[ho.above (i+(m+1)) d (by omega) (by omega)];exact hz
 have e2:=JP M2 i (m+1) d (by omega) hz2;have e3:sg M2 0 i=sg M 0 i:=ho.below 0 i (by omega) (by omega);have e4:=Yg Q i r o hQ;have h1:=nz M 0 i hM (by omega);rw[e3] at e2;rw[hs] at e1;refine⟨?_,by rw[e2];exact Yh _ _ _ _ h1 hlt⟩;rw[hinv,e1,e2,e4,bz];exact Py _ _ _ _ _ _ _
theorem PD(M:List Nat)(i m V:Nat)(hM:Wf M)(hi:i+(m+1)<=M.length)(hV:V<pw m)(hlt:val M<pw (i+1)*V) :
 sg M (i+(m+1)) (M.length-(i+(m+1)))=0/\sg M i (m+1)<V*4294967296:=by
 obtain⟨d,hd⟩:∃ d,M.length=i+(m+1)+d:=⟨M.length-(i+(m+1)),by omega⟩
 have e1:val M=sg M 0 i+pw i*(sg M i (m+1)+pw (m+1)*sg M (i+(m+1)) d):=by
  rw[<-dh M,hd,show i+(m+1)+d=i+(m+1+d) by omega,iH M 0 i (m+1+d) (by omega),cO,iH M i (m+1) d (by omega)]
 rw[hd,GA];obtain⟨S,hS⟩:∃ S,sg M i (m+1)+pw (m+1)*sg M (i+(m+1)) d=S:=⟨_,rfl⟩;rw[hS] at e1
 have h1:S<4294967296*V:=by
  by_cases h:S<4294967296*V
  · exact h
  · exfalso;have:pw i*(4294967296*V)<=pw i*S:=eO _ (by omega);have e:pw (i+1)*V=pw i*(4294967296*V):=by rw[bz,bJ 4294967296,aJ]
    omega
 have h2:4294967296*V<pw (m+1):=by rw[bz];exact zo hV (by decide)
 constructor
 · rcases jH (sg M (i+(m+1)) d) with h | h
   · exact h
   · exfalso;have:pw (m+1)*1<=pw (m+1)*sg M (i+(m+1)) d:=eO _ h;omega
 · rw[bJ];omega
theorem Un(Y m z:Nat)(hY:Y≠0)(h1:pw (m-1)*2^(31-z)<=Y)(h2:Y<pw (m-1)*2^(32-z))(hz:z<32)(hm:0<m) :
 (ws (Y*2^z)).length=m/\Y*2^z<pw m/\2147483648<=(ws (Y*2^z)).getD (m-1) 0:=by
 obtain⟨k,rfl⟩:∃ k,m=k+1:=⟨m-1,by omega⟩;rw[lZ] at h1 h2 |-
 have a1:pw k*2147483648<=Y*2^z:=by
  have:=di (2^z) h1;rw[aJ,<-aI,show 31-z+z=31 by omega] at this;exact this
 have a2:Y*2^z<pw (k+1):=by
  have:=fe h2 (aU z);rw[aJ,<-aI,show 32-z+z=32 by omega] at this;rw[bz,bJ 4294967296];exact this
 have hp:=iy k;have hl:=K9 (Y*2^z) k (by omega) a2;refine⟨hl,a2,?_⟩;have hw:=fJ (Y*2^z);have hv:=au (Y*2^z);rw[<-dh,hl,bA _ 0 k (by omega),cO] at hv;have hs:=nz (ws (Y*2^z)) 0 k hw (by omega)
 by_cases h:2147483648<=(ws (Y*2^z)).getD k 0
 · exact h
 · exfalso;have:pw k*((ws (Y*2^z)).getD k 0+1)<=pw k*2147483648:=eO _ (by omega);rw[mY] at this;omega
theorem Uo(X Y P q r:Nat)(hP:0<P)(h:X*P=q*(Y*P)+r)(hr:r<Y*P):q=X/Y/\r/P=X%Y:=by
 have hY:0<Y:=by
  rcases jH Y with e|e
  · subst e;rw[dS] at hr;omega
  · exact e
 have hq:X*P/(Y*P)=q:=by
  rw[h,nM,Nat.add_mul_div_right _ _ (iL hY hP),gK hr,cO]
 have hm:X*P%(Y*P)=r:=by
  rw[h,nM,Nat.add_mul_mod_self_right,iY hr]
 rw[Nat.mul_div_mul_right _ _ hP] at hq;rw[Nat.mul_mod_mul_right] at hm;exact⟨hq.symm,by rw[<-hm,Nat.mul_div_cancel _ hP]⟩
theorem Qa3{P:Prop}(h:P:=by
 have N:=Nt.gm (lo:=g) HM.o (ak _) aR (by rw[bT];unfold maxLen;omega);rw[<-e4,<-hg];rw[bT] at N;exact N):P:=h
theorem GZ (xs:List Nat) (ao:Option Addr) (n cap B by' words rest:Nat) (w:World) (hn:n=xs.length) (hc:n<=cap) (hby:by'=32*words+rest) (hrest:rest<32) (hbig:words+n<=70368744177663)
 (hx:Wf xs) (hR:Rd B w ao xs) (hB:B<=w.heap.size) :
 Calls Tryz.prog 132 #[.slice ao n cap,.int .i64 (by':Nat)] w fun r w'=>∃ v,r=.returned v/\Nt w.heap.size w' v (val xs*2^by')/\Below w.heap.size w w':=by
 obtain⟨W1,hW1⟩:=af (w.alloc (.cells (madeCells #[.int .u32 0] (words+n+1)) 162));have lD:Own W1 w.heap.size (List.replicate (words+n+1) 0):=by rw[hW1];exact Own.made w _
 have hB1:Below w.heap.size w W1:=by rw[hW1];exact(ay _ _).alloc (ak _) _
 have hmk:=dw ((words:Int)+n+1) (words+n+1) (by omega) (by omega) w;rw[<-hW1] at hmk;have DI:Rd B W1 ao xs:=hR.below (hB1.mono hB);have e1:(by':Int)/32=(words:Int):=by omega
 have e2:(by':Int)%32=(rest:Int):=by omega
 obtain⟨g,hg⟩:=af (w.heap.size);rw[<-hg] at lD hmk hB1 hB;have HR:=(jD DI hx hn hB1 hg hby);have HO:=hid lD;clear hn hx hR lD hB1 hW1 DI hg hby;go_enter Tryz.func132,Tryz.ntmps132;go_wp2
 go_loopg [23] n (fun gk i wr=>∃ (k:Nat) (M:List Nat),gk+k=n/\i=.int .i64 (k:Nat) /\
  Hid (Own wr g M)/\Aside (Wf M/\M.length=words+n+1/\sg M 0 words=0/\M.getD (words+k) 0<2^rest/\sg M words (k+1)=sg xs 0 k*2^rest/\But g W1 wr))
 case atStart=>exact⟨0,_,by omega,rfl,HO,Wf.zeros _,by simp,qY _ _ _,by rw[xm];exact aU _,by rw[qY,dF];simp,But.refl _ _⟩
 case round =>
  obtain⟨k,M,lU,rfl,HM,HA⟩:=hrel
  by_cases hk:k<n
  · obtain⟨hR,hx,hn,hB1,hg,hby⟩:=HR.o;obtain⟨aR,bT,hM0,hMt,hMs,aD⟩:=HA.o;have Uq:g<=W1.heap.size:=by have:=hB1.size;omega
    obtain⟨b,eX,JJ,rfl,hbc⟩:=hR (by intro e;subst e;simp at hn;omega)
    have hbk:wr.cell? ⟨b,eX+k,none⟩=some (.int .u32 ((xs.getD k 0:Nat):Int)):=by
     have h1:=aD.block b (qh W1 ⟨b,eX+k,none⟩ (hbc k (by omega))) (by omega);exact zj
    obtain⟨y,hy⟩:∃ y:Nat,xs.getD k 0=y:=⟨_,rfl⟩;have hyl:y<4294967296:=hy ▸ hx.get _;rw[hy] at hbk;have hgc:=HM.o.cell (words+k) (by omega);have hgf:=HM.o.frozen (words+k);have hgf2:=HM.o.frozen (words+k+1);have hgc2:=HM.o.cell (words+k+1) (by omega);obtain⟨x,eD⟩:∃ x:Nat,M.getD (words+k) 0=x:=⟨_,rfl⟩;have hxl:x<4294967296:=eD ▸ aR.get _;rw[eD] at hgc;obtain⟨t,ht⟩:∃ t:Nat,t=y*2^rest:=⟨_,rfl⟩;have htl:t<18446744073709551616:=by rw[ht];exact up_lt y rest hyl hrest
    have e3:IntKind.u64.wrap ((y:Int)*2^rest)=(t:Int):=by
     have ec:(y:Int)*2^rest=(t:Int):=by rw[ht,dK,Int.natCast_pow];rfl
     rw[ec];exact o9 _ (by omega) (by omega)
    obtain⟨s,hs⟩:∃ s:Nat,s=x+t%4294967296:=⟨_,rfl⟩;obtain⟨d,hd⟩:∃ d:Nat,d=t/4294967296:=⟨_,rfl⟩;have e4':x ||| (t%4294967296)=s:=by rw[hs,ht];exact Ya x y rest hrest (by rw[<-eD];exact hMt)
    have e4:bits BinOp.or IntKind.u32 (x:Int) ((t:Int)%4294967296)=(s:Int):=by
     have:=or32 x (t%4294967296) hxl (by omega);rw[e4'] at this;rw[<-this];simp
    have e5:(t:Int)/4294967296=(d:Int):=by omega
    have htl':(t:Int)<18446744073709551616:=by omega
    have hsl:s<4294967296:=by rw[<-e4'];exact Nat.or_lt_two_pow (n:=32) hxl (by omega)
    have HX:=(Du hy hn eD ht hs hd hsl);clear hy eD hR hx hn hB1 hg aR bT hM0 hMt hMs aD hbc Uq hby ht hs hd htl e4' hsl;go_wp2;go_roundg (gk-1)
    case measure=>omega
    case rel =>
     obtain⟨hy,hn,eD,ht,hs,hd,hsl⟩:=HX.o;obtain⟨aR,bT,hM0,hMt,hMs,aD⟩:=HA.o;have hdl:d<2^rest:=by rw[hd,ht];exact Yb y rest hyl
     have h2:=qE rest hrest;refine⟨k+1,(M.set (words+k) s).set (words+k+1) d,by omega,by go_num,(HM.o.set _ _).set _ _,(aR.set _ _ hsl).set _ _ (by omega),by simp[bT],?_,?_,?_,(aD.set _ _).set _ _⟩
     · rw[mI _ _ _ _ _ (by omega) (by simp;omega),mI _ _ _ _ _ (by omega) (by omega)];exact hM0
     · rw[show words+(k+1)=words+k+1 by omega,gD _ _ _ (by simp;omega)];exact hdl
     · have e1:=bF (M.set (words+k) s) words (k+1) d (by simp;omega);rw[show words+(k+1)=words+k+1 by omega] at e1;rw[e1,bF _ _ _ _ (by omega),bA xs 0 k (by omega),cO,hy,bz];rw[bA _ _ _ (by omega),eD] at hMs;exact Uk (pw k) _ x t 0 _ s d y _ hMs ht hs hd
  · obtain rfl:k=n:=by omega
    obtain⟨aR,bT,hM0,hMt,hMs,aD⟩:=HA.o;have T:=hid (dU M (some ⟨g,0,none⟩) (words+k+1) (words+k+1) (g+1) wr bT.symm (ak _) (by omega) (by simpa [bT,dO] using Rd.gm HM.o 0 (words+k+1)));clear aR bT hM0 hMt hMs aD;go_wp2_with fail;refine T.o.mono ?_;rintro r w1 ⟨rfl,rfl⟩;go_wp2;go_ret;obtain⟨hR,hx,hn,hB1,hg,hby⟩:=HR.o;obtain⟨aR,bT,hM0,hMt,hMs,aD⟩:=HA.o;have e3:sg xs 0 k=val xs:=by rw[hn];exact dh xs
    have e4:val M=val xs*2^by':=by
     rw[<-dh M,bT,show words+k+1=words+(k+1) by omega,iH M 0 words (k+1) (by omega),hM0,cO,cO,hMs,e3,hby,mJ]
     grind
    refine⟨_,rfl,?_,?_⟩
    · exact Qa3
    · rw[<-hg];exact But.below hB1 aD (by have:=hB1.size;omega) (ak _)
theorem xy(l x:Nat)(hl:l<4294967296)(hx:x<4294967296):bits BinOp.or IntKind.u64 (x:Int) ((l:Int)*4294967296)=((x+l*4294967296:Nat):Int):=by
 have e:((l:Int)*4294967296)=((l*4294967296:Nat):Int):=by simp only[dK];rfl
 rw[e,bits_or_u64_nat _ _ (by omega) (by omega)];have:=Gz (i:=32) (b:=x) (by omega) l;have e2:2^32*l=l*4294967296:=by rw[bJ]
 rw[e2] at this;rw[Nat.or_comm,<-this,nM]
theorem zH(L:List Nat)(i rest:Nat)(hL:Wf L)(hr:rest<32)(hi:i<L.length) :
 (val L/2^rest/pw i)%4294967296=((L.getD i 0+L.getD (i+1) 0*4294967296)/2^rest)%4294967296:=by
 have h1:val L/2^rest/pw i=val (L.drop i)/2^rest:=by
  rw[uM,bJ,<-uM,dD L i (by omega)];have:=bN (L.take i) (hL.take i);rw[eY,ik (by omega)] at this;rw[qU _ _ (iy i),gK this,cO]
 rw[h1,bZ L i hi]
 obtain⟨R,hR⟩:∃ R,val (L.drop (i+1))=L.getD (i+1) 0+4294967296*R:=by
  by_cases h:i+1<L.length
  · exact⟨_,bZ L (i+1) h⟩
  · refine⟨0,?_⟩;rw[uN (by omega),bG,nJ (by omega)];rfl
 rw[hR]
 have e:L.getD i 0+4294967296*(L.getD (i+1) 0+4294967296*R)=(L.getD i 0+L.getD (i+1) 0*4294967296)+2^rest*(4294967296*(2^(32-rest)*R)):=by
  have:=jP rest hr;have:2^rest*(4294967296*(2^(32-rest)*R))=4294967296*(4294967296*R):=by rw[<-this];grind
  rw[this];omega
 rw[e,qU _ _ (aU _),zt]
theorem DY(V p:Nat)(hp:0<p):V%p+p*(V/p%4294967296)=V%(4294967296*p):=by
 rw[bJ 4294967296,Nat.mod_mul]
theorem qv{P:Prop}(h:P:=by
 go_wp2;go_roundg (gk-1)
 case measure=>omega
 case rel =>
  obtain⟨sO,sN,hn,hB2,hg,hby,hL⟩:=HR.o;obtain⟨aR,bT,O8,hMs,aD⟩:=HA.o;obtain⟨hs,hsl⟩:=HX.o;refine⟨k+1,M.set k s,by omega,by go_num,HM.o.set _ _,aR.set _ _ hsl,by simp[bT],fun j hj=>?_,?_,aD.set _ _⟩
  · rw[getD_set_ne _ _ _ _ (by omega)];exact O8 j (by omega)
  · have e1:=bF M 0 k s (by omega);rw[cO] at e1;rw[e1,hMs,hs,<-zH L k rest sO hrest (by omega),bz];exact DY _ _ (iy k)):P:=h
theorem D5 (xs:List Nat) (ao:Option Addr) (n cap B by' words rest:Nat) (w:World) (hn:n=xs.length) (hc:n<=cap) (hby:by'=32*words+rest) (hrest:rest<32) (hbig:n<=70368744177663) (hby2:by'<=9223372036854775807)
 (hx:Wf xs) (hR:Rd B w ao xs) (hB:B<=w.heap.size) :
 Calls Tryz.prog 131 #[.slice ao n cap,.int .i64 (by':Nat)] w fun r w'=>∃ v,r=.returned v/\Nt w.heap.size w' v (val xs/2^by')/\Below w.heap.size w w':=by
 have e1:(by':Int)/32=(words:Int):=by omega
 have e2:(by':Int)%32=(rest:Int):=by omega
 by_cases hw:n<=words
 · have hv:val xs/2^by'=0:=by
    have h1:=bN xs hx;rw[<-hn] at h1
    have h2:pw n<=2^by':=by
     rw[hby,mJ];have:=jO hw;have:=jG this (aU rest);omega
    exact gK (by omega)
   rw[hv];clear hv hn hx hR hby;go_enter Tryz.func131,Tryz.ntmps131;go_wp2;go_ret;exact⟨_,rfl,Nt.nil _ _,ay _ _⟩
 · have hwn:words<n:=by omega
   obtain⟨b,eX,JJ,rfl,hbc⟩:=hR (by intro e;subst e;simp at hn;omega);obtain⟨k0,hk0⟩:=af (n-words);obtain⟨W1,hW1⟩:=af (w.alloc (.cells (madeCells #[.int .u32 0] (n-words)) 162));have lD:Own W1 w.heap.size (List.replicate (n-words) 0):=by rw[hW1];exact Own.made w _
   have hB1:Below w.heap.size w W1:=by rw[hW1];exact(ay _ _).alloc (ak _) _
   have hmk:=dw ((n:Int)-words) (n-words) (by omega) (by omega) w;rw[<-hW1] at hmk;obtain⟨W2,hcp,hO2,hb2⟩:=jc W1 w.heap.size (n-words) (n-words) (some ⟨b,eX+words,none⟩) (n-words) (cap-words) B 3 (List.replicate (n-words) 0) (xs.drop words) lD (by simp) (by simp;omega) ((hR.below (hB1.mono hB)).drop words) (by omega);have ed:(List.replicate (n-words) 0).drop (n-words)=([]:List Nat):=by simp
   rw[ed,Bc] at hO2;clear ed;have hB2:Below w.heap.size w W2:=But.below hB1 hb2 hB1.size (ak _);obtain⟨g,hg⟩:=af (w.heap.size);rw[<-hg] at hO2 hmk hB2 hB hcp;obtain⟨L,hL⟩:=af (xs.drop words);have sN:L.length=n-words:=by rw[hL];simp;omega
   have sO:Wf L:=by rw[hL];exact hx.drop words
   rw[<-hL] at hO2;have HR:=(Du sO sN hn hB2 hg hby hL);have hxw:=hid hx;have HO:=hid hO2;clear hn hx hR lD hB1 hW1 hg hby hO2 hB2 hL sN sO hb2 hbc hk0;go_enter Tryz.func131,Tryz.ntmps131;go_wp2
   go_loopg [30] (n-words) (fun gk i wr=>∃ (k:Nat) (M:List Nat),gk+k=n-words/\i=.int .i64 (k:Nat) /\
    Hid (Own wr g M)/\Aside (Wf M/\M.length=n-words/\(∀ j,k<=j->M.getD j 0=L.getD j 0)/\sg M 0 k=val L/2^rest%pw k/\But g W2 wr))
   case atStart=>exact⟨0,_,by omega,rfl,HO,HR.o.1,HR.o.2.1,fun _ _=>rfl,by rw[dF,iQ,Nat.mod_one],But.refl _ _⟩
   case round =>
    obtain⟨k,M,lU,rfl,HM,HA⟩:=hrel
    by_cases hk:k<n-words
    · obtain⟨sO,sN,hn,hB2,hg,hby,hL⟩:=HR.o;obtain⟨aR,bT,O8,hMs,aD⟩:=HA.o;have hgc:=HM.o.cell k (by omega);have hgf:=HM.o.frozen k;obtain⟨x,eD⟩:∃ x:Nat,M.getD k 0=x:=⟨_,rfl⟩;have hxl:x<4294967296:=eD ▸ aR.get _;rw[eD] at hgc
      by_cases hk1:k+1<n-words
      · have hgc1:=HM.o.cell (k+1) (by omega);obtain⟨y,qy⟩:∃ y:Nat,M.getD (k+1) 0=y:=⟨_,rfl⟩;have hyl:y<4294967296:=qy ▸ aR.get _;rw[qy] at hgc1;obtain⟨t,ht⟩:∃ t:Nat,t=x+y*4294967296:=⟨_,rfl⟩;have e3:bits BinOp.or IntKind.u64 (x:Int) ((y:Int)*4294967296)=(t:Int):=by rw[xy y x hyl hxl,ht]
        obtain⟨s,hs⟩:∃ s:Nat,s=t/2^rest%4294967296:=⟨_,rfl⟩;have e4:(t:Int)/2^rest%4294967296=(s:Int):=by rw[hs];simp
        have hs2:s=(L.getD k 0+L.getD (k+1) 0*4294967296)/2^rest%4294967296:=by
         rw[hs,ht,<-eD,<-qy,O8 k (by omega),O8 (k+1) (by omega)]
        have hsl:s<4294967296:=by omega
        have HX:=(aZ hs2 hsl);clear eD qy sO sN hn hB2 hg hby hL aR bT O8 hMs aD hs hs2 hsl ht;exact qv
      · obtain⟨s,hs⟩:∃ s:Nat,s=x/2^rest:=⟨_,rfl⟩;have e4:(x:Int)/2^rest=(s:Int):=by rw[hs];simp
        have hsx:s<=x:=by rw[hs];exact nO _ _
        have hs2:s=(L.getD k 0+L.getD (k+1) 0*4294967296)/2^rest%4294967296:=by
         have:L.getD (k+1) 0=0:=by rw[bG,nJ (by omega)];rfl
         rw[this,dS,gJ,<-O8 k (by omega),eD,<-hs];omega
        have hsl:s<4294967296:=by omega
        have HX:=(aZ hs2 hsl);have e5:(s:Int)%4294967296=(s:Int):=by omega
        clear eD sO sN hn hB2 hg hby hL aR bT O8 hMs aD hs hs2;exact qv
    · obtain rfl:k=n-words:=by omega
      obtain⟨aR,bT,O8,hMs,aD⟩:=HA.o;have T:=hid (dU M (some ⟨g,0,none⟩) (n-words) (n-words) (g+1) wr bT.symm (ak _) (by omega) (by simpa [bT,dO] using Rd.gm HM.o 0 (n-words)));clear aR bT O8 hMs aD;go_wp2_with fail;refine T.o.mono ?_;rintro r w1 ⟨rfl,rfl⟩;go_wp2;go_ret;obtain⟨sO,sN,hn,hB2,hg,hby,hL⟩:=HR.o;obtain⟨aR,bT,O8,hMs,aD⟩:=HA.o
      have e4:val M=val xs/2^by':=by
       have h1:val L<pw (n-words):=by rw[<-sN];exact bN L sO
       have h2:val L/2^rest<pw (n-words):=gQ (nO _ _) h1;rw[iY h2] at hMs;rw[<-dh M,bT,hMs,hby,mJ,<-uM];congr 1;have h3:=dD xs words (by omega)
       have h4:val (xs.take words)<pw words:=by
        have:(xs.take words).length=words:=by rw[eY];omega
        have h5:Wf xs:=hxw.o;have:=bN _ (h5.take words);rwa [‹(xs.take words).length=words›] at this
       rw[h3,qU _ _ (iy words),gK h4,cO,hL]
      refine⟨_,rfl,?_,?_⟩
      · exact Qa3
      · rw[<-hg];exact But.below hB2 aD (by have:=hB2.size;omega) (ak _)
def Two(lo:Nat)(w:World)(r:Ending)(X Y:Nat):Prop:=∃ v u,r=.returned (.tuple #[v,u])/\Nt lo w v X/\Nt lo w u Y/\Apart v u
theorem PE (xs ys:List Nat) (ao bo:Option Addr) (n cap m aS B:Nat) (w:World) (hn:n=xs.length) (hm:m=ys.length) (hnm:n<m) (hc:n<=cap) (hbig:n<=35184372088833)
 (hx:Wf xs) (hy:Wf ys) (htop:ys.getD (m-1) 0≠0) (hR:Rd B w ao xs) (hB:B<=w.heap.size) :
 Calls Tryz.prog 210 #[.slice ao n cap,.slice bo m aS] w fun r w'=>Two w.heap.size w' r (val xs/val ys) (val xs%val ys)/\Below w.heap.size w w':=by
 have hlt:val xs<val ys:=by
  have h1:=bN xs hx
  have h2:pw (m-1)<=val ys:=by
   have e:=bA ys 0 (m-1) (by omega);rw[cO,show m-1+1=ys.length by omega,dh] at e;have:=eO (pw (m-1)) (show 1<=ys.getD (m-1) 0 by omega);omega
  have h3:=jO (show xs.length<=m-1 by omega);omega
 have N:=hid (DT xs ao n cap B w hn hc (by omega) hx hR hB);have HL:=(ah hlt);have hlen:Hid ((ws (val xs)).length<=n):=by rw[<-fO xs hx,hn];exact jK xs
 clear hn hm hx hy htop hR hlt;go_enter Tryz.func210,Tryz.ntmps210;go_wp2_with fail;refine N.o.mono ?_;rintro r w1 ⟨rfl,hO,hb⟩;have HO:=(aZ hO hb);clear hO hb N;go_wp2
 go_ret2
 obtain⟨hO,hb⟩:=HO.o;rw[gK HL.o,iY HL.o];refine⟨⟨_,_,rfl,Nt.nil _ _,?_,pq _⟩,hb⟩
 have T:=Nt.gm (lo:=w.heap.size) hO (ak _) (fJ _) (by
  have:(ws (val xs)).length<=35184372088833:=by
   have h:=hlen.o;omega
  unfold maxLen;omega)
 rw[au,JD] at T;exact T
theorem div_one (xs ys:List Nat) (ao bo:Option Addr) (n cap aS B:Nat) (w:World) (hn:n=xs.length) (hm:1=ys.length) (hnm:1<=n) (hc:n<=cap) (hcb:1<=aS) (hbig:n<=35184372088833)
 (hx:Wf xs) (hy:Wf ys) (htop:ys.getD 0 0≠0) (hR:Rd B w ao xs) (hS:Rd B w bo ys) (hB:B<=w.heap.size) :
 Calls Tryz.prog 210 #[.slice ao n cap,.slice bo 1 aS] w fun r w'=>Two w.heap.size w' r (val xs/val ys) (val xs%val ys)/\Below w.heap.size w w':=by
 have N:=hid (DT xs ao n cap B w hn hc (by omega) hx hR hB);have hlen:(ws (val xs)).length<=n:=by rw[<-fO xs hx,hn];exact jK xs
 obtain⟨b,eX,JJ,rfl,hbc⟩:=hS (by intro e;subst e;simp at hm);have hb0:=hbc 0 (by omega);rw[gJ] at hb0
 have hv:val ys=ys.getD 0 0:=by
  rw[<-dh ys,<-hm,show(1:Nat)=0+1 from rfl,bA ys 0 0 (by omega),dF,iQ];simp
 have hyl:=hy.get 0;obtain⟨y,qy⟩:∃ y,ys.getD 0 0=y:=⟨_,rfl⟩;rw[qy] at hb0 hv hyl htop;rw[hv];obtain⟨k,hk⟩:∃ k,(ws (val xs)).length=k:=⟨_,rfl⟩;rw[hk] at N hlen;obtain⟨X,hX⟩:∃ X,val xs=X:=⟨_,rfl⟩;rw[hX] at N hk |-;have HH:=(aZ hk hX);clear hn hm hx hy hR hS hbc hv qy hk hX;go_enter Tryz.func210,Tryz.ntmps210;go_wp2_with fail;refine N.o.mono ?_;rintro r w1 ⟨rfl,hO,hb⟩;have hb1:w1.cell? ⟨b,eX,none⟩=some (.int .u32 (y:Int)):=(hb.cell (p:=⟨b,eX,none⟩) (by exact fZ JJ hB)).trans hb0;have C:=hid (Uj (ws X) w.heap.size 0 k k y w1 hO (by rw[HH.o.1];omega) (ak _) (by omega) (fJ X) hyl (by omega));have H1:=(ah hb);clear hO hb N hb0;go_wp2_with fail;refine C.o.mono ?_;rintro r w2 ⟨M,c,rfl,hcy,hO2,hM,hout,hsum,aD⟩;have hl:M.length=k:=by rw[hout.1];exact HH.o.1
 have T:=hid (dU M (some ⟨w.heap.size,0,none⟩) k k (w.heap.size+1) w2 hl.symm (ak _) (by omega) (by simpa [hl,dO] using Rd.gm hO2 0 k));have H2:=(jD hO2 hM hout hsum aD hl);clear hO2 hM hout hsum aD hl C hb1;go_wp2_with fail;refine T.o.mono ?_;rintro r w3 ⟨rfl,rfl⟩;have F:=hid (mK c w3 (by omega));clear T;go_wp2_with fail;refine F.o.mono ?_;rintro r w4 ⟨vr,rfl,zI,hb4⟩;have H4:=(aZ zI hb4);clear zI hb4 F;go_wp2
 go_ret2
 obtain⟨hO2,hM,hout,hsum,aD,hl⟩:=H2.o;obtain⟨zI,hb4⟩:=H4.o;have hb:=H1.o
 have hs2:X=val M*y+c:=by
  have e1:sg (ws X) 0 k=X:=by rw[<-HH.o.1,dh,au]
  have e2:sg M 0 k=val M:=by rw[<-hl,dh]
  rw[e1,e2] at hsum;exact hsum
 have hq:X/y=val M:=by rw[hs2,nM,Nat.add_mul_div_right _ _ (by omega),gK hcy,cO]
 have hr:X%y=c:=by rw[hs2,nM,Nat.add_mul_mod_self_right,iY hcy]
 rw[hq,hr];have hsz:w.heap.size<=w3.heap.size:=dz hb.size aD.size;have Q:=Nt.gm (lo:=w.heap.size) hO2 (ak _) hM (by rw[hl];unfold maxLen;omega);rw[hl] at Q;refine⟨⟨_,_,rfl,Q.below hb4,zI.mono hsz,DV (hi:=0) Q zI (ak _)⟩,?_⟩;exact(But.below hb aD hb.size (ak _)).trans (hb4.mono hsz)
theorem Lu(X Y n m z:Nat)(hX:X<pw n)(hY:pw (m-1)*2^(31-z)<=Y)(hz:z<32)(hm:0<m)(hnm:m<=n):X*2^z<pw (n-m+1)*(Y*2^z):=by
 have h1:pw n=pw (n-m+1)*pw (m-1):=by rw[<-sG];congr 1;omega
 have h2:pw n<=pw (n-m+1)*Y:=by
  have h3:pw (m-1)*1<=pw (m-1)*2^(31-z):=eO _ (aU _);rw[h1];exact eO _ (by omega)
 have h3:X*2^z<pw (n-m+1)*Y*2^z:=fe (by omega) (aU z);rw[aJ] at h3;exact h3
theorem G5(ys:List Nat)(m:Nat)(hm:m=ys.length)(hy:Wf ys)(hm0:0<m)(htop:ys.getD (m-1) 0≠0) :
 ∃ z,z=32-bl (ys.getD (m-1) 0)/\z<32/\val ys≠0/\pw (m-1)*2^(31-z)<=val ys/\val ys<pw (m-1)*2^(32-z):=by
 have hl:=hy.get (m-1);have h1:=vO _ hl;have h2:=dm _ htop;have h3:=gL _ htop;have h4:=iq (ys.getD (m-1) 0);have e:=bA ys 0 (m-1) (by omega);rw[cO,show m-1+1=ys.length by omega,dh] at e;have h5:=nz ys 0 (m-1) hy (by omega);generalize ys.getD (m-1) 0=t at *;have hp:=iy (m-1);have h6:pw (m-1)*2^(bl t-1)<=pw (m-1)*t:=eO _ h3;have h7:pw (m-1)*(t+1)<=pw (m-1)*2^bl t:=eO _ h4;rw[mY,dM] at h7;have h8:pw (m-1)*1<=pw (m-1)*t:=eO _ (by omega);refine⟨32-bl t,rfl,by omega,by omega,?_,?_⟩
 · rw[show 31-(32-bl t)=bl t-1 by omega];omega
 · rw[show 32-(32-bl t)=bl t by omega];omega
theorem PG (xs ys:List Nat) (ao bo:Option Addr) (n cap m aS B:Nat) (w:World) (hn:n=xs.length) (hm:m=ys.length) (hm2:2<=m) (hnm:m<=n) (hc:n<=cap) (hcb:m<=aS) (hbig:n<=35184372088833)
 (hx:Wf xs) (hy:Wf ys) (htop:ys.getD (m-1) 0≠0) (hR:Rd B w ao xs) (hS:Rd B w bo ys) (hB:B<=w.heap.size) :
 Calls Tryz.prog 210 #[.slice ao n cap,.slice bo m aS] w fun r w'=>Two w.heap.size w' r (val xs/val ys) (val xs%val ys)/\Below w.heap.size w w':=by
 obtain⟨z,hz,hz32,hY0,hY1,hY2⟩:=G5 ys m hm hy (by omega) htop;obtain⟨JM,xz,PH⟩:=Un (val ys) m z hY0 hY1 hY2 hz32 (by omega);obtain⟨b,eX,JJ,rfl,hbc⟩:=hS (by intro e;subst e;simp at hm;omega);have hbt:=hbc (m-1) (by omega);have htl:=hy.get (m-1);have L0:=GV (ys.getD (m-1) 0) w htl;rw[<-hz] at L0;have U1:=hid (GZ ys (some ⟨b,eX,none⟩) m aS B z 0 z w hm hcb (by omega) hz32 (by omega) hy hS hB);obtain⟨t,ht⟩:∃ t,ys.getD (m-1) 0=t:=⟨_,rfl⟩;rw[ht] at hbt L0 htl;have L1:=hid L0;obtain⟨V,hV⟩:∃ V,val ys*2^z=V:=⟨_,rfl⟩;rw[hV] at JM xz PH U1
 have hX2:val xs*2^z<pw (n+1):=by
  have h1:=bN xs hx;rw[<-hn] at h1;have h2:=qE z hz32;have h3:val xs*2^z<=pw n*2147483648:=jG (by omega) h2;have h4:pw n*2147483648<pw (n+1):=by rw[bz,bJ];exact fe (by decide) (iy n)
  omega
 have G6:=(aL _ _).2 hX2;have hst:=Lu (val xs) (val ys) n m z (by rw[hn];exact bN xs hx) hY1 hz32 (by omega) hnm;rw[hV] at hst;have HST:=(ah hst);have HH:=(qs12 hn hm hx hy hR hS JM xz PH hV hY0 G6);clear hst;clear L0 hn hm hx hy htop hR hS hz hY0 hY1 hY2 JM xz PH hV hX2 G6 hbc ht;have hm1:(1:Int)<=(m:Int):=by omega
 have hmne:((m:Int)==1)=false:=by simp;omega
 go_enter Tryz.func210,Tryz.ntmps210;go_wp2_with fail;refine L1.o.mono ?_;rintro r w0 ⟨rfl,rfl⟩;go_wp2_with fail;refine U1.o.mono ?_;rintro r w1 ⟨vv,rfl,hN1,hb1⟩;obtain⟨hn,hm,hx,hy,hR,hS,JM,xz,PH,hV,hY0,G6⟩:=HH.o;obtain⟨av,cv,rfl,hcv,hcm,hRv⟩:=hN1.shape;rw[JM] at *;obtain⟨gu,hgu⟩:=af (w1.heap.size);obtain⟨W2,hW2⟩:=af (w1.alloc (.cells (madeCells #[.int .u32 0] (n+1)) 162));have hO2:Own W2 gu (List.replicate (n+1) 0):=by rw[hW2,hgu];exact Own.made w1 _
 have hB2:Below gu w1 W2:=by rw[hW2,hgu];exact(ay _ _).alloc (ak _) _
 have hmk:=dw ((n:Int)+1) (n+1) (by omega) (by omega) w1;rw[<-hW2,<-hgu] at hmk;have hs1:=hb1.size;have hs2:=hB2.size;have hg2:=hO2.lt;have U2:=hid (GZ xs ao n cap B z 0 z W2 hn hc (by omega) hz32 (by omega) hx ((hR.below (hb1.mono hB)).below (hB2.mono (by omega))) (by omega));have H1:=(Du hN1 hb1 hRv hO2 hB2 hgu hg2);clear hn hm hx hy hR hS JM xz PH hV hY0 G6 hN1 hb1 hRv hO2 hB2 hW2 hs1 hs2 L1 U1 hbt hg2 hgu;go_wp2_with fail;refine U2.o.mono ?_;rintro r W3 ⟨va,rfl,sP,hb3⟩;obtain⟨aa,ca,rfl,Yi,hcam,hRa⟩:=sP.shape;obtain⟨hn,hm,hx,hy,hR,hS,JM,xz,PH,hV,hY0,G6⟩:=HH.o;obtain⟨hN1,hb1,hRv,hO2,hB2,Lv,hg2⟩:=H1.o;obtain⟨W4,hcp,hO4,hb4⟩:=jc W3 gu (n+1) (n+1) aa (ws (val xs*2^z)).length ca W3.heap.size 3 (List.replicate (n+1) 0) (ws (val xs*2^z)) (hO2.below hb3 hg2) (by simp) rfl hRa G6;obtain⟨gq,hgq⟩:=af (W4.heap.size);obtain⟨W5,PI⟩:=af (W4.alloc (.cells (madeCells #[.int .u32 0] (n-m+1)) 162));have Ud:Own W5 gq (List.replicate (n-m+1) 0):=by rw[PI,hgq];exact Own.made W4 _
 have hmk5:=dw ((n:Int)-m+1) (n-m+1) (by omega) (by omega) W4;rw[<-PI,<-hgq] at hmk5;obtain⟨L,hL⟩:=af (ws (val xs*2^z)++(List.replicate (n+1) 0).drop (ws (val xs*2^z)).length);rw[<-hL] at hO4;have sN:L.length=n+1:=by rw[hL,nQ,nL,wB];omega
 have sO:Wf L:=by rw[hL,wM];exact(fJ _).append (Wf.zeros _)
 have Gs:val L=val xs*2^z:=by rw[hL,val_append,au,wM,jV];simp
 have hs3:=hb3.size;have hs4:=hb4.size;have PK:gu<gq:=by rw[hgq];have:=hO4.lt;omega
 have PL:Below gu w1 W5:=by
  rw[PI];have a1:Below gu w1 W3:=hB2.trans (hb3.mono (by omega));have a2:Below gu w1 W4:=But.below a1 hb4 (by omega) (ak _);exact a2.alloc (by omega) _
 have PM:Own W5 gu L:=by rw[PI];exact hO4.alloc _
 have H2:=(Du Ud PM sN sO Gs PK PL);have hgq1:gu<gq:=PK;clear hn hm hx hy hR hS JM xz PH hV hY0 G6 hN1 hb1 hRv hO2 hB2 Lv hg2 sP hb3 hRa hO4 hb4 hgq PI Ud hL sN sO Gs hs3 hs4 PL PM U2 PK Yi hcam;have hca2:m<=cv:=by omega
 have e5:((n-m:Nat):Int)=(n:Int)-m:=by omega
 go_wp2
 go_loopg [10] (n-m+1) (fun k i wr=>∃ (M Q:List Nat),k<=n-m+1/\i=.int .i64 ((k:Int)-1)/\Hid (Own wr gu M)/\Hid (Own wr gq Q) /\
  Aside (Wf M/\Wf Q/\M.length=n+1/\Q.length=n-m+1/\val L=pw k*sg Q k (n-m+1-k)*V+val M/\val M<pw k*V/\Below gu w1 wr))
 case atStart =>
  obtain⟨Ud,PM,sN,sO,Gs,PK,PL⟩:=H2.o;refine⟨L,List.replicate (n-m+1) 0,ak _,?_,PM,Ud,sO,Wf.zeros _,sN,by simp,?_,?_,PL⟩
  · first | rfl | (congr 1;omega)
  · rw[uO,dF];simp
  · rw[Gs];exact HST.o
 case round =>
  obtain⟨M,Q,hk,rfl,HM,HQ,HA⟩:=hrel
  by_cases hk0:gk=0
  · subst hk0;obtain⟨aR,Yj,bT,PN,hinv,Bz,hbel⟩:=HA.o;have T1:=hid (dU Q (some ⟨gq,0,none⟩) (n-m+1) (n-m+1) (gq+1) wr PN.symm (ak _) (by omega) (by simpa [PN,dO] using Rd.gm HQ.o 0 (n-m+1)));have T2:=hid (dU M (some ⟨gu,0,none⟩) (n+1) (n+1) (gu+1) wr bT.symm (ak _) (by omega) (by simpa [bT,dO] using Rd.gm HM.o 0 (n+1)));have hnlM:=jK M
    have hRM:Rd (gu+1) wr (some ⟨gu,0,none⟩) (M.take (nl M)):=by
     have:=Rd.gm HM.o 0 (nl M);simpa using this
    have D:=hid (D5 (M.take (nl M)) (some ⟨gu,0,none⟩) (nl M) (n+1) (gu+1) z 0 z wr (by rw[eY,ik hnlM]) (by omega) (by omega) hz32 (by omega) (by omega) (aR.take _) hRM (by have:=HM.o.lt;omega));rw[ko M aR] at D;clear aR Yj bT PN hinv Bz hbel hnlM hRM;go_wp2_with fail;refine T1.o.mono ?_;rintro r wt1 ⟨rfl,rfl⟩;go_wp2_with fail;refine T2.o.mono ?_;rintro r wt2 ⟨rfl,rfl⟩;go_wp2_with fail;refine D.o.mono ?_;rintro r wd ⟨vr,rfl,Gt,hbr⟩;have HD:=(aZ Gt hbr);clear Gt hbr T1 T2 D;go_wp2
    go_ret2
    obtain⟨Gt,hbr⟩:=HD.o;obtain⟨hn,hm,hx,hy,hR,hS,JM,xz,PH,hV,hY0,G6⟩:=HH.o;obtain⟨hN1,hb1,hRv,hO2,hB2,Lv,hg2⟩:=H1.o;obtain⟨Ud,PM,sN,sO,Gs,PK,PL⟩:=H2.o;obtain⟨aR,Yj,bT,PN,hinv,Bz,hbel⟩:=HA.o;rw[iQ,gI] at Bz hinv;rw[Nat.sub_zero,<-PN,dh,Gs,<-hV] at hinv;rw[<-hV] at Bz;obtain⟨hq,hr⟩:=Uo (val xs) (val ys) (2^z) (val Q) (val M) (aU z) hinv Bz;rw[<-hq,<-hr];have hsz:w0.heap.size<=gu:=by rw[Lv];exact hb1.size
    have NQ:=Nt.gm (lo:=w0.heap.size) HQ.o (by omega) Yj (by rw[PN];unfold maxLen;omega);rw[PN] at NQ;have hwr:gu<=wt2.heap.size:=by have:=HM.o.lt;omega
    refine⟨⟨_,_,rfl,NQ.below hbr,Gt.mono (by omega),DV (hi:=0) NQ Gt (ak _)⟩,?_⟩;exact((hb1.trans (hbel.mono hsz))).trans (hbr.mono (by omega))
  · obtain⟨i,rfl⟩:∃ i,gk=i+1:=⟨gk-1,by omega⟩;obtain⟨hn,hm,hx,hy,hR,hS,JM,xz,PH,hV,hY0,G6⟩:=HH.o;obtain⟨hN1,hb1,hRv,hO2,hB2,Lv,hg2⟩:=H1.o;obtain⟨aR,Yj,bT,PN,hinv,Bz,hbel⟩:=HA.o;obtain⟨k,hk2⟩:∃ k,m=k+2:=⟨m-2,by omega⟩;obtain⟨hz0,hhead⟩:=PD M i m V aR (by omega) xz Bz
    have T:=hid (DF M (ws V) gu i (n+1-i) av m cv gu wr k hk2 HM.o (by omega) (by omega) (by omega) (by omega) aR (fJ V) ((Lv ▸ hRv).below hbel) (ak _)
     (by rw[show k+1=m-1 by omega];exact PH) (by rw[show k+3=m+1 by omega,au];exact hhead))
    have hik:(i:Int)<(n:Int)-m+1:=by omega
    have HI:=(aZ hz0 hk2);clear hn hm hx hy hR hS JM xz PH hV hY0 G6 hN1 hb1 hRv hO2 hB2 Lv hg2 aR Yj bT PN hinv Bz hbel hz0 hhead hk2 hk0;go_wp2_with fail;rw[show i+m+1-i=m+1 by omega];refine T.o.mono ?_;rintro r w2 ⟨o,M2,rfl,ho,Ur,Us,hout,hsum,hlt2,aD⟩;have Ue:=HQ.o.but aD (by omega);have hqc:=Ue.cell i (by rw[HA.o.r3.1];omega);have hqf:=Ue.frozen i;have HJ:=(Dh ho Ur Us hout hsum hlt2 aD Ue);clear ho Ur Us hout hsum hlt2 aD Ue T;go_wp2;go_roundg i
    case measure=>omega
    case rel =>
     obtain⟨ho,Ur,Us,hout,hsum,hlt2,aD,Ue⟩:=HJ.o;obtain⟨aR,Yj,bT,PN,hinv,Bz,hbel⟩:=HA.o;obtain⟨hz0,hk2⟩:=HI.o;rw[au] at hsum hlt2;have hQr:i+1+(n-m+1-(i+1))=Q.length:=by omega
     obtain⟨hX,hlt3⟩:=Pz M M2 Q i m (n-m+1-(i+1)) V o (val L) aR (by omega) hout hinv hz0 hQr hsum hlt2;refine⟨M2,Q.set i o,by omega,by first | go_num | (congr 1;omega),Ur.setOther (by simp;omega) _,Ue.set i o,Us,Yj.set _ _ ho,by rw[hout.1,bT],by simp[PN],?_,hlt3,(But.below hbel aD (by have:=HM.o.lt;omega) (ak _)).setCell (by simp;omega) _⟩;rw[show n-m+1-i=n-m+1-(i+1)+1 by omega];exact hX
theorem zJ(xs:List Nat):sg (xs++[0]) 0 xs.length=val xs:=by simp[sg]
theorem D6{xs:List Nat}(h:Wf xs):Wf (xs++[0]):=h.append (by intro x hx;simp at hx;omega)
theorem xA(n:Nat):(List.replicate (n+1) 0).drop n=[0]:=by rw[wM,GA];rfl
theorem j8{P:Prop}(h:P:=by
 have e:val (M.set n c)=sg (M.set n c) 0 (n+1):=by rw[<-dh];simp[hl]
 have e2:=bF M 0 n c (by omega);rw[cO] at e2;rw[e,e2];rw[hn,zJ,<-hn] at hsum;rw[bJ c] at hsum;exact hsum):P:=h
theorem Yk (xs ys:List Nat) (ao bo:Option Addr) (n cap m aS B:Nat) (w:World) (hn:n=xs.length) (hm:m=ys.length) (hnm:m<=n) (hc:n<=cap) (hcb:m<=aS) (hbig:n<=35184372088833)
 (hx:Wf xs) (hy:Wf ys) (hR:Rd B w ao xs) (hS:Rd B w bo ys) (hB:B<=w.heap.size) :
 Calls Tryz.prog 178 #[.slice ao n cap,.slice bo m aS] w fun r w'=>∃ v,r=.returned v/\Nt w.heap.size w' v (val xs+val ys)/\Below w.heap.size w w':=by
 obtain⟨W1,hW1⟩:=af (w.alloc (.cells (madeCells #[.int .u32 0] (n+1)) 162));have lD:Own W1 w.heap.size (List.replicate (n+1) 0):=by rw[hW1];exact Own.made w (n+1)
 have hB1:Below w.heap.size w W1:=by rw[hW1];exact(ay _ _).alloc (ak _) _
 obtain⟨W2,hcp,hO2,hb2⟩:=jc W1 w.heap.size (n+1) (n+1) ao n cap B 3 (List.replicate (n+1) 0) xs lD (by simp) hn (hR.below (hB1.mono hB)) (by omega);rw[xA] at hO2;have hB2:Below w.heap.size w W2:=But.below hB1 hb2 hB1.size (ak _);have H:=hid (sM (xs++[0]) ys w.heap.size 0 n (n+1) bo m aS B W2 hO2 (by simp;omega) hm (by omega) (by omega) (by omega) (D6 hx) hy (hS.below (hB2.mono hB)) hB);have hmk:=dw ((n:Int)+1) (n+1) (by omega) (by omega) w;rw[<-hW1] at hmk;have HH:=(fM hn hm hx hB2 hB);clear hn hm hx hy hR hS lD hB1 hO2 hb2 hB2 hB hW1;go_enter Tryz.func178,Tryz.ntmps178;go_wp2_with fail;refine H.o.mono ?_;rintro r W3 ⟨M,c,rfl,hc1,hO3,hM,hout,hsum,aD⟩;obtain⟨hn,hm,hx,hB2,hB⟩:=HH.o;have hl:M.length=n+1:=by rw[hout.1];simp;omega
 have hcl:=hO3.cell n (by omega);have hfr:=hO3.frozen n;have hO4:=hO3.set n c;have T:=hid (dU (M.set n c) (some ⟨w.heap.size,0,none⟩) (n+1) (n+1) (w.heap.size+1) _ (by simp[hl]) (ak _) (by omega) (by simpa [hl,dO] using Rd.gm hO4 0 (n+1)));have HI:=(jD hc1 hO4 hM hsum aD hl);clear hn hm hx hB2 hB hc1 hO3 hM hout hsum aD hO4 H hl;go_wp2_with fail;refine T.o.mono ?_;rintro r w1 ⟨rfl,rfl⟩;go_wp2;go_ret;obtain⟨hn,hm,hx,hB2,hB⟩:=HH.o;obtain⟨hc1,hO4,hM,hsum,aD,hl⟩:=HI.o
 have hv:val (M.set n c)=val xs+val ys:=by
  exact j8
 refine⟨_,rfl,?_,But.below hB2 (aD.set n _) hB2.size (ak _)⟩;have N:=Nt.gm (lo:=w.heap.size) hO4 (ak _) (hM.set _ _ (by omega)) (by simp[hl];unfold maxLen;omega);rw[hv] at N;simpa [hl] using N
theorem add_lt (xs ys:List Nat) (ao bo:Option Addr) (n cap m aS B:Nat) (w:World) (hn:n=xs.length) (hm:m=ys.length) (hnm:m<n) (hc:n<=cap) (hcb:m<=aS) (hbig:n<=35184372088833)
 (hx:Wf xs) (hy:Wf ys) (hR:Rd B w ao xs) (hS:Rd B w bo ys) (hB:B<=w.heap.size) :
 Calls Tryz.prog 178 #[.slice bo m aS,.slice ao n cap] w fun r w'=>∃ v,r=.returned v/\Nt w.heap.size w' v (val xs+val ys)/\Below w.heap.size w w':=by
 obtain⟨W1,hW1⟩:=af (w.alloc (.cells (madeCells #[.int .u32 0] (n+1)) 162));have lD:Own W1 w.heap.size (List.replicate (n+1) 0):=by rw[hW1];exact Own.made w (n+1)
 have hB1:Below w.heap.size w W1:=by rw[hW1];exact(ay _ _).alloc (ak _) _
 obtain⟨W2,hcp,hO2,hb2⟩:=jc W1 w.heap.size (n+1) (n+1) ao n cap B 3 (List.replicate (n+1) 0) xs lD (by simp) hn (hR.below (hB1.mono hB)) (by omega);rw[xA] at hO2;have hB2:Below w.heap.size w W2:=But.below hB1 hb2 hB1.size (ak _);have H:=hid (sM (xs++[0]) ys w.heap.size 0 n (n+1) bo m aS B W2 hO2 (by simp;omega) hm (by omega) (by omega) (by omega) (D6 hx) hy (hS.below (hB2.mono hB)) hB);have hmk:=dw ((n:Int)+1) (n+1) (by omega) (by omega) w;rw[<-hW1] at hmk;have HH:=(fM hn hm hx hB2 hB);clear hn hm hx hy hR hS lD hB1 hO2 hb2 hB2 hB hW1;go_enter Tryz.func178,Tryz.ntmps178;go_wp2_with fail;refine H.o.mono ?_;rintro r W3 ⟨M,c,rfl,hc1,hO3,hM,hout,hsum,aD⟩;obtain⟨hn,hm,hx,hB2,hB⟩:=HH.o;have hl:M.length=n+1:=by rw[hout.1];simp;omega
 have hcl:=hO3.cell n (by omega);have hfr:=hO3.frozen n;have hO4:=hO3.set n c;have T:=hid (dU (M.set n c) (some ⟨w.heap.size,0,none⟩) (n+1) (n+1) (w.heap.size+1) _ (by simp[hl]) (ak _) (by omega) (by simpa [hl,dO] using Rd.gm hO4 0 (n+1)));have HI:=(jD hc1 hO4 hM hsum aD hl);clear hn hm hx hB2 hB hc1 hO3 hM hout hsum aD hO4 H hl;go_wp2_with fail;refine T.o.mono ?_;rintro r w1 ⟨rfl,rfl⟩;go_wp2;go_ret;obtain⟨hn,hm,hx,hB2,hB⟩:=HH.o;obtain⟨hc1,hO4,hM,hsum,aD,hl⟩:=HI.o
 have hv:val (M.set n c)=val xs+val ys:=by
  exact j8
 refine⟨_,rfl,?_,But.below hB2 (aD.set n _) hB2.size (ak _)⟩;have N:=Nt.gm (lo:=w.heap.size) hO4 (ak _) (hM.set _ _ (by omega)) (by simp[hl];unfold maxLen;omega);rw[hv] at N;simpa [hl] using N
theorem Ut (xs ys:List Nat) (ao bo:Option Addr) (n cap m aS B:Nat) (w:World) (hn:n=xs.length) (hm:m=ys.length) (hc:n<=cap) (hcb:m<=aS) (hbig:n<=35184372088833) (hbig2:m<=35184372088833)
 (hx:Wf xs) (hy:Wf ys) (hR:Rd B w ao xs) (hS:Rd B w bo ys) (hB:B<=w.heap.size) :
 Calls Tryz.prog 178 #[.slice ao n cap,.slice bo m aS] w fun r w'=>∃ v,r=.returned v/\Nt w.heap.size w' v (val xs+val ys)/\Below w.heap.size w w':=by
 by_cases h:m<=n
 · exact Yk xs ys ao bo n cap m aS B w hn hm h hc hcb hbig hx hy hR hS hB
 · have:=add_lt ys xs bo ao m aS n cap B w hm hn (by omega) hcb hc hbig2 hy hx hS hR hB;rw[nM] at this;exact this
theorem Uu (xs ys:List Nat) (ao bo:Option Addr) (n cap m aS B:Nat) (w:World) (hn:n=xs.length) (hm:m=ys.length) (hm0:0<m) (hc:n<=cap) (hcb:m<=aS) (hbig:n<=35184372088833)
 (hx:Wf xs) (hy:Wf ys) (htop:ys.getD (m-1) 0≠0) (hR:Rd B w ao xs) (hS:Rd B w bo ys) (hB:B<=w.heap.size) :
 Calls Tryz.prog 210 #[.slice ao n cap,.slice bo m aS] w fun r w'=>Two w.heap.size w' r (val xs/val ys) (val xs%val ys)/\Below w.heap.size w w':=by
 by_cases h1:n<m
 · exact PE xs ys ao bo n cap m aS B w hn hm h1 hc hbig hx hy htop hR hB
 · by_cases h2:m=1
   · subst h2;exact div_one xs ys ao bo n cap aS B w hn hm (by omega) hc hcb hbig hx hy htop hR hS hB
   · exact PG xs ys ao bo n cap m aS B w hn hm (by omega) (by omega) hc hcb hbig hx hy htop hR hS hB
theorem Yl(X:Nat)(h:X≠0):(ws X).getD ((ws X).length-1) 0≠0:=by
 have h1:nl (ws X)≠0:=by rw[JD];intro e;exact h ((bE X).1 e)
 have:=JE (ws X) h1;rwa [JD] at this
theorem uX{X Y:Nat}(h:X<=Y):(ws X).length<=(ws Y).length:=(aL X _).2 (gQ h (gz Y))
theorem BA:ws 1=[1]:=by rw[nT 1 (by omega),show 1/4294967296=0 from rfl,bI]
theorem Uv (xs bs:List Nat) (ao bo:Option Addr) (n cap m aS B:Nat) (w:World) (hn:n=xs.length) (hm:m=bs.length) (GQ:m<=n) (hc:n<=cap) (hcb:m<=aS) (hbig:n<=35184372088833)
 (hx:Wf xs) (hb:Wf bs) (hle:val bs<=val xs) (hR0:Rd B w ao xs) (hS:Rd B w bo bs) (hB:B<=w.heap.size) :
 Calls Tryz.prog 180 #[.slice ao n cap,.slice bo m aS] w fun r w'=>∃ v,r=.returned v/\Nt w.heap.size w' v (val xs-val bs)/\Below w.heap.size w w':=by
 obtain⟨W1,hW1⟩:=af (w.alloc (.cells (madeCells #[.int .u32 0] n) 162));have lD:Own W1 w.heap.size (List.replicate n 0):=by rw[hW1];exact Own.made w n
 have hB1:Below w.heap.size w W1:=by rw[hW1];exact(ay _ _).alloc (ak _) _
 obtain⟨W2,hcp,hO2,hb2⟩:=jc W1 w.heap.size n n ao n cap B 3 (List.replicate n 0) xs lD (by simp) hn (hR0.below (hB1.mono hB)) (by omega);rw[uN (by simp),Bc] at hO2;have hB2:Below w.heap.size w W2:=But.below hB1 hb2 hB1.size (ak _);have hmk:=dw (n:Int) n rfl (by omega) w;rw[<-hW1] at hmk;have hR:Rd B W2 bo bs:=hS.below (hB2.mono hB);obtain⟨g,hg⟩:=af (w.heap.size);rw[<-hg] at hO2 hcp hmk hB2 hB;have HR:=(Dh hR hm hb hx hn hle hB2 hg);have HO:=hid hO2;have DC:Hid (∀ x y c s d w,_->_->_->_->_->_):=zB;clear hn hm hx hb hR0 hS lD hB1 hO2 hb2 hB2 hW1 hle hR hg;go_enter Tryz.func180,Tryz.ntmps180;go_wp2
 go_loopg [6,18] m (fun gk c i wr=>∃ (k cv:Nat) (M:List Nat),gk+k=m/\c=.int .u32 (cv:Nat)/\cv<=1/\i=.int .i64 (k:Nat) /\
  Hid (Own wr g M)/\Aside (Wf M/\Out xs M 0 k/\sg M 0 k+sg bs 0 k=sg xs 0 k+cv*pw k/\But g W2 wr))
 case atStart=>exact⟨0,0,xs,by omega,rfl,by omega,rfl,HO,HR.o.r3.1,Out.refl _ _ _,by simp[dF],But.refl _ _⟩
 case round =>
  obtain⟨k,cv,M,lU,rfl,hcv,rfl,HM,HA⟩:=hrel
  by_cases hk:k<m
  · obtain⟨hR,hm,hb,hx,hn,hle,hB2,hg⟩:=HR.o;obtain⟨aR,eQ,hMs,aD⟩:=HA.o;obtain⟨b,eX,JJ,rfl,hbc⟩:=hR (by intro e;subst e;simp at hm;omega)
    have hbk:wr.cell? ⟨b,eX+k,none⟩=some (.int .u32 ((bs.getD k 0:Nat):Int)):=by
     have h1:=aD.block b (qh W2 ⟨b,eX+k,none⟩ (hbc k (by omega))) (by omega);exact zj
    have hgc:=HM.o.cell k (by rw[eQ.1];omega);have hgf:=HM.o.frozen k;obtain⟨x,eD⟩:∃ x:Nat,M.getD k 0=x:=⟨_,rfl⟩;obtain⟨y,hy⟩:∃ y:Nat,bs.getD k 0=y:=⟨_,rfl⟩;have hxl:x<4294967296:=eD ▸ aR.get _;have hyl:y<4294967296:=hy ▸ hb.get _;rw[eD] at hgc;rw[hy] at hbk;obtain⟨s,hs⟩:∃ s:Nat,(s:Int)=((x:Int)-y-cv)%4294967296:=⟨(((x:Int)-y-cv)%4294967296).toNat,by omega⟩;obtain⟨d,hd⟩:∃ d:Nat,d=if x<y+cv then 1 else 0:=⟨_,rfl⟩
    have HX:=(iw eD hy hs hd);clear eD hy hs hd hR hm hb hx hn hle hB2 hg aR eQ hMs aD hbc;go_wp2_with fail;refine(DC.o x y cv s d _ hxl hyl hcv HX.o.r2.1 HX.o.r3).mono ?_;rintro r w1 ⟨rfl,rfl⟩;go_wp2;go_roundg (gk-1)
    case measure=>omega
    case rel =>
     obtain⟨eD,hy,hs,hd⟩:=HX.o;obtain⟨hR,hm,hb,hx,hn,hle,hB2,hg⟩:=HR.o;obtain⟨aR,eQ,hMs,aD⟩:=HA.o;have hd1:d<=1:=by rw[hd];split <;> omega
     have hsum:s+y+cv=x+d*4294967296:=by rw[hd];split <;> omega
     refine⟨k+1,d,M.set k s,by omega,rfl,hd1,by go_num,HM.o.set _ _,aR.set _ _ (by omega),(eQ.mono (by omega)).set _ _ (by omega) (by omega),?_,aD.set _ _⟩;have e1:=bF M 0 k s (by rw[eQ.1];omega);rw[cO] at e1;rw[e1,bA xs 0 k (by omega),bA bs 0 k (by omega),cO,hy,bz];have e:xs.getD k 0=x:=by rw[<-eD];exact(eQ.2 _ (by omega)).symm
     rw[e];exact nW _ _ _ _ _ _ _ _ _ hMs hsum
  · obtain rfl:k=m:=by omega
    have HA2:Aside (Wf M/\Out xs M 0 k/\sg M 0 k+val bs=sg xs 0 k+cv*pw k/\But g W2 wr):=by
     obtain⟨hR,hm,hb,hx,hn,hle,hB2,hg⟩:=HR.o;obtain⟨aR,eQ,hMs,aD⟩:=HA.o;refine⟨aR,eQ,?_,aD⟩;rw[<-hMs,hm,dh]
    clear HA lU HO hk;go_wp2
    go_loopg [6,9] (n-k+1) (fun g2 c i w2=>∃ (j cv:Nat) (M:List Nat),g2+j=n+1/\k<=j/\j<=n/\c=.int .u32 (cv:Nat)/\cv<=1/\i=.int .i64 (j:Nat) /\
     Hid (Own w2 g M)/\Aside (Wf M/\Out xs M 0 j/\sg M 0 j+val bs=sg xs 0 j+cv*pw j/\But g W2 w2))
    case atStart=>exact⟨k,cv,M,by omega,ak _,GQ,rfl,hcv,rfl,HM,HA2.o⟩
    case round =>
     clear HM HA2 hcv;obtain⟨j,cv,M,hgj,hkj,hjn,rfl,hcv,rfl,HM,HA⟩:=hrel
     by_cases h0:cv=0
     · subst h0;obtain⟨hR,hm,hb,hx,hn,hle,hB2,hg⟩:=HR.o;obtain⟨aR,eQ,hMs,aD⟩:=HA.o;have hl:M.length=n:=by rw[eQ.1,hn]
       have T:=hid (dU M (some ⟨g,0,none⟩) n n (g+1) wr hl.symm (ak _) (by omega) (by simpa [hl,dO] using Rd.gm HM.o 0 n));clear hR hm hb hx hn hle hB2 hg aR eQ hMs aD;go_wp2_with fail;refine T.o.mono ?_;rintro r w1 ⟨rfl,rfl⟩;go_wp2;go_ret;obtain⟨hR,hm,hb,hx,hn,hle,hB2,hg⟩:=HR.o;obtain⟨aR,eQ,hMs,aD⟩:=HA.o;rw[dS,gJ] at hMs;have hv:=Lh (n:=n) hjn (by omega) eQ hMs;have e1:sg M 0 n=val M:=by rw[<-hl];exact dh M
       have e2:sg xs 0 n=val xs:=by rw[hn];exact dh xs
       rw[e1,e2] at hv;refine⟨_,rfl,?_,?_⟩
       · have N:=Nt.gm (lo:=g) HM.o (ak _) aR (by rw[hl];unfold maxLen;omega);rw[show val xs-val bs=val M by omega,<-hg];rw[hl] at N;exact N
       · rw[<-hg];exact But.below hB2 aD (by have:=hB2.size;omega) (ak _)
     · obtain rfl:cv=1:=by omega
       obtain⟨hR,hm,hb,hx,hn,hle,hB2,hg⟩:=HR.o;obtain⟨aR,eQ,hMs,aD⟩:=HA.o
       have hj:j<n:=by
        by_cases hj:j=n
        · exfalso;subst hj;have h1:=nz M 0 j aR (by rw[eQ.1];omega);have e2:sg xs 0 j=val xs:=by rw[hn];exact dh xs
          omega
        · omega
       have hgc:=HM.o.cell j (by rw[eQ.1];omega);have hgf:=HM.o.frozen j;obtain⟨x,eD⟩:∃ x:Nat,M.getD j 0=x:=⟨_,rfl⟩;have hxl:x<4294967296:=eD ▸ aR.get _;rw[eD] at hgc;obtain⟨s,hs⟩:∃ s:Nat,(s:Int)=((x:Int)-(0:Nat)-(1:Nat))%4294967296:=⟨(((x:Int)-(0:Nat)-(1:Nat))%4294967296).toNat,by omega⟩;obtain⟨d,hd⟩:∃ d:Nat,d=if x<0+1 then 1 else 0:=⟨_,rfl⟩
       have HX:=(fG eD hs hd);clear eD hs hd hR hm hb hx hn hle hB2 hg aR eQ hMs aD h0;go_wp2_with fail;refine(DC.o x 0 1 s d _ hxl (by omega) (by omega) HX.o.2.1 HX.o.r2).mono ?_;rintro r w1 ⟨rfl,rfl⟩;go_wp2;go_roundg (gk-1)
       case measure=>omega
       case rel =>
        obtain⟨eD,hs,hd⟩:=HX.o;obtain⟨hR,hm,hb,hx,hn,hle,hB2,hg⟩:=HR.o;obtain⟨aR,eQ,hMs,aD⟩:=HA.o;have hd1:d<=1:=by rw[hd];split <;> omega
        have hsum:s+0+1=x+d*4294967296:=by rw[hd];split <;> omega
        refine⟨j+1,d,M.set j s,by omega,by omega,by omega,rfl,hd1,by go_num,HM.o.set _ _,aR.set _ _ (by omega),(eQ.mono (by omega)).set _ _ (by omega) (by omega),?_,aD.set _ _⟩;have e1:=bF M 0 j s (by rw[eQ.1];omega);rw[cO] at e1;rw[e1,bA xs 0 j (by omega),cO,bz];have e:xs.getD j 0=x:=by rw[<-eD];exact(eQ.2 _ (by omega)).symm
        rw[e];have:=nW (pw j) _ _ _ _ x 0 s d hMs hsum;omega
theorem BC (L bs:List Nat) (g off n cap:Nat) (ao:Option Addr) (m aS B q:Nat) (w:World)
 (hO:Own w g L) (hoff:off+n<=L.length) (hm:m=bs.length) (GQ:m<=n) (hcap:n<=cap) (hbig:n<=4611686018427387904) (hL:Wf L) (hb:Wf bs) (hR:Rd B w ao bs) (hB:B<=g) (hq:q<4294967296) :
 Calls Tryz.prog 206 #[.slice (some ⟨g,off,none⟩) n cap,.slice ao m aS,.int .u32 (q:Nat)] w fun r w' =>
  ∃ M c,r=.returned (.int .u32 (c:Nat))/\c<4294967296/\Own w' g M/\Wf M/\Out L M off m/\sg M off m+c*pw m=sg L off m+val bs*q/\But g w w':=by
 have HR:Aside (Rd B w ao bs/\m=bs.length/\Wf bs/\Wf L/\off+n<=L.length):=⟨hR,hm,hb,hL,hoff⟩;have HO:Hid (Own w g L):=hO;clear hR hm hb hL hO hoff;go_enter Tryz.func206,Tryz.ntmps206;go_wp2
 go_loopg [7,13] m (fun gk c i wr=>∃ (k cv:Nat) (M:List Nat),gk+k=m/\c=.int .u64 (cv:Nat)/\cv<4294967296/\i=.int .i64 (k:Nat) /\
  Hid (Own wr g M)/\Aside (Wf M/\Out L M off k/\sg M off k+cv*pw k=sg L off k+sg bs 0 k*q/\But g w wr))
 case atStart=>exact⟨0,0,L,by omega,rfl,by omega,rfl,HO,HR.o.r3.1,Out.refl _ _ _,by simp[dF],But.refl _ _⟩
 case round =>
  obtain⟨k,cv,M,lU,rfl,hcv,rfl,HM,HA⟩:=hrel
  by_cases hk:k<m
  · obtain⟨hR,hm,hb,hL,hoff⟩:=HR.o;obtain⟨aR,eQ,hMs,aD⟩:=HA.o;obtain⟨b,eX,JJ,rfl,hbc⟩:=hR (by intro e;subst e;simp at hm;omega)
    have hbk:wr.cell? ⟨b,eX+k,none⟩=some (.int .u32 ((bs.getD k 0:Nat):Int)):=by
     have h1:=aD.block b (qh w ⟨b,eX+k,none⟩ (hbc k (by omega))) (by omega);exact zj
    have hgc:=HM.o.cell (off+k) (by rw[eQ.1];omega);have hgf:=HM.o.frozen (off+k);obtain⟨x,hx⟩:∃ x:Nat,M.getD (off+k) 0=x:=⟨_,rfl⟩;obtain⟨y,hy⟩:∃ y:Nat,bs.getD k 0=y:=⟨_,rfl⟩;have hxl:x<4294967296:=hx ▸ aR.get _;have hyl:y<4294967296:=hy ▸ hb.get _;rw[hx] at hgc;rw[hy] at hbk;have hp0:=sI y q hyl hq;have hp2:(y:Int)*(q:Int)<=18446744065119617025:=by rw[<-dK];omega
    have hp1:0<=(y:Int)*(q:Int):=by rw[<-dK];omega
    obtain⟨s,hs⟩:∃ s:Nat,s=(y*q+x+cv)%4294967296:=⟨_,rfl⟩;obtain⟨d,hd⟩:∃ d:Nat,d=(y*q+x+cv)/4294967296:=⟨_,rfl⟩;have e0:((y*q+x+cv:Nat):Int)=(y:Int)*q+x+cv:=by simp only[wN,dK]
    have e1:((y:Int)*q+x+cv)%4294967296=(s:Int):=by rw[<-e0];omega
    have e2:((y:Int)*q+x+cv)/4294967296=(d:Int):=by rw[<-e0];omega
    have HX:Aside (M.getD (off+k) 0=x/\bs.getD k 0=y/\s+d*4294967296=y*q+x+cv/\s<4294967296/\d<4294967296):=⟨hx,hy,by omega,by omega,by omega⟩;clear hx hy hs hd hR hm hb hL hoff aR eQ hMs aD hbc e0 hp0;go_wp2;go_roundg (gk-1)
    case measure=>omega
    case rel =>
     obtain⟨hx,hy,he,hs,hd⟩:=HX.o;obtain⟨hR,hm,hb,hL,hoff⟩:=HR.o;obtain⟨aR,eQ,hMs,aD⟩:=HA.o;refine⟨k+1,d,M.set (off+k) s,by omega,rfl,hd,by go_num,HM.o.set _ _,aR.set _ _ hs,(eQ.mono (by omega)).set _ _ (by omega) (by omega),?_,aD.set _ _⟩;rw[bF _ _ _ _ (by rw[eQ.1];omega),bA L off k (by omega),bA bs 0 k (by omega),cO,hy,bz];have e:L.getD (off+k) 0=x:=by rw[<-hx];exact(eQ.2 _ (by omega)).symm
     rw[e];exact xn _ _ _ _ _ _ _ _ _ _ hMs he
  · obtain rfl:k=m:=by omega
    go_wp2;go_ret;obtain⟨hR,hm,hb,hL,hoff⟩:=HR.o;obtain⟨aR,eQ,hMs,aD⟩:=HA.o;refine⟨M,cv,rfl,hcv,HM.o,aR,eQ,?_,aD⟩;rw[hMs,hm,dh]
theorem D8(p V b x r q c:Nat)(h:V+p*r=b*q):V+p*(r+q*x)=(b+p*x)*q:=by grind
theorem Uw (xs bs:List Nat) (ao bo:Option Addr) (n cap m aS B:Nat) (w:World) (hn:n=xs.length) (hm:m=bs.length) (hc:n<=cap) (hcb:m<=aS) (hbig:n+m<=70368744177664)
 (hx:Wf xs) (hb:Wf bs) (hR:Rd B w ao xs) (hS:Rd B w bo bs) (hB:B<=w.heap.size) :
 Calls Tryz.prog 177 #[.slice ao n cap,.slice bo m aS] w fun r w'=>∃ v,r=.returned v/\Nt w.heap.size w' v (val xs*val bs)/\Below w.heap.size w w':=by
 obtain⟨W1,hW1⟩:=af (w.alloc (.cells (madeCells #[.int .u32 0] (n+m)) 162));have lD:Own W1 w.heap.size (List.replicate (n+m) 0):=by rw[hW1];exact Own.made w (n+m)
 have hB1:Below w.heap.size w W1:=by rw[hW1];exact(ay _ _).alloc (ak _) _
 have hmk:=dw ((n:Int)+m) (n+m) (by omega) (by omega) w;rw[<-hW1] at hmk;have DI:Rd B W1 ao xs:=hR.below (hB1.mono hB);have hS1:Rd B W1 bo bs:=hS.below (hB1.mono hB);obtain⟨g,hg⟩:=af (w.heap.size);rw[<-hg] at lD hmk hB1 hB;have HR:=(Dh DI hS1 hm hb hx hn hB1 hg);have HO:=hid lD;clear hn hm hx hb hR hS lD hB1 hW1 DI hS1 hg;go_enter Tryz.func177,Tryz.ntmps177;go_wp2
 go_loopg [16] n (fun gk i wr=>∃ (k:Nat) (M:List Nat),gk+k=n/\i=.int .i64 (k:Nat) /\
  Hid (Own wr g M)/\Aside (Wf M/\M.length=n+m/\sg M 0 (k+m)=sg xs 0 k*val bs/\But g W1 wr))
 case atStart=>exact⟨0,_,by omega,rfl,HO,Wf.zeros _,by simp,by rw[qY,dF];simp,But.refl _ _⟩
 case round =>
  obtain⟨k,M,lU,rfl,HM,HA⟩:=hrel
  by_cases hk:k<n
  · obtain⟨hR,hS,hm,hb,hx,hn,hB1,hg⟩:=HR.o;obtain⟨aR,bT,hMs,aD⟩:=HA.o;have Uq:g<=W1.heap.size:=by have:=hB1.size;omega
    obtain⟨b,eX,JJ,rfl,hbc⟩:=hR (by intro e;subst e;simp at hn;omega)
    have hbk:wr.cell? ⟨b,eX+k,none⟩=some (.int .u32 ((xs.getD k 0:Nat):Int)):=by
     have h1:=aD.block b (qh W1 ⟨b,eX+k,none⟩ (hbc k (by omega))) (by omega);exact zj
    obtain⟨y,hy⟩:∃ y:Nat,xs.getD k 0=y:=⟨_,rfl⟩;have hyl:y<4294967296:=hy ▸ hx.get _;rw[hy] at hbk;have H:=hid (BC M bs g k m (n+m-k) bo m aS B y wr HM.o (by omega) hm (ak _) (by omega) (by omega) aR hb (hS.but aD (by omega) hB) hB hyl);have HX:=(aZ hy hn);clear hy hR hS hm hb hx hn hB1 hg aR bT hMs aD hbc Uq;go_wp2_with fail;refine H.o.mono ?_;rintro r W3 ⟨M2,c,rfl,hc1,hO3,hM2,hout,hsum,qZ⟩;obtain⟨aR,bT,hMs,aD⟩:=HA.o;have hgc:=hO3.cell (k+m) (by rw[hout.1];omega);have hgf:=hO3.frozen (k+m);have HI:=(jD hc1 hO3 hM2 hout hsum qZ);clear hc1 hO3 hM2 hout hsum qZ aR bT hMs aD H;go_wp2;go_roundg (gk-1)
    case measure=>omega
    case rel =>
     obtain⟨hy,hn⟩:=HX.o;obtain⟨aR,bT,hMs,aD⟩:=HA.o;obtain⟨hc1,hO3,hM2,hout,hsum,qZ⟩:=HI.o;refine⟨k+1,M2.set (k+m) c,by omega,by go_num,hO3.set _ _,hM2.set _ _ hc1,by simp[hout.1,bT],?_,(aD.trans qZ).set _ _⟩;have e1:=bF M2 0 (k+m) c (by rw[hout.1];omega);rw[cO] at e1;have e2:=iH M2 0 k m (by rw[hout.1];omega);have e3:=iH M 0 k m (by omega);rw[cO] at e2 e3;have e4:=hout.below 0 k (by omega) (by omega);rw[show k+1+m=k+m+1 by omega,e1,e2,e4,bA xs 0 k (by omega),cO,hy,sG];rw[e3] at hMs;rw[bJ c] at hsum;have:=D8 (pw k) _ _ y _ _ c hMs;rw[<-hsum] at this;rw[<-this,mY,aJ,mX]
  · obtain rfl:k=n:=by omega
    obtain⟨aR,bT,hMs,aD⟩:=HA.o;have T:=hid (dU M (some ⟨g,0,none⟩) (k+m) (k+m) (g+1) wr bT.symm (ak _) (by omega) (by simpa [bT,dO] using Rd.gm HM.o 0 (k+m)));clear aR bT hMs aD;go_wp2_with fail;refine T.o.mono ?_;rintro r w1 ⟨rfl,rfl⟩;go_wp2;go_ret;obtain⟨hR,hS,hm,hb,hx,hn,hB1,hg⟩:=HR.o;obtain⟨aR,bT,hMs,aD⟩:=HA.o;have e1:sg M 0 (k+m)=val M:=by rw[<-bT];exact dh M
    have e2:sg xs 0 k=val xs:=by rw[hn];exact dh xs
    rw[e1,e2] at hMs;refine⟨_,rfl,?_,?_⟩
    · have N:=Nt.gm (lo:=g) HM.o (ak _) aR (by rw[bT];unfold maxLen;omega);rw[<-hMs,<-hg];rw[bT] at N;exact N
    · rw[<-hg];exact But.below hB1 aD (by have:=hB1.size;omega) (ak _)
theorem pz(xs ys:List Nat)(hx:Wf xs)(hy:Wf ys)(j d:Nat)(h1:j+1+d<=xs.length)(h2:j+1+d<=ys.length)(ht:sg xs (j+1) d=sg ys (j+1) d)(hlt:xs.getD j 0<ys.getD j 0) :
 sg xs 0 (j+1+d)<sg ys 0 (j+1+d):=by
 rw[iH xs 0 (j+1) d (by omega),iH ys 0 (j+1) d (by omega),cO,ht,bA xs 0 j (by omega),bA ys 0 j (by omega),cO];have h3:=nz xs 0 j hx (by omega);have h4:pw j*(xs.getD j 0+1)<=pw j*ys.getD j 0:=eO _ hlt;rw[mY] at h4;omega
theorem vP(xs ys:List Nat)(hx:Wf xs)(hy:Wf ys)(h:nl xs<nl ys):val xs<val ys:=by
 rw[fO xs hx,fO ys hy] at h;have h1:=gz (val xs);have h2:val ys≠0:=by intro e;rw[e,bI] at h;simp at h
 have h3:=sH (val ys) h2;have h4:=jO (show(ws (val xs)).length<=(ws (val ys)).length-1 by omega);omega
theorem mM{x y:Nat}(h:x<y):aW x y=-1:=by simp[aW,h]
theorem ru{x y:Nat}(h:y<x):aW x y=1:=by simp[aW,h];omega
theorem JQ{x y:Nat}(h:x=y):aW x y=0:=by simp[aW,h]
theorem G8{a b x y:Nat}(h1:a<b↔x<y)(h2:b<a↔y<x):aW a b=aW x y:=by simp[aW,h1,h2]
theorem Qad{P:Prop}(h:P:=by
 subst hk0;go_wp2;go_ret;obtain⟨hR,hS,hn,hm,hx,hy,hl1,hl2,f1,f2⟩:=HR.o;have h:=HA.o;rw[Nat.sub_zero,f1,f2] at h;rw[JQ h];exact⟨rfl,HB.o⟩):P:=h
theorem zc{P:Prop}(h:P:=by
 exact⟨rfl,ay _ _⟩):P:=h
theorem JS (xs ys:List Nat) (ao bo:Option Addr) (n cap m aS B:Nat) (w:World) (hn:n=xs.length) (hm:m=ys.length) (hc:n<=cap) (hcb:m<=aS) (hbig:n<=70368744177664) (hbig2:m<=70368744177664)
 (hx:Wf xs) (hy:Wf ys) (hR:Rd B w ao xs) (hS:Rd B w bo ys) :
 Calls Tryz.prog 136 #[.slice ao n cap,.slice bo m aS] w fun r w'=>r=.returned (.int .i64 (aW (val xs) (val ys)))/\Below w.heap.size w w':=by
 have H1:=hid (dU xs ao n cap B w hn hc (by omega) hR);have H2:=hid (dU ys bo m aS B w hm hcb (by omega) hS);have hl1:=jK xs;have hl2:=jK ys;have f1:=ko xs hx;have f2:=ko ys hy;rw[<-jq] at f1 f2
 by_cases he:nl xs=nl ys
 · obtain⟨k0,hk0⟩:∃ k,nl ys=k:=⟨_,rfl⟩;rw[he] at H1 hl1 f1;rw[hk0] at H1 H2 hl1 hl2 f1 f2;have HR:=(Ba hR hS hn hm hx hy hl1 hl2 f1 f2);have HC:Hid (∀ x y w,_):=zC;have hkn:k0<=n:=by omega
   have hkm:k0<=m:=by omega
   clear hR hS hn hm hx hy hl1 hl2 f1 f2 he hk0;go_enter Tryz.func136,Tryz.ntmps136;go_wp2_with fail;refine H1.o.mono ?_;rintro r w1 ⟨rfl,rfl⟩;go_wp2_with fail;refine H2.o.mono ?_;rintro r w1 ⟨rfl,rfl⟩;go_wp2
   go_loopg [5] k0 (fun k i wr=>k<=k0/\i=.int .i64 ((k:Int)-1)/\Hid (Below w1.heap.size w1 wr)/\Aside (sg xs k (k0-k)=sg ys k (k0-k)))
   case atStart=>exact⟨ak _,rfl,ay _ _,by rw[uO,dF,dF];exact rfl⟩
   case round =>
    obtain⟨hk,rfl,HB,HA⟩:=hrel
    by_cases hk0:gk=0
    · exact Qad
    · obtain⟨k,rfl⟩:∃ k,gk=k+1:=⟨gk-1,by omega⟩;obtain⟨hR,hS,hn,hm,hx,hy,hl1,hl2,f1,f2⟩:=HR.o;obtain⟨b,off,hB1,rfl,hc1⟩:=hR (by intro e;subst e;simp at hl1;omega);obtain⟨b2,G9,hB2,rfl,hc2⟩:=hS (by intro e;subst e;simp at hl2;omega)
      have g1:wr.cell? ⟨b,off+k,none⟩=some (.int .u32 ((xs.getD k 0:Nat):Int)) :=
       (HB.o.cell (p:=⟨b,off+k,none⟩) (qh w1 ⟨b,off+k,none⟩ (hc1 k (by omega)))).trans (hc1 k (by omega))
      have g2:wr.cell? ⟨b2,G9+k,none⟩=some (.int .u32 ((ys.getD k 0:Nat):Int)) :=
       (HB.o.cell (p:=⟨b2,G9+k,none⟩) (qh w1 ⟨b2,G9+k,none⟩ (hc2 k (by omega)))).trans (hc2 k (by omega))
      obtain⟨x,eD⟩:∃ x:Nat,xs.getD k 0=x:=⟨_,rfl⟩;obtain⟨y,qy⟩:∃ y:Nat,ys.getD k 0=y:=⟨_,rfl⟩;rw[eD] at g1;rw[qy] at g2;have HX:=(aZ eD qy);clear hR hS hn hm hx hy hl1 hl2 f1 f2 hc1 hc2 eD qy hk0
      by_cases hxy:x=y
      · subst hxy;go_wp2
        go_region
        all_goals (
         go_wp2;go_roundg k
         case measure=>omega
         case rel =>
          obtain⟨hR,hS,hn,hm,hx,hy,hl1,hl2,f1,f2⟩:=HR.o;refine⟨by omega,by first | go_num | (congr 1;omega),HB.o.drew,?_⟩;have h:=HA.o;obtain⟨r,hr⟩:∃ r,k0-k=r+1:=⟨k0-(k+1),by omega⟩;rw[show k0-(k+1)=r by omega] at h
          rw[Aside,hr,kr xs k r (by omega),kr ys k r (by omega),h,HX.o.1,HX.o.2])
      · have hne:((x:Int)==(y:Int))=false:=by simp;omega
        have hki:(k:Int)<(k0:Int):=by omega
        have hki0:0<=(k:Int):=by omega
        have hki2:k<k0:=by omega
        go_wp2
        go_region
        all_goals (
         go_wp2
         go_region_with (go_at_call 179;refine(zC x y _).mono ?_;rintro r w2 ⟨rfl,rfl⟩))
        all_goals (
         go_wp2;go_ret;obtain⟨hR,hS,hn,hm,hx,hy,hl1,hl2,f1,f2⟩:=HR.o;have h:=HA.o
         have e:aW (val xs) (val ys)=aW x y:=by
          rw[<-f1,<-f2];have hk2:k+1+(k0-(k+1))=k0:=by omega
          have t1:=pz xs ys hx hy k (k0-(k+1)) (by omega) (by omega) h;have t2:=pz ys xs hy hx k (k0-(k+1)) (by omega) (by omega) h.symm;rw[hk2,HX.o.1,HX.o.2] at t1 t2;apply G8 <;> omega
         rw[e]
         exact⟨rfl,by first | exact HB.o.drew.drew | exact HB.o.drew | skip⟩)
 · have e:aW (val xs) (val ys)=aW (nl xs) (nl ys):=by
    rcases Nat.lt_or_gt_of_ne he with h|h
    · rw[mM h,mM (vP xs ys hx hy h)]
    · rw[ru h,ru (vP ys xs hy hx h)]
   rw[e];obtain⟨k1,hk1⟩:∃ k,nl xs=k:=⟨_,rfl⟩;obtain⟨k2,hk2⟩:∃ k,nl ys=k:=⟨_,rfl⟩;rw[hk1] at H1 he |-;rw[hk2] at H2 he |-;have hne:((k1:Int)==(k2:Int))=false:=by simp;omega
   have hne2:¬ (k1:Int)=(k2:Int):=by omega
   have H3:=hid (Lg k1 k2 w);clear hR hS hn hm hx hy hl1 hl2 f1 f2 hk1 hk2 e he;go_enter Tryz.func136,Tryz.ntmps136;go_wp2_with fail;refine H1.o.mono ?_;rintro r w1 ⟨rfl,rfl⟩;go_wp2_with fail;refine H2.o.mono ?_;rintro r w1 ⟨rfl,rfl⟩;go_wp2_with fail;refine H3.o.mono ?_;rintro r w1 ⟨rfl,rfl⟩;go_wp2;go_ret;exact zc
end
end Go.Proofs.YtjppdacikihpdaaGreatDoor
