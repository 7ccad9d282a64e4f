import Derived.Test.YtaejmlkaefnbhaaGreatDoorM1x
import Derived.Deep.OwnRows
import Derived.BigQuiet
import Derived.Deep.RegionWith
set_option linter.unusedVariables false
set_option linter.unusedSimpArgs false
set_option maxHeartbeats 16000000
set_option maxRecDepth 20000
namespace Go.Proofs.YtaejmlkaefnbhaaGreatDoor
section
open Go.RowKit
def bO(w:World):Prop:=∀ j,j<32->w.cell? ⟨1,j,none⟩=some (.int .u8 (Lib.deBruijn32tab.getD j 0))
theorem bO.below{B:Nat}{w w':World}(h:bO w)(hb:Below B w w')(hB:1<B):bO w':=fun j hj=>(hb.cell (p:=⟨1,j,none⟩) hB).trans (h j hj)
theorem bO.pos{w:World}(h:bO w):1<w.heap.size:=iH w ⟨1,0,none⟩ (h 0 aA)
theorem bO.belows{w w':World}(h:bO w)(hb:Below w.heap.size w w'):bO w':=h.below hb h.pos
theorem Vm (x k idx:Nat) (w:World) (hx0:((x:Int)==0)=false)
 (key:bits BinOp.and IntKind.u32 (x:Int) (-(x:Int)%4294967296)*125613361%4294967296/134217728=(idx:Int))
 (hi:idx<32) (hk:k<32) (hcell:w.cell? ⟨1,idx,none⟩=some (.int .u8 k)) :
 Calls Tryz.prog 278 #[.int .u32 x] w fun e w'=>e=.returned (.int .i64 k)/\w'=w:=by
 go_enter Tryz.func278,Tryz.ntmps278
 go_wp2_with (simp only[key])
 go_ret;exact⟨rfl,rfl⟩
theorem Zc(x a:Nat)(hx:x<4294967296)(hx0:x≠0)(hlow:x &&& (4294967296-x)=a) :
 bits BinOp.and IntKind.u32 (x:Int) (-(x:Int)%4294967296)*125613361%4294967296/134217728=((a*125613361%4294967296/134217728:Nat):Int):=by
 rw[show -(x:Int)%4294967296=((4294967296-x:Nat):Int) by omega,KP x _ hx af,hlow];omega
theorem Zd(x:Nat)(hx:x<4294967296)(hx0:x≠0)(w:World)(hT:bO w) :
 Calls Tryz.prog 278 #[.int .u32 (x:Int)] w fun e w'=>e=.returned (.int .i64 (Lib.ctz 32 x:Nat))/\w'=w:=by
 obtain⟨hlow,hk⟩:=Lib.lowest_bit 32 x hx0 hx;obtain⟨hi,htab⟩:=Lib.deBruijn32_at _ hk;have hcell:=hT _ hi;rw[htab] at hcell;exact Vm x _ _ w (by simp;omega) (Zc x _ hx hx0 hlow) hi hk hcell
def lo(n:Nat):Nat:=if h:n=0 then 0 else if n%2=1 then 0 else lo (n/2)+1
termination_by n
decreasing_by omega
theorem Ld:lo 0=0:=by rw[lo];simp
theorem QT(m:Nat):lo (2*m+1)=0:=by rw[lo];simp
theorem Le(i m:Nat):lo (2^i*(2*m+1))=i:=by
 induction i with
 | zero=>rw[jr,jF];exact QT m
 | succ i ih =>
   have h:2^(i+1)*(2*m+1)=2*(2^i*(2*m+1)):=by rw[fw];grind
   have hp:0<2^i*(2*m+1):=nW (bK i) af;rw[h,lo,dif_neg af,if_neg af,zZ _ aA,ih]
theorem QU(xs:List Nat)(k:Nat)(hx:Wf xs)(hk:k<xs.length)(h0:sg xs 0 k=0)(hw:xs.getD k 0≠0):lo (val xs)=32*k+Lib.ctz 32 (xs.getD k 0):=by
 have hl:=hx.get k;obtain⟨m,hm,hc⟩:=Lib.ctzFrom_spec 32 (xs.getD k 0) af hl;have hcz:Lib.ctz 32 (xs.getD k 0)=Lib.ctzFrom 32 (xs.getD k 0):=by simp only[Lib.ctz,if_neg hw]
 rw[hcz];obtain⟨c,hc'⟩:∃ c,Lib.ctzFrom 32 (xs.getD k 0)=c:=⟨_,rfl⟩;rw[hc'] at hm hc |-;have e:=fu xs k af;rw[<-lN,h0,dm,dQ xs k hk,hm] at e
 have e2:4294967296=2^c*(2*2^(31-c)):=by
  rw[<-dH,bR (2^c) 2,dH,<-aW,show c+(31-c)=31 by omega]
 have e3:val xs=2^(32*k+c)*(2*(m+2^(31-c)*val (xs.drop (k+1)))+1):=by
  rw[e,aW,rM];have:(2^32:Nat)^k=pw k:=rfl;rw[this];have:4294967296*val (xs.drop (k+1))=2^c*(2*2^(31-c))*val (xs.drop (k+1)):=by rw[<-e2]
  rw[this]
  grind
 rw[e3,Le]
theorem Qbl{P:Prop}(h:P:=by
 exact⟨congrArg (fun z=>Ending.returned (Value.int IntKind.i64 z)) af,rfl⟩):P:=h
theorem Vn(xs:List Nat)(ao:Option Addr)(n cap B:Nat)(w:World)(hn:n=xs.length)(hm:n<=70368744177664)(hx:Wf xs)(hR:Rd B w ao xs)(hT:bO w) :
 Calls Tryz.prog 242 #[.slice ao n cap] w fun r w'=>r=.returned (.int .i64 (lo (val xs):Nat))/\w'=w:=by
 have HT:=(hid hT);have HR:=(bM hR hn hx);clear hR hn hx hT;go_enter Tryz.func242,Tryz.ntmps242;go_wp2
 go_loopg [7] n (fun gk i wr=>∃ k:Nat,gk+k=n/\i=.int .i64 (k:Nat)/\wr=w/\Aside (sg xs 0 k=0))
 case atStart=>exact⟨0,af,rfl,rfl,eX _ _⟩
 case round =>
  obtain⟨k,iL,rfl,rfl,HA⟩:=hrel
  by_cases hk:k<n
  · obtain⟨hR,hn,hx⟩:=HR.o;obtain⟨b,fC,Nw,rfl,hbc⟩:=hR (by intro e;subst e;simp at hn;omega);have hbk:=hbc k af;obtain⟨x,jl⟩:∃ x:Nat,xs.getD k 0=x:=⟨_,rfl⟩;have hxl:x<4294967296:=jl ▸ hx.get _;rw[jl] at hbk
    by_cases h0:x=0
    · subst h0;have HX:=(au jl);clear jl hR hn hx hbc;go_wp2;go_roundg (gk-1)
      case measure=>omega
      case rel =>
       obtain⟨hR,hn,hx⟩:=HR.o;refine⟨k+1,af,by go_num,rfl,?_⟩;have h1:=HA.o;rw[Aside,bz xs 0 k af,dm,HX.o,h1];omega
    · have hz:=QU xs k hx af HA.o (by rw[jl];exact h0);rw[jl] at hz;obtain⟨hc,hc32⟩:=Lib.lowest_bit 32 x h0 hxl;have H:=hid (Zd x hxl h0 wr HT.o);obtain⟨c,hcc⟩:∃ c,Lib.ctz 32 x=c:=⟨_,rfl⟩;rw[hcc] at H hz hc32;have HZ:=(au hz);clear jl hR hn hx hbc hc hz hcc;go_wp2_with fail;refine H.o.mono ?_;rintro r w1 ⟨rfl,rfl⟩;go_wp2;go_ret;rw[HZ.o];exact Qbl
  · obtain rfl:k=n:=af
    obtain⟨hR,hn,hx⟩:=HR.o;have h1:=HA.o;have h2:val xs=0:=by rw[<-dw,<-hn];exact h1
    have H2:=(au h2);clear hR hn hx h1 h2 HA HR;go_wp2;go_ret;rw[H2.o,Ld];exact KK
theorem dW(z:Int)(n:Nat)(hz:z=(n:Int))(hn:n<=70368744177664)(w:World) :
 (Instr.makeSlice 75 (.int .i64 z) (.int .i64 z)).run Tryz.prog w=.ok (.slice (some ⟨w.heap.size,0,none⟩) n n) (w.alloc (.cells (madeCells #[.int .u32 0] n) 138)):=by
 subst hz;exact run_make_row' 75 138 (.int .u32 0) 4 Tryz.underlying75 Tryz.KO rfl .i64 .i64 n af af w
theorem Own.made(w:World)(n:Nat):Own (w.alloc (.cells (madeCells #[.int .u32 0] n) 138)) w.heap.size (List.replicate n 0):=by
 unfold Own;have h1:=jC w (.cells (madeCells #[.int .u32 0] n) 138);rw[h1];congr 2;apply BX.1;rw[toList_madeCells_one];simp[U]
theorem Rd.drop{B:Nat}{w:World}{b off:Nat}{xs:List Nat}(h:Rd B w (some ⟨b,off,none⟩) xs)(k:Nat):Rd B w (some ⟨b,off+k,none⟩) (xs.drop k):=by
 intro hx;have hx':xs≠[]:=by intro e;subst e;simp at hx
 obtain⟨b',off',hlt,e,hc⟩:=h hx'
 cases e
 refine⟨b,off+k,hlt,rfl,fun i hi=>?_⟩;simp only[jE] at hi;rw[nK,hc (k+i) af];simp[aS]
theorem jI (w:World) (g dLen dCap:Nat) (ao:Option Addr) (sLen sCap B:Nat) (ty:TypeId)
 (L xs:List Nat) (hO:Own w g L) (hL:dLen<=L.length) (hx:sLen=xs.length) (hR:Rd B w ao xs) (hle:sLen<=dLen) :
 ∃ w',(Builtin.copy_ #[75,75] ty #[.slice (some ⟨g,0,none⟩) dLen dCap,.slice ao sLen sCap]).run Tryz.prog w=.ok (.int .i64 (sLen:Int)) w'/\Own w' g (xs++L.drop sLen)/\But g w w':=by
 subst hx;have hmin:Nat.min xs.length dLen=xs.length:=iy hle
 by_cases h0:xs=[]
 · subst h0;exact⟨w,run_copy_none (P:=Tryz.prog) w 75 75 ty 138 _ _ _ _ _ _ Tryz.underlying75 gD (by simp at hmin |-),by simpa using hO,But.refl _ _⟩
 · obtain⟨b,off,hlt,rfl,hc⟩:=hR h0;have hadd:∀ j,(⟨b,off,none⟩:Addr).add j=⟨b,off+j,none⟩:=by intro j;unfold Addr.add;split <;> simp_all
   have hrun:=run_copy_row (P:=Tryz.prog) w 75 75 ty 138 g 0 dLen dCap ⟨b,off,none⟩ xs.length sCap (L.map U).toArray 138 (xs.map U) Tryz.underlying75 gD hO (by rw[hmin];simp) (by
    intro j v hv;rw[hadd]
    have hj:j<xs.length:=by
     have:=(Aa.1 hv).1;simpa using this
    rw[hc j hj];simp[hj,U] at hv
    simp[hj,<-hv]) (by simp;omega) (by
    intro v hv;obtain⟨n,_,rfl⟩:=kW.1 hv
    rfl)
   refine⟨w.setRow g (((xs++L.drop xs.length).map U)).toArray,?_,setRow_heap w g _ _ 138 _ hO,⟨rfl,rfl,rfl,by simp[World.setRow],fun k _ hk=>setRow_other w g k _ hk⟩⟩;simpa [uV,List.map_drop,goInt] using hrun
theorem E8(xs:List Nat)(ao:Option Addr)(n cap B:Nat)(w:World)(hn:n=xs.length)(hc:n<=cap)(hm:n<=70368744177664)(hx:Wf xs)(hR:Rd B w ao xs)(hB:B<=w.heap.size) :
 Calls Tryz.prog 294 #[.slice ao n cap] w fun r w'=>r=.returned (.slice (some ⟨w.heap.size,0,none⟩) (ws (val xs)).length (ws (val xs)).length)/\Own w' w.heap.size (ws (val xs))/\Below w.heap.size w w':=by
 have H:=hid (dK xs ao n cap B w hn hc af hR);have hl:nl xs<=n:=by rw[hn];exact nM xs
 obtain⟨k,hk⟩:∃ k,nl xs=k:=⟨_,rfl⟩;have HF:Aside (xs.take k=ws (val xs)):=by rw[<-hk];exact rT xs hx
 have HR:Aside (Rd B w ao (xs.take k)/\k=(xs.take k).length):=⟨hR.take k,by rw[gm];omega⟩;rw[hk] at H hl;rw[<-HF.o];have hmk:=dW (k:Int) k rfl af;have HO:=Own.made w k;have HO2:Hid (Own (w.alloc (.cells (madeCells #[.int .u32 0] k) 138)) w.heap.size (List.replicate k 0)):=HO;clear hk hR hn hx HO;go_enter Tryz.func294,Tryz.ntmps294;go_wp2_with fail;refine H.o.mono ?_;rintro r w1 ⟨rfl,rfl⟩;obtain⟨w2,hcp,hO2,aF⟩:=jI _ w1.heap.size k k ao k cap B 3 (List.replicate k 0) (xs.take k) HO2.o aL HR.o.2 (HR.o.1.below ((aG _ _).alloc hB _)) (aB _);have HH:=hid (ai hO2 aF);clear hO2 aF HO2;go_wp2;go_ret;obtain⟨hO2,aF⟩:=HH.o;rw[<-HR.o.2];refine⟨rfl,by simpa using hO2,But.below ((aG _ _).alloc (aB _) _) aF aL (aB _)⟩
theorem E9(xs:List Nat)(hx:Wf xs)(k:Nat)(hk:nl xs=k+1):val xs=sg xs 0 k+pw k*xs.getD k 0/\sg xs 0 k<pw k/\xs.getD k 0≠0/\k<xs.length:=by
 have hl:=nM xs;have h1:=oh xs hx;rw[hk,jP xs k af,<-lN] at h1;have h2:=Cu xs af;rw[hk,nU] at h2;exact⟨h1.symm,nN xs 0 k hx af,h2,af⟩
theorem QV(xs:List Nat)(hx:Wf xs)(k:Nat)(hk:nl xs=k+1):bl (val xs)=32*k+bl (xs.getD k 0):=by
 obtain⟨e,hlt,h0,hl⟩:=E9 xs hx k hk;obtain⟨t,ht⟩:∃ t,xs.getD k 0=t:=⟨_,rfl⟩;rw[ht] at e h0 |-;obtain⟨c,hc⟩:∃ c,bl t=c+1:=⟨bl t-1,by have:=fH t h0;omega⟩;have h1:=iM t h0;have h2:=iF t;rw[hc] at h1 h2 |-;rw[nU] at h1;have p1:2^(32*k+c)=pw k*2^c:=mZ k c;have p2:2^(32*k+c+1)=pw k*2^(c+1):=by rw[nK,mZ]
 have:=Lc (val xs) (32*k+c) (by
  rw[p1,e];have:=gH (pw k) h1
  omega) (by
  rw[p2,e];have:pw k*(t+1)<=pw k*2^(c+1):=gH (pw k) af;rw[rJ] at this
  omega)
 omega
theorem kE(xs:List Nat)(ao:Option Addr)(n cap B:Nat)(w:World)(hn:n=xs.length)(hc:n<=cap)(hm:n<=70368744177664)(hx:Wf xs)(hR:Rd B w ao xs) :
 Calls Tryz.prog 108 #[.slice ao n cap] w fun r w'=>r=.returned (.int .i64 (bl (val xs):Nat))/\w'=w:=by
 have H:=hid (dK xs ao n cap B w hn hc af hR);have hl:=nM xs;rcases hk:nl xs with _|k
 · rw[(og xs).1 hk,eY];rw[hk] at H;clear hk hl hn hx hR;go_enter Tryz.func108,Tryz.ntmps108;go_wp2_with fail;refine H.o.mono ?_;rintro r w1 ⟨rfl,rfl⟩;go_wp2;go_ret;exact⟨rfl,rfl⟩
 · rw[QV xs hx k hk];rw[hk] at H hl;obtain⟨e,hlt,h0,hl2⟩:=E9 xs hx k hk;obtain⟨b,off,hB,rfl,hcell⟩:=hR (by intro e;subst e;simp at hl);have hck:=hcell k hl2;obtain⟨t,ht⟩:∃ t,xs.getD k 0=t:=⟨_,rfl⟩;have htl:t<4294967296:=ht ▸ hx.get k;rw[ht] at hck |-;have H2:=hid (Am t w htl);have hb:=Cv t htl;obtain⟨c,hc'⟩:∃ c,bl t=c:=⟨_,rfl⟩;rw[hc'] at H2 hb |-;have hkn:k<n:=af
   clear hk hl hn hx hR e hlt h0 hl2 hcell ht hc';go_enter Tryz.func108,Tryz.ntmps108;go_wp2_with fail;refine H.o.mono ?_;rintro r w1 ⟨rfl,rfl⟩;go_wp2_with fail;refine H2.o.mono ?_;rintro r w1 ⟨rfl,rfl⟩;go_wp2;go_ret;exact Qbl
theorem ni(x:Nat)(w:World)(hx:x<18446744073709551616) :
 Calls Tryz.prog 193 #[.int .u64 (x:Int)] w fun r w'=>∃ v,r=.returned v/\Nt w.heap.size w' v x/\Below w.heap.size w w':=by
 obtain⟨a,ha⟩:=ah (x%4294967296);obtain⟨b,hb⟩:=ah (x/4294967296);have e1:(x:Int)%4294967296=(a:Int):=af
 have e2:(x:Int)/4294967296=(b:Int):=af
 have hx2:(x:Int)<18446744073709551616:=af
 have hO:Own (w.alloc (.cells #[.int .u32 (a:Int),.int .u32 (b:Int)] 138)) w.heap.size [a,b]:=by
  unfold Own;rw[jC];rfl
 have hW:Wf [a,b]:=Wf.cons af (Wf.cons af Wf.nil);have hv:val [a,b]=x:=by simp only[val];omega
 have T:=hid (dK [a,b] (some ⟨w.heap.size,0,none⟩) 2 2 (w.heap.size+1) _ rfl af af (by simpa using Rd.gJ hO 0 2));have HH:=(bM hO hW hv);clear hO hW hv ha hb hx;go_enter Tryz.func193,Tryz.ntmps193;go_wp2_with fail;refine T.o.mono ?_;rintro r w1 ⟨rfl,rfl⟩;go_wp2;go_ret;obtain⟨hO,hW,hv⟩:=HH.o;refine⟨_,rfl,?_,(aG _ _).alloc (aB _) _⟩;have N:=Nt.gJ (lo:=w.heap.size) hO (aB _) hW (by simp[maxLen]);rw[hv] at N;exact N
theorem Own.but{w w':World}{g k:Nat}{L:List Nat}(h:Own w k L)(hb:But g w w')(hk:k≠g):Own w' k L:=by
 have:=h.lt;unfold Own at h |-;rw[hb.block k this hk];exact h
def Apart(v1 v2:Value):Prop:=∀ g,v1.ownBlock=some g->v2.ownBlock≠some g
theorem Nt.lt{lo:Nat}{w:World}{v:Value}{X:Nat}(h:Nt lo w v X):∀ g,v.ownBlock=some g->lo<=g/\g<w.heap.size:=fun g hg=>World.ownsRow.lt h g hg
theorem Fa{lo m hi:Nat}{w w2:World}{v1 v2:Value}{X Y:Nat}(h1:Nt lo w v1 X)(h2:Nt m w2 v2 Y)(hm:w.heap.size<=m):Apart v1 v2:=by
 intro g hg e;have a:=(h1.lt g hg).2;have b:=(h2.lt g e).1;omega
theorem pV(v:Value):Apart (.slice none 0 0) v:=by intro g hg;simp[Value.ownBlock] at hg
theorem QW(p b q V o a c:Nat):b*p*q*V+(a+p*(o*V+c))=p*(o+b*q)*V+(a+p*c):=by grind
theorem Lg(M:List Nat)(i k d:Nat)(hd:M.length=i+k+d)(hz:sg M (i+k) d=0):val M=sg M 0 i+pw i*sg M i k:=by
 have h1:=dw M;rw[hd] at h1;have h2:=jH M 0 (i+k) d af;have h3:=jH M 0 i k af;rw[dm] at h2 h3;rw[hz,nL,gU] at h2;rw[<-h1,h2,h3]
theorem Ze(Q:List Nat)(i r o:Nat)(hQ:i+1+r=Q.length):sg (Q.set i o) i (r+1)=o+4294967296*sg Q (i+1) r:=by
 have h1:=ou (Q.set i o) i r (by simp;omega);have h2:=iK Q i o af;have h3:=rW Q (i+1) r i o af af;rw[h2,h3] at h1;exact h1
theorem Zf(a p s V:Nat)(h1:a<p)(h2:s<V):a+p*s<p*V:=by
 have h:p*(s+1)<=p*V:=gH _ h2;rw[rJ,gI] at h;omega
theorem QX (M M2 Q:List Nat) (i m r V o X:Nat) (hM:Wf M) (hi:i+(m+1)<=M.length) (ho:Out M M2 i (m+1))
 (hinv:X=pw (i+1)*sg Q (i+1) r*V+val M) (hz:sg M (i+(m+1)) (M.length-(i+(m+1)))=0) (hQ:i+1+r=Q.length)
 (hs:sg M i (m+1)=o*V+sg M2 i (m+1)) (hlt:sg M2 i (m+1)<V) :
 X=pw i*sg (Q.set i o) i (r+1)*V+val M2/\val M2<pw i*V:=by
 obtain⟨d,hd⟩:=ah (M.length-(i+(m+1)));rw[<-hd] at hz;have hl:M2.length=M.length:=ho.1;have e1:=Lg M i (m+1) d af hz;have hz2:sg M2 (i+(m+1)) d=0:=by rw[ho.above (i+(m+1)) d af af];exact hz
 have e2:=Lg M2 i (m+1) d af hz2;have e3:sg M2 0 i=sg M 0 i:=ho.below 0 i af af;have e4:=Ze Q i r o hQ;have h1:=nN M 0 i hM af;rw[e3] at e2;rw[hs] at e1;refine⟨?_,by rw[e2];exact Zf _ _ _ _ h1 hlt⟩;rw[hinv,e1,e2,e4,bI];exact QW _ _ _ _ _ _ _
theorem QY(M:List Nat)(i m V:Nat)(hM:Wf M)(hi:i+(m+1)<=M.length)(hV:V<pw m)(hlt:val M<pw (i+1)*V) :
 sg M (i+(m+1)) (M.length-(i+(m+1)))=0/\sg M i (m+1)<V*4294967296:=by
 obtain⟨d,hd⟩:∃ d,M.length=i+(m+1)+d:=⟨M.length-(i+(m+1)),af⟩
 have e1:val M=sg M 0 i+pw i*(sg M i (m+1)+pw (m+1)*sg M (i+(m+1)) d):=by
  rw[<-dw M,hd,show i+(m+1)+d=i+(m+1+d) by omega,jH M 0 i (m+1+d) af,dm,jH M i (m+1) d af]
 rw[hd,Nat.add_sub_cancel_left];obtain⟨S,hS⟩:∃ S,sg M i (m+1)+pw (m+1)*sg M (i+(m+1)) d=S:=⟨_,rfl⟩;rw[hS] at e1
 have h1:S<4294967296*V:=by
  by_cases h:S<4294967296*V
  · exact h
  · exfalso;have:pw i*(4294967296*V)<=pw i*S:=gH _ af;have e:pw (i+1)*V=pw i*(4294967296*V):=by rw[bI,bR 4294967296,dH]
    omega
 have h2:4294967296*V<pw (m+1):=by rw[bI];exact IV hV aA
 constructor
 · rcases rO (sg M (i+(m+1)) d) with h | h
   · exact h
   · exfalso;have:pw (m+1)*1<=pw (m+1)*sg M (i+(m+1)) d:=gH _ h;omega
 · rw[bR];omega
theorem Vo(Y m z:Nat)(hY:Y≠0)(h1:pw (m-1)*2^(31-z)<=Y)(h2:Y<pw (m-1)*2^(32-z))(hz:z<32)(hm:0<m) :
 (ws (Y*2^z)).length=m/\Y*2^z<pw m/\2147483648<=(ws (Y*2^z)).getD (m-1) 0:=by
 obtain⟨k,rfl⟩:∃ k,m=k+1:=⟨m-1,af⟩;rw[nU] at h1 h2 |-
 have a1:pw k*2147483648<=Y*2^z:=by
  have:=dF (2^z) h1;rw[dH,<-aW,show 31-z+z=31 by omega] at this;exact this
 have a2:Y*2^z<pw (k+1):=by
  have:=jV h2 (bK z);rw[dH,<-aW,show 32-z+z=32 by omega] at this;rw[bI,bR 4294967296];exact this
 have hp:=jy k;have hl:=Ni (Y*2^z) k af a2;refine⟨hl,a2,?_⟩;have hw:=fP (Y*2^z);have hv:=aC (Y*2^z);rw[<-dw,hl,bz _ 0 k af,dm] at hv;have hs:=nN (ws (Y*2^z)) 0 k hw af
 by_cases h:2147483648<=(ws (Y*2^z)).getD k 0
 · exact h
 · exfalso;have:pw k*((ws (Y*2^z)).getD k 0+1)<=pw k*2147483648:=gH _ af;rw[rJ] at this;omega
theorem Vp(X Y P q r:Nat)(hP:0<P)(h:X*P=q*(Y*P)+r)(hr:r<Y*P):q=X/Y/\r/P=X%Y:=by
 have hY:0<Y:=by
  rcases rO Y with e|e
  · subst e;rw[gT] at hr;omega
  · exact e
 have hq:X*P/(Y*P)=q:=by
  rw[h,lK,Nat.add_mul_div_right _ _ (nW hY hP),iI hr,dm]
 have hm:X*P%(Y*P)=r:=by
  rw[h,lK,Ca,ja hr]
 rw[Nat.mul_div_mul_right _ _ hP] at hq;rw[Nat.mul_mod_mul_right] at hm;exact⟨hq.symm,by rw[<-hm,xy _ hP]⟩
theorem Qa8{P:Prop}(h:P:=by
 have N:=Nt.gJ (lo:=g) HM.o (aB _) bD (by rw[dG];unfold maxLen;omega);rw[<-e4,<-hg];rw[dG] at N;exact N):P:=h
theorem Jf (xs:List Nat) (ao:Option Addr) (n cap B by' words rest:Nat) (w:World) (hn:n=xs.length) (hc:n<=cap) (hby:by'=32*words+rest) (hrest:rest<32) (hbig:words+n<=70368744177663)
 (hx:Wf xs) (hR:Rd B w ao xs) (hB:B<=w.heap.size) :
 Calls Tryz.prog 230 #[.slice ao n cap,.int .i64 (by':Nat)] w fun r w'=>∃ v,r=.returned v/\Nt w.heap.size w' v (val xs*2^by')/\Below w.heap.size w w':=by
 obtain⟨W1,hW1⟩:=ah (w.alloc (.cells (madeCells #[.int .u32 0] (words+n+1)) 138));have vC:Own W1 w.heap.size (List.replicate (words+n+1) 0):=by rw[hW1];exact Own.made w _
 have hB1:Below w.heap.size w W1:=by rw[hW1];exact(aG _ _).alloc (aB _) _
 have hmk:=dW ((words:Int)+n+1) (words+n+1) af af w;rw[<-hW1] at hmk;have Yu:Rd B W1 ao xs:=hR.below (hB1.mono hB);have e1:(by':Int)/32=(words:Int):=af
 have e2:(by':Int)%32=(rest:Int):=af
 obtain⟨g,hg⟩:=ah (w.heap.size);rw[<-hg] at vC hmk hB1 hB;have HR:=(rG Yu hx hn hB1 hg hby);have HO:=hid vC;clear hn hx hR vC hB1 hW1 Yu hg hby;go_enter Tryz.func230,Tryz.ntmps230;go_wp2
 go_loopg [23] n (fun gk i wr=>∃ (k:Nat) (M:List Nat),gk+k=n/\i=.int .i64 (k:Nat) /\
  Hid (Own wr g M)/\Aside (Wf M/\M.length=words+n+1/\sg M 0 words=0/\M.getD (words+k) 0<2^rest/\sg M words (k+1)=sg xs 0 k*2^rest/\But g W1 wr))
 case atStart=>exact⟨0,_,af,rfl,HO,Wf.zeros _,aL,xN _ _ _,by rw[I9];exact bK _,by rw[xN,eX];simp,But.refl _ _⟩
 case round =>
  obtain⟨k,M,iL,rfl,HM,HA⟩:=hrel
  by_cases hk:k<n
  · obtain⟨hR,hx,hn,hB1,hg,hby⟩:=HR.o;obtain⟨bD,dG,hM0,hMt,hMs,aF⟩:=HA.o;have Zg:g<=W1.heap.size:=by have:=hB1.size;omega
    obtain⟨b,fC,Nw,rfl,hbc⟩:=hR (by intro e;subst e;simp at hn;omega)
    have hbk:wr.cell? ⟨b,fC+k,none⟩=some (.int .u32 ((xs.getD k 0:Nat):Int)):=by
     have h1:=aF.block b (iH W1 ⟨b,fC+k,none⟩ (hbc k af)) af;exact j9
    obtain⟨y,hy⟩:∃ y:Nat,xs.getD k 0=y:=⟨_,rfl⟩;have hyl:y<4294967296:=hy ▸ hx.get _;rw[hy] at hbk;have hgc:=HM.o.cell (words+k) af;have hgf:=HM.o.frozen (words+k);have hgf2:=HM.o.frozen (words+k+1);have hgc2:=HM.o.cell (words+k+1) af;obtain⟨x,jl⟩:∃ x:Nat,M.getD (words+k) 0=x:=⟨_,rfl⟩;have hxl:x<4294967296:=jl ▸ bD.get _;rw[jl] at hgc;obtain⟨t,ht⟩:∃ t:Nat,t=y*2^rest:=⟨_,rfl⟩;have htl:t<18446744073709551616:=by rw[ht];exact up_lt y rest hyl hrest
    have e3:IntKind.u64.wrap ((y:Int)*2^rest)=(t:Int):=by
     have ec:(y:Int)*2^rest=(t:Int):=by rw[ht,dU,Int.natCast_pow];rfl
     rw[ec];exact pR _ af af
    obtain⟨s,hs⟩:∃ s:Nat,s=x+t%4294967296:=⟨_,rfl⟩;obtain⟨d,hd⟩:∃ d:Nat,d=t/4294967296:=⟨_,rfl⟩;have e4':x ||| (t%4294967296)=s:=by rw[hs,ht];exact Y8 x y rest hrest (by rw[<-jl];exact hMt)
    have e4:bits BinOp.or IntKind.u32 (x:Int) ((t:Int)%4294967296)=(s:Int):=by
     have:=or32 x (t%4294967296) hxl af;rw[e4'] at this;rw[<-this];simp
    have e5:(t:Int)/4294967296=(d:Int):=af
    have htl':(t:Int)<18446744073709551616:=af
    have hsl:s<4294967296:=by rw[<-e4'];exact Nat.or_lt_two_pow (n:=32) hxl af
    have HX:=(EF hy hn jl ht hs hd hsl);clear hy jl hR hx hn hB1 hg bD dG hM0 hMt hMs aF hbc Zg hby ht hs hd htl e4' hsl;go_wp2;go_roundg (gk-1)
    case measure=>omega
    case rel =>
     obtain⟨hy,hn,jl,ht,hs,hd,hsl⟩:=HX.o;obtain⟨bD,dG,hM0,hMt,hMs,aF⟩:=HA.o;have hdl:d<2^rest:=by rw[hd,ht];exact Y9 y rest hyl
     have h2:=qM rest hrest;refine⟨k+1,(M.set (words+k) s).set (words+k+1) d,af,by go_num,(HM.o.set _ _).set _ _,(bD.set _ _ hsl).set _ _ af,by simp[dG],?_,?_,?_,(aF.set _ _).set _ _⟩
     · rw[mY _ _ _ _ _ af (by simp;omega),mY _ _ _ _ _ af af];exact hM0
     · rw[show words+(k+1)=words+k+1 by omega,iK _ _ _ (by simp;omega)];exact hdl
     · have e1:=bF (M.set (words+k) s) words (k+1) d (by simp;omega);rw[show words+(k+1)=words+k+1 by omega] at e1;rw[e1,bF _ _ _ _ af,bz xs 0 k af,dm,hy,bI];rw[bz _ _ _ af,jl] at hMs;exact Vl (pw k) _ x t 0 _ s d y _ hMs ht hs hd
  · obtain rfl:k=n:=af
    obtain⟨bD,dG,hM0,hMt,hMs,aF⟩:=HA.o;have T:=hid (dK M (some ⟨g,0,none⟩) (words+k+1) (words+k+1) (g+1) wr dG.symm (aB _) af (by simpa [dG,jc] using Rd.gJ HM.o 0 (words+k+1)));clear bD dG hM0 hMt hMs aF;go_wp2_with fail;refine T.o.mono ?_;rintro r w1 ⟨rfl,rfl⟩;go_wp2;go_ret;obtain⟨hR,hx,hn,hB1,hg,hby⟩:=HR.o;obtain⟨bD,dG,hM0,hMt,hMs,aF⟩:=HA.o;have e3:sg xs 0 k=val xs:=by rw[hn];exact dw xs
    have e4:val M=val xs*2^by':=by
     rw[<-dw M,dG,show words+k+1=words+(k+1) by omega,jH M 0 words (k+1) af,hM0,dm,dm,hMs,e3,hby,mZ]
     grind
    refine⟨_,rfl,?_,?_⟩
    · exact Qa8
    · rw[<-hg];exact But.below hB1 aF (by have:=hB1.size;omega) (aB _)
theorem xQ(l x:Nat)(hl:l<4294967296)(hx:x<4294967296):bits BinOp.or IntKind.u64 (x:Int) ((l:Int)*4294967296)=((x+l*4294967296:Nat):Int):=by
 have e:((l:Int)*4294967296)=((l*4294967296:Nat):Int):=by simp only[dU];rfl
 rw[e,bits_or_u64_nat _ _ af af];have:=BV (i:=32) (b:=x) af l;have e2:2^32*l=l*4294967296:=by rw[bR]
 rw[e2] at this;rw[Nat.or_comm,<-this,lK]
theorem Ao(L:List Nat)(i rest:Nat)(hL:Wf L)(hr:rest<32)(hi:i<L.length) :
 (val L/2^rest/pw i)%4294967296=((L.getD i 0+L.getD (i+1) 0*4294967296)/2^rest)%4294967296:=by
 have h1:val L/2^rest/pw i=val (L.drop i)/2^rest:=by
  rw[uW,bR,<-uW,fu L i af];have:=df (L.take i) (hL.take i);rw[gm,iy af] at this;rw[wY _ _ (jy i),iI this,dm]
 rw[h1,dQ L i hi]
 obtain⟨R,hR⟩:∃ R,val (L.drop (i+1))=L.getD (i+1) 0+4294967296*R:=by
  by_cases h:i+1<L.length
  · exact⟨_,dQ L (i+1) h⟩
  · refine⟨0,?_⟩;rw[xz af,aS,rH af];rfl
 rw[hR]
 have e:L.getD i 0+4294967296*(L.getD (i+1) 0+4294967296*R)=(L.getD i 0+L.getD (i+1) 0*4294967296)+2^rest*(4294967296*(2^(32-rest)*R)):=by
  have:=kD rest hr;have:2^rest*(4294967296*(2^(32-rest)*R))=4294967296*(4294967296*R):=by rw[<-this];grind
  rw[this];omega
 rw[e,wY _ _ (bK _),xw]
theorem Fb(V p:Nat)(hp:0<p):V%p+p*(V/p%4294967296)=V%(4294967296*p):=by
 rw[bR 4294967296,Nat.mod_mul]
theorem yd{P:Prop}(h:P:=by
 go_wp2;go_roundg (gk-1)
 case measure=>omega
 case rel =>
  obtain⟨Fg,Jg,hn,hB2,hg,hby,hL⟩:=HR.o;obtain⟨bD,dG,QE,hMs,aF⟩:=HA.o;obtain⟨hs,hsl⟩:=HX.o;refine⟨k+1,M.set k s,af,by go_num,HM.o.set _ _,bD.set _ _ hsl,by simp[dG],fun j hj=>?_,?_,aF.set _ _⟩
  · rw[getD_set_ne _ _ _ _ af];exact QE j af
  · have e1:=bF M 0 k s af;rw[dm] at e1;rw[e1,hMs,hs,<-Ao L k rest Fg hrest af,bI];exact Fb _ _ (jy k)):P:=h
theorem Fe (xs:List Nat) (ao:Option Addr) (n cap B by' words rest:Nat) (w:World) (hn:n=xs.length) (hc:n<=cap) (hby:by'=32*words+rest) (hrest:rest<32) (hbig:n<=70368744177663) (hby2:by'<=9223372036854775807)
 (hx:Wf xs) (hR:Rd B w ao xs) (hB:B<=w.heap.size) :
 Calls Tryz.prog 229 #[.slice ao n cap,.int .i64 (by':Nat)] w fun r w'=>∃ v,r=.returned v/\Nt w.heap.size w' v (val xs/2^by')/\Below w.heap.size w w':=by
 have e1:(by':Int)/32=(words:Int):=af
 have e2:(by':Int)%32=(rest:Int):=af
 by_cases hw:n<=words
 · have hv:val xs/2^by'=0:=by
    have h1:=df xs hx;rw[<-hn] at h1
    have h2:pw n<=2^by':=by
     rw[hby,mZ];have:=mW hw;have:=mo this (bK rest);omega
    exact iI af
   rw[hv];clear hv hn hx hR hby;go_enter Tryz.func229,Tryz.ntmps229;go_wp2;go_ret;exact⟨_,rfl,Nt.nil _ _,aG _ _⟩
 · have hwn:words<n:=af
   obtain⟨b,fC,Nw,rfl,hbc⟩:=hR (by intro e;subst e;simp at hn;omega);obtain⟨k0,hk0⟩:=ah (n-words);obtain⟨W1,hW1⟩:=ah (w.alloc (.cells (madeCells #[.int .u32 0] (n-words)) 138));have vC:Own W1 w.heap.size (List.replicate (n-words) 0):=by rw[hW1];exact Own.made w _
   have hB1:Below w.heap.size w W1:=by rw[hW1];exact(aG _ _).alloc (aB _) _
   have hmk:=dW ((n:Int)-words) (n-words) af af w;rw[<-hW1] at hmk;obtain⟨W2,hcp,hO2,hb2⟩:=jI W1 w.heap.size (n-words) (n-words) (some ⟨b,fC+words,none⟩) (n-words) (cap-words) B 3 (List.replicate (n-words) 0) (xs.drop words) vC aL (by simp;omega) ((hR.below (hB1.mono hB)).drop words) af;have ed:(List.replicate (n-words) 0).drop (n-words)=([]:List Nat):=by simp
   rw[ed,qB] at hO2;clear ed;have hB2:Below w.heap.size w W2:=But.below hB1 hb2 hB1.size (aB _);obtain⟨g,hg⟩:=ah (w.heap.size);rw[<-hg] at hO2 hmk hB2 hB hcp;obtain⟨L,hL⟩:=ah (xs.drop words);have Jg:L.length=n-words:=by rw[hL];simp;omega
   have Fg:Wf L:=by rw[hL];exact hx.drop words
   rw[<-hL] at hO2;have HR:=(EF Fg Jg hn hB2 hg hby hL);have hxw:=hid hx;have HO:=hid hO2;clear hn hx hR vC hB1 hW1 hg hby hO2 hB2 hL Jg Fg hb2 hbc hk0;go_enter Tryz.func229,Tryz.ntmps229;go_wp2
   go_loopg [30] (n-words) (fun gk i wr=>∃ (k:Nat) (M:List Nat),gk+k=n-words/\i=.int .i64 (k:Nat) /\
    Hid (Own wr g M)/\Aside (Wf M/\M.length=n-words/\(∀ j,k<=j->M.getD j 0=L.getD j 0)/\sg M 0 k=val L/2^rest%pw k/\But g W2 wr))
   case atStart=>exact⟨0,_,af,rfl,HO,HR.o.1,HR.o.2.1,fun _ _=>rfl,by rw[eX,jw,Nat.mod_one],But.refl _ _⟩
   case round =>
    obtain⟨k,M,iL,rfl,HM,HA⟩:=hrel
    by_cases hk:k<n-words
    · obtain⟨Fg,Jg,hn,hB2,hg,hby,hL⟩:=HR.o;obtain⟨bD,dG,QE,hMs,aF⟩:=HA.o;have hgc:=HM.o.cell k af;have hgf:=HM.o.frozen k;obtain⟨x,jl⟩:∃ x:Nat,M.getD k 0=x:=⟨_,rfl⟩;have hxl:x<4294967296:=jl ▸ bD.get _;rw[jl] at hgc
      by_cases hk1:k+1<n-words
      · have hgc1:=HM.o.cell (k+1) af;obtain⟨y,QZ⟩:∃ y:Nat,M.getD (k+1) 0=y:=⟨_,rfl⟩;have hyl:y<4294967296:=QZ ▸ bD.get _;rw[QZ] at hgc1;obtain⟨t,ht⟩:∃ t:Nat,t=x+y*4294967296:=⟨_,rfl⟩;have e3:bits BinOp.or IntKind.u64 (x:Int) ((y:Int)*4294967296)=(t:Int):=by rw[xQ y x hyl hxl,ht]
        obtain⟨s,hs⟩:∃ s:Nat,s=t/2^rest%4294967296:=⟨_,rfl⟩;have e4:(t:Int)/2^rest%4294967296=(s:Int):=by rw[hs];simp
        have hs2:s=(L.getD k 0+L.getD (k+1) 0*4294967296)/2^rest%4294967296:=by
         rw[hs,ht,<-jl,<-QZ,QE k af,QE (k+1) af]
        have hsl:s<4294967296:=af
        have HX:=(aT hs2 hsl);clear jl QZ Fg Jg hn hB2 hg hby hL bD dG QE hMs aF hs hs2 hsl ht;exact yd
      · obtain⟨s,hs⟩:∃ s:Nat,s=x/2^rest:=⟨_,rfl⟩;have e4:(x:Int)/2^rest=(s:Int):=by rw[hs];simp
        have hsx:s<=x:=by rw[hs];exact uU _ _
        have hs2:s=(L.getD k 0+L.getD (k+1) 0*4294967296)/2^rest%4294967296:=by
         have:L.getD (k+1) 0=0:=by rw[aS,rH af];rfl
         rw[this,gT,gU,<-QE k af,jl,<-hs];omega
        have hsl:s<4294967296:=af
        have HX:=(aT hs2 hsl);have e5:(s:Int)%4294967296=(s:Int):=af
        clear jl Fg Jg hn hB2 hg hby hL bD dG QE hMs aF hs hs2;exact yd
    · obtain rfl:k=n-words:=af
      obtain⟨bD,dG,QE,hMs,aF⟩:=HA.o;have T:=hid (dK M (some ⟨g,0,none⟩) (n-words) (n-words) (g+1) wr dG.symm (aB _) af (by simpa [dG,jc] using Rd.gJ HM.o 0 (n-words)));clear bD dG QE hMs aF;go_wp2_with fail;refine T.o.mono ?_;rintro r w1 ⟨rfl,rfl⟩;go_wp2;go_ret;obtain⟨Fg,Jg,hn,hB2,hg,hby,hL⟩:=HR.o;obtain⟨bD,dG,QE,hMs,aF⟩:=HA.o
      have e4:val M=val xs/2^by':=by
       have h1:val L<pw (n-words):=by rw[<-Jg];exact df L Fg
       have h2:val L/2^rest<pw (n-words):=iC (uU _ _) h1;rw[ja h2] at hMs;rw[<-dw M,dG,hMs,hby,mZ,<-uW];congr 1;have h3:=fu xs words af
       have h4:val (xs.take words)<pw words:=by
        have:(xs.take words).length=words:=by rw[gm];omega
        have h5:Wf xs:=hxw.o;have:=df _ (h5.take words);rwa [‹(xs.take words).length=words›] at this
       rw[h3,wY _ _ (jy words),iI h4,dm,hL]
      refine⟨_,rfl,?_,?_⟩
      · exact Qa8
      · rw[<-hg];exact But.below hB2 aF (by have:=hB2.size;omega) (aB _)
def Two(lo:Nat)(w:World)(r:Ending)(X Y:Nat):Prop:=∃ v u,r=.returned (.tuple #[v,u])/\Nt lo w v X/\Nt lo w u Y/\Apart v u
theorem Q0 (xs ys:List Nat) (ao bo:Option Addr) (n cap m bA B:Nat) (w:World) (hn:n=xs.length) (hm:m=ys.length) (hnm:n<m) (hc:n<=cap) (hbig:n<=35184372088833)
 (hx:Wf xs) (hy:Wf ys) (htop:ys.getD (m-1) 0≠0) (hR:Rd B w ao xs) (hB:B<=w.heap.size) :
 Calls Tryz.prog 281 #[.slice ao n cap,.slice bo m bA] w fun r w'=>Two w.heap.size w' r (val xs/val ys) (val xs%val ys)/\Below w.heap.size w w':=by
 have hlt:val xs<val ys:=by
  have h1:=df xs hx
  have h2:pw (m-1)<=val ys:=by
   have e:=bz ys 0 (m-1) af;rw[dm,show m-1+1=ys.length by omega,dw] at e;have:=gH (pw (m-1)) (show 1<=ys.getD (m-1) 0 by omega);omega
  have h3:=mW (show xs.length<=m-1 by omega);omega
 have N:=hid (E8 xs ao n cap B w hn hc af hx hR hB);have HL:=(au hlt);have hlen:Hid ((ws (val xs)).length<=n):=by rw[<-fT xs hx,hn];exact nM xs
 clear hn hm hx hy htop hR hlt;go_enter Tryz.func281,Tryz.ntmps281;go_wp2_with fail;refine N.o.mono ?_;rintro r w1 ⟨rfl,hO,hb⟩;have HO:=(aT hO hb);clear hO hb N;go_wp2
 go_ret2
 obtain⟨hO,hb⟩:=HO.o;rw[iI HL.o,ja HL.o];refine⟨⟨_,_,rfl,Nt.nil _ _,?_,pV _⟩,hb⟩
 have T:=Nt.gJ (lo:=w.heap.size) hO (aB _) (fP _) (by
  have:(ws (val xs)).length<=35184372088833:=by
   have h:=hlen.o;omega
  unfold maxLen;omega)
 rw[aC,xL] at T;exact T
theorem div_one (xs ys:List Nat) (ao bo:Option Addr) (n cap bA B:Nat) (w:World) (hn:n=xs.length) (hm:1=ys.length) (hnm:1<=n) (hc:n<=cap) (hcb:1<=bA) (hbig:n<=35184372088833)
 (hx:Wf xs) (hy:Wf ys) (htop:ys.getD 0 0≠0) (hR:Rd B w ao xs) (hS:Rd B w bo ys) (hB:B<=w.heap.size) :
 Calls Tryz.prog 281 #[.slice ao n cap,.slice bo 1 bA] w fun r w'=>Two w.heap.size w' r (val xs/val ys) (val xs%val ys)/\Below w.heap.size w w':=by
 have N:=hid (E8 xs ao n cap B w hn hc af hx hR hB);have hlen:(ws (val xs)).length<=n:=by rw[<-fT xs hx,hn];exact nM xs
 obtain⟨b,fC,Nw,rfl,hbc⟩:=hS (by intro e;subst e;simp at hm);have hb0:=hbc 0 af;rw[gU] at hb0
 have hv:val ys=ys.getD 0 0:=by
  rw[<-dw ys,<-hm,show(1:Nat)=0+1 from rfl,bz ys 0 0 af,eX,jw];simp
 have hyl:=hy.get 0;obtain⟨y,QZ⟩:∃ y,ys.getD 0 0=y:=⟨_,rfl⟩;rw[QZ] at hb0 hv hyl htop;rw[hv];obtain⟨k,hk⟩:∃ k,(ws (val xs)).length=k:=⟨_,rfl⟩;rw[hk] at N hlen;obtain⟨X,hX⟩:∃ X,val xs=X:=⟨_,rfl⟩;rw[hX] at N hk |-;have HH:=(aT hk hX);clear hn hm hx hy hR hS hbc hv QZ hk hX;go_enter Tryz.func281,Tryz.ntmps281;go_wp2_with fail;refine N.o.mono ?_;rintro r w1 ⟨rfl,hO,hb⟩;have hb1:w1.cell? ⟨b,fC,none⟩=some (.int .u32 (y:Int)):=(hb.cell (p:=⟨b,fC,none⟩) (by exact gG Nw hB)).trans hb0;have C:=hid (Vk (ws X) w.heap.size 0 k k y w1 hO (by rw[HH.o.1];omega) (aB _) af (fP X) hyl af);have H1:=(au hb);clear hO hb N hb0;go_wp2_with fail;refine C.o.mono ?_;rintro r w2 ⟨M,c,rfl,hcy,hO2,hM,hout,hsum,aF⟩;have hl:M.length=k:=by rw[hout.1];exact HH.o.1
 have T:=hid (dK M (some ⟨w.heap.size,0,none⟩) k k (w.heap.size+1) w2 hl.symm (aB _) af (by simpa [hl,jc] using Rd.gJ hO2 0 k));have H2:=(rG hO2 hM hout hsum aF hl);clear hO2 hM hout hsum aF hl C hb1;go_wp2_with fail;refine T.o.mono ?_;rintro r w3 ⟨rfl,rfl⟩;have F:=hid (ni c w3 af);clear T;go_wp2_with fail;refine F.o.mono ?_;rintro r w4 ⟨vr,rfl,oz,hb4⟩;have H4:=(aT oz hb4);clear oz hb4 F;go_wp2
 go_ret2
 obtain⟨hO2,hM,hout,hsum,aF,hl⟩:=H2.o;obtain⟨oz,hb4⟩:=H4.o;have hb:=H1.o
 have hs2:X=val M*y+c:=by
  have e1:sg (ws X) 0 k=X:=by rw[<-HH.o.1,dw,aC]
  have e2:sg M 0 k=val M:=by rw[<-hl,dw]
  rw[e1,e2] at hsum;exact hsum
 have hq:X/y=val M:=by rw[hs2,lK,Nat.add_mul_div_right _ _ af,iI hcy,dm]
 have hr:X%y=c:=by rw[hs2,lK,Ca,ja hcy]
 rw[hq,hr];have hsz:w.heap.size<=w3.heap.size:=aV hb.size aF.size;have Q:=Nt.gJ (lo:=w.heap.size) hO2 (aB _) hM (by rw[hl];unfold maxLen;omega);rw[hl] at Q;refine⟨⟨_,_,rfl,Q.below hb4,oz.mono hsz,Fa (hi:=0) Q oz (aB _)⟩,?_⟩;exact(But.below hb aF hb.size (aB _)).trans (hb4.mono hsz)
theorem NA(X Y n m z:Nat)(hX:X<pw n)(hY:pw (m-1)*2^(31-z)<=Y)(hz:z<32)(hm:0<m)(hnm:m<=n):X*2^z<pw (n-m+1)*(Y*2^z):=by
 have h1:pw n=pw (n-m+1)*pw (m-1):=by rw[<-Ct];congr 1;omega
 have h2:pw n<=pw (n-m+1)*Y:=by
  have h3:pw (m-1)*1<=pw (m-1)*2^(31-z):=gH _ (bK _);rw[h1];exact gH _ af
 have h3:X*2^z<pw (n-m+1)*Y*2^z:=jV af (bK z);rw[dH] at h3;exact h3
theorem Jh(ys:List Nat)(m:Nat)(hm:m=ys.length)(hy:Wf ys)(hm0:0<m)(htop:ys.getD (m-1) 0≠0) :
 ∃ z,z=32-bl (ys.getD (m-1) 0)/\z<32/\val ys≠0/\pw (m-1)*2^(31-z)<=val ys/\val ys<pw (m-1)*2^(32-z):=by
 have hl:=hy.get (m-1);have h1:=Cv _ hl;have h2:=fH _ htop;have h3:=iM _ htop;have h4:=iF (ys.getD (m-1) 0);have e:=bz ys 0 (m-1) af;rw[dm,show m-1+1=ys.length by omega,dw] at e;have h5:=nN ys 0 (m-1) hy af;generalize ys.getD (m-1) 0=t at *;have hp:=jy (m-1);have h6:pw (m-1)*2^(bl t-1)<=pw (m-1)*t:=gH _ h3;have h7:pw (m-1)*(t+1)<=pw (m-1)*2^bl t:=gH _ h4;rw[rJ,gI] at h7;have h8:pw (m-1)*1<=pw (m-1)*t:=gH _ af;refine⟨32-bl t,rfl,af,af,?_,?_⟩
 · rw[show 31-(32-bl t)=bl t-1 by omega];omega
 · rw[show 32-(32-bl t)=bl t by omega];omega
theorem Q3 (xs ys:List Nat) (ao bo:Option Addr) (n cap m bA B:Nat) (w:World) (hn:n=xs.length) (hm:m=ys.length) (hm2:2<=m) (hnm:m<=n) (hc:n<=cap) (hcb:m<=bA) (hbig:n<=35184372088833)
 (hx:Wf xs) (hy:Wf ys) (htop:ys.getD (m-1) 0≠0) (hR:Rd B w ao xs) (hS:Rd B w bo ys) (hB:B<=w.heap.size) :
 Calls Tryz.prog 281 #[.slice ao n cap,.slice bo m bA] w fun r w'=>Two w.heap.size w' r (val xs/val ys) (val xs%val ys)/\Below w.heap.size w w':=by
 obtain⟨z,hz,hz32,hY0,hY1,hY2⟩:=Jh ys m hm hy af htop;obtain⟨La,xR,Q4⟩:=Vo (val ys) m z hY0 hY1 hY2 hz32 af;obtain⟨b,fC,Nw,rfl,hbc⟩:=hS (by intro e;subst e;simp at hm;omega);have hbt:=hbc (m-1) af;have htl:=hy.get (m-1);have L0:=Je (ys.getD (m-1) 0) w htl;rw[<-hz] at L0;have U1:=hid (Jf ys (some ⟨b,fC,none⟩) m bA B z 0 z w hm hcb af hz32 af hy hS hB);obtain⟨t,ht⟩:∃ t,ys.getD (m-1) 0=t:=⟨_,rfl⟩;rw[ht] at hbt L0 htl;have L1:=hid L0;obtain⟨V,hV⟩:∃ V,val ys*2^z=V:=⟨_,rfl⟩;rw[hV] at La xR Q4 U1
 have hX2:val xs*2^z<pw (n+1):=by
  have h1:=df xs hx;rw[<-hn] at h1;have h2:=qM z hz32;have h3:val xs*2^z<=pw n*2147483648:=mo af h2;have h4:pw n*2147483648<pw (n+1):=by rw[bI,bR];exact jV aA (jy n)
  omega
 have U9:=(cO _ _).2 hX2;have hst:=NA (val xs) (val ys) n m z (by rw[hn];exact df xs hx) hY1 hz32 af hnm;rw[hV] at hst;have HST:=(au hst);have HH:=(qs12 hn hm hx hy hR hS La xR Q4 hV hY0 U9);clear hst;clear L0 hn hm hx hy htop hR hS hz hY0 hY1 hY2 La xR Q4 hV hX2 U9 hbc ht;have hm1:(1:Int)<=(m:Int):=af
 have hmne:((m:Int)==1)=false:=by simp;omega
 go_enter Tryz.func281,Tryz.ntmps281;go_wp2_with fail;refine L1.o.mono ?_;rintro r w0 ⟨rfl,rfl⟩;go_wp2_with fail;refine U1.o.mono ?_;rintro r w1 ⟨vv,rfl,hN1,hb1⟩;obtain⟨hn,hm,hx,hy,hR,hS,La,xR,Q4,hV,hY0,U9⟩:=HH.o;obtain⟨av,cv,rfl,hcv,hcm,hRv⟩:=hN1.shape;rw[La] at *;obtain⟨gu,hgu⟩:=ah (w1.heap.size);obtain⟨W2,hW2⟩:=ah (w1.alloc (.cells (madeCells #[.int .u32 0] (n+1)) 138));have hO2:Own W2 gu (List.replicate (n+1) 0):=by rw[hW2,hgu];exact Own.made w1 _
 have hB2:Below gu w1 W2:=by rw[hW2,hgu];exact(aG _ _).alloc (aB _) _
 have hmk:=dW ((n:Int)+1) (n+1) af af w1;rw[<-hW2,<-hgu] at hmk;have hs1:=hb1.size;have hs2:=hB2.size;have hg2:=hO2.lt;have U2:=hid (Jf xs ao n cap B z 0 z W2 hn hc af hz32 af hx ((hR.below (hb1.mono hB)).below (hB2.mono af)) af);have H1:=(EF hN1 hb1 hRv hO2 hB2 hgu hg2);clear hn hm hx hy hR hS La xR Q4 hV hY0 U9 hN1 hb1 hRv hO2 hB2 hW2 hs1 hs2 L1 U1 hbt hg2 hgu;go_wp2_with fail;refine U2.o.mono ?_;rintro r W3 ⟨va,rfl,nO,hb3⟩;obtain⟨aa,ca,rfl,hca,hcam,hRa⟩:=nO.shape;obtain⟨hn,hm,hx,hy,hR,hS,La,xR,Q4,hV,hY0,U9⟩:=HH.o;obtain⟨hN1,hb1,hRv,hO2,hB2,NC,hg2⟩:=H1.o;obtain⟨W4,hcp,hO4,hb4⟩:=jI W3 gu (n+1) (n+1) aa (ws (val xs*2^z)).length ca W3.heap.size 3 (List.replicate (n+1) 0) (ws (val xs*2^z)) (hO2.below hb3 hg2) aL rfl hRa U9;obtain⟨gq,vD⟩:=ah (W4.heap.size);obtain⟨W5,Ji⟩:=ah (W4.alloc (.cells (madeCells #[.int .u32 0] (n-m+1)) 138));have hO5:Own W5 gq (List.replicate (n-m+1) 0):=by rw[Ji,vD];exact Own.made W4 _
 have hmk5:=dW ((n:Int)-m+1) (n-m+1) af af W4;rw[<-Ji,<-vD] at hmk5;obtain⟨L,hL⟩:=ah (ws (val xs*2^z)++(List.replicate (n+1) 0).drop (ws (val xs*2^z)).length);rw[<-hL] at hO4;have Jg:L.length=n+1:=by rw[hL,kv,jE,Cb];omega
 have Fg:Wf L:=by rw[hL,xn];exact(fP _).append (Wf.zeros _)
 have hLv:val L=val xs*2^z:=by rw[hL,val_append,aC,xn,kK];simp
 have hs3:=hb3.size;have hs4:=hb4.size;have Q5:gu<gq:=by rw[vD];have:=hO4.lt;omega
 have Q6:Below gu w1 W5:=by
  rw[Ji];have a1:Below gu w1 W3:=hB2.trans (hb3.mono af);have a2:Below gu w1 W4:=But.below a1 hb4 af (aB _);exact a2.alloc af _
 have Q7:Own W5 gu L:=by rw[Ji];exact hO4.alloc _
 have H2:=(EF hO5 Q7 Jg Fg hLv Q5 Q6);have hgq1:gu<gq:=Q5;clear hn hm hx hy hR hS La xR Q4 hV hY0 U9 hN1 hb1 hRv hO2 hB2 NC hg2 nO hb3 hRa hO4 hb4 vD Ji hO5 hL Jg Fg hLv hs3 hs4 Q6 Q7 U2 Q5 hca hcam;have hca2:m<=cv:=af
 have e5:((n-m:Nat):Int)=(n:Int)-m:=af
 go_wp2
 go_loopg [10] (n-m+1) (fun k i wr=>∃ (M Q:List Nat),k<=n-m+1/\i=.int .i64 ((k:Int)-1)/\Hid (Own wr gu M)/\Hid (Own wr gq Q) /\
  Aside (Wf M/\Wf Q/\M.length=n+1/\Q.length=n-m+1/\val L=pw k*sg Q k (n-m+1-k)*V+val M/\val M<pw k*V/\Below gu w1 wr))
 case atStart =>
  obtain⟨hO5,Q7,Jg,Fg,hLv,Q5,Q6⟩:=H2.o;refine⟨L,List.replicate (n-m+1) 0,aB _,?_,Q7,hO5,Fg,Wf.zeros _,Jg,aL,?_,?_,Q6⟩
  · first | rfl | (congr 1;omega)
  · rw[wZ,eX];simp
  · rw[hLv];exact HST.o
 case round =>
  obtain⟨M,Q,hk,rfl,HM,HQ,HA⟩:=hrel
  by_cases hk0:gk=0
  · subst hk0;obtain⟨bD,Zh,dG,Q8,hinv,Cw,hbel⟩:=HA.o;have T1:=hid (dK Q (some ⟨gq,0,none⟩) (n-m+1) (n-m+1) (gq+1) wr Q8.symm (aB _) af (by simpa [Q8,jc] using Rd.gJ HQ.o 0 (n-m+1)));have T2:=hid (dK M (some ⟨gu,0,none⟩) (n+1) (n+1) (gu+1) wr dG.symm (aB _) af (by simpa [dG,jc] using Rd.gJ HM.o 0 (n+1)));have hnlM:=nM M
    have hRM:Rd (gu+1) wr (some ⟨gu,0,none⟩) (M.take (nl M)):=by
     have:=Rd.gJ HM.o 0 (nl M);simpa using this
    have D:=hid (Fe (M.take (nl M)) (some ⟨gu,0,none⟩) (nl M) (n+1) (gu+1) z 0 z wr (by rw[gm,iy hnlM]) af af hz32 af af (bD.take _) hRM (by have:=HM.o.lt;omega));rw[oh M bD] at D;clear bD Zh dG Q8 hinv Cw hbel hnlM hRM;go_wp2_with fail;refine T1.o.mono ?_;rintro r wt1 ⟨rfl,rfl⟩;go_wp2_with fail;refine T2.o.mono ?_;rintro r wt2 ⟨rfl,rfl⟩;go_wp2_with fail;refine D.o.mono ?_;rintro r wd ⟨vr,rfl,hNr,hbr⟩;have HD:=(aT hNr hbr);clear hNr hbr T1 T2 D;go_wp2
    go_ret2
    obtain⟨hNr,hbr⟩:=HD.o;obtain⟨hn,hm,hx,hy,hR,hS,La,xR,Q4,hV,hY0,U9⟩:=HH.o;obtain⟨hN1,hb1,hRv,hO2,hB2,NC,hg2⟩:=H1.o;obtain⟨hO5,Q7,Jg,Fg,hLv,Q5,Q6⟩:=H2.o;obtain⟨bD,Zh,dG,Q8,hinv,Cw,hbel⟩:=HA.o;rw[jw,jF] at Cw hinv;rw[Nat.sub_zero,<-Q8,dw,hLv,<-hV] at hinv;rw[<-hV] at Cw;obtain⟨hq,hr⟩:=Vp (val xs) (val ys) (2^z) (val Q) (val M) (bK z) hinv Cw;rw[<-hq,<-hr];have hsz:w0.heap.size<=gu:=by rw[NC];exact hb1.size
    have NQ:=Nt.gJ (lo:=w0.heap.size) HQ.o af Zh (by rw[Q8];unfold maxLen;omega);rw[Q8] at NQ;have hwr:gu<=wt2.heap.size:=by have:=HM.o.lt;omega
    refine⟨⟨_,_,rfl,NQ.below hbr,hNr.mono af,Fa (hi:=0) NQ hNr (aB _)⟩,?_⟩;exact((hb1.trans (hbel.mono hsz))).trans (hbr.mono af)
  · obtain⟨i,rfl⟩:∃ i,gk=i+1:=⟨gk-1,af⟩;obtain⟨hn,hm,hx,hy,hR,hS,La,xR,Q4,hV,hY0,U9⟩:=HH.o;obtain⟨hN1,hb1,hRv,hO2,hB2,NC,hg2⟩:=H1.o;obtain⟨bD,Zh,dG,Q8,hinv,Cw,hbel⟩:=HA.o;obtain⟨k,hk2⟩:∃ k,m=k+2:=⟨m-2,af⟩;obtain⟨hz0,hhead⟩:=QY M i m V bD af xR Cw
    have T:=hid (EY M (ws V) gu i (n+1-i) av m cv gu wr k hk2 HM.o af af af af bD (fP V) ((NC ▸ hRv).below hbel) (aB _)
     (by rw[show k+1=m-1 by omega];exact Q4) (by rw[show k+3=m+1 by omega,aC];exact hhead))
    have hik:(i:Int)<(n:Int)-m+1:=af
    have HI:=(aT hz0 hk2);clear hn hm hx hy hR hS La xR Q4 hV hY0 U9 hN1 hb1 hRv hO2 hB2 NC hg2 bD Zh dG Q8 hinv Cw hbel hz0 hhead hk2 hk0;go_wp2_with fail;rw[show i+m+1-i=m+1 by omega];refine T.o.mono ?_;rintro r w2 ⟨o,M2,rfl,ho,Vq,Vr,hout,hsum,hlt2,aF⟩;have Va:=HQ.o.but aF af;have hqc:=Va.cell i (by rw[HA.o.r3.1];omega);have hqf:=Va.frozen i;have HJ:=(EG ho Vq Vr hout hsum hlt2 aF Va);clear ho Vq Vr hout hsum hlt2 aF Va T;go_wp2;go_roundg i
    case measure=>omega
    case rel =>
     obtain⟨ho,Vq,Vr,hout,hsum,hlt2,aF,Va⟩:=HJ.o;obtain⟨bD,Zh,dG,Q8,hinv,Cw,hbel⟩:=HA.o;obtain⟨hz0,hk2⟩:=HI.o;rw[aC] at hsum hlt2;have hQr:i+1+(n-m+1-(i+1))=Q.length:=af
     obtain⟨hX,hlt3⟩:=QX M M2 Q i m (n-m+1-(i+1)) V o (val L) bD af hout hinv hz0 hQr hsum hlt2;refine⟨M2,Q.set i o,af,by first | go_num | (congr 1;omega),Vq.setOther (by simp;omega) _,Va.set i o,Vr,Zh.set _ _ ho,by rw[hout.1,dG],by simp[Q8],?_,hlt3,(But.below hbel aF (by have:=HM.o.lt;omega) (aB _)).setCell (by simp;omega) _⟩;rw[show n-m+1-i=n-m+1-(i+1)+1 by omega];exact hX
theorem Aq(xs:List Nat):sg (xs++[0]) 0 xs.length=val xs:=by simp[sg]
theorem Fh{xs:List Nat}(h:Wf xs):Wf (xs++[0]):=h.append (by intro x hx;simp at hx;omega)
theorem xS(n:Nat):(List.replicate (n+1) 0).drop n=[0]:=by rw[xn,Nat.add_sub_cancel_left];rfl
theorem Qac{P:Prop}(h:P:=by
 have e:val (M.set n c)=sg (M.set n c) 0 (n+1):=by rw[<-dw];simp[hl]
 have e2:=bF M 0 n c af;rw[dm] at e2;rw[e,e2];rw[hn,Aq,<-hn] at hsum;rw[bR c] at hsum;exact hsum):P:=h
theorem Zi (xs ys:List Nat) (ao bo:Option Addr) (n cap m bA B:Nat) (w:World) (hn:n=xs.length) (hm:m=ys.length) (hnm:m<=n) (hc:n<=cap) (hcb:m<=bA) (hbig:n<=35184372088833)
 (hx:Wf xs) (hy:Wf ys) (hR:Rd B w ao xs) (hS:Rd B w bo ys) (hB:B<=w.heap.size) :
 Calls Tryz.prog 272 #[.slice ao n cap,.slice bo m bA] w fun r w'=>∃ v,r=.returned v/\Nt w.heap.size w' v (val xs+val ys)/\Below w.heap.size w w':=by
 obtain⟨W1,hW1⟩:=ah (w.alloc (.cells (madeCells #[.int .u32 0] (n+1)) 138));have vC:Own W1 w.heap.size (List.replicate (n+1) 0):=by rw[hW1];exact Own.made w (n+1)
 have hB1:Below w.heap.size w W1:=by rw[hW1];exact(aG _ _).alloc (aB _) _
 obtain⟨W2,hcp,hO2,hb2⟩:=jI W1 w.heap.size (n+1) (n+1) ao n cap B 3 (List.replicate (n+1) 0) xs vC aL hn (hR.below (hB1.mono hB)) af;rw[xS] at hO2;have hB2:Below w.heap.size w W2:=But.below hB1 hb2 hB1.size (aB _);have H:=hid (tQ (xs++[0]) ys w.heap.size 0 n (n+1) bo m bA B W2 hO2 (by simp;omega) hm af af af (Fh hx) hy (hS.below (hB2.mono hB)) hB);have hmk:=dW ((n:Int)+1) (n+1) af af w;rw[<-hW1] at hmk;have HH:=(iq hn hm hx hB2 hB);clear hn hm hx hy hR hS vC hB1 hO2 hb2 hB2 hB hW1;go_enter Tryz.func272,Tryz.ntmps272;go_wp2_with fail;refine H.o.mono ?_;rintro r W3 ⟨M,c,rfl,hc1,hO3,hM,hout,hsum,aF⟩;obtain⟨hn,hm,hx,hB2,hB⟩:=HH.o;have hl:M.length=n+1:=by rw[hout.1];simp;omega
 have hcl:=hO3.cell n af;have hfr:=hO3.frozen n;have hO4:=hO3.set n c;have T:=hid (dK (M.set n c) (some ⟨w.heap.size,0,none⟩) (n+1) (n+1) (w.heap.size+1) _ (by simp[hl]) (aB _) af (by simpa [hl,jc] using Rd.gJ hO4 0 (n+1)));have HI:=(rG hc1 hO4 hM hsum aF hl);clear hn hm hx hB2 hB hc1 hO3 hM hout hsum aF hO4 H hl;go_wp2_with fail;refine T.o.mono ?_;rintro r w1 ⟨rfl,rfl⟩;go_wp2;go_ret;obtain⟨hn,hm,hx,hB2,hB⟩:=HH.o;obtain⟨hc1,hO4,hM,hsum,aF,hl⟩:=HI.o
 have hv:val (M.set n c)=val xs+val ys:=by
  exact Qac
 refine⟨_,rfl,?_,But.below hB2 (aF.set n _) hB2.size (aB _)⟩;have N:=Nt.gJ (lo:=w.heap.size) hO4 (aB _) (hM.set _ _ af) (by simp[hl];unfold maxLen;omega);rw[hv] at N;simpa [hl] using N
theorem add_lt (xs ys:List Nat) (ao bo:Option Addr) (n cap m bA B:Nat) (w:World) (hn:n=xs.length) (hm:m=ys.length) (hnm:m<n) (hc:n<=cap) (hcb:m<=bA) (hbig:n<=35184372088833)
 (hx:Wf xs) (hy:Wf ys) (hR:Rd B w ao xs) (hS:Rd B w bo ys) (hB:B<=w.heap.size) :
 Calls Tryz.prog 272 #[.slice bo m bA,.slice ao n cap] w fun r w'=>∃ v,r=.returned v/\Nt w.heap.size w' v (val xs+val ys)/\Below w.heap.size w w':=by
 obtain⟨W1,hW1⟩:=ah (w.alloc (.cells (madeCells #[.int .u32 0] (n+1)) 138));have vC:Own W1 w.heap.size (List.replicate (n+1) 0):=by rw[hW1];exact Own.made w (n+1)
 have hB1:Below w.heap.size w W1:=by rw[hW1];exact(aG _ _).alloc (aB _) _
 obtain⟨W2,hcp,hO2,hb2⟩:=jI W1 w.heap.size (n+1) (n+1) ao n cap B 3 (List.replicate (n+1) 0) xs vC aL hn (hR.below (hB1.mono hB)) af;rw[xS] at hO2;have hB2:Below w.heap.size w W2:=But.below hB1 hb2 hB1.size (aB _);have H:=hid (tQ (xs++[0]) ys w.heap.size 0 n (n+1) bo m bA B W2 hO2 (by simp;omega) hm af af af (Fh hx) hy (hS.below (hB2.mono hB)) hB);have hmk:=dW ((n:Int)+1) (n+1) af af w;rw[<-hW1] at hmk;have HH:=(iq hn hm hx hB2 hB);clear hn hm hx hy hR hS vC hB1 hO2 hb2 hB2 hB hW1;go_enter Tryz.func272,Tryz.ntmps272;go_wp2_with fail;refine H.o.mono ?_;rintro r W3 ⟨M,c,rfl,hc1,hO3,hM,hout,hsum,aF⟩;obtain⟨hn,hm,hx,hB2,hB⟩:=HH.o;have hl:M.length=n+1:=by rw[hout.1];simp;omega
 have hcl:=hO3.cell n af;have hfr:=hO3.frozen n;have hO4:=hO3.set n c;have T:=hid (dK (M.set n c) (some ⟨w.heap.size,0,none⟩) (n+1) (n+1) (w.heap.size+1) _ (by simp[hl]) (aB _) af (by simpa [hl,jc] using Rd.gJ hO4 0 (n+1)));have HI:=(rG hc1 hO4 hM hsum aF hl);clear hn hm hx hB2 hB hc1 hO3 hM hout hsum aF hO4 H hl;go_wp2_with fail;refine T.o.mono ?_;rintro r w1 ⟨rfl,rfl⟩;go_wp2;go_ret;obtain⟨hn,hm,hx,hB2,hB⟩:=HH.o;obtain⟨hc1,hO4,hM,hsum,aF,hl⟩:=HI.o
 have hv:val (M.set n c)=val xs+val ys:=by
  exact Qac
 refine⟨_,rfl,?_,But.below hB2 (aF.set n _) hB2.size (aB _)⟩;have N:=Nt.gJ (lo:=w.heap.size) hO4 (aB _) (hM.set _ _ af) (by simp[hl];unfold maxLen;omega);rw[hv] at N;simpa [hl] using N
theorem Vs (xs ys:List Nat) (ao bo:Option Addr) (n cap m bA B:Nat) (w:World) (hn:n=xs.length) (hm:m=ys.length) (hc:n<=cap) (hcb:m<=bA) (hbig:n<=35184372088833) (hbig2:m<=35184372088833)
 (hx:Wf xs) (hy:Wf ys) (hR:Rd B w ao xs) (hS:Rd B w bo ys) (hB:B<=w.heap.size) :
 Calls Tryz.prog 272 #[.slice ao n cap,.slice bo m bA] w fun r w'=>∃ v,r=.returned v/\Nt w.heap.size w' v (val xs+val ys)/\Below w.heap.size w w':=by
 by_cases h:m<=n
 · exact Zi xs ys ao bo n cap m bA B w hn hm h hc hcb hbig hx hy hR hS hB
 · have:=add_lt ys xs bo ao m bA n cap B w hm hn af hcb hc hbig2 hy hx hS hR hB;rw[lK] at this;exact this
theorem Vt (xs ys:List Nat) (ao bo:Option Addr) (n cap m bA B:Nat) (w:World) (hn:n=xs.length) (hm:m=ys.length) (hm0:0<m) (hc:n<=cap) (hcb:m<=bA) (hbig:n<=35184372088833)
 (hx:Wf xs) (hy:Wf ys) (htop:ys.getD (m-1) 0≠0) (hR:Rd B w ao xs) (hS:Rd B w bo ys) (hB:B<=w.heap.size) :
 Calls Tryz.prog 281 #[.slice ao n cap,.slice bo m bA] w fun r w'=>Two w.heap.size w' r (val xs/val ys) (val xs%val ys)/\Below w.heap.size w w':=by
 by_cases h1:n<m
 · exact Q0 xs ys ao bo n cap m bA B w hn hm h1 hc hbig hx hy htop hR hB
 · by_cases h2:m=1
   · subst h2;exact div_one xs ys ao bo n cap bA B w hn hm af hc hcb hbig hx hy htop hR hS hB
   · exact Q3 xs ys ao bo n cap m bA B w hn hm af af hc hcb hbig hx hy htop hR hS hB
theorem Zj(X:Nat)(h:X≠0):(ws X).getD ((ws X).length-1) 0≠0:=by
 have h1:nl (ws X)≠0:=by rw[xL];intro e;exact h ((dA X).1 e)
 have:=Cu (ws X) h1;rwa [xL] at this
theorem Fj{X Y:Nat}(h:X<=Y):(ws X).length<=(ws Y).length:=(cO X _).2 (iC h (tL Y))
theorem Cx:ws 1=[1]:=by rw[mX 1 af,show 1/4294967296=0 from rfl,bB]
theorem Vu (xs bs:List Nat) (ao bo:Option Addr) (n cap m bA B:Nat) (w:World) (hn:n=xs.length) (hm:m=bs.length) (Jd:m<=n) (hc:n<=cap) (hcb:m<=bA) (hbig:n<=35184372088833)
 (hx:Wf xs) (hb:Wf bs) (hle:val bs<=val xs) (hR0:Rd B w ao xs) (hS:Rd B w bo bs) (hB:B<=w.heap.size) :
 Calls Tryz.prog 274 #[.slice ao n cap,.slice bo m bA] w fun r w'=>∃ v,r=.returned v/\Nt w.heap.size w' v (val xs-val bs)/\Below w.heap.size w w':=by
 obtain⟨W1,hW1⟩:=ah (w.alloc (.cells (madeCells #[.int .u32 0] n) 138));have vC:Own W1 w.heap.size (List.replicate n 0):=by rw[hW1];exact Own.made w n
 have hB1:Below w.heap.size w W1:=by rw[hW1];exact(aG _ _).alloc (aB _) _
 obtain⟨W2,hcp,hO2,hb2⟩:=jI W1 w.heap.size n n ao n cap B 3 (List.replicate n 0) xs vC aL hn (hR0.below (hB1.mono hB)) af;rw[xz aL,qB] at hO2;have hB2:Below w.heap.size w W2:=But.below hB1 hb2 hB1.size (aB _);have hmk:=dW (n:Int) n rfl af w;rw[<-hW1] at hmk;have hR:Rd B W2 bo bs:=hS.below (hB2.mono hB);obtain⟨g,hg⟩:=ah (w.heap.size);rw[<-hg] at hO2 hcp hmk hB2 hB;have HR:=(EG hR hm hb hx hn hle hB2 hg);have HO:=hid hO2;have EX:Hid (∀ x y c s d w,_->_->_->_->_->_):=Ai;clear hn hm hx hb hR0 hS vC hB1 hO2 hb2 hB2 hW1 hle hR hg;go_enter Tryz.func274,Tryz.ntmps274;go_wp2
 go_loopg [6,18] m (fun gk c i wr=>∃ (k cv:Nat) (M:List Nat),gk+k=m/\c=.int .u32 (cv:Nat)/\cv<=1/\i=.int .i64 (k:Nat) /\
  Hid (Own wr g M)/\Aside (Wf M/\Out xs M 0 k/\sg M 0 k+sg bs 0 k=sg xs 0 k+cv*pw k/\But g W2 wr))
 case atStart=>exact⟨0,0,xs,af,rfl,af,rfl,HO,HR.o.r3.1,Out.refl _ _ _,by simp[eX],But.refl _ _⟩
 case round =>
  obtain⟨k,cv,M,iL,rfl,hcv,rfl,HM,HA⟩:=hrel
  by_cases hk:k<m
  · obtain⟨hR,hm,hb,hx,hn,hle,hB2,hg⟩:=HR.o;obtain⟨bD,fE,hMs,aF⟩:=HA.o;obtain⟨b,fC,Nw,rfl,hbc⟩:=hR (by intro e;subst e;simp at hm;omega)
    have hbk:wr.cell? ⟨b,fC+k,none⟩=some (.int .u32 ((bs.getD k 0:Nat):Int)):=by
     have h1:=aF.block b (iH W2 ⟨b,fC+k,none⟩ (hbc k af)) af;exact j9
    have hgc:=HM.o.cell k (by rw[fE.1];omega);have hgf:=HM.o.frozen k;obtain⟨x,jl⟩:∃ x:Nat,M.getD k 0=x:=⟨_,rfl⟩;obtain⟨y,hy⟩:∃ y:Nat,bs.getD k 0=y:=⟨_,rfl⟩;have hxl:x<4294967296:=jl ▸ bD.get _;have hyl:y<4294967296:=hy ▸ hb.get _;rw[jl] at hgc;rw[hy] at hbk;obtain⟨s,hs⟩:∃ s:Nat,(s:Int)=((x:Int)-y-cv)%4294967296:=⟨(((x:Int)-y-cv)%4294967296).toNat,af⟩;obtain⟨d,hd⟩:∃ d:Nat,d=if x<y+cv then 1 else 0:=⟨_,rfl⟩
    have HX:=(mh jl hy hs hd);clear jl hy hs hd hR hm hb hx hn hle hB2 hg bD fE hMs aF hbc;go_wp2_with fail;refine(EX.o x y cv s d _ hxl hyl hcv HX.o.r2.1 HX.o.r3).mono ?_;rintro r w1 ⟨rfl,rfl⟩;go_wp2;go_roundg (gk-1)
    case measure=>omega
    case rel =>
     obtain⟨jl,hy,hs,hd⟩:=HX.o;obtain⟨hR,hm,hb,hx,hn,hle,hB2,hg⟩:=HR.o;obtain⟨bD,fE,hMs,aF⟩:=HA.o;have hd1:d<=1:=by rw[hd];split <;> omega
     have hsum:s+y+cv=x+d*4294967296:=by rw[hd];split <;> omega
     refine⟨k+1,d,M.set k s,af,rfl,hd1,by go_num,HM.o.set _ _,bD.set _ _ af,(fE.mono af).set _ _ af af,?_,aF.set _ _⟩;have e1:=bF M 0 k s (by rw[fE.1];omega);rw[dm] at e1;rw[e1,bz xs 0 k af,bz bs 0 k af,dm,hy,bI];have e:xs.getD k 0=x:=by rw[<-jl];exact(fE.2 _ af).symm
     rw[e];exact vw _ _ _ _ _ _ _ _ _ hMs hsum
  · obtain rfl:k=m:=af
    have HA2:Aside (Wf M/\Out xs M 0 k/\sg M 0 k+val bs=sg xs 0 k+cv*pw k/\But g W2 wr):=by
     obtain⟨hR,hm,hb,hx,hn,hle,hB2,hg⟩:=HR.o;obtain⟨bD,fE,hMs,aF⟩:=HA.o;refine⟨bD,fE,?_,aF⟩;rw[<-hMs,hm,dw]
    clear HA iL HO hk;go_wp2
    go_loopg [6,9] (n-k+1) (fun g2 c i w2=>∃ (j cv:Nat) (M:List Nat),g2+j=n+1/\k<=j/\j<=n/\c=.int .u32 (cv:Nat)/\cv<=1/\i=.int .i64 (j:Nat) /\
     Hid (Own w2 g M)/\Aside (Wf M/\Out xs M 0 j/\sg M 0 j+val bs=sg xs 0 j+cv*pw j/\But g W2 w2))
    case atStart=>exact⟨k,cv,M,af,aB _,Jd,rfl,hcv,rfl,HM,HA2.o⟩
    case round =>
     clear HM HA2 hcv;obtain⟨j,cv,M,hgj,hkj,hjn,rfl,hcv,rfl,HM,HA⟩:=hrel
     by_cases h0:cv=0
     · subst h0;obtain⟨hR,hm,hb,hx,hn,hle,hB2,hg⟩:=HR.o;obtain⟨bD,fE,hMs,aF⟩:=HA.o;have hl:M.length=n:=by rw[fE.1,hn]
       have T:=hid (dK M (some ⟨g,0,none⟩) n n (g+1) wr hl.symm (aB _) af (by simpa [hl,jc] using Rd.gJ HM.o 0 n));clear hR hm hb hx hn hle hB2 hg bD fE hMs aF;go_wp2_with fail;refine T.o.mono ?_;rintro r w1 ⟨rfl,rfl⟩;go_wp2;go_ret;obtain⟨hR,hm,hb,hx,hn,hle,hB2,hg⟩:=HR.o;obtain⟨bD,fE,hMs,aF⟩:=HA.o;rw[gT,gU] at hMs;have hv:=Np (n:=n) hjn af fE hMs;have e1:sg M 0 n=val M:=by rw[<-hl];exact dw M
       have e2:sg xs 0 n=val xs:=by rw[hn];exact dw xs
       rw[e1,e2] at hv;refine⟨_,rfl,?_,?_⟩
       · have N:=Nt.gJ (lo:=g) HM.o (aB _) bD (by rw[hl];unfold maxLen;omega);rw[show val xs-val bs=val M by omega,<-hg];rw[hl] at N;exact N
       · rw[<-hg];exact But.below hB2 aF (by have:=hB2.size;omega) (aB _)
     · obtain rfl:cv=1:=af
       obtain⟨hR,hm,hb,hx,hn,hle,hB2,hg⟩:=HR.o;obtain⟨bD,fE,hMs,aF⟩:=HA.o
       have hj:j<n:=by
        by_cases hj:j=n
        · exfalso;subst hj;have h1:=nN M 0 j bD (by rw[fE.1];omega);have e2:sg xs 0 j=val xs:=by rw[hn];exact dw xs
          omega
        · omega
       have hgc:=HM.o.cell j (by rw[fE.1];omega);have hgf:=HM.o.frozen j;obtain⟨x,jl⟩:∃ x:Nat,M.getD j 0=x:=⟨_,rfl⟩;have hxl:x<4294967296:=jl ▸ bD.get _;rw[jl] at hgc;obtain⟨s,hs⟩:∃ s:Nat,(s:Int)=((x:Int)-(0:Nat)-(1:Nat))%4294967296:=⟨(((x:Int)-(0:Nat)-(1:Nat))%4294967296).toNat,af⟩;obtain⟨d,hd⟩:∃ d:Nat,d=if x<0+1 then 1 else 0:=⟨_,rfl⟩
       have HX:=(bM jl hs hd);clear jl hs hd hR hm hb hx hn hle hB2 hg bD fE hMs aF h0;go_wp2_with fail;refine(EX.o x 0 1 s d _ hxl af af HX.o.2.1 HX.o.r2).mono ?_;rintro r w1 ⟨rfl,rfl⟩;go_wp2;go_roundg (gk-1)
       case measure=>omega
       case rel =>
        obtain⟨jl,hs,hd⟩:=HX.o;obtain⟨hR,hm,hb,hx,hn,hle,hB2,hg⟩:=HR.o;obtain⟨bD,fE,hMs,aF⟩:=HA.o;have hd1:d<=1:=by rw[hd];split <;> omega
        have hsum:s+0+1=x+d*4294967296:=by rw[hd];split <;> omega
        refine⟨j+1,d,M.set j s,af,af,af,rfl,hd1,by go_num,HM.o.set _ _,bD.set _ _ af,(fE.mono af).set _ _ af af,?_,aF.set _ _⟩;have e1:=bF M 0 j s (by rw[fE.1];omega);rw[dm] at e1;rw[e1,bz xs 0 j af,dm,bI];have e:xs.getD j 0=x:=by rw[<-jl];exact(fE.2 _ af).symm
        rw[e];have:=vw (pw j) _ _ _ _ x 0 s d hMs hsum;omega
theorem Cy (L bs:List Nat) (g off n cap:Nat) (ao:Option Addr) (m bA B q:Nat) (w:World)
 (hO:Own w g L) (hoff:off+n<=L.length) (hm:m=bs.length) (Jd:m<=n) (hcap:n<=cap) (hbig:n<=4611686018427387904) (hL:Wf L) (hb:Wf bs) (hR:Rd B w ao bs) (hB:B<=g) (hq:q<4294967296) :
 Calls Tryz.prog 293 #[.slice (some ⟨g,off,none⟩) n cap,.slice ao m bA,.int .u32 (q:Nat)] w fun r w' =>
  ∃ M c,r=.returned (.int .u32 (c:Nat))/\c<4294967296/\Own w' g M/\Wf M/\Out L M off m/\sg M off m+c*pw m=sg L off m+val bs*q/\But g w w':=by
 have HR:Aside (Rd B w ao bs/\m=bs.length/\Wf bs/\Wf L/\off+n<=L.length):=⟨hR,hm,hb,hL,hoff⟩;have HO:Hid (Own w g L):=hO;clear hR hm hb hL hO hoff;go_enter Tryz.func293,Tryz.ntmps293;go_wp2
 go_loopg [7,13] m (fun gk c i wr=>∃ (k cv:Nat) (M:List Nat),gk+k=m/\c=.int .u64 (cv:Nat)/\cv<4294967296/\i=.int .i64 (k:Nat) /\
  Hid (Own wr g M)/\Aside (Wf M/\Out L M off k/\sg M off k+cv*pw k=sg L off k+sg bs 0 k*q/\But g w wr))
 case atStart=>exact⟨0,0,L,af,rfl,af,rfl,HO,HR.o.r3.1,Out.refl _ _ _,by simp[eX],But.refl _ _⟩
 case round =>
  obtain⟨k,cv,M,iL,rfl,hcv,rfl,HM,HA⟩:=hrel
  by_cases hk:k<m
  · obtain⟨hR,hm,hb,hL,hoff⟩:=HR.o;obtain⟨bD,fE,hMs,aF⟩:=HA.o;obtain⟨b,fC,Nw,rfl,hbc⟩:=hR (by intro e;subst e;simp at hm;omega)
    have hbk:wr.cell? ⟨b,fC+k,none⟩=some (.int .u32 ((bs.getD k 0:Nat):Int)):=by
     have h1:=aF.block b (iH w ⟨b,fC+k,none⟩ (hbc k af)) af;exact j9
    have hgc:=HM.o.cell (off+k) (by rw[fE.1];omega);have hgf:=HM.o.frozen (off+k);obtain⟨x,hx⟩:∃ x:Nat,M.getD (off+k) 0=x:=⟨_,rfl⟩;obtain⟨y,hy⟩:∃ y:Nat,bs.getD k 0=y:=⟨_,rfl⟩;have hxl:x<4294967296:=hx ▸ bD.get _;have hyl:y<4294967296:=hy ▸ hb.get _;rw[hx] at hgc;rw[hy] at hbk;have hp0:=Aj y q hyl hq;have hp2:(y:Int)*(q:Int)<=18446744065119617025:=by rw[<-dU];omega
    have hp1:0<=(y:Int)*(q:Int):=by rw[<-dU];omega
    obtain⟨s,hs⟩:∃ s:Nat,s=(y*q+x+cv)%4294967296:=⟨_,rfl⟩;obtain⟨d,hd⟩:∃ d:Nat,d=(y*q+x+cv)/4294967296:=⟨_,rfl⟩;have e0:((y*q+x+cv:Nat):Int)=(y:Int)*q+x+cv:=by simp only[xx,dU]
    have e1:((y:Int)*q+x+cv)%4294967296=(s:Int):=by rw[<-e0];omega
    have e2:((y:Int)*q+x+cv)/4294967296=(d:Int):=by rw[<-e0];omega
    have HX:Aside (M.getD (off+k) 0=x/\bs.getD k 0=y/\s+d*4294967296=y*q+x+cv/\s<4294967296/\d<4294967296):=⟨hx,hy,af,af,af⟩;clear hx hy hs hd hR hm hb hL hoff bD fE hMs aF hbc e0 hp0;go_wp2;go_roundg (gk-1)
    case measure=>omega
    case rel =>
     obtain⟨hx,hy,he,hs,hd⟩:=HX.o;obtain⟨hR,hm,hb,hL,hoff⟩:=HR.o;obtain⟨bD,fE,hMs,aF⟩:=HA.o;refine⟨k+1,d,M.set (off+k) s,af,rfl,hd,by go_num,HM.o.set _ _,bD.set _ _ hs,(fE.mono af).set _ _ af af,?_,aF.set _ _⟩;rw[bF _ _ _ _ (by rw[fE.1];omega),bz L off k af,bz bs 0 k af,dm,hy,bI];have e:L.getD (off+k) 0=x:=by rw[<-hx];exact(fE.2 _ af).symm
     rw[e];exact Ja _ _ _ _ _ _ _ _ _ _ hMs he
  · obtain rfl:k=m:=af
    go_wp2;go_ret;obtain⟨hR,hm,hb,hL,hoff⟩:=HR.o;obtain⟨bD,fE,hMs,aF⟩:=HA.o;refine⟨M,cv,rfl,hcv,HM.o,bD,fE,?_,aF⟩;rw[hMs,hm,dw]
theorem Q9(p V b x r q c:Nat)(h:V+p*r=b*q):V+p*(r+q*x)=(b+p*x)*q:=by grind
theorem Vv (xs bs:List Nat) (ao bo:Option Addr) (n cap m bA B:Nat) (w:World) (hn:n=xs.length) (hm:m=bs.length) (hc:n<=cap) (hcb:m<=bA) (hbig:n+m<=70368744177664)
 (hx:Wf xs) (hb:Wf bs) (hR:Rd B w ao xs) (hS:Rd B w bo bs) (hB:B<=w.heap.size) :
 Calls Tryz.prog 280 #[.slice ao n cap,.slice bo m bA] w fun r w'=>∃ v,r=.returned v/\Nt w.heap.size w' v (val xs*val bs)/\Below w.heap.size w w':=by
 obtain⟨W1,hW1⟩:=ah (w.alloc (.cells (madeCells #[.int .u32 0] (n+m)) 138));have vC:Own W1 w.heap.size (List.replicate (n+m) 0):=by rw[hW1];exact Own.made w (n+m)
 have hB1:Below w.heap.size w W1:=by rw[hW1];exact(aG _ _).alloc (aB _) _
 have hmk:=dW ((n:Int)+m) (n+m) af af w;rw[<-hW1] at hmk;have Yu:Rd B W1 ao xs:=hR.below (hB1.mono hB);have hS1:Rd B W1 bo bs:=hS.below (hB1.mono hB);obtain⟨g,hg⟩:=ah (w.heap.size);rw[<-hg] at vC hmk hB1 hB;have HR:=(EG Yu hS1 hm hb hx hn hB1 hg);have HO:=hid vC;clear hn hm hx hb hR hS vC hB1 hW1 Yu hS1 hg;go_enter Tryz.func280,Tryz.ntmps280;go_wp2
 go_loopg [16] n (fun gk i wr=>∃ (k:Nat) (M:List Nat),gk+k=n/\i=.int .i64 (k:Nat) /\
  Hid (Own wr g M)/\Aside (Wf M/\M.length=n+m/\sg M 0 (k+m)=sg xs 0 k*val bs/\But g W1 wr))
 case atStart=>exact⟨0,_,af,rfl,HO,Wf.zeros _,aL,by rw[xN,eX];simp,But.refl _ _⟩
 case round =>
  obtain⟨k,M,iL,rfl,HM,HA⟩:=hrel
  by_cases hk:k<n
  · obtain⟨hR,hS,hm,hb,hx,hn,hB1,hg⟩:=HR.o;obtain⟨bD,dG,hMs,aF⟩:=HA.o;have Zg:g<=W1.heap.size:=by have:=hB1.size;omega
    obtain⟨b,fC,Nw,rfl,hbc⟩:=hR (by intro e;subst e;simp at hn;omega)
    have hbk:wr.cell? ⟨b,fC+k,none⟩=some (.int .u32 ((xs.getD k 0:Nat):Int)):=by
     have h1:=aF.block b (iH W1 ⟨b,fC+k,none⟩ (hbc k af)) af;exact j9
    obtain⟨y,hy⟩:∃ y:Nat,xs.getD k 0=y:=⟨_,rfl⟩;have hyl:y<4294967296:=hy ▸ hx.get _;rw[hy] at hbk;have H:=hid (Cy M bs g k m (n+m-k) bo m bA B y wr HM.o af hm (aB _) af af bD hb (hS.but aF af hB) hB hyl);have HX:=(aT hy hn);clear hy hR hS hm hb hx hn hB1 hg bD dG hMs aF hbc Zg;go_wp2_with fail;refine H.o.mono ?_;rintro r W3 ⟨M2,c,rfl,hc1,hO3,hM2,hout,hsum,rX⟩;obtain⟨bD,dG,hMs,aF⟩:=HA.o;have hgc:=hO3.cell (k+m) (by rw[hout.1];omega);have hgf:=hO3.frozen (k+m);have HI:=(rG hc1 hO3 hM2 hout hsum rX);clear hc1 hO3 hM2 hout hsum rX bD dG hMs aF H;go_wp2;go_roundg (gk-1)
    case measure=>omega
    case rel =>
     obtain⟨hy,hn⟩:=HX.o;obtain⟨bD,dG,hMs,aF⟩:=HA.o;obtain⟨hc1,hO3,hM2,hout,hsum,rX⟩:=HI.o;refine⟨k+1,M2.set (k+m) c,af,by go_num,hO3.set _ _,hM2.set _ _ hc1,by simp[hout.1,dG],?_,(aF.trans rX).set _ _⟩;have e1:=bF M2 0 (k+m) c (by rw[hout.1];omega);rw[dm] at e1;have e2:=jH M2 0 k m (by rw[hout.1];omega);have e3:=jH M 0 k m af;rw[dm] at e2 e3;have e4:=hout.below 0 k af af;rw[show k+1+m=k+m+1 by omega,e1,e2,e4,bz xs 0 k af,dm,hy,Ct];rw[e3] at hMs;rw[bR c] at hsum;have:=Q9 (pw k) _ _ y _ _ c hMs;rw[<-hsum] at this;rw[<-this,rJ,dH,nK]
  · obtain rfl:k=n:=af
    obtain⟨bD,dG,hMs,aF⟩:=HA.o;have T:=hid (dK M (some ⟨g,0,none⟩) (k+m) (k+m) (g+1) wr dG.symm (aB _) af (by simpa [dG,jc] using Rd.gJ HM.o 0 (k+m)));clear bD dG hMs aF;go_wp2_with fail;refine T.o.mono ?_;rintro r w1 ⟨rfl,rfl⟩;go_wp2;go_ret;obtain⟨hR,hS,hm,hb,hx,hn,hB1,hg⟩:=HR.o;obtain⟨bD,dG,hMs,aF⟩:=HA.o;have e1:sg M 0 (k+m)=val M:=by rw[<-dG];exact dw M
    have e2:sg xs 0 k=val xs:=by rw[hn];exact dw xs
    rw[e1,e2] at hMs;refine⟨_,rfl,?_,?_⟩
    · have N:=Nt.gJ (lo:=g) HM.o (aB _) bD (by rw[dG];unfold maxLen;omega);rw[<-hMs,<-hg];rw[dG] at N;exact N
    · rw[<-hg];exact But.below hB1 aF (by have:=hB1.size;omega) (aB _)
theorem Ar(xs ys:List Nat)(hx:Wf xs)(hy:Wf ys)(j d:Nat)(h1:j+1+d<=xs.length)(h2:j+1+d<=ys.length)(ht:sg xs (j+1) d=sg ys (j+1) d)(hlt:xs.getD j 0<ys.getD j 0) :
 sg xs 0 (j+1+d)<sg ys 0 (j+1+d):=by
 rw[jH xs 0 (j+1) d af,jH ys 0 (j+1) d af,dm,ht,bz xs 0 j af,bz ys 0 j af,dm];have h3:=nN xs 0 j hx af;have h4:pw j*(xs.getD j 0+1)<=pw j*ys.getD j 0:=gH _ hlt;rw[rJ] at h4;omega
theorem Lh(xs ys:List Nat)(hx:Wf xs)(hy:Wf ys)(h:nl xs<nl ys):val xs<val ys:=by
 rw[fT xs hx,fT ys hy] at h;have h1:=tL (val xs);have h2:val ys≠0:=by intro e;rw[e,bB] at h;simp at h
 have h3:=tK (val ys) h2;have h4:=mW (show(ws (val xs)).length<=(ws (val ys)).length-1 by omega);omega
theorem wH{x y:Nat}(h:x<y):aZ x y=-1:=by simp[aZ,h]
theorem Li{x y:Nat}(h:y<x):aZ x y=1:=by simp[aZ,h];omega
theorem Vw{x y:Nat}(h:x=y):aZ x y=0:=by simp[aZ,h]
theorem Jj{a b x y:Nat}(h1:a<b↔x<y)(h2:b<a↔y<x):aZ a b=aZ x y:=by simp[aZ,h1,h2]
theorem Lj (xs ys:List Nat) (ao bo:Option Addr) (n cap m bA B:Nat) (w:World) (hn:n=xs.length) (hm:m=ys.length) (hc:n<=cap) (hcb:m<=bA) (hbig:n<=70368744177664) (hbig2:m<=70368744177664)
 (hx:Wf xs) (hy:Wf ys) (hR:Rd B w ao xs) (hS:Rd B w bo ys) :
 Calls Tryz.prog 234 #[.slice ao n cap,.slice bo m bA] w fun r w'=>r=.returned (.int .i64 (aZ (val xs) (val ys)))/\Below w.heap.size w w':=by
 have H1:=hid (dK xs ao n cap B w hn hc af hR);have H2:=hid (dK ys bo m bA B w hm hcb af hS);have hl1:=nM xs;have hl2:=nM ys;have f1:=oh xs hx;have f2:=oh ys hy;rw[<-lN] at f1 f2
 by_cases he:nl xs=nl ys
 · obtain⟨k0,hk0⟩:∃ k,nl ys=k:=⟨_,rfl⟩;rw[he] at H1 hl1 f1;rw[hk0] at H1 H2 hl1 hl2 f1 f2;have HR:=(Vh hR hS hn hm hx hy hl1 hl2 f1 f2);have HC:Hid (∀ x y w,_):=tN;have hkn:k0<=n:=af
   have hkm:k0<=m:=af
   clear hR hS hn hm hx hy hl1 hl2 f1 f2 he hk0;go_enter Tryz.func234,Tryz.ntmps234;go_wp2_with fail;refine H1.o.mono ?_;rintro r w1 ⟨rfl,rfl⟩;go_wp2_with fail;refine H2.o.mono ?_;rintro r w1 ⟨rfl,rfl⟩;go_wp2
   go_loopg [5] k0 (fun k i wr=>k<=k0/\i=.int .i64 ((k:Int)-1)/\Hid (Below w1.heap.size w1 wr)/\Aside (sg xs k (k0-k)=sg ys k (k0-k)))
   case atStart=>exact⟨aB _,rfl,aG _ _,by rw[wZ,eX,eX];exact rfl⟩
   case round =>
    obtain⟨hk,rfl,HB,HA⟩:=hrel
    by_cases hk0:gk=0
    · subst hk0;go_wp2;go_ret;obtain⟨hR,hS,hn,hm,hx,hy,hl1,hl2,f1,f2⟩:=HR.o;have h:=HA.o;rw[Nat.sub_zero,f1,f2] at h;rw[Vw h];exact⟨rfl,HB.o⟩
    · obtain⟨k,rfl⟩:∃ k,gk=k+1:=⟨gk-1,af⟩;obtain⟨hR,hS,hn,hm,hx,hy,hl1,hl2,f1,f2⟩:=HR.o;obtain⟨b,off,hB1,rfl,hc1⟩:=hR (by intro e;subst e;simp at hl1;omega);obtain⟨b2,Zk,hB2,rfl,hc2⟩:=hS (by intro e;subst e;simp at hl2;omega)
      have g1:wr.cell? ⟨b,off+k,none⟩=some (.int .u32 ((xs.getD k 0:Nat):Int)) :=
       (HB.o.cell (p:=⟨b,off+k,none⟩) (iH w1 ⟨b,off+k,none⟩ (hc1 k af))).trans (hc1 k af)
      have g2:wr.cell? ⟨b2,Zk+k,none⟩=some (.int .u32 ((ys.getD k 0:Nat):Int)) :=
       (HB.o.cell (p:=⟨b2,Zk+k,none⟩) (iH w1 ⟨b2,Zk+k,none⟩ (hc2 k af))).trans (hc2 k af)
      obtain⟨x,jl⟩:∃ x:Nat,xs.getD k 0=x:=⟨_,rfl⟩;obtain⟨y,QZ⟩:∃ y:Nat,ys.getD k 0=y:=⟨_,rfl⟩;rw[jl] at g1;rw[QZ] at g2;have HX:=(aT jl QZ);clear hR hS hn hm hx hy hl1 hl2 f1 f2 hc1 hc2 jl QZ hk0
      by_cases hxy:x=y
      · subst hxy;go_wp2
        go_region
        all_goals (
         go_wp2;go_roundg k
         case measure=>omega
         case rel =>
          obtain⟨hR,hS,hn,hm,hx,hy,hl1,hl2,f1,f2⟩:=HR.o;refine⟨af,by first | go_num | (congr 1;omega),HB.o.drew,?_⟩;have h:=HA.o;obtain⟨r,hr⟩:∃ r,k0-k=r+1:=⟨k0-(k+1),af⟩;rw[show k0-(k+1)=r by omega] at h
          rw[Aside,hr,ou xs k r af,ou ys k r af,h,HX.o.1,HX.o.2])
      · have hne:((x:Int)==(y:Int))=false:=by simp;omega
        have hki:(k:Int)<(k0:Int):=af
        have hki0:0<=(k:Int):=af
        have hki2:k<k0:=af
        go_wp2
        go_region
        all_goals (
         go_wp2
         go_region_with (go_at_call 273;refine(tN x y _).mono ?_;rintro r w2 ⟨rfl,rfl⟩))
        all_goals (
         go_wp2;go_ret;obtain⟨hR,hS,hn,hm,hx,hy,hl1,hl2,f1,f2⟩:=HR.o;have h:=HA.o
         have e:aZ (val xs) (val ys)=aZ x y:=by
          rw[<-f1,<-f2];have hk2:k+1+(k0-(k+1))=k0:=af
          have t1:=Ar xs ys hx hy k (k0-(k+1)) af af h;have t2:=Ar ys xs hy hx k (k0-(k+1)) af af h.symm;rw[hk2,HX.o.1,HX.o.2] at t1 t2;apply Jj <;> omega
         rw[e]
         exact⟨rfl,by first | exact HB.o.drew.drew | exact HB.o.drew | skip⟩)
 · have e:aZ (val xs) (val ys)=aZ (nl xs) (nl ys):=by
    rcases Nat.lt_or_gt_of_ne he with h|h
    · rw[wH h,wH (Lh xs ys hx hy h)]
    · rw[Li h,Li (Lh ys xs hy hx h)]
   rw[e];obtain⟨k1,hk1⟩:∃ k,nl xs=k:=⟨_,rfl⟩;obtain⟨k2,hk2⟩:∃ k,nl ys=k:=⟨_,rfl⟩;rw[hk1] at H1 he |-;rw[hk2] at H2 he |-;have hne:((k1:Int)==(k2:Int))=false:=by simp;omega
   have hne2:¬ (k1:Int)=(k2:Int):=af
   have H3:=hid (Nn k1 k2 w);clear hR hS hn hm hx hy hl1 hl2 f1 f2 hk1 hk2 e he;go_enter Tryz.func234,Tryz.ntmps234;go_wp2_with fail;refine H1.o.mono ?_;rintro r w1 ⟨rfl,rfl⟩;go_wp2_with fail;refine H2.o.mono ?_;rintro r w1 ⟨rfl,rfl⟩;go_wp2_with fail;refine H3.o.mono ?_;rintro r w1 ⟨rfl,rfl⟩;go_wp2;go_ret;exact⟨rfl,aG _ _⟩
end
end Go.Proofs.YtaejmlkaefnbhaaGreatDoor
