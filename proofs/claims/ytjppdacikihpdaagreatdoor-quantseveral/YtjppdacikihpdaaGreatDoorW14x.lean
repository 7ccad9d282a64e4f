import Derived.Test.YtjppdacikihpdaaGreatDoorM1x
import Derived.Deep.OwnRows
import Derived.BigQuiet
import Derived.Deep.RegionWith
set_option linter.unusedVariables false
set_option linter.unusedSimpArgs false
set_option maxHeartbeats 16000000
set_option maxRecDepth 20000
namespace Go.Proofs.YtjppdacikihpdaaGreatDoor
section
open Go.RowKit
def gP(w:World):Prop:=∀j,j<32->w.cell? ⟨1,j,none⟩=some (.int .u8 (Lib.deBruijn32tab.getD j 0))
theorem gP.below{B:Nat}{w w':World}(h:gP w)(hb:Below B w w')(hB:1<B):gP w':=λj hj=>(hb.cell (p:=⟨1,j,none⟩) hB).trans (h j hj)
theorem gP.pos{w:World}(h:gP w):1<w.heap.size:=qZ w ⟨1,0,none⟩ (h 0 aM)
theorem gP.belows{w w':World}(h:gP w)(hb:An w w'):gP w':=h.below hb h.pos
theorem VF (x k idx:Nat) (w:World) (hx0:((x:Int)==0)=false)
 (key:bits BinOp.and IntKind.u32 (x:Int) (-(x:Int)%4294967296)*125613361%4294967296/134217728=(idx:Int))
 (hi:idx<32) (hk:k<32) (hcell:w.cell? ⟨1,idx,none⟩=some (.int .u8 k)) :
 As 187 #[.int .u32 x] w λe w'=>e=.returned (.int .i64 k)/\w'=w:=by
 go_enter Tryz.func187,Tryz.ntmps187
 go_wp2_with (simp only[key])
 go_ret;exact⟨rfl,rfl⟩
theorem ZH(x a:Nat)(hx:x<4294967296)(hx0:x≠0)(hlow:x &&& (4294967296-x)=a) :
 bits BinOp.and IntKind.u32 (x:Int) (-(x:Int)%4294967296)*125613361%4294967296/134217728=((a*125613361%4294967296/134217728:Nat):Int):=by
 rw[show -(x:Int)%4294967296=((4294967296-x:Nat):Int) by omega,KQ x _ hx ae,hlow];omega
theorem ZI(x:Nat)(hx:x<4294967296)(hx0:x≠0)(w:World)(hT:gP w) :
 As 187 #[.int .u32 (x:Int)] w λe w'=>e=.returned (.int .i64 (Lib.ctz 32 x:Nat))/\w'=w:=by
 obtain⟨hlow,hk⟩:=Lib.lowest_bit 32 x hx0 hx;obtain⟨hi,htab⟩:=Lib.deBruijn32_at _ hk;have hcell:=hT _ hi;rw[htab] at hcell;exact VF x _ _ w (by simp;omega) (ZH x _ hx hx0 hlow) hi hk hcell
def lo(n:Nat):Nat:=if h:n=0 then 0 else if n%2=1 then 0 else lo (n/2)+1
termination_by n
decreasing_by omega
theorem CU:lo 0=0:=by rw[lo];simp
theorem QK(m:Nat):lo (2*m+1)=0:=by rw[lo];simp
theorem Lc(i m:Nat):lo (2^i*(2*m+1))=i:=by
 induction i with
 | zero=>rw[fO,ik];exact QK m
 | succ i ih =>
   have h:2^(i+1)*(2*m+1)=2*(2^i*(2*m+1)):=by rw[dS];grind
   have hp:0<2^i*(2*m+1):=jh (bG i) ae;rw[h,lo,dif_neg ae,if_neg ae,wB _ aM,ih]
theorem QL(xs:List Nat)(k:Nat)(hx:Wf xs)(hk:k<xs.length)(h0:sg xs 0 k=0)(hw:xs.getD k 0≠0):lo (val xs)=32*k+Lib.ctz 32 (xs.getD k 0):=by
 have hl:=hx.get k;obtain⟨m,hm,hc⟩:=Lib.ctzFrom_spec 32 (xs.getD k 0) ae hl;have hcz:Lib.ctz 32 (xs.getD k 0)=Lib.ctzFrom 32 (xs.getD k 0):=by simp only[Lib.ctz,if_neg hw]
 rw[hcz];obtain⟨c,hc'⟩:∃c,Lib.ctzFrom 32 (xs.getD k 0)=c:=⟨_,rfl⟩;rw[hc'] at hm hc |-;have e:=dU xs k ae;rw[<-jY,h0,dA,dz xs k hk,hm] at e
 have e2:4294967296=2^c*(2*2^(31-c)):=by
  rw[<-aQ,cK (2^c) 2,aQ,<-aP,show c+(31-c)=31 by omega]
 have e3:val xs=2^(32*k+c)*(2*(m+2^(31-c)*val (xs.drop (k+1)))+1):=by
  rw[e,aP,o7];have:(2^32:Nat)^k=pw k:=rfl;rw[this];have:4294967296*val (xs.drop (k+1))=2^c*(2*2^(31-c))*val (xs.drop (k+1)):=by rw[<-e2]
  rw[this]
  grind
 rw[e3,Lc]
theorem Qbx{P:Prop}(h:P:=by
 exact⟨congrArg (λz=>Ending.returned (Value.int IntKind.i64 z)) ae,rfl⟩):P:=h
theorem VG(xs:List Nat)(ao:Option Addr)(n cap B:Nat)(w:World)(hn:n=xs.length)(hm:n<=70368744177664)(hx:Wf xs)(hR:Rd B w ao xs)(hT:gP w) :
 Ax 146 #[.slice ao n cap] w (.int .i64 (lo (val xs):Nat)):=by
 have HT:=(hid hT);have HR:=(gp hR hn hx);clear hR hn hx hT;go_enter Tryz.func146,Tryz.ntmps146;go_wp2
 go_loopg [7] n (λgk i wr=>∃k:Nat,gk+k=n/\i=.int .i64 (k:Nat)/\wr=w/\Aside (sg xs 0 k=0))
 case atStart=>exact⟨0,ae,rfl,rfl,dV _ _⟩
 case round =>
  obtain⟨k,jo,rfl,rfl,HA⟩:=hrel
  by_cases hk:k<n
  . obtain⟨hR,hn,hx⟩:=HR.o;obtain⟨b,fI,KW,rfl,hbc⟩:=hR (by intro e;subst e;simp at hn;omega);have hbk:=hbc k ae;obtain⟨x,fE⟩:∃x:Nat,xs.getD k 0=x:=⟨_,rfl⟩;have hxl:x<4294967296:=fE ▸ hx.get _;rw[fE] at hbk
    by_cases h0:x=0
    . subst h0;have HX:=(ak fE);clear fE hR hn hx hbc;go_wp2;go_roundg (gk-1)
      case measure=>omega
      case rel =>
       obtain⟨hR,hn,hx⟩:=HR.o;refine⟨k+1,ae,by go_num,rfl,?_⟩;have h1:=HA.o;rw[Aside,bN xs 0 k ae,dA,HX.o,h1];omega
    . have hz:=QL xs k hx ae HA.o (by rw[fE];exact h0);rw[fE] at hz;obtain⟨hc,hc32⟩:=Lib.lowest_bit 32 x h0 hxl;have H:=hid (ZI x hxl h0 wr HT.o);obtain⟨c,hcc⟩:∃c,Lib.ctz 32 x=c:=⟨_,rfl⟩;rw[hcc] at H hz hc32;have HZ:=(ak hz);clear fE hR hn hx hbc hc hz hcc;go_wp2_with fail;refine H.o.mono ?_;rintro r w1 ⟨rfl,rfl⟩;go_wp2;go_ret;rw[HZ.o];exact Qbx
  . obtain rfl:k=n:=ae
    obtain⟨hR,hn,hx⟩:=HR.o;have h1:=HA.o;have h2:val xs=0:=by rw[<-dJ,<-hn];exact h1
    have H2:=(ak h2);clear hR hn hx h1 h2 HA HR;go_wp2;go_ret;rw[H2.o,CU];exact Xs
theorem dO(z:Int)(n:Nat)(hz:z=(n:Int))(hn:n<=70368744177664)(w:World) :
 (Instr.makeSlice 77 (.int .i64 z) (.int .i64 z)).run Tryz.prog w=.ok (.slice (some ⟨w.heap.size,0,none⟩) n n) (w.alloc (.cells (madeCells #[.int .u32 0] n) 162)):=by
 subst hz;exact run_make_row' 77 162 (.int .u32 0) 4 Tryz.underlying77 Tryz.xw rfl .i64 .i64 n ae ae w
theorem Own.made(w:World)(n:Nat):Own (w.alloc (.cells (madeCells #[.int .u32 0] n) 162)) w.heap.size (List.replicate n 0):=by
 unfold Own;have h1:=iF w (.cells (madeCells #[.int .u32 0] n) 162);rw[h1];congr 2;apply Array.toList_inj.1;rw[toList_madeCells_one];simp[U]
theorem Rd.drop{B:Nat}{w:World}{b off:Nat}{xs:List Nat}(h:Rd B w (some ⟨b,off,none⟩) xs)(k:Nat):Rd B w (some ⟨b,off+k,none⟩) (xs.drop k):=by
 intro hx;have hx':xs≠[]:=by intro e;subst e;simp at hx
 obtain⟨b',off',hlt,e,hc⟩:=h hx'
 cases e
 refine⟨b,off+k,hlt,rfl,λi hi=>?_⟩;simp only[oU] at hi;rw[oo,hc (k+i) ae];simp[bF]
theorem jP (w:World) (g dLen dCap:Nat) (ao:Option Addr) (sLen sCap B:Nat) (ty:TypeId)
 (L xs:List Nat) (hO:Own w g L) (hL:dLen<=L.length) (hx:sLen=xs.length) (hR:Rd B w ao xs) (hle:sLen<=dLen) :
 ∃w',(Builtin.copy_ #[77,77] ty #[.slice (some ⟨g,0,none⟩) dLen dCap,.slice ao sLen sCap]).run Tryz.prog w=.ok (.int .i64 (sLen:Int)) w'/\Own w' g (xs++L.drop sLen)/\But g w w':=by
 subst hx;have hmin:Nat.min xs.length dLen=xs.length:=iQ hle
 by_cases h0:xs=[]
 . subst h0;exact⟨w,run_copy_none (P:=Tryz.prog) w 77 77 ty 162 _ _ _ _ _ _ Tryz.underlying77 mW (by simp at hmin |-),by simpa using hO,But.refl _ _⟩
 . obtain⟨b,off,hlt,rfl,hc⟩:=hR h0;have hadd:∀j,(⟨b,off,none⟩:Addr).add j=⟨b,off+j,none⟩:=by intro j;unfold Addr.add;split <;> simp_all
   have hrun:=run_copy_row (P:=Tryz.prog) w 77 77 ty 162 g 0 dLen dCap ⟨b,off,none⟩ xs.length sCap (L.map U).toArray 162 (xs.map U) Tryz.underlying77 mW hO (by rw[hmin];simp) (by
    intro j v hv;rw[hadd]
    have hj:j<xs.length:=by
     have:=(iD.1 hv).1;simpa using this
    rw[hc j hj];simp[hj,U] at hv
    simp[hj,<-hv]) (by simp;omega) (by
    intro v hv;obtain⟨n,_,rfl⟩:=rE.1 hv
    rfl)
   refine⟨w.setRow g (((xs++L.drop xs.length).map U)).toArray,?_,setRow_heap w g _ _ 162 _ hO,⟨rfl,rfl,rfl,by simp[World.setRow],λk _ hk=>setRow_other w g k _ hk⟩⟩;simpa [jy,List.map_drop,goInt] using hrun
theorem E9(xs:List Nat)(ao:Option Addr)(n cap B:Nat)(w:World)(hn:n=xs.length)(hc:n<=cap)(hm:n<=70368744177664)(hx:Wf xs)(hR:Rd B w ao xs)(hB:B<=w.heap.size) :
 As 222 #[.slice ao n cap] w λr w'=>r=.returned (.slice (some ⟨w.heap.size,0,none⟩) (ws (val xs)).length (ws (val xs)).length)/\Own w' w.heap.size (ws (val xs))/\An w w':=by
 have H:=hid (fq xs ao n cap B w hn hc ae hR);have hl:nl xs<=n:=by rw[hn];exact kL xs
 obtain⟨k,hk⟩:∃k,nl xs=k:=⟨_,rfl⟩;have HF:Aside (xs.take k=ws (val xs)):=by rw[<-hk];exact qx xs hx
 have HR:Aside (Rd B w ao (xs.take k)/\k=(xs.take k).length):=⟨hR.take k,by rw[fJ];omega⟩;rw[hk] at H hl;rw[<-HF.o];have hmk:=dO (k:Int) k rfl ae;have HO:=Own.made w k;have HO2:Hid (Own (w.alloc (.cells (madeCells #[.int .u32 0] k) 162)) w.heap.size (List.replicate k 0)):=HO;clear hk hR hn hx HO;go_enter Tryz.func222,Tryz.ntmps222;go_wp2_with fail;refine H.o.mono ?_;rintro r w1 ⟨rfl,rfl⟩;obtain⟨w2,hcp,hO2,aI⟩:=jP _ w1.heap.size k k ao k cap B 3 (List.replicate k 0) (xs.take k) HO2.o aN HR.o.2 (HR.o.1.below ((aD _ _).alloc hB _)) (aA _);have HH:=hid (ai hO2 aI);clear hO2 aI HO2;go_wp2;go_ret;obtain⟨hO2,aI⟩:=HH.o;rw[<-HR.o.2];refine⟨rfl,by simpa using hO2,But.below ((aD _ _).alloc (aA _) _) aI aN (aA _)⟩
theorem yF(xs:List Nat)(hx:Wf xs)(k:Nat)(hk:nl xs=k+1):val xs=sg xs 0 k+pw k*xs.getD k 0/\sg xs 0 k<pw k/\xs.getD k 0≠0/\k<xs.length:=by
 have hl:=kL xs;have h1:=lG xs hx;rw[hk,iV xs k ae,<-jY] at h1;have h2:=KP xs ae;rw[hk,mX] at h2;exact⟨h1.symm,oF xs 0 k hx ae,h2,ae⟩
theorem Fe(xs:List Nat)(hx:Wf xs)(k:Nat)(hk:nl xs=k+1):bl (val xs)=32*k+bl (xs.getD k 0):=by
 obtain⟨e,hlt,h0,hl⟩:=yF xs hx k hk;obtain⟨t,ht⟩:∃t,xs.getD k 0=t:=⟨_,rfl⟩;rw[ht] at e h0 |-;obtain⟨c,hc⟩:∃c,bl t=c+1:=⟨bl t-1,by have:=dM t h0;omega⟩;have h1:=iw t h0;have h2:=iT t;rw[hc] at h1 h2 |-;rw[mX] at h1;have p1:2^(32*k+c)=pw k*2^c:=nR k c;have p2:2^(32*k+c+1)=pw k*2^(c+1):=by rw[oo,nR]
 have:=E5 (val xs) (32*k+c) (by
  rw[p1,e];have:=fG (pw k) h1
  omega) (by
  rw[p2,e];have:pw k*(t+1)<=pw k*2^(c+1):=fG (pw k) ae;rw[oq] at this
  omega)
 omega
theorem tH(xs:List Nat)(ao:Option Addr)(n cap B:Nat)(w:World)(hn:n=xs.length)(hc:n<=cap)(hm:n<=70368744177664)(hx:Wf xs)(hR:Rd B w ao xs) :
 Ax 84 #[.slice ao n cap] w (.int .i64 (bl (val xs):Nat)):=by
 have H:=hid (fq xs ao n cap B w hn hc ae hR);have hl:=kL xs;rcases hk:nl xs with _|k
 . rw[(jk xs).1 hk,dI];rw[hk] at H;clear hk hl hn hx hR;go_enter Tryz.func84,Tryz.ntmps84;go_wp2_with fail;refine H.o.mono ?_;rintro r w1 ⟨rfl,rfl⟩;go_wp2;go_ret;exact⟨rfl,rfl⟩
 . rw[Fe xs hx k hk];rw[hk] at H hl;obtain⟨e,hlt,h0,hl2⟩:=yF xs hx k hk;obtain⟨b,off,hB,rfl,hcell⟩:=hR (by intro e;subst e;simp at hl);have hck:=hcell k hl2;obtain⟨t,ht⟩:∃t,xs.getD k 0=t:=⟨_,rfl⟩;have htl:t<4294967296:=ht ▸ hx.get k;rw[ht] at hck |-;have H2:=hid (AQ t w htl);have hb:=xx t htl;obtain⟨c,hc'⟩:∃c,bl t=c:=⟨_,rfl⟩;rw[hc'] at H2 hb |-;have hkn:k<n:=ae
   clear hk hl hn hx hR e hlt h0 hl2 hcell ht hc';go_enter Tryz.func84,Tryz.ntmps84;go_wp2_with fail;refine H.o.mono ?_;rintro r w1 ⟨rfl,rfl⟩;go_wp2_with fail;refine H2.o.mono ?_;rintro r w1 ⟨rfl,rfl⟩;go_wp2;go_ret;exact Qbx
theorem nS(x:Nat)(w:World)(hx:x<18446744073709551616) :
 As 95 #[.int .u64 (x:Int)] w λr w'=>∃v,r=.returned v/\Nt w.heap.size w' v x/\An w w':=by
 obtain⟨a,ha⟩:=ah (x%4294967296);obtain⟨b,hb⟩:=ah (x/4294967296);have e1:(x:Int)%4294967296=(a:Int):=ae
 have e2:(x:Int)/4294967296=(b:Int):=ae
 have hx2:(x:Int)<18446744073709551616:=ae
 have hO:Own (w.alloc (.cells #[.int .u32 (a:Int),.int .u32 (b:Int)] 162)) w.heap.size [a,b]:=by
  unfold Own;rw[iF];rfl
 have hW:Wf [a,b]:=Wf.cons ae (Wf.cons ae Wf.nil);have hv:val [a,b]=x:=by simp only[val];omega
 have T:=hid (fq [a,b] (some ⟨w.heap.size,0,none⟩) 2 2 (w.heap.size+1) _ rfl ae ae (by simpa using Rd.gW hO 0 2));have HH:=(gp hO hW hv);clear hO hW hv ha hb hx;go_enter Tryz.func95,Tryz.ntmps95;go_wp2_with fail;refine T.o.mono ?_;rintro r w1 ⟨rfl,rfl⟩;go_wp2;go_ret;obtain⟨hO,hW,hv⟩:=HH.o;refine⟨_,rfl,?_,(aD _ _).alloc (aA _) _⟩;have N:=Nt.gW (lo:=w.heap.size) hO (aA _) hW (by simp[maxLen]);rw[hv] at N;exact N
theorem Own.but{w w':World}{g k:Nat}{L:List Nat}(h:Own w k L)(hb:But g w w')(hk:k≠g):Own w' k L:=by
 have:=h.lt;unfold Own at h |-;rw[hb.block k this hk];exact h
def Apart(v1 v2:Value):Prop:=∀g,v1.ownBlock=some g->v2.ownBlock≠some g
theorem Nt.lt{lo:Nat}{w:World}{v:Value}{X:Nat}(h:Nt lo w v X):∀g,v.ownBlock=some g->lo<=g/\g<w.heap.size:=λg hg=>World.ownsRow.lt h g hg
theorem Fh{lo m hi:Nat}{w w2:World}{v1 v2:Value}{X Y:Nat}(h1:Nt lo w v1 X)(h2:Nt m w2 v2 Y)(hm:w.heap.size<=m):Apart v1 v2:=by
 intro g hg e;have a:=(h1.lt g hg).2;have b:=(h2.lt g e).1;omega
theorem qC(v:Value):Apart (.slice none 0 0) v:=by intro g hg;simp[Value.ownBlock] at hg
theorem QM(p b q V o a c:Nat):b*p*q*V+(a+p*(o*V+c))=p*(o+b*q)*V+(a+p*c):=by grind
theorem Ld(M:List Nat)(i k d:Nat)(hd:M.length=i+k+d)(hz:sg M (i+k) d=0):val M=sg M 0 i+pw i*sg M i k:=by
 have h1:=dJ M;rw[hd] at h1;have h2:=jc M 0 (i+k) d ae;have h3:=jc M 0 i k ae;rw[dA] at h2 h3;rw[hz,o9,il] at h2;rw[<-h1,h2,h3]
theorem ZJ(Q:List Nat)(i r o:Nat)(hQ:i+1+r=Q.length):sg (Q.set i o) i (r+1)=o+4294967296*sg Q (i+1) r:=by
 have h1:=lI (Q.set i o) i r (by simp;omega);have h2:=ib Q i o ae;have h3:=tq Q (i+1) r i o ae ae;rw[h2,h3] at h1;exact h1
theorem ZK(a p s V:Nat)(h1:a<p)(h2:s<V):a+p*s<p*V:=by
 have h:p*(s+1)<=p*V:=fG _ h2;rw[oq,eQ] at h;omega
theorem QN (M M2 Q:List Nat) (i m r V o X:Nat) (hM:Wf M) (hi:i+(m+1)<=M.length) (ho:Out M M2 i (m+1))
 (hinv:X=pw (i+1)*sg Q (i+1) r*V+val M) (hz:sg M (i+(m+1)) (M.length-(i+(m+1)))=0) (hQ:i+1+r=Q.length)
 (hs:sg M i (m+1)=o*V+sg M2 i (m+1)) (hlt:sg M2 i (m+1)<V) :
 X=pw i*sg (Q.set i o) i (r+1)*V+val M2/\val M2<pw i*V:=by
 obtain⟨d,hd⟩:=ah (M.length-(i+(m+1)));rw[<-hd] at hz;have hl:M2.length=M.length:=ho.1;have e1:=Ld M i (m+1) d ae hz;have hz2:sg M2 (i+(m+1)) d=0:=by rw[ho.above (i+(m+1)) d ae ae];exact hz
 have e2:=Ld M2 i (m+1) d ae hz2;have e3:sg M2 0 i=sg M 0 i:=ho.below 0 i ae ae;have e4:=ZJ Q i r o hQ;have h1:=oF M 0 i hM ae;rw[e3] at e2;rw[hs] at e1;refine⟨?_,by rw[e2];exact ZK _ _ _ _ h1 hlt⟩;rw[hinv,e1,e2,e4,bK];exact QM _ _ _ _ _ _ _
theorem QO(M:List Nat)(i m V:Nat)(hM:Wf M)(hi:i+(m+1)<=M.length)(hV:V<pw m)(hlt:val M<pw (i+1)*V) :
 sg M (i+(m+1)) (M.length-(i+(m+1)))=0/\sg M i (m+1)<V*4294967296:=by
 obtain⟨d,hd⟩:∃d,M.length=i+(m+1)+d:=⟨M.length-(i+(m+1)),ae⟩
 have e1:val M=sg M 0 i+pw i*(sg M i (m+1)+pw (m+1)*sg M (i+(m+1)) d):=by
  rw[<-dJ M,hd,show i+(m+1)+d=i+(m+1+d) by omega,jc M 0 i (m+1+d) ae,dA,jc M i (m+1) d ae]
 rw[hd,IK];obtain⟨S,hS⟩:∃S,sg M i (m+1)+pw (m+1)*sg M (i+(m+1)) d=S:=⟨_,rfl⟩;rw[hS] at e1
 have h1:S<4294967296*V:=by
  by_cases h:S<4294967296*V
  . exact h
  . exfalso;have:pw i*(4294967296*V)<=pw i*S:=fG _ ae;have e:pw (i+1)*V=pw i*(4294967296*V):=by rw[bK,cK 4294967296,aQ]
    omega
 have h2:4294967296*V<pw (m+1):=by rw[bK];exact Ao hV aM
 constructor
 . rcases kG (sg M (i+(m+1)) d) with h | h
   . exact h
   . exfalso;have:pw (m+1)*1<=pw (m+1)*sg M (i+(m+1)) d:=fG _ h;omega
 . rw[cK];omega
theorem VH(Y m z:Nat)(hY:Y≠0)(h1:pw (m-1)*2^(31-z)<=Y)(h2:Y<pw (m-1)*2^(32-z))(hz:z<32)(hm:0<m) :
 (ws (Y*2^z)).length=m/\Y*2^z<pw m/\2147483648<=(ws (Y*2^z)).getD (m-1) 0:=by
 obtain⟨k,rfl⟩:∃k,m=k+1:=⟨m-1,ae⟩;rw[mX] at h1 h2 |-
 have a1:pw k*2147483648<=Y*2^z:=by
  have:=dL (2^z) h1;rw[aQ,<-aP,show 31-z+z=31 by omega] at this;exact this
 have a2:Y*2^z<pw (k+1):=by
  have:=fK h2 (bG z);rw[aQ,<-aP,show 32-z+z=32 by omega] at this;rw[bK,cK 4294967296];exact this
 have hp:=iU k;have hl:=ML (Y*2^z) k ae a2;refine⟨hl,a2,?_⟩;have hw:=gG (Y*2^z);have hv:=aB (Y*2^z);rw[<-dJ,hl,bN _ 0 k ae,dA] at hv;have hs:=oF (ws (Y*2^z)) 0 k hw ae
 by_cases h:2147483648<=(ws (Y*2^z)).getD k 0
 . exact h
 . exfalso;have:pw k*((ws (Y*2^z)).getD k 0+1)<=pw k*2147483648:=fG _ ae;rw[oq] at this;omega
theorem VI(X Y P q r:Nat)(hP:0<P)(h:X*P=q*(Y*P)+r)(hr:r<Y*P):q=X/Y/\r/P=X%Y:=by
 have hY:0<Y:=by
  rcases kG Y with e|e
  . subst e;rw[fe] at hr;omega
  . exact e
 have hq:X*P/(Y*P)=q:=by
  rw[h,oV,Nat.add_mul_div_right _ _ (jh hY hP),iq hr,dA]
 have hm:X*P%(Y*P)=r:=by
  rw[h,oV,Nat.add_mul_mod_self_right,jL hr]
 rw[Nat.mul_div_mul_right _ _ hP] at hq;rw[Nat.mul_mod_mul_right] at hm;exact⟨hq.symm,by rw[<-hm,Nat.mul_div_cancel _ hP]⟩
theorem Qbd{P:Prop}(h:P:=by
 have N:=Nt.gW (lo:=g) HM.o (aA _) bC (by rw[dx];unfold maxLen;omega);rw[<-e4,<-hg];rw[dx] at N;exact N):P:=h
theorem I4 (xs:List Nat) (ao:Option Addr) (n cap B by' words rest:Nat) (w:World) (hn:n=xs.length) (hc:n<=cap) (hby:by'=32*words+rest) (hrest:rest<32) (hbig:words+n<=70368744177663)
 (hx:Wf xs) (hR:Rd B w ao xs) (hB:B<=w.heap.size) :
 As 132 #[.slice ao n cap,.int .i64 (by':Nat)] w λr w'=>∃v,r=.returned v/\Nt w.heap.size w' v (val xs*2^by')/\Below w.heap.size w w':=by
 obtain⟨W1,hW1⟩:=ah (w.alloc (.cells (madeCells #[.int .u32 0] (words+n+1)) 162));have kD:Own W1 w.heap.size (List.replicate (words+n+1) 0):=by rw[hW1];exact Own.made w _
 have hB1:Below w.heap.size w W1:=by rw[hW1];exact(aD _ _).alloc (aA _) _
 have hmk:=dO ((words:Int)+n+1) (words+n+1) ae ae w;rw[<-hW1] at hmk;have EZ:Rd B W1 ao xs:=hR.below (hB1.mono hB);have e1:(by':Int)/32=(words:Int):=ae
 have e2:(by':Int)%32=(rest:Int):=ae
 obtain⟨g,hg⟩:=ah (w.heap.size);rw[<-hg] at kD hmk hB1 hB;have HR:=(kz EZ hx hn hB1 hg hby);have HO:=hid kD;clear hn hx hR kD hB1 hW1 EZ hg hby;go_enter Tryz.func132,Tryz.ntmps132;go_wp2
 go_loopg [23] n (λgk i wr=>∃(k:Nat) (M:List Nat),gk+k=n/\i=.int .i64 (k:Nat) /\
  Hid (Own wr g M)/\Aside (Wf M/\M.length=words+n+1/\sg M 0 words=0/\M.getD (words+k) 0<2^rest/\sg M words (k+1)=sg xs 0 k*2^rest/\But g W1 wr))
 case atStart=>exact⟨0,_,ae,rfl,HO,Wf.zeros _,aN,tC _ _ _,by rw[yC];exact bG _,by rw[tC,dV];simp,But.refl _ _⟩
 case round =>
  obtain⟨k,M,jo,rfl,HM,HA⟩:=hrel
  by_cases hk:k<n
  . obtain⟨hR,hx,hn,hB1,hg,hby⟩:=HR.o;obtain⟨bC,dx,hM0,hMt,hMs,aI⟩:=HA.o;have VJ:g<=W1.heap.size:=by have:=hB1.size;omega
    obtain⟨b,fI,KW,rfl,hbc⟩:=hR (by intro e;subst e;simp at hn;omega)
    have hbk:wr.cell? ⟨b,fI+k,none⟩=some (.int .u32 ((xs.getD k 0:Nat):Int)):=by
     have h1:=aI.block b (qZ W1 ⟨b,fI+k,none⟩ (hbc k ae)) ae;exact z6
    obtain⟨y,hy⟩:∃y:Nat,xs.getD k 0=y:=⟨_,rfl⟩;have hyl:y<4294967296:=hy ▸ hx.get _;rw[hy] at hbk;have hgc:=HM.o.cell (words+k) ae;have hgf:=HM.o.frozen (words+k);have hgf2:=HM.o.frozen (words+k+1);have hgc2:=HM.o.cell (words+k+1) ae;obtain⟨x,fE⟩:∃x:Nat,M.getD (words+k) 0=x:=⟨_,rfl⟩;have hxl:x<4294967296:=fE ▸ bC.get _;rw[fE] at hgc;obtain⟨t,ht⟩:∃t:Nat,t=y*2^rest:=⟨_,rfl⟩;have htl:t<18446744073709551616:=by rw[ht];exact up_lt y rest hyl hrest
    have e3:IntKind.u64.wrap ((y:Int)*2^rest)=(t:Int):=by
     have ec:(y:Int)*2^rest=(t:Int):=by rw[ht,eD,Int.natCast_pow];rfl
     rw[ec];exact qA _ ae ae
    obtain⟨s,hs⟩:∃s:Nat,s=x+t%4294967296:=⟨_,rfl⟩;obtain⟨d,hd⟩:∃d:Nat,d=t/4294967296:=⟨_,rfl⟩;have e4':x ||| (t%4294967296)=s:=by rw[hs,ht];exact ZC x y rest hrest (by rw[<-fE];exact hMt)
    have e4:bits BinOp.or IntKind.u32 (x:Int) ((t:Int)%4294967296)=(s:Int):=by
     have:=or32 x (t%4294967296) hxl ae;rw[e4'] at this;rw[<-this];simp
    have e5:(t:Int)/4294967296=(d:Int):=ae
    have htl':(t:Int)<18446744073709551616:=ae
    have hsl:s<4294967296:=by rw[<-e4'];exact Nat.or_lt_two_pow (n:=32) hxl ae
    have HX:=(Ew hy hn fE ht hs hd hsl);clear hy fE hR hx hn hB1 hg bC dx hM0 hMt hMs aI hbc VJ hby ht hs hd htl e4' hsl;go_wp2;go_roundg (gk-1)
    case measure=>omega
    case rel =>
     obtain⟨hy,hn,fE,ht,hs,hd,hsl⟩:=HX.o;obtain⟨bC,dx,hM0,hMt,hMs,aI⟩:=HA.o;have hdl:d<2^rest:=by rw[hd,ht];exact ZE y rest hyl
     have h2:=rV rest hrest;refine⟨k+1,(M.set (words+k) s).set (words+k+1) d,ae,by go_num,(HM.o.set _ _).set _ _,(bC.set _ _ hsl).set _ _ ae,by simp[dx],?_,?_,?_,(aI.set _ _).set _ _⟩
     . rw[nQ _ _ _ _ _ ae (by simp;omega),nQ _ _ _ _ _ ae ae];exact hM0
     . rw[show words+(k+1)=words+k+1 by omega,ib _ _ _ (by simp;omega)];exact hdl
     . have e1:=bZ (M.set (words+k) s) words (k+1) d (by simp;omega);rw[show words+(k+1)=words+k+1 by omega] at e1;rw[e1,bZ _ _ _ _ ae,bN xs 0 k ae,dA,hy,bK];rw[bN _ _ _ ae,fE] at hMs;exact VE (pw k) _ x t 0 _ s d y _ hMs ht hs hd
  . obtain rfl:k=n:=ae
    obtain⟨bC,dx,hM0,hMt,hMs,aI⟩:=HA.o;have T:=hid (fq M (some ⟨g,0,none⟩) (words+k+1) (words+k+1) (g+1) wr dx.symm (aA _) ae (by simpa [dx,eF] using Rd.gW HM.o 0 (words+k+1)));clear bC dx hM0 hMt hMs aI;go_wp2_with fail;refine T.o.mono ?_;rintro r w1 ⟨rfl,rfl⟩;go_wp2;go_ret;obtain⟨hR,hx,hn,hB1,hg,hby⟩:=HR.o;obtain⟨bC,dx,hM0,hMt,hMs,aI⟩:=HA.o;have e3:sg xs 0 k=val xs:=by rw[hn];exact dJ xs
    have e4:val M=val xs*2^by':=by
     rw[<-dJ M,dx,show words+k+1=words+(k+1) by omega,jc M 0 words (k+1) ae,hM0,dA,dA,hMs,e3,hby,nR]
     grind
    refine⟨_,rfl,?_,?_⟩
    . exact Qbd
    . rw[<-hg];exact But.below hB1 aI (by have:=hB1.size;omega) (aA _)
theorem yG(l x:Nat)(hl:l<4294967296)(hx:x<4294967296):bits BinOp.or IntKind.u64 (x:Int) ((l:Int)*4294967296)=((x+l*4294967296:Nat):Int):=by
 have e:((l:Int)*4294967296)=((l*4294967296:Nat):Int):=by simp only[eD];rfl
 rw[e,bits_or_u64_nat _ _ ae ae];have:=IJ (i:=32) (b:=x) ae l;have e2:2^32*l=l*4294967296:=by rw[cK]
 rw[e2] at this;rw[Nat.or_comm,<-this,oV]
theorem AU(L:List Nat)(i rest:Nat)(hL:Wf L)(hr:rest<32)(hi:i<L.length) :
 (val L/2^rest/pw i)%4294967296=((L.getD i 0+L.getD (i+1) 0*4294967296)/2^rest)%4294967296:=by
 have h1:val L/2^rest/pw i=val (L.drop i)/2^rest:=by
  rw[wC,cK,<-wC,dU L i ae];have:=dh (L.take i) (hL.take i);rw[fJ,iQ ae] at this;rw[sP _ _ (iU i),iq this,dA]
 rw[h1,dz L i hi]
 obtain⟨R,hR⟩:∃R,val (L.drop (i+1))=L.getD (i+1) 0+4294967296*R:=by
  by_cases h:i+1<L.length
  . exact⟨_,dz L (i+1) h⟩
  . refine⟨0,?_⟩;rw[wD ae,bF,oN ae];rfl
 rw[hR]
 have e:L.getD i 0+4294967296*(L.getD (i+1) 0+4294967296*R)=(L.getD i 0+L.getD (i+1) 0*4294967296)+2^rest*(4294967296*(2^(32-rest)*R)):=by
  have:=kN rest hr;have:2^rest*(4294967296*(2^(32-rest)*R))=4294967296*(4294967296*R):=by rw[<-this];grind
  rw[this];omega
 rw[e,sP _ _ (bG _),Aq]
theorem Fj(V p:Nat)(hp:0<p):V%p+p*(V/p%4294967296)=V%(4294967296*p):=by
 rw[cK 4294967296,Nat.mod_mul]
theorem zc{P:Prop}(h:P:=by
 go_wp2;go_roundg (gk-1)
 case measure=>omega
 case rel =>
  obtain⟨uS,uR,hn,hB2,hg,hby,hL⟩:=HR.o;obtain⟨bC,dx,Qv,hMs,aI⟩:=HA.o;obtain⟨hs,hsl⟩:=HX.o;refine⟨k+1,M.set k s,ae,by go_num,HM.o.set _ _,bC.set _ _ hsl,by simp[dx],λj hj=>?_,?_,aI.set _ _⟩
  . rw[getD_set_ne _ _ _ _ ae];exact Qv j ae
  . have e1:=bZ M 0 k s ae;rw[dA] at e1;rw[e1,hMs,hs,<-AU L k rest uS hrest ae,bK];exact Fj _ _ (iU k)):P:=h
theorem Fw (xs:List Nat) (ao:Option Addr) (n cap B by' words rest:Nat) (w:World) (hn:n=xs.length) (hc:n<=cap) (hby:by'=32*words+rest) (hrest:rest<32) (hbig:n<=70368744177663) (hby2:by'<=9223372036854775807)
 (hx:Wf xs) (hR:Rd B w ao xs) (hB:B<=w.heap.size) :
 As 131 #[.slice ao n cap,.int .i64 (by':Nat)] w λr w'=>∃v,r=.returned v/\Nt w.heap.size w' v (val xs/2^by')/\Below w.heap.size w w':=by
 have e1:(by':Int)/32=(words:Int):=ae
 have e2:(by':Int)%32=(rest:Int):=ae
 by_cases hw:n<=words
 . have hv:val xs/2^by'=0:=by
    have h1:=dh xs hx;rw[<-hn] at h1
    have h2:pw n<=2^by':=by
     rw[hby,nR];have:=kM hw;have:=kF this (bG rest);omega
    exact iq ae
   rw[hv];clear hv hn hx hR hby;go_enter Tryz.func131,Tryz.ntmps131;go_wp2;go_ret;exact⟨_,rfl,Nt.nil _ _,aD _ _⟩
 . have hwn:words<n:=ae
   obtain⟨b,fI,KW,rfl,hbc⟩:=hR (by intro e;subst e;simp at hn;omega);obtain⟨k0,hk0⟩:=ah (n-words);obtain⟨W1,hW1⟩:=ah (w.alloc (.cells (madeCells #[.int .u32 0] (n-words)) 162));have kD:Own W1 w.heap.size (List.replicate (n-words) 0):=by rw[hW1];exact Own.made w _
   have hB1:Below w.heap.size w W1:=by rw[hW1];exact(aD _ _).alloc (aA _) _
   have hmk:=dO ((n:Int)-words) (n-words) ae ae w;rw[<-hW1] at hmk;obtain⟨W2,hcp,hO2,hb2⟩:=jP W1 w.heap.size (n-words) (n-words) (some ⟨b,fI+words,none⟩) (n-words) (cap-words) B 3 (List.replicate (n-words) 0) (xs.drop words) kD aN (by simp;omega) ((hR.below (hB1.mono hB)).drop words) ae;have ed:(List.replicate (n-words) 0).drop (n-words)=([]:List Nat):=by simp
   rw[ed,Cr] at hO2;clear ed;have hB2:Below w.heap.size w W2:=But.below hB1 hb2 hB1.size (aA _);obtain⟨g,hg⟩:=ah (w.heap.size);rw[<-hg] at hO2 hmk hB2 hB hcp;obtain⟨L,hL⟩:=ah (xs.drop words);have uR:L.length=n-words:=by rw[hL];simp;omega
   have uS:Wf L:=by rw[hL];exact hx.drop words
   rw[<-hL] at hO2;have HR:=(Ew uS uR hn hB2 hg hby hL);have hxw:=hid hx;have HO:=hid hO2;clear hn hx hR kD hB1 hW1 hg hby hO2 hB2 hL uR uS hb2 hbc hk0;go_enter Tryz.func131,Tryz.ntmps131;go_wp2
   go_loopg [30] (n-words) (λgk i wr=>∃(k:Nat) (M:List Nat),gk+k=n-words/\i=.int .i64 (k:Nat) /\
    Hid (Own wr g M)/\Aside (Wf M/\M.length=n-words/\(∀j,k<=j->M.getD j 0=L.getD j 0)/\sg M 0 k=val L/2^rest%pw k/\But g W2 wr))
   case atStart=>exact⟨0,_,ae,rfl,HO,HR.o.1,HR.o.2.1,λ_ _=>rfl,by rw[dV,jA,Nat.mod_one],But.refl _ _⟩
   case round =>
    obtain⟨k,M,jo,rfl,HM,HA⟩:=hrel
    by_cases hk:k<n-words
    . obtain⟨uS,uR,hn,hB2,hg,hby,hL⟩:=HR.o;obtain⟨bC,dx,Qv,hMs,aI⟩:=HA.o;have hgc:=HM.o.cell k ae;have hgf:=HM.o.frozen k;obtain⟨x,fE⟩:∃x:Nat,M.getD k 0=x:=⟨_,rfl⟩;have hxl:x<4294967296:=fE ▸ bC.get _;rw[fE] at hgc
      by_cases hk1:k+1<n-words
      . have hgc1:=HM.o.cell (k+1) ae;obtain⟨y,rJ⟩:∃y:Nat,M.getD (k+1) 0=y:=⟨_,rfl⟩;have hyl:y<4294967296:=rJ ▸ bC.get _;rw[rJ] at hgc1;obtain⟨t,ht⟩:∃t:Nat,t=x+y*4294967296:=⟨_,rfl⟩;have e3:bits BinOp.or IntKind.u64 (x:Int) ((y:Int)*4294967296)=(t:Int):=by rw[yG y x hyl hxl,ht]
        obtain⟨s,hs⟩:∃s:Nat,s=t/2^rest%4294967296:=⟨_,rfl⟩;have e4:(t:Int)/2^rest%4294967296=(s:Int):=by rw[hs];simp
        have hs2:s=(L.getD k 0+L.getD (k+1) 0*4294967296)/2^rest%4294967296:=by
         rw[hs,ht,<-fE,<-rJ,Qv k ae,Qv (k+1) ae]
        have hsl:s<4294967296:=ae
        have HX:=(bA hs2 hsl);clear fE rJ uS uR hn hB2 hg hby hL bC dx Qv hMs aI hs hs2 hsl ht;exact zc
      . obtain⟨s,hs⟩:∃s:Nat,s=x/2^rest:=⟨_,rfl⟩;have e4:(x:Int)/2^rest=(s:Int):=by rw[hs];simp
        have hsx:s<=x:=by rw[hs];exact o8 _ _
        have hs2:s=(L.getD k 0+L.getD (k+1) 0*4294967296)/2^rest%4294967296:=by
         have:L.getD (k+1) 0=0:=by rw[bF,oN ae];rfl
         rw[this,fe,il,<-Qv k ae,fE,<-hs];omega
        have hsl:s<4294967296:=ae
        have HX:=(bA hs2 hsl);have e5:(s:Int)%4294967296=(s:Int):=ae
        clear fE uS uR hn hB2 hg hby hL bC dx Qv hMs aI hs hs2;exact zc
    . obtain rfl:k=n-words:=ae
      obtain⟨bC,dx,Qv,hMs,aI⟩:=HA.o;have T:=hid (fq M (some ⟨g,0,none⟩) (n-words) (n-words) (g+1) wr dx.symm (aA _) ae (by simpa [dx,eF] using Rd.gW HM.o 0 (n-words)));clear bC dx Qv hMs aI;go_wp2_with fail;refine T.o.mono ?_;rintro r w1 ⟨rfl,rfl⟩;go_wp2;go_ret;obtain⟨uS,uR,hn,hB2,hg,hby,hL⟩:=HR.o;obtain⟨bC,dx,Qv,hMs,aI⟩:=HA.o
      have e4:val M=val xs/2^by':=by
       have h1:val L<pw (n-words):=by rw[<-uR];exact dh L uS
       have h2:val L/2^rest<pw (n-words):=iC (o8 _ _) h1;rw[jL h2] at hMs;rw[<-dJ M,dx,hMs,hby,nR,<-wC];congr 1;have h3:=dU xs words ae
       have h4:val (xs.take words)<pw words:=by
        have:(xs.take words).length=words:=by rw[fJ];omega
        have h5:Wf xs:=hxw.o;have:=dh _ (h5.take words);rwa [‹(xs.take words).length=words›] at this
       rw[h3,sP _ _ (iU words),iq h4,dA,hL]
      refine⟨_,rfl,?_,?_⟩
      . exact Qbd
      . rw[<-hg];exact But.below hB2 aI (by have:=hB2.size;omega) (aA _)
def Two(lo:Nat)(w:World)(r:Ending)(X Y:Nat):Prop:=∃v u,r=.returned (.tuple #[v,u])/\Nt lo w v X/\Nt lo w u Y/\Apart v u
theorem QP (xs ys:List Nat) (ao bo:Option Addr) (n cap m bE B:Nat) (w:World) (hn:n=xs.length) (hm:m=ys.length) (hnm:n<m) (hc:n<=cap) (hbig:n<=35184372088833)
 (hx:Wf xs) (hy:Wf ys) (htop:ys.getD (m-1) 0≠0) (hR:Rd B w ao xs) (hB:B<=w.heap.size) :
 As 210 #[.slice ao n cap,.slice bo m bE] w λr w'=>Two w.heap.size w' r (val xs/val ys) (val xs%val ys)/\An w w':=by
 have hlt:val xs<val ys:=by
  have h1:=dh xs hx
  have h2:pw (m-1)<=val ys:=by
   have e:=bN ys 0 (m-1) ae;rw[dA,show m-1+1=ys.length by omega,dJ] at e;have:=fG (pw (m-1)) (show 1<=ys.getD (m-1) 0 by omega);omega
  have h3:=kM (show xs.length<=m-1 by omega);omega
 have N:=hid (E9 xs ao n cap B w hn hc ae hx hR hB);have HL:=(ak hlt);have hlen:Hid ((ws (val xs)).length<=n):=by rw[<-gI xs hx,hn];exact kL xs
 clear hn hm hx hy htop hR hlt;go_enter Tryz.func210,Tryz.ntmps210;go_wp2_with fail;refine N.o.mono ?_;rintro r w1 ⟨rfl,hO,hb⟩;have HO:=(bA hO hb);clear hO hb N;go_wp2
 go_ret2
 obtain⟨hO,hb⟩:=HO.o;rw[iq HL.o,jL HL.o];refine⟨⟨_,_,rfl,Nt.nil _ _,?_,qC _⟩,hb⟩
 have T:=Nt.gW (lo:=w.heap.size) hO (aA _) (gG _) (by
  have:(ws (val xs)).length<=35184372088833:=by
   have h:=hlen.o;omega
  unfold maxLen;omega)
 rw[aB,KO] at T;exact T
theorem div_one (xs ys:List Nat) (ao bo:Option Addr) (n cap bE B:Nat) (w:World) (hn:n=xs.length) (hm:1=ys.length) (hnm:1<=n) (hc:n<=cap) (hcb:1<=bE) (hbig:n<=35184372088833)
 (hx:Wf xs) (hy:Wf ys) (htop:ys.getD 0 0≠0) (hR:Rd B w ao xs) (hS:Rd B w bo ys) (hB:B<=w.heap.size) :
 As 210 #[.slice ao n cap,.slice bo 1 bE] w λr w'=>Two w.heap.size w' r (val xs/val ys) (val xs%val ys)/\An w w':=by
 have N:=hid (E9 xs ao n cap B w hn hc ae hx hR hB);have hlen:(ws (val xs)).length<=n:=by rw[<-gI xs hx,hn];exact kL xs
 obtain⟨b,fI,KW,rfl,hbc⟩:=hS (by intro e;subst e;simp at hm);have hb0:=hbc 0 ae;rw[il] at hb0
 have hv:val ys=ys.getD 0 0:=by
  rw[<-dJ ys,<-hm,show(1:Nat)=0+1 from rfl,bN ys 0 0 ae,dV,jA];simp
 have hyl:=hy.get 0;obtain⟨y,rJ⟩:∃y,ys.getD 0 0=y:=⟨_,rfl⟩;rw[rJ] at hb0 hv hyl htop;rw[hv];obtain⟨k,hk⟩:∃k,(ws (val xs)).length=k:=⟨_,rfl⟩;rw[hk] at N hlen;obtain⟨X,hX⟩:∃X,val xs=X:=⟨_,rfl⟩;rw[hX] at N hk |-;have HH:=(bA hk hX);clear hn hm hx hy hR hS hbc hv rJ hk hX;go_enter Tryz.func210,Tryz.ntmps210;go_wp2_with fail;refine N.o.mono ?_;rintro r w1 ⟨rfl,hO,hb⟩;have hb1:w1.cell? ⟨b,fI,none⟩=some (.int .u32 (y:Int)):=(hb.cell (p:=⟨b,fI,none⟩) (by exact gT KW hB)).trans hb0;have C:=hid (VD (ws X) w.heap.size 0 k k y w1 hO (by rw[HH.o.1];omega) (aA _) ae (gG X) hyl ae);have H1:=(ak hb);clear hO hb N hb0;go_wp2_with fail;refine C.o.mono ?_;rintro r w2 ⟨M,c,rfl,hcy,hO2,hM,hout,hsum,aI⟩;have hl:M.length=k:=by rw[hout.1];exact HH.o.1
 have T:=hid (fq M (some ⟨w.heap.size,0,none⟩) k k (w.heap.size+1) w2 hl.symm (aA _) ae (by simpa [hl,eF] using Rd.gW hO2 0 k));have H2:=(kz hO2 hM hout hsum aI hl);clear hO2 hM hout hsum aI hl C hb1;go_wp2_with fail;refine T.o.mono ?_;rintro r w3 ⟨rfl,rfl⟩;have F:=hid (nS c w3 ae);clear T;go_wp2_with fail;refine F.o.mono ?_;rintro r w4 ⟨vr,rfl,AZ,hb4⟩;have H4:=(bA AZ hb4);clear AZ hb4 F;go_wp2
 go_ret2
 obtain⟨hO2,hM,hout,hsum,aI,hl⟩:=H2.o;obtain⟨AZ,hb4⟩:=H4.o;have hb:=H1.o
 have hs2:X=val M*y+c:=by
  have e1:sg (ws X) 0 k=X:=by rw[<-HH.o.1,dJ,aB]
  have e2:sg M 0 k=val M:=by rw[<-hl,dJ]
  rw[e1,e2] at hsum;exact hsum
 have hq:X/y=val M:=by rw[hs2,oV,Nat.add_mul_div_right _ _ ae,iq hcy,dA]
 have hr:X%y=c:=by rw[hs2,oV,Nat.add_mul_mod_self_right,jL hcy]
 rw[hq,hr];have hsz:w.heap.size<=w3.heap.size:=dB hb.size aI.size;have Q:=Nt.gW (lo:=w.heap.size) hO2 (aA _) hM (by rw[hl];unfold maxLen;omega);rw[hl] at Q;refine⟨⟨_,_,rfl,Q.below hb4,AZ.mono hsz,Fh (hi:=0) Q AZ (aA _)⟩,?_⟩;exact(But.below hb aI hb.size (aA _)).trans (hb4.mono hsz)
theorem Nb(X Y n m z:Nat)(hX:X<pw n)(hY:pw (m-1)*2^(31-z)<=Y)(hz:z<32)(hm:0<m)(hnm:m<=n):X*2^z<pw (n-m+1)*(Y*2^z):=by
 have h1:pw n=pw (n-m+1)*pw (m-1):=by rw[<-uM];congr 1;omega
 have h2:pw n<=pw (n-m+1)*Y:=by
  have h3:pw (m-1)*1<=pw (m-1)*2^(31-z):=fG _ (bG _);rw[h1];exact fG _ ae
 have h3:X*2^z<pw (n-m+1)*Y*2^z:=fK ae (bG z);rw[aQ] at h3;exact h3
theorem I5(ys:List Nat)(m:Nat)(hm:m=ys.length)(hy:Wf ys)(hm0:0<m)(htop:ys.getD (m-1) 0≠0) :
 ∃z,z=32-bl (ys.getD (m-1) 0)/\z<32/\val ys≠0/\pw (m-1)*2^(31-z)<=val ys/\val ys<pw (m-1)*2^(32-z):=by
 have hl:=hy.get (m-1);have h1:=xx _ hl;have h2:=dM _ htop;have h3:=iw _ htop;have h4:=iT (ys.getD (m-1) 0);have e:=bN ys 0 (m-1) ae;rw[dA,show m-1+1=ys.length by omega,dJ] at e;have h5:=oF ys 0 (m-1) hy ae;generalize ys.getD (m-1) 0=t at *;have hp:=iU (m-1);have h6:pw (m-1)*2^(bl t-1)<=pw (m-1)*t:=fG _ h3;have h7:pw (m-1)*(t+1)<=pw (m-1)*2^bl t:=fG _ h4;rw[oq,eQ] at h7;have h8:pw (m-1)*1<=pw (m-1)*t:=fG _ ae;refine⟨32-bl t,rfl,ae,ae,?_,?_⟩
 . rw[show 31-(32-bl t)=bl t-1 by omega];omega
 . rw[show 32-(32-bl t)=bl t by omega];omega
theorem QQ (xs ys:List Nat) (ao bo:Option Addr) (n cap m bE B:Nat) (w:World) (hn:n=xs.length) (hm:m=ys.length) (hm2:2<=m) (hnm:m<=n) (hc:n<=cap) (hcb:m<=bE) (hbig:n<=35184372088833)
 (hx:Wf xs) (hy:Wf ys) (htop:ys.getD (m-1) 0≠0) (hR:Rd B w ao xs) (hS:Rd B w bo ys) (hB:B<=w.heap.size) :
 As 210 #[.slice ao n cap,.slice bo m bE] w λr w'=>Two w.heap.size w' r (val xs/val ys) (val xs%val ys)/\An w w':=by
 obtain⟨z,hz,hz32,hY0,hY1,hY2⟩:=I5 ys m hm hy ae htop;obtain⟨K9,yH,QS⟩:=VH (val ys) m z hY0 hY1 hY2 hz32 ae;obtain⟨b,fI,KW,rfl,hbc⟩:=hS (by intro e;subst e;simp at hm;omega);have hbt:=hbc (m-1) ae;have htl:=hy.get (m-1);have L0:=IZ (ys.getD (m-1) 0) w htl;rw[<-hz] at L0;have U1:=hid (I4 ys (some ⟨b,fI,none⟩) m bE B z 0 z w hm hcb ae hz32 ae hy hS hB);obtain⟨t,ht⟩:∃t,ys.getD (m-1) 0=t:=⟨_,rfl⟩;rw[ht] at hbt L0 htl;have L1:=hid L0;obtain⟨V,hV⟩:∃V,val ys*2^z=V:=⟨_,rfl⟩;rw[hV] at K9 yH QS U1
 have hX2:val xs*2^z<pw (n+1):=by
  have h1:=dh xs hx;rw[<-hn] at h1;have h2:=rV z hz32;have h3:val xs*2^z<=pw n*2147483648:=kF ae h2;have h4:pw n*2147483648<pw (n+1):=by rw[bK,cK];exact fK aM (iU n)
  omega
 have I6:=(aS _ _).2 hX2;have hst:=Nb (val xs) (val ys) n m z (by rw[hn];exact dh xs hx) hY1 hz32 ae hnm;rw[hV] at hst;have HST:=(ak hst);have HH:=(qs12 hn hm hx hy hR hS K9 yH QS hV hY0 I6);clear hst;clear L0 hn hm hx hy htop hR hS hz hY0 hY1 hY2 K9 yH QS hV hX2 I6 hbc ht;have hm1:(1:Int)<=(m:Int):=ae
 have hmne:((m:Int)==1)=false:=by simp;omega
 go_enter Tryz.func210,Tryz.ntmps210;go_wp2_with fail;refine L1.o.mono ?_;rintro r w0 ⟨rfl,rfl⟩;go_wp2_with fail;refine U1.o.mono ?_;rintro r w1 ⟨vv,rfl,hN1,hb1⟩;obtain⟨hn,hm,hx,hy,hR,hS,K9,yH,QS,hV,hY0,I6⟩:=HH.o;obtain⟨av,cv,rfl,hcv,hcm,hRv⟩:=hN1.shape;rw[K9] at *;obtain⟨gu,hgu⟩:=ah (w1.heap.size);obtain⟨W2,hW2⟩:=ah (w1.alloc (.cells (madeCells #[.int .u32 0] (n+1)) 162));have hO2:Own W2 gu (List.replicate (n+1) 0):=by rw[hW2,hgu];exact Own.made w1 _
 have hB2:Below gu w1 W2:=by rw[hW2,hgu];exact(aD _ _).alloc (aA _) _
 have hmk:=dO ((n:Int)+1) (n+1) ae ae w1;rw[<-hW2,<-hgu] at hmk;have hs1:=hb1.size;have hs2:=hB2.size;have hg2:=hO2.lt;have U2:=hid (I4 xs ao n cap B z 0 z W2 hn hc ae hz32 ae hx ((hR.below (hb1.mono hB)).below (hB2.mono ae)) ae);have H1:=(Ew hN1 hb1 hRv hO2 hB2 hgu hg2);clear hn hm hx hy hR hS K9 yH QS hV hY0 I6 hN1 hb1 hRv hO2 hB2 hW2 hs1 hs2 L1 U1 hbt hg2 hgu;go_wp2_with fail;refine U2.o.mono ?_;rintro r W3 ⟨va,rfl,uT,hb3⟩;obtain⟨aa,ca,rfl,ZL,hcam,hRa⟩:=uT.shape;obtain⟨hn,hm,hx,hy,hR,hS,K9,yH,QS,hV,hY0,I6⟩:=HH.o;obtain⟨hN1,hb1,hRv,hO2,hB2,Nc,hg2⟩:=H1.o;obtain⟨W4,hcp,hO4,hb4⟩:=jP W3 gu (n+1) (n+1) aa (ws (val xs*2^z)).length ca W3.heap.size 3 (List.replicate (n+1) 0) (ws (val xs*2^z)) (hO2.below hb3 hg2) aN rfl hRa I6;obtain⟨gq,hgq⟩:=ah (W4.heap.size);obtain⟨W5,QT⟩:=ah (W4.alloc (.cells (madeCells #[.int .u32 0] (n-m+1)) 162));have Vx:Own W5 gq (List.replicate (n-m+1) 0):=by rw[QT,hgq];exact Own.made W4 _
 have hmk5:=dO ((n:Int)-m+1) (n-m+1) ae ae W4;rw[<-QT,<-hgq] at hmk5;obtain⟨L,hL⟩:=ah (ws (val xs*2^z)++(List.replicate (n+1) 0).drop (ws (val xs*2^z)).length);rw[<-hL] at hO4;have uR:L.length=n+1:=by rw[hL,gU,oU,xN];omega
 have uS:Wf L:=by rw[hL,xW];exact(gG _).append (Wf.zeros _)
 have Iu:val L=val xs*2^z:=by rw[hL,val_append,aB,xW,kX];simp
 have hs3:=hb3.size;have hs4:=hb4.size;have QU:gu<gq:=by rw[hgq];have:=hO4.lt;omega
 have QV:Below gu w1 W5:=by
  rw[QT];have a1:Below gu w1 W3:=hB2.trans (hb3.mono ae);have a2:Below gu w1 W4:=But.below a1 hb4 ae (aA _);exact a2.alloc ae _
 have QW:Own W5 gu L:=by rw[QT];exact hO4.alloc _
 have H2:=(Ew Vx QW uR uS Iu QU QV);have hgq1:gu<gq:=QU;clear hn hm hx hy hR hS K9 yH QS hV hY0 I6 hN1 hb1 hRv hO2 hB2 Nc hg2 uT hb3 hRa hO4 hb4 hgq QT Vx hL uR uS Iu hs3 hs4 QV QW U2 QU ZL hcam;have hca2:m<=cv:=ae
 have e5:((n-m:Nat):Int)=(n:Int)-m:=ae
 go_wp2
 go_loopg [10] (n-m+1) (λk i wr=>∃(M Q:List Nat),k<=n-m+1/\i=.int .i64 ((k:Int)-1)/\Hid (Own wr gu M)/\Hid (Own wr gq Q) /\
  Aside (Wf M/\Wf Q/\M.length=n+1/\Q.length=n-m+1/\val L=pw k*sg Q k (n-m+1-k)*V+val M/\val M<pw k*V/\Below gu w1 wr))
 case atStart =>
  obtain⟨Vx,QW,uR,uS,Iu,QU,QV⟩:=H2.o;refine⟨L,List.replicate (n-m+1) 0,aA _,?_,QW,Vx,uS,Wf.zeros _,uR,aN,?_,?_,QV⟩
  . first | rfl | (congr 1;omega)
  . rw[wE,dV];simp
  . rw[Iu];exact HST.o
 case round =>
  obtain⟨M,Q,hk,rfl,HM,HQ,HA⟩:=hrel
  by_cases hk0:gk=0
  . subst hk0;obtain⟨bC,ZM,dx,QX,hinv,CV,hbel⟩:=HA.o;have T1:=hid (fq Q (some ⟨gq,0,none⟩) (n-m+1) (n-m+1) (gq+1) wr QX.symm (aA _) ae (by simpa [QX,eF] using Rd.gW HQ.o 0 (n-m+1)));have T2:=hid (fq M (some ⟨gu,0,none⟩) (n+1) (n+1) (gu+1) wr dx.symm (aA _) ae (by simpa [dx,eF] using Rd.gW HM.o 0 (n+1)));have hnlM:=kL M
    have hRM:Rd (gu+1) wr (some ⟨gu,0,none⟩) (M.take (nl M)):=by
     have:=Rd.gW HM.o 0 (nl M);simpa using this
    have D:=hid (Fw (M.take (nl M)) (some ⟨gu,0,none⟩) (nl M) (n+1) (gu+1) z 0 z wr (by rw[fJ,iQ hnlM]) ae ae hz32 ae ae (bC.take _) hRM (by have:=HM.o.lt;omega));rw[lG M bC] at D;clear bC ZM dx QX hinv CV hbel hnlM hRM;go_wp2_with fail;refine T1.o.mono ?_;rintro r wt1 ⟨rfl,rfl⟩;go_wp2_with fail;refine T2.o.mono ?_;rintro r wt2 ⟨rfl,rfl⟩;go_wp2_with fail;refine D.o.mono ?_;rintro r wd ⟨vr,rfl,Iw,hbr⟩;have HD:=(bA Iw hbr);clear Iw hbr T1 T2 D;go_wp2
    go_ret2
    obtain⟨Iw,hbr⟩:=HD.o;obtain⟨hn,hm,hx,hy,hR,hS,K9,yH,QS,hV,hY0,I6⟩:=HH.o;obtain⟨hN1,hb1,hRv,hO2,hB2,Nc,hg2⟩:=H1.o;obtain⟨Vx,QW,uR,uS,Iu,QU,QV⟩:=H2.o;obtain⟨bC,ZM,dx,QX,hinv,CV,hbel⟩:=HA.o;rw[jA,ik] at CV hinv;rw[Nat.sub_zero,<-QX,dJ,Iu,<-hV] at hinv;rw[<-hV] at CV;obtain⟨hq,hr⟩:=VI (val xs) (val ys) (2^z) (val Q) (val M) (bG z) hinv CV;rw[<-hq,<-hr];have hsz:w0.heap.size<=gu:=by rw[Nc];exact hb1.size
    have NQ:=Nt.gW (lo:=w0.heap.size) HQ.o ae ZM (by rw[QX];unfold maxLen;omega);rw[QX] at NQ;have hwr:gu<=wt2.heap.size:=by have:=HM.o.lt;omega
    refine⟨⟨_,_,rfl,NQ.below hbr,Iw.mono ae,Fh (hi:=0) NQ Iw (aA _)⟩,?_⟩;exact((hb1.trans (hbel.mono hsz))).trans (hbr.mono ae)
  . obtain⟨i,rfl⟩:∃i,gk=i+1:=⟨gk-1,ae⟩;obtain⟨hn,hm,hx,hy,hR,hS,K9,yH,QS,hV,hY0,I6⟩:=HH.o;obtain⟨hN1,hb1,hRv,hO2,hB2,Nc,hg2⟩:=H1.o;obtain⟨bC,ZM,dx,QX,hinv,CV,hbel⟩:=HA.o;obtain⟨k,hk2⟩:∃k,m=k+2:=⟨m-2,ae⟩;obtain⟨hz0,hhead⟩:=QO M i m V bC ae yH CV
    have T:=hid (EW M (ws V) gu i (n+1-i) av m cv gu wr k hk2 HM.o ae ae ae ae bC (gG V) ((Nc ▸ hRv).below hbel) (aA _)
     (by rw[show k+1=m-1 by omega];exact QS) (by rw[show k+3=m+1 by omega,aB];exact hhead))
    have hik:(i:Int)<(n:Int)-m+1:=ae
    have HI:=(bA hz0 hk2);clear hn hm hx hy hR hS K9 yH QS hV hY0 I6 hN1 hb1 hRv hO2 hB2 Nc hg2 bC ZM dx QX hinv CV hbel hz0 hhead hk2 hk0;go_wp2_with fail;rw[show i+m+1-i=m+1 by omega];refine T.o.mono ?_;rintro r w2 ⟨o,M2,rfl,ho,VK,VL,hout,hsum,hlt2,aI⟩;have Vy:=HQ.o.but aI ae;have hqc:=Vy.cell i (by rw[HA.o.r3.1];omega);have hqf:=Vy.frozen i;have HJ:=(Ck ho VK VL hout hsum hlt2 aI Vy);clear ho VK VL hout hsum hlt2 aI Vy T;go_wp2;go_roundg i
    case measure=>omega
    case rel =>
     obtain⟨ho,VK,VL,hout,hsum,hlt2,aI,Vy⟩:=HJ.o;obtain⟨bC,ZM,dx,QX,hinv,CV,hbel⟩:=HA.o;obtain⟨hz0,hk2⟩:=HI.o;rw[aB] at hsum hlt2;have hQr:i+1+(n-m+1-(i+1))=Q.length:=ae
     obtain⟨hX,hlt3⟩:=QN M M2 Q i m (n-m+1-(i+1)) V o (val L) bC ae hout hinv hz0 hQr hsum hlt2;refine⟨M2,Q.set i o,ae,by first | go_num | (congr 1;omega),VK.setOther (by simp;omega) _,Vy.set i o,VL,ZM.set _ _ ho,by rw[hout.1,dx],by simp[QX],?_,hlt3,(But.below hbel aI (by have:=HM.o.lt;omega) (aA _)).setCell (by simp;omega) _⟩;rw[show n-m+1-i=n-m+1-(i+1)+1 by omega];exact hX
theorem A8(xs:List Nat):sg (xs++[0]) 0 xs.length=val xs:=by simp[sg]
theorem Fx{xs:List Nat}(h:Wf xs):Wf (xs++[0]):=h.append (by intro x hx;simp at hx;omega)
theorem yI(n:Nat):(List.replicate (n+1) 0).drop n=[0]:=by rw[xW,IK];rfl
theorem xj{P:Prop}(h:P:=by
 have e:val (M.set n c)=sg (M.set n c) 0 (n+1):=by rw[<-dJ];simp[hl]
 have e2:=bZ M 0 n c ae;rw[dA] at e2;rw[e,e2];rw[hn,A8,<-hn] at hsum;rw[cK c] at hsum;exact hsum):P:=h
theorem ZN (xs ys:List Nat) (ao bo:Option Addr) (n cap m bE B:Nat) (w:World) (hn:n=xs.length) (hm:m=ys.length) (hnm:m<=n) (hc:n<=cap) (hcb:m<=bE) (hbig:n<=35184372088833)
 (hx:Wf xs) (hy:Wf ys) (hR:Rd B w ao xs) (hS:Rd B w bo ys) (hB:B<=w.heap.size) :
 As 178 #[.slice ao n cap,.slice bo m bE] w λr w'=>∃v,r=.returned v/\Nt w.heap.size w' v (val xs+val ys)/\An w w':=by
 obtain⟨W1,hW1⟩:=ah (w.alloc (.cells (madeCells #[.int .u32 0] (n+1)) 162));have kD:Own W1 w.heap.size (List.replicate (n+1) 0):=by rw[hW1];exact Own.made w (n+1)
 have hB1:An w W1:=by rw[hW1];exact(aD _ _).alloc (aA _) _
 obtain⟨W2,hcp,hO2,hb2⟩:=jP W1 w.heap.size (n+1) (n+1) ao n cap B 3 (List.replicate (n+1) 0) xs kD aN hn (hR.below (hB1.mono hB)) ae;rw[yI] at hO2;have hB2:An w W2:=But.below hB1 hb2 hB1.size (aA _);have H:=hid (uQ (xs++[0]) ys w.heap.size 0 n (n+1) bo m bE B W2 hO2 (by simp;omega) hm ae ae ae (Fx hx) hy (hS.below (hB2.mono hB)) hB);have hmk:=dO ((n:Int)+1) (n+1) ae ae w;rw[<-hW1] at hmk;have HH:=(gy hn hm hx hB2 hB);clear hn hm hx hy hR hS kD hB1 hO2 hb2 hB2 hB hW1;go_enter Tryz.func178,Tryz.ntmps178;go_wp2_with fail;refine H.o.mono ?_;rintro r W3 ⟨M,c,rfl,hc1,hO3,hM,hout,hsum,aI⟩;obtain⟨hn,hm,hx,hB2,hB⟩:=HH.o;have hl:M.length=n+1:=by rw[hout.1];simp;omega
 have hcl:=hO3.cell n ae;have hfr:=hO3.frozen n;have hO4:=hO3.set n c;have T:=hid (fq (M.set n c) (some ⟨w.heap.size,0,none⟩) (n+1) (n+1) (w.heap.size+1) _ (by simp[hl]) (aA _) ae (by simpa [hl,eF] using Rd.gW hO4 0 (n+1)));have HI:=(kz hc1 hO4 hM hsum aI hl);clear hn hm hx hB2 hB hc1 hO3 hM hout hsum aI hO4 H hl;go_wp2_with fail;refine T.o.mono ?_;rintro r w1 ⟨rfl,rfl⟩;go_wp2;go_ret;obtain⟨hn,hm,hx,hB2,hB⟩:=HH.o;obtain⟨hc1,hO4,hM,hsum,aI,hl⟩:=HI.o
 have hv:val (M.set n c)=val xs+val ys:=by
  exact xj
 refine⟨_,rfl,?_,But.below hB2 (aI.set n _) hB2.size (aA _)⟩;have N:=Nt.gW (lo:=w.heap.size) hO4 (aA _) (hM.set _ _ ae) (by simp[hl];unfold maxLen;omega);rw[hv] at N;simpa [hl] using N
theorem add_lt (xs ys:List Nat) (ao bo:Option Addr) (n cap m bE B:Nat) (w:World) (hn:n=xs.length) (hm:m=ys.length) (hnm:m<n) (hc:n<=cap) (hcb:m<=bE) (hbig:n<=35184372088833)
 (hx:Wf xs) (hy:Wf ys) (hR:Rd B w ao xs) (hS:Rd B w bo ys) (hB:B<=w.heap.size) :
 As 178 #[.slice bo m bE,.slice ao n cap] w λr w'=>∃v,r=.returned v/\Nt w.heap.size w' v (val xs+val ys)/\An w w':=by
 obtain⟨W1,hW1⟩:=ah (w.alloc (.cells (madeCells #[.int .u32 0] (n+1)) 162));have kD:Own W1 w.heap.size (List.replicate (n+1) 0):=by rw[hW1];exact Own.made w (n+1)
 have hB1:An w W1:=by rw[hW1];exact(aD _ _).alloc (aA _) _
 obtain⟨W2,hcp,hO2,hb2⟩:=jP W1 w.heap.size (n+1) (n+1) ao n cap B 3 (List.replicate (n+1) 0) xs kD aN hn (hR.below (hB1.mono hB)) ae;rw[yI] at hO2;have hB2:An w W2:=But.below hB1 hb2 hB1.size (aA _);have H:=hid (uQ (xs++[0]) ys w.heap.size 0 n (n+1) bo m bE B W2 hO2 (by simp;omega) hm ae ae ae (Fx hx) hy (hS.below (hB2.mono hB)) hB);have hmk:=dO ((n:Int)+1) (n+1) ae ae w;rw[<-hW1] at hmk;have HH:=(gy hn hm hx hB2 hB);clear hn hm hx hy hR hS kD hB1 hO2 hb2 hB2 hB hW1;go_enter Tryz.func178,Tryz.ntmps178;go_wp2_with fail;refine H.o.mono ?_;rintro r W3 ⟨M,c,rfl,hc1,hO3,hM,hout,hsum,aI⟩;obtain⟨hn,hm,hx,hB2,hB⟩:=HH.o;have hl:M.length=n+1:=by rw[hout.1];simp;omega
 have hcl:=hO3.cell n ae;have hfr:=hO3.frozen n;have hO4:=hO3.set n c;have T:=hid (fq (M.set n c) (some ⟨w.heap.size,0,none⟩) (n+1) (n+1) (w.heap.size+1) _ (by simp[hl]) (aA _) ae (by simpa [hl,eF] using Rd.gW hO4 0 (n+1)));have HI:=(kz hc1 hO4 hM hsum aI hl);clear hn hm hx hB2 hB hc1 hO3 hM hout hsum aI hO4 H hl;go_wp2_with fail;refine T.o.mono ?_;rintro r w1 ⟨rfl,rfl⟩;go_wp2;go_ret;obtain⟨hn,hm,hx,hB2,hB⟩:=HH.o;obtain⟨hc1,hO4,hM,hsum,aI,hl⟩:=HI.o
 have hv:val (M.set n c)=val xs+val ys:=by
  exact xj
 refine⟨_,rfl,?_,But.below hB2 (aI.set n _) hB2.size (aA _)⟩;have N:=Nt.gW (lo:=w.heap.size) hO4 (aA _) (hM.set _ _ ae) (by simp[hl];unfold maxLen;omega);rw[hv] at N;simpa [hl] using N
theorem VM (xs ys:List Nat) (ao bo:Option Addr) (n cap m bE B:Nat) (w:World) (hn:n=xs.length) (hm:m=ys.length) (hc:n<=cap) (hcb:m<=bE) (hbig:n<=35184372088833) (hbig2:m<=35184372088833)
 (hx:Wf xs) (hy:Wf ys) (hR:Rd B w ao xs) (hS:Rd B w bo ys) (hB:B<=w.heap.size) :
 As 178 #[.slice ao n cap,.slice bo m bE] w λr w'=>∃v,r=.returned v/\Nt w.heap.size w' v (val xs+val ys)/\An w w':=by
 by_cases h:m<=n
 . exact ZN xs ys ao bo n cap m bE B w hn hm h hc hcb hbig hx hy hR hS hB
 . have:=add_lt ys xs bo ao m bE n cap B w hm hn ae hcb hc hbig2 hy hx hS hR hB;rw[oV] at this;exact this
theorem VN (xs ys:List Nat) (ao bo:Option Addr) (n cap m bE B:Nat) (w:World) (hn:n=xs.length) (hm:m=ys.length) (hm0:0<m) (hc:n<=cap) (hcb:m<=bE) (hbig:n<=35184372088833)
 (hx:Wf xs) (hy:Wf ys) (htop:ys.getD (m-1) 0≠0) (hR:Rd B w ao xs) (hS:Rd B w bo ys) (hB:B<=w.heap.size) :
 As 210 #[.slice ao n cap,.slice bo m bE] w λr w'=>Two w.heap.size w' r (val xs/val ys) (val xs%val ys)/\An w w':=by
 by_cases h1:n<m
 . exact QP xs ys ao bo n cap m bE B w hn hm h1 hc hbig hx hy htop hR hB
 . by_cases h2:m=1
   . subst h2;exact div_one xs ys ao bo n cap bE B w hn hm ae hc hcb hbig hx hy htop hR hS hB
   . exact QQ xs ys ao bo n cap m bE B w hn hm ae ae hc hcb hbig hx hy htop hR hS hB
theorem ZO(X:Nat)(h:X≠0):(ws X).getD ((ws X).length-1) 0≠0:=by
 have h1:nl (ws X)≠0:=by rw[KO];intro e;exact h ((bT X).1 e)
 have:=KP (ws X) h1;rwa [KO] at this
theorem wK{X Y:Nat}(h:X<=Y):(ws X).length<=(ws Y).length:=(aS X _).2 (iC h (gZ Y))
theorem CW:ws 1=[1]:=by rw[pF 1 ae,show 1/4294967296=0 from rfl,cB]
theorem VO (xs bs:List Nat) (ao bo:Option Addr) (n cap m bE B:Nat) (w:World) (hn:n=xs.length) (hm:m=bs.length) (IX:m<=n) (hc:n<=cap) (hcb:m<=bE) (hbig:n<=35184372088833)
 (hx:Wf xs) (hb:Wf bs) (hle:val bs<=val xs) (hR0:Rd B w ao xs) (hS:Rd B w bo bs) (hB:B<=w.heap.size) :
 As 180 #[.slice ao n cap,.slice bo m bE] w λr w'=>∃v,r=.returned v/\Nt w.heap.size w' v (val xs-val bs)/\Below w.heap.size w w':=by
 obtain⟨W1,hW1⟩:=ah (w.alloc (.cells (madeCells #[.int .u32 0] n) 162));have kD:Own W1 w.heap.size (List.replicate n 0):=by rw[hW1];exact Own.made w n
 have hB1:Below w.heap.size w W1:=by rw[hW1];exact(aD _ _).alloc (aA _) _
 obtain⟨W2,hcp,hO2,hb2⟩:=jP W1 w.heap.size n n ao n cap B 3 (List.replicate n 0) xs kD aN hn (hR0.below (hB1.mono hB)) ae;rw[wD aN,Cr] at hO2;have hB2:Below w.heap.size w W2:=But.below hB1 hb2 hB1.size (aA _);have hmk:=dO (n:Int) n rfl ae w;rw[<-hW1] at hmk;have hR:Rd B W2 bo bs:=hS.below (hB2.mono hB);obtain⟨g,hg⟩:=ah (w.heap.size);rw[<-hg] at hO2 hcp hmk hB2 hB;have HR:=(Ck hR hm hb hx hn hle hB2 hg);have HO:=hid hO2;have ET:Hid (∀x y c s d w,_->_->_->_->_->_):=Ay;clear hn hm hx hb hR0 hS kD hB1 hO2 hb2 hB2 hW1 hle hR hg;go_enter Tryz.func180,Tryz.ntmps180;go_wp2
 go_loopg [6,18] m (λgk c i wr=>∃(k cv:Nat) (M:List Nat),gk+k=m/\c=.int .u32 (cv:Nat)/\cv<=1/\i=.int .i64 (k:Nat) /\
  Hid (Own wr g M)/\Aside (Wf M/\Out xs M 0 k/\sg M 0 k+sg bs 0 k=sg xs 0 k+cv*pw k/\But g W2 wr))
 case atStart=>exact⟨0,0,xs,ae,rfl,ae,rfl,HO,HR.o.r3.1,Out.refl _ _ _,by simp[dV],But.refl _ _⟩
 case round =>
  obtain⟨k,cv,M,jo,rfl,hcv,rfl,HM,HA⟩:=hrel
  by_cases hk:k<m
  . obtain⟨hR,hm,hb,hx,hn,hle,hB2,hg⟩:=HR.o;obtain⟨bC,fH,hMs,aI⟩:=HA.o;obtain⟨b,fI,KW,rfl,hbc⟩:=hR (by intro e;subst e;simp at hm;omega)
    have hbk:wr.cell? ⟨b,fI+k,none⟩=some (.int .u32 ((bs.getD k 0:Nat):Int)):=by
     have h1:=aI.block b (qZ W2 ⟨b,fI+k,none⟩ (hbc k ae)) ae;exact z6
    have hgc:=HM.o.cell k (by rw[fH.1];omega);have hgf:=HM.o.frozen k;obtain⟨x,fE⟩:∃x:Nat,M.getD k 0=x:=⟨_,rfl⟩;obtain⟨y,hy⟩:∃y:Nat,bs.getD k 0=y:=⟨_,rfl⟩;have hxl:x<4294967296:=fE ▸ bC.get _;have hyl:y<4294967296:=hy ▸ hb.get _;rw[fE] at hgc;rw[hy] at hbk;obtain⟨s,hs⟩:∃s:Nat,(s:Int)=((x:Int)-y-cv)%4294967296:=⟨(((x:Int)-y-cv)%4294967296).toNat,ae⟩;obtain⟨d,hd⟩:∃d:Nat,d=if x<y+cv then 1 else 0:=⟨_,rfl⟩
    have HX:=(iN fE hy hs hd);clear fE hy hs hd hR hm hb hx hn hle hB2 hg bC fH hMs aI hbc;go_wp2_with fail;refine(ET.o x y cv s d _ hxl hyl hcv HX.o.r2.1 HX.o.r3).mono ?_;rintro r w1 ⟨rfl,rfl⟩;go_wp2;go_roundg (gk-1)
    case measure=>omega
    case rel =>
     obtain⟨fE,hy,hs,hd⟩:=HX.o;obtain⟨hR,hm,hb,hx,hn,hle,hB2,hg⟩:=HR.o;obtain⟨bC,fH,hMs,aI⟩:=HA.o;have hd1:d<=1:=by rw[hd];split <;> omega
     have hsum:s+y+cv=x+d*4294967296:=by rw[hd];split <;> omega
     refine⟨k+1,d,M.set k s,ae,rfl,hd1,by go_num,HM.o.set _ _,bC.set _ _ ae,(fH.mono ae).set _ _ ae ae,?_,aI.set _ _⟩;have e1:=bZ M 0 k s (by rw[fH.1];omega);rw[dA] at e1;rw[e1,bN xs 0 k ae,bN bs 0 k ae,dA,hy,bK];have e:xs.getD k 0=x:=by rw[<-fE];exact(fH.2 _ ae).symm
     rw[e];exact pJ _ _ _ _ _ _ _ _ _ hMs hsum
  . obtain rfl:k=m:=ae
    have HA2:Aside (Wf M/\Out xs M 0 k/\sg M 0 k+val bs=sg xs 0 k+cv*pw k/\But g W2 wr):=by
     obtain⟨hR,hm,hb,hx,hn,hle,hB2,hg⟩:=HR.o;obtain⟨bC,fH,hMs,aI⟩:=HA.o;refine⟨bC,fH,?_,aI⟩;rw[<-hMs,hm,dJ]
    clear HA jo HO hk;go_wp2
    go_loopg [6,9] (n-k+1) (λg2 c i w2=>∃(j cv:Nat) (M:List Nat),g2+j=n+1/\k<=j/\j<=n/\c=.int .u32 (cv:Nat)/\cv<=1/\i=.int .i64 (j:Nat) /\
     Hid (Own w2 g M)/\Aside (Wf M/\Out xs M 0 j/\sg M 0 j+val bs=sg xs 0 j+cv*pw j/\But g W2 w2))
    case atStart=>exact⟨k,cv,M,ae,aA _,IX,rfl,hcv,rfl,HM,HA2.o⟩
    case round =>
     clear HM HA2 hcv;obtain⟨j,cv,M,hgj,hkj,hjn,rfl,hcv,rfl,HM,HA⟩:=hrel
     by_cases h0:cv=0
     . subst h0;obtain⟨hR,hm,hb,hx,hn,hle,hB2,hg⟩:=HR.o;obtain⟨bC,fH,hMs,aI⟩:=HA.o;have hl:M.length=n:=by rw[fH.1,hn]
       have T:=hid (fq M (some ⟨g,0,none⟩) n n (g+1) wr hl.symm (aA _) ae (by simpa [hl,eF] using Rd.gW HM.o 0 n));clear hR hm hb hx hn hle hB2 hg bC fH hMs aI;go_wp2_with fail;refine T.o.mono ?_;rintro r w1 ⟨rfl,rfl⟩;go_wp2;go_ret;obtain⟨hR,hm,hb,hx,hn,hle,hB2,hg⟩:=HR.o;obtain⟨bC,fH,hMs,aI⟩:=HA.o;rw[fe,il] at hMs;have hv:=MV (n:=n) hjn ae fH hMs;have e1:sg M 0 n=val M:=by rw[<-hl];exact dJ M
       have e2:sg xs 0 n=val xs:=by rw[hn];exact dJ xs
       rw[e1,e2] at hv;refine⟨_,rfl,?_,?_⟩
       . have N:=Nt.gW (lo:=g) HM.o (aA _) bC (by rw[hl];unfold maxLen;omega);rw[show val xs-val bs=val M by omega,<-hg];rw[hl] at N;exact N
       . rw[<-hg];exact But.below hB2 aI (by have:=hB2.size;omega) (aA _)
     . obtain rfl:cv=1:=ae
       obtain⟨hR,hm,hb,hx,hn,hle,hB2,hg⟩:=HR.o;obtain⟨bC,fH,hMs,aI⟩:=HA.o
       have hj:j<n:=by
        by_cases hj:j=n
        . exfalso;subst hj;have h1:=oF M 0 j bC (by rw[fH.1];omega);have e2:sg xs 0 j=val xs:=by rw[hn];exact dJ xs
          omega
        . omega
       have hgc:=HM.o.cell j (by rw[fH.1];omega);have hgf:=HM.o.frozen j;obtain⟨x,fE⟩:∃x:Nat,M.getD j 0=x:=⟨_,rfl⟩;have hxl:x<4294967296:=fE ▸ bC.get _;rw[fE] at hgc;obtain⟨s,hs⟩:∃s:Nat,(s:Int)=((x:Int)-(0:Nat)-(1:Nat))%4294967296:=⟨(((x:Int)-(0:Nat)-(1:Nat))%4294967296).toNat,ae⟩;obtain⟨d,hd⟩:∃d:Nat,d=if x<0+1 then 1 else 0:=⟨_,rfl⟩
       have HX:=(gp fE hs hd);clear fE hs hd hR hm hb hx hn hle hB2 hg bC fH hMs aI h0;go_wp2_with fail;refine(ET.o x 0 1 s d _ hxl ae ae HX.o.2.1 HX.o.r2).mono ?_;rintro r w1 ⟨rfl,rfl⟩;go_wp2;go_roundg (gk-1)
       case measure=>omega
       case rel =>
        obtain⟨fE,hs,hd⟩:=HX.o;obtain⟨hR,hm,hb,hx,hn,hle,hB2,hg⟩:=HR.o;obtain⟨bC,fH,hMs,aI⟩:=HA.o;have hd1:d<=1:=by rw[hd];split <;> omega
        have hsum:s+0+1=x+d*4294967296:=by rw[hd];split <;> omega
        refine⟨j+1,d,M.set j s,ae,ae,ae,rfl,hd1,by go_num,HM.o.set _ _,bC.set _ _ ae,(fH.mono ae).set _ _ ae ae,?_,aI.set _ _⟩;have e1:=bZ M 0 j s (by rw[fH.1];omega);rw[dA] at e1;rw[e1,bN xs 0 j ae,dA,bK];have e:xs.getD j 0=x:=by rw[<-fE];exact(fH.2 _ ae).symm
        rw[e];have:=pJ (pw j) _ _ _ _ x 0 s d hMs hsum;omega
theorem CX (L bs:List Nat) (g off n cap:Nat) (ao:Option Addr) (m bE B q:Nat) (w:World)
 (hO:Own w g L) (hoff:off+n<=L.length) (hm:m=bs.length) (IX:m<=n) (hcap:n<=cap) (hbig:n<=4611686018427387904) (hL:Wf L) (hb:Wf bs) (hR:Rd B w ao bs) (hB:B<=g) (hq:q<4294967296) :
 As 206 #[.slice (some ⟨g,off,none⟩) n cap,.slice ao m bE,.int .u32 (q:Nat)] w λr w' =>
  ∃M c,r=.returned (.int .u32 (c:Nat))/\c<4294967296/\Own w' g M/\Wf M/\Out L M off m/\sg M off m+c*pw m=sg L off m+val bs*q/\But g w w':=by
 have HR:Aside (Rd B w ao bs/\m=bs.length/\Wf bs/\Wf L/\off+n<=L.length):=⟨hR,hm,hb,hL,hoff⟩;have HO:Hid (Own w g L):=hO;clear hR hm hb hL hO hoff;go_enter Tryz.func206,Tryz.ntmps206;go_wp2
 go_loopg [7,13] m (λgk c i wr=>∃(k cv:Nat) (M:List Nat),gk+k=m/\c=.int .u64 (cv:Nat)/\cv<4294967296/\i=.int .i64 (k:Nat) /\
  Hid (Own wr g M)/\Aside (Wf M/\Out L M off k/\sg M off k+cv*pw k=sg L off k+sg bs 0 k*q/\But g w wr))
 case atStart=>exact⟨0,0,L,ae,rfl,ae,rfl,HO,HR.o.r3.1,Out.refl _ _ _,by simp[dV],But.refl _ _⟩
 case round =>
  obtain⟨k,cv,M,jo,rfl,hcv,rfl,HM,HA⟩:=hrel
  by_cases hk:k<m
  . obtain⟨hR,hm,hb,hL,hoff⟩:=HR.o;obtain⟨bC,fH,hMs,aI⟩:=HA.o;obtain⟨b,fI,KW,rfl,hbc⟩:=hR (by intro e;subst e;simp at hm;omega)
    have hbk:wr.cell? ⟨b,fI+k,none⟩=some (.int .u32 ((bs.getD k 0:Nat):Int)):=by
     have h1:=aI.block b (qZ w ⟨b,fI+k,none⟩ (hbc k ae)) ae;exact z6
    have hgc:=HM.o.cell (off+k) (by rw[fH.1];omega);have hgf:=HM.o.frozen (off+k);obtain⟨x,hx⟩:∃x:Nat,M.getD (off+k) 0=x:=⟨_,rfl⟩;obtain⟨y,hy⟩:∃y:Nat,bs.getD k 0=y:=⟨_,rfl⟩;have hxl:x<4294967296:=hx ▸ bC.get _;have hyl:y<4294967296:=hy ▸ hb.get _;rw[hx] at hgc;rw[hy] at hbk;have hp0:=uO y q hyl hq;have hp2:(y:Int)*(q:Int)<=18446744065119617025:=by rw[<-eD];omega
    have hp1:0<=(y:Int)*(q:Int):=by rw[<-eD];omega
    obtain⟨s,hs⟩:∃s:Nat,s=(y*q+x+cv)%4294967296:=⟨_,rfl⟩;obtain⟨d,hd⟩:∃d:Nat,d=(y*q+x+cv)/4294967296:=⟨_,rfl⟩;have e0:((y*q+x+cv:Nat):Int)=(y:Int)*q+x+cv:=by simp only[xX,eD]
    have e1:((y:Int)*q+x+cv)%4294967296=(s:Int):=by rw[<-e0];omega
    have e2:((y:Int)*q+x+cv)/4294967296=(d:Int):=by rw[<-e0];omega
    have HX:Aside (M.getD (off+k) 0=x/\bs.getD k 0=y/\s+d*4294967296=y*q+x+cv/\s<4294967296/\d<4294967296):=⟨hx,hy,ae,ae,ae⟩;clear hx hy hs hd hR hm hb hL hoff bC fH hMs aI hbc e0 hp0;go_wp2;go_roundg (gk-1)
    case measure=>omega
    case rel =>
     obtain⟨hx,hy,he,hs,hd⟩:=HX.o;obtain⟨hR,hm,hb,hL,hoff⟩:=HR.o;obtain⟨bC,fH,hMs,aI⟩:=HA.o;refine⟨k+1,d,M.set (off+k) s,ae,rfl,hd,by go_num,HM.o.set _ _,bC.set _ _ hs,(fH.mono ae).set _ _ ae ae,?_,aI.set _ _⟩;rw[bZ _ _ _ _ (by rw[fH.1];omega),bN L off k ae,bN bs 0 k ae,dA,hy,bK];have e:L.getD (off+k) 0=x:=by rw[<-hx];exact(fH.2 _ ae).symm
     rw[e];exact yD _ _ _ _ _ _ _ _ _ _ hMs he
  . obtain rfl:k=m:=ae
    go_wp2;go_ret;obtain⟨hR,hm,hb,hL,hoff⟩:=HR.o;obtain⟨bC,fH,hMs,aI⟩:=HA.o;refine⟨M,cv,rfl,hcv,HM.o,bC,fH,?_,aI⟩;rw[hMs,hm,dJ]
theorem Fy(p V b x r q c:Nat)(h:V+p*r=b*q):V+p*(r+q*x)=(b+p*x)*q:=by grind
theorem VP (xs bs:List Nat) (ao bo:Option Addr) (n cap m bE B:Nat) (w:World) (hn:n=xs.length) (hm:m=bs.length) (hc:n<=cap) (hcb:m<=bE) (hbig:n+m<=70368744177664)
 (hx:Wf xs) (hb:Wf bs) (hR:Rd B w ao xs) (hS:Rd B w bo bs) (hB:B<=w.heap.size) :
 As 177 #[.slice ao n cap,.slice bo m bE] w λr w'=>∃v,r=.returned v/\Nt w.heap.size w' v (val xs*val bs)/\Below w.heap.size w w':=by
 obtain⟨W1,hW1⟩:=ah (w.alloc (.cells (madeCells #[.int .u32 0] (n+m)) 162));have kD:Own W1 w.heap.size (List.replicate (n+m) 0):=by rw[hW1];exact Own.made w (n+m)
 have hB1:Below w.heap.size w W1:=by rw[hW1];exact(aD _ _).alloc (aA _) _
 have hmk:=dO ((n:Int)+m) (n+m) ae ae w;rw[<-hW1] at hmk;have EZ:Rd B W1 ao xs:=hR.below (hB1.mono hB);have hS1:Rd B W1 bo bs:=hS.below (hB1.mono hB);obtain⟨g,hg⟩:=ah (w.heap.size);rw[<-hg] at kD hmk hB1 hB;have HR:=(Ck EZ hS1 hm hb hx hn hB1 hg);have HO:=hid kD;clear hn hm hx hb hR hS kD hB1 hW1 EZ hS1 hg;go_enter Tryz.func177,Tryz.ntmps177;go_wp2
 go_loopg [16] n (λgk i wr=>∃(k:Nat) (M:List Nat),gk+k=n/\i=.int .i64 (k:Nat) /\
  Hid (Own wr g M)/\Aside (Wf M/\M.length=n+m/\sg M 0 (k+m)=sg xs 0 k*val bs/\But g W1 wr))
 case atStart=>exact⟨0,_,ae,rfl,HO,Wf.zeros _,aN,by rw[tC,dV];simp,But.refl _ _⟩
 case round =>
  obtain⟨k,M,jo,rfl,HM,HA⟩:=hrel
  by_cases hk:k<n
  . obtain⟨hR,hS,hm,hb,hx,hn,hB1,hg⟩:=HR.o;obtain⟨bC,dx,hMs,aI⟩:=HA.o;have VJ:g<=W1.heap.size:=by have:=hB1.size;omega
    obtain⟨b,fI,KW,rfl,hbc⟩:=hR (by intro e;subst e;simp at hn;omega)
    have hbk:wr.cell? ⟨b,fI+k,none⟩=some (.int .u32 ((xs.getD k 0:Nat):Int)):=by
     have h1:=aI.block b (qZ W1 ⟨b,fI+k,none⟩ (hbc k ae)) ae;exact z6
    obtain⟨y,hy⟩:∃y:Nat,xs.getD k 0=y:=⟨_,rfl⟩;have hyl:y<4294967296:=hy ▸ hx.get _;rw[hy] at hbk;have H:=hid (CX M bs g k m (n+m-k) bo m bE B y wr HM.o ae hm (aA _) ae ae bC hb (hS.but aI ae hB) hB hyl);have HX:=(bA hy hn);clear hy hR hS hm hb hx hn hB1 hg bC dx hMs aI hbc VJ;go_wp2_with fail;refine H.o.mono ?_;rintro r W3 ⟨M2,c,rfl,hc1,hO3,hM2,hout,hsum,tF⟩;obtain⟨bC,dx,hMs,aI⟩:=HA.o;have hgc:=hO3.cell (k+m) (by rw[hout.1];omega);have hgf:=hO3.frozen (k+m);have HI:=(kz hc1 hO3 hM2 hout hsum tF);clear hc1 hO3 hM2 hout hsum tF bC dx hMs aI H;go_wp2;go_roundg (gk-1)
    case measure=>omega
    case rel =>
     obtain⟨hy,hn⟩:=HX.o;obtain⟨bC,dx,hMs,aI⟩:=HA.o;obtain⟨hc1,hO3,hM2,hout,hsum,tF⟩:=HI.o;refine⟨k+1,M2.set (k+m) c,ae,by go_num,hO3.set _ _,hM2.set _ _ hc1,by simp[hout.1,dx],?_,(aI.trans tF).set _ _⟩;have e1:=bZ M2 0 (k+m) c (by rw[hout.1];omega);rw[dA] at e1;have e2:=jc M2 0 k m (by rw[hout.1];omega);have e3:=jc M 0 k m ae;rw[dA] at e2 e3;have e4:=hout.below 0 k ae ae;rw[show k+1+m=k+m+1 by omega,e1,e2,e4,bN xs 0 k ae,dA,hy,uM];rw[e3] at hMs;rw[cK c] at hsum;have:=Fy (pw k) _ _ y _ _ c hMs;rw[<-hsum] at this;rw[<-this,oq,aQ,oo]
  . obtain rfl:k=n:=ae
    obtain⟨bC,dx,hMs,aI⟩:=HA.o;have T:=hid (fq M (some ⟨g,0,none⟩) (k+m) (k+m) (g+1) wr dx.symm (aA _) ae (by simpa [dx,eF] using Rd.gW HM.o 0 (k+m)));clear bC dx hMs aI;go_wp2_with fail;refine T.o.mono ?_;rintro r w1 ⟨rfl,rfl⟩;go_wp2;go_ret;obtain⟨hR,hS,hm,hb,hx,hn,hB1,hg⟩:=HR.o;obtain⟨bC,dx,hMs,aI⟩:=HA.o;have e1:sg M 0 (k+m)=val M:=by rw[<-dx];exact dJ M
    have e2:sg xs 0 k=val xs:=by rw[hn];exact dJ xs
    rw[e1,e2] at hMs;refine⟨_,rfl,?_,?_⟩
    . have N:=Nt.gW (lo:=g) HM.o (aA _) bC (by rw[dx];unfold maxLen;omega);rw[<-hMs,<-hg];rw[dx] at N;exact N
    . rw[<-hg];exact But.below hB1 aI (by have:=hB1.size;omega) (aA _)
theorem qD(xs ys:List Nat)(hx:Wf xs)(hy:Wf ys)(j d:Nat)(h1:j+1+d<=xs.length)(h2:j+1+d<=ys.length)(ht:sg xs (j+1) d=sg ys (j+1) d)(hlt:xs.getD j 0<ys.getD j 0) :
 sg xs 0 (j+1+d)<sg ys 0 (j+1+d):=by
 rw[jc xs 0 (j+1) d ae,jc ys 0 (j+1) d ae,dA,ht,bN xs 0 j ae,bN ys 0 j ae,dA];have h3:=oF xs 0 j hx ae;have h4:pw j*(xs.getD j 0+1)<=pw j*ys.getD j 0:=fG _ hlt;rw[oq] at h4;omega
theorem xy(xs ys:List Nat)(hx:Wf xs)(hy:Wf ys)(h:nl xs<nl ys):val xs<val ys:=by
 rw[gI xs hx,gI ys hy] at h;have h1:=gZ (val xs);have h2:val ys≠0:=by intro e;rw[e,cB] at h;simp at h
 have h3:=uN (val ys) h2;have h4:=kM (show(ws (val xs)).length<=(ws (val ys)).length-1 by omega);omega
theorem nT{x y:Nat}(h:x<y):bI x y=-1:=by simp[bI,h]
theorem tJ{x y:Nat}(h:y<x):bI x y=1:=by simp[bI,h];omega
theorem Lg{x y:Nat}(h:x=y):bI x y=0:=by simp[bI,h]
theorem I7{a b x y:Nat}(h1:a<b↔x<y)(h2:b<a↔y<x):bI a b=bI x y:=by simp[bI,h1,h2]
theorem Qak{P:Prop}(h:P:=by
 subst hk0;go_wp2;go_ret;obtain⟨hR,hS,hn,hm,hx,hy,hl1,hl2,f1,f2⟩:=HR.o;have h:=HA.o;rw[Nat.sub_zero,f1,f2] at h;rw[Lg h];exact⟨rfl,HB.o⟩):P:=h
theorem yk{P:Prop}(h:P:=by
 exact⟨rfl,aD _ _⟩):P:=h
theorem Lh (xs ys:List Nat) (ao bo:Option Addr) (n cap m bE B:Nat) (w:World) (hn:n=xs.length) (hm:m=ys.length) (hc:n<=cap) (hcb:m<=bE) (hbig:n<=70368744177664) (hbig2:m<=70368744177664)
 (hx:Wf xs) (hy:Wf ys) (hR:Rd B w ao xs) (hS:Rd B w bo ys) :
 At 136 #[.slice ao n cap,.slice bo m bE] w (.int .i64 (bI (val xs) (val ys))):=by
 have H1:=hid (fq xs ao n cap B w hn hc ae hR);have H2:=hid (fq ys bo m bE B w hm hcb ae hS);have hl1:=kL xs;have hl2:=kL ys;have f1:=lG xs hx;have f2:=lG ys hy;rw[<-jY] at f1 f2
 by_cases he:nl xs=nl ys
 . obtain⟨k0,hk0⟩:∃k,nl ys=k:=⟨_,rfl⟩;rw[he] at H1 hl1 f1;rw[hk0] at H1 H2 hl1 hl2 f1 f2;have HR:=(Cm hR hS hn hm hx hy hl1 hl2 f1 f2);have HC:Hid (∀x y w,_):=Az;have hkn:k0<=n:=ae
   have hkm:k0<=m:=ae
   clear hR hS hn hm hx hy hl1 hl2 f1 f2 he hk0;go_enter Tryz.func136,Tryz.ntmps136;go_wp2_with fail;refine H1.o.mono ?_;rintro r w1 ⟨rfl,rfl⟩;go_wp2_with fail;refine H2.o.mono ?_;rintro r w1 ⟨rfl,rfl⟩;go_wp2
   go_loopg [5] k0 (λk i wr=>k<=k0/\i=.int .i64 ((k:Int)-1)/\Hid (An w1 wr)/\Aside (sg xs k (k0-k)=sg ys k (k0-k)))
   case atStart=>exact⟨aA _,rfl,aD _ _,by rw[wE,dV,dV];exact rfl⟩
   case round =>
    obtain⟨hk,rfl,HB,HA⟩:=hrel
    by_cases hk0:gk=0
    . exact Qak
    . obtain⟨k,rfl⟩:∃k,gk=k+1:=⟨gk-1,ae⟩;obtain⟨hR,hS,hn,hm,hx,hy,hl1,hl2,f1,f2⟩:=HR.o;obtain⟨b,off,hB1,rfl,hc1⟩:=hR (by intro e;subst e;simp at hl1;omega);obtain⟨b2,I8,hB2,rfl,hc2⟩:=hS (by intro e;subst e;simp at hl2;omega)
      have g1:wr.cell? ⟨b,off+k,none⟩=some (.int .u32 ((xs.getD k 0:Nat):Int)) :=
       (HB.o.cell (p:=⟨b,off+k,none⟩) (qZ w1 ⟨b,off+k,none⟩ (hc1 k ae))).trans (hc1 k ae)
      have g2:wr.cell? ⟨b2,I8+k,none⟩=some (.int .u32 ((ys.getD k 0:Nat):Int)) :=
       (HB.o.cell (p:=⟨b2,I8+k,none⟩) (qZ w1 ⟨b2,I8+k,none⟩ (hc2 k ae))).trans (hc2 k ae)
      obtain⟨x,fE⟩:∃x:Nat,xs.getD k 0=x:=⟨_,rfl⟩;obtain⟨y,rJ⟩:∃y:Nat,ys.getD k 0=y:=⟨_,rfl⟩;rw[fE] at g1;rw[rJ] at g2;have HX:=(bA fE rJ);clear hR hS hn hm hx hy hl1 hl2 f1 f2 hc1 hc2 fE rJ hk0
      by_cases hxy:x=y
      . subst hxy;go_wp2
        go_region
        all_goals (
         go_wp2;go_roundg k
         case measure=>omega
         case rel =>
          obtain⟨hR,hS,hn,hm,hx,hy,hl1,hl2,f1,f2⟩:=HR.o;refine⟨ae,by first | go_num | (congr 1;omega),HB.o.drew,?_⟩;have h:=HA.o;obtain⟨r,hr⟩:∃r,k0-k=r+1:=⟨k0-(k+1),ae⟩;rw[show k0-(k+1)=r by omega] at h
          rw[Aside,hr,lI xs k r ae,lI ys k r ae,h,HX.o.1,HX.o.2])
      . have hne:((x:Int)==(y:Int))=false:=by simp;omega
        have hki:(k:Int)<(k0:Int):=ae
        have hki0:0<=(k:Int):=ae
        have hki2:k<k0:=ae
        go_wp2
        go_region
        all_goals (
         go_wp2
         go_region_with (go_at_call 179;refine(Az x y _).mono ?_;rintro r w2 ⟨rfl,rfl⟩))
        all_goals (
         go_wp2;go_ret;obtain⟨hR,hS,hn,hm,hx,hy,hl1,hl2,f1,f2⟩:=HR.o;have h:=HA.o
         have e:bI (val xs) (val ys)=bI x y:=by
          rw[<-f1,<-f2];have hk2:k+1+(k0-(k+1))=k0:=ae
          have t1:=qD xs ys hx hy k (k0-(k+1)) ae ae h;have t2:=qD ys xs hy hx k (k0-(k+1)) ae ae h.symm;rw[hk2,HX.o.1,HX.o.2] at t1 t2;apply I7 <;> omega
         rw[e]
         exact⟨rfl,by first | exact HB.o.drew.drew | exact HB.o.drew | skip⟩)
 . have e:bI (val xs) (val ys)=bI (nl xs) (nl ys):=by
    rcases Nat.lt_or_gt_of_ne he with h|h
    . rw[nT h,nT (xy xs ys hx hy h)]
    . rw[tJ h,tJ (xy ys xs hy hx h)]
   rw[e];obtain⟨k1,hk1⟩:∃k,nl xs=k:=⟨_,rfl⟩;obtain⟨k2,hk2⟩:∃k,nl ys=k:=⟨_,rfl⟩;rw[hk1] at H1 he |-;rw[hk2] at H2 he |-;have hne:((k1:Int)==(k2:Int))=false:=by simp;omega
   have hne2:¬ (k1:Int)=(k2:Int):=ae
   have H3:=hid (MU k1 k2 w);clear hR hS hn hm hx hy hl1 hl2 f1 f2 hk1 hk2 e he;go_enter Tryz.func136,Tryz.ntmps136;go_wp2_with fail;refine H1.o.mono ?_;rintro r w1 ⟨rfl,rfl⟩;go_wp2_with fail;refine H2.o.mono ?_;rintro r w1 ⟨rfl,rfl⟩;go_wp2_with fail;refine H3.o.mono ?_;rintro r w1 ⟨rfl,rfl⟩;go_wp2;go_ret;exact yk
end
end Go.Proofs.YtjppdacikihpdaaGreatDoor
