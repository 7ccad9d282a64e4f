import Derived.Test.YtfmfhehbdfhnbaaGreatDoorD39x
import Derived.ProofKit
import Derived.OpenShut
import Derived.ChangeOld
import Derived.ChangeArms
import Derived.SizedLaws
import Derived.Laws.Cover2
import Derived.Test.YtfmfhehbdfhnbaaGreatDoorMA2x
import Derived.Test.YtfmfhehbdfhnbaaGreatDoorD32cx
import Derived.Test.YtfmfhehbdfhnbaaGreatDoorW25x
import Derived.Test.YtfmfhehbdfhnbaaGreatDoorBIeeex
import Derived.BigQuiet
import Derived.Deep.RegionWith
import Derived.Test.YtfmfhehbdfhnbaaGreatDoorMO10x
import Derived.Deep.LoopGhost
import Derived.Test.YtfmfhehbdfhnbaaGreatDoorMO18x
import Derived.Test.YtfmfhehbdfhnbaaGreatDoorMC4x
set_option linter.unusedVariables false
set_option linter.unusedSimpArgs false
set_option maxHeartbeats 16000000
set_option maxRecDepth 20000
namespace Go.Proofs.YtfmfhehbdfhnbaaGreatDoor
namespace J
end J
section
open Go.ChangeShapes Go.WideShapes Go.ChangeAt Go.RowKit
theorem trodF{H:Type}{enc:TypeId×Value->H}{P:Program}{w:World}{base:Nat}{spare:Nat->Bool}{held:Bool}{fuel:Nat}{t:TypeId}{cs:List Value}{x:DataW H×List MemPlace}{k:FloatKind}(ht:P.underlying t=some (.float k))(h:DataW.trod enc P w base spare held fuel t cs=some x):∃n,cs=[.float k n]/\x=(.lit (.float k n),[])/\(Lit.float k n).wf=true:=by
 cases fuel with
 | zero=>simp[DataW.trod] at h
 | succ m =>
   simp only[DataW.trod,ht] at h
   split at h <;> simp_all
structure Ub (w:World) (a:Option Addr) (n c:Nat) (xs:List Nat):Prop where
 len:n=xs.length
 cap:n<=c
 wf:mE xs
 rd:Fs w.heap.size w a xs
 nil:a=none->c=0
theorem Co(b off i:Nat):(⟨b,off,none⟩:Addr).add i=⟨b,off+i,none⟩:=by unfold Addr.add;split <;> simp_all
def XJ{H:Type}(y:DataW H×List MemPlace):Nat:=match y.1 with | .lit (.float _ n)=>n | _=>0
theorem Tryz.aab:Tryz.prog.cellsOf 28=1:=by kernel_rfl
theorem Tryz.aac:Tryz.prog.bytesOf 28=8:=by kernel_rfl
theorem qs{P:Prop}(h:P:=by
 intro hne;obtain⟨b,off,spot⟩:=x
 have hn0:0<n:=by
  rcases jZ n with h0|h0
  . rw[h0] at hlen;have:=l7 hlen;subst this;simp at hne
  . exact h0
 have hc0:=(each 0 (elems[0]'(by omega)) hn0 (gD _)).2.2;have hspot:spot=none:=by simpa [Addr.add] using World.cell?_spot hc0
 subst hspot;refine⟨b,off,mO W _ (by simpa [Addr.add] using hc0),rfl,λi hi=>?_⟩;rw[ym] at hi;have hadd:=Co b off i;have:=(each i (elems[i]'hi) ae (gD _)).2.2;rw[hadd] at this;rw[this];simp[fF,hi]):P:=h
theorem GU{H:Type}{enc:TypeId×Value->H}{W:World}{a:Option Addr}{n c:Nat}{d:DataW H}{p:List MemPlace}(h:DataW.Trod enc Tryz.prog W 0 (λ_=>true) true 35 (.slice a n c) d p) :
 ∃xs,Ub W a n c xs/\((d=.nil/\c=0)\/∃elems spare:List (DataW H),d=.slice elems spare/\elems.length+spare.length=c):=by
 obtain⟨fuel,hf⟩:=h;rcases DataW.trod_slice Tryz.underlying35 hf with ⟨hcs,hx⟩|⟨x,l,cp,elems,rest,m,_,hcs,hx,hb,hl,hm,hlen,hel,hsp,hns⟩
 . simp[Value.cells] at hcs;obtain⟨rfl,rfl,rfl⟩:=hcs;exact⟨[],⟨rfl,aC _,(λx hx=>by cases hx),(λh=>absurd rfl h),λ_=>rfl⟩,.inl ⟨(eO hx).1,rfl⟩⟩
 . simp[Value.cells] at hcs;obtain⟨rfl,rfl,rfl⟩:=hcs
   have each:∀i y,i<n->elems[i]?=some y->y=(.lit (.float .f64 (XJ y)),[])/\(Lit.float .f64 (XJ y)).wf=true/\W.cell? (x.add i)=some (.float .f64 (XJ y)):=by
    intro i y hi hy;have hb':=hel i hi;rw[hy,Tryz.aab,fU,Option.bind_eq_some_iff] at hb';obtain⟨cs',hcs,hy'⟩:=hb';obtain⟨k,rfl,rfl,hw⟩:=trodF Tryz.underlying28 hy';exact⟨rfl,hw,cell_of_cells?_one hcs⟩
   refine⟨elems.map XJ,⟨by simp[hlen],hl,?_,?_,λe=>by cases e⟩,.inr ⟨_,_,(eO hx).1,?_⟩⟩
   . intro y hy;obtain⟨z,hz,rfl⟩:=yx.1 hy;obtain⟨i,hi⟩:=List.getElem?_of_mem hz;have hil:=(Hm.1 hi).1;have:=(each i z ae hi).2.1;exact of_decide_eq_true this
   . exact qs
   . have hr:=(hsp rfl).1;simp only[ym];omega
theorem wV {H:Type}{ts:List TypeId}{ds:List (DataW H)}(h:(DataW.weightsEach Tryz.prog ts ds).all (·<=reachBytes)=true) {j:Nat}{d:DataW H}{c n:Nat}(ht:ts[j]?=some 35) (hd:ds[j]?=some d) (hn:n<=c)
 (hc:(d=.nil/\c=0)\/∃elems spare:List (DataW H),d=.slice elems spare/\elems.length+spare.length=c):n<=17592186043904:=by
 rcases hc with ⟨_,rfl⟩|⟨elems,spare,rfl,hl⟩
 . omega
 . have:=sized_slice h ht hd Tryz.underlying35;rw[Tryz.aac,hl] at this;simp only[reachBytes] at this;omega
end
section
open Go Go.RowKit J
attribute [local go_sem] B.bF B.aH
abbrev uF(lo:Nat)(w:World)(v:Value)(ys:List Nat):Prop:=w.ownsRow lo 28 1 v ys.length (ys.map vD)
theorem aad(x:Nat)(hx:x<18446744073709551616):bits .and .u64 ((x:Int)/4503599627370496) 2047=((x/4503599627370496%2048:Nat):Int):=by
 have h:=bits_mask .u64 64 aj B.wraps_u64 11 aj ((x:Int)/4503599627370496) ae ae;rw[show((2:Int)^11-1)=2047 from rfl] at h;rw[h];omega
theorem Uc{ys:List Nat}{x:Nat}(h:jl ys)(hx:x<18446744073709551616)(hu:XH x=true)(hl:ys.length<300):jl (ys++[x]):=by
 refine⟨λz hz=>?_,λz hz=>?_,by simp;omega⟩
 . rcases List.mem_append.1 hz with q | q
   . exact h.w z q
   . rw[List.mem_singleton.1 q];exact hx
 . rcases List.mem_append.1 hz with q | q
   . exact h.u z q
   . rw[List.mem_singleton.1 q];exact hu
theorem aae:jl []:=⟨λz hz=>(by cases hz),λz hz=>(by cases hz),aj⟩
theorem Qbf{P:Prop}(h:P:=by
 go_wp2;go_ret;exact⟨_,ys,rfl,by rw[HM.o];exact HA.o.1,HA.o.2⟩):P:=h
theorem yr{P:Prop}(h:P:=by
 go_wp2_with (at_builtin;refine gW rfl (.tmp 41) (.tmp 46) 35 rfl _ _ rfl rfl _ _ HR.o ?_)
 go_roundg (gk-1)
 case measure=>omega
 case rel=>exact⟨k+1,_,ae,by first | rfl | go_num,HNx.o⟩):P:=h
theorem z7{P:Prop}(h:P:=by
 go_wp2_with fail;go_roundg (gk-1)
 case measure=>omega
 case rel=>exact⟨k+1,ys,ae,by first | rfl | go_num,by rw[HM.o];exact HA.o.1,HA.o.2⟩):P:=h
theorem Ls(xs:List Nat)(a:Option Addr)(n c:Nat)(w:World)(hn:n=xs.length)(hF:Fs w.heap.size w a xs)(hW:mE xs)(hbig:n<=17592186043904) :
 Calls Tryz.prog 11 #[.slice a n c] w λr w'=>∃v ys,r=.returned v/\uF w.heap.size w' v ys/\jl ys/\Below w.heap.size w w':=by
 have HX:=(dC hn hF hW);clear hn hF hW;go_enter Tryz.func11,Tryz.ntmps11;go_wp2_with fail
 go_loopg [3,4] n (λgk ov iv wr=>∃(k:Nat) (ys:List Nat),gk+k=n/\iv=.int .i64 (k:Nat)/\Aside (uF w.heap.size wr ov ys/\jl ys/\Below w.heap.size w wr))
 case atStart=>exact⟨0,[],ae,rfl,Ar _ _ _ _,aae,aD _ _⟩
 case round =>
  obtain⟨k,ys,hk,rfl,HA⟩:=hrel;obtain⟨oa,oc,rfl,-,-⟩:=fw HA.o.1 rfl;have hl:=HA.o.2.1.l;obtain⟨m,hm⟩:=ah (ys.length);rw[<-hm] at hl |-;have HM:=aA hm;clear hm
  by_cases hkn:k<n
  case neg =>
   have d1:decide ((k:Int)<(n:Int))=false:=decide_eq_false ae;exact Qbf
  case pos =>
  have d1:decide ((k:Int)<(n:Int))=true:=decide_eq_true ae
  by_cases h300:m<300
  case neg =>
   have d2:decide ((m:Int)<300)=false:=decide_eq_false ae;exact Qbf
  case pos =>
  have d2:decide ((m:Int)<300)=true:=decide_eq_true ae;obtain⟨b,off,hlt,rfl,hcell⟩:=(HX.o.2.1.below HA.o.r2) (by intro e;have:=HX.o.1;rw[e] at this;simp at this;omega);have Pe:=hcell k (by have:=HX.o.1;omega);obtain⟨x,hx0⟩:=ah (xs.getD k 0);have hx:x<18446744073709551616:=by rw[hx0];exact HX.o.r2.get k
  rw[<-hx0] at Pe;have hE:=aad x hx;obtain⟨E,hE0⟩:=ah (x/4503599627370496%2048);rw[<-hE0] at hE;have HN:=hid (λu:World=>nN x hx u)
  have hu0:XH x=true↔aK x=0\/(823<E/\E<1223):=by
   rw[x8,hE0];unfold aK;omega
  clear hlt hcell hx0
  by_cases e0:E=0
  . have d3:((E:Int)==0)=true:=by rw[e0];rfl
    have d4:decide ((823:Int)<(E:Int))=false:=decide_eq_false ae
    by_cases hz:aK x=0
    . have hmz:(aK x==0)=true:=by rw[hz];rfl
      have hu:XH x=true:=hu0.2 (.inl hz);clear hu0 hz e0 hE0;obtain⟨v',w',r1,r2,r3,r4⟩:=zu w.heap.size _ ys x wr HA.o.1 HA.o.r2.size (by have:=HM.o;omega);rw[<-HM.o] at r1;have HR:=aA r1;have HNx:Aside (uF w.heap.size w' v' (ys++[x])/\jl (ys++[x])/\Below w.heap.size w w'):=⟨r2,Uc HA.o.2.1 hx hu (by have:=HM.o;omega),HA.o.r2.trans r3⟩;clear r1 r2 r3 r4 HA hu hx;go_wp2_with fail;refine(HN.o wr).mono ?_;rintro r u ⟨rfl,hq⟩;rw[hq,hmz];clear hq HN u
      exact yr
    . have hmz:(aK x==0)=false:=by rw[beq_eq_false_iff_ne];exact hz
      clear hu0 hz e0 hE0;clear hx;go_wp2_with fail;refine(HN.o wr).mono ?_;rintro r u ⟨rfl,hq⟩;rw[hq,hmz];clear hq HN u;exact z7
  . have d3:((E:Int)==0)=false:=by rw[beq_eq_false_iff_ne];omega
    clear HN
    by_cases g1:823<E
    . have d4:decide ((823:Int)<(E:Int))=true:=decide_eq_true ae
      by_cases g2:E<1223
      . have d5:decide ((E:Int)<1223)=true:=decide_eq_true ae;have hu:XH x=true:=hu0.2 (.inr ⟨g1,g2⟩);clear hu0 hE0;obtain⟨v',w',r1,r2,r3,r4⟩:=zu w.heap.size _ ys x wr HA.o.1 HA.o.r2.size (by have:=HM.o;omega);rw[<-HM.o] at r1;have HR:=aA r1;have HNx:Aside (uF w.heap.size w' v' (ys++[x])/\jl (ys++[x])/\Below w.heap.size w w'):=⟨r2,Uc HA.o.2.1 hx hu (by have:=HM.o;omega),HA.o.r2.trans r3⟩;clear r1 r2 r3 r4 HA hu hx
        exact yr
      . have d5:decide ((E:Int)<1223)=false:=decide_eq_false ae;clear hu0 hE0;clear hx;exact z7
    . have d4:decide ((823:Int)<(E:Int))=false:=decide_eq_false ae;clear hu0 hE0;clear hx;exact z7
end
section
open Go Go.RowKit J
attribute [local go_sem] B.bF B.aH
theorem eG.rd{lo:Nat}{w:World}{v:Value}{p:List Nat}(h:eG lo w v p):∃ao cp,v=.slice ao p.length cp/\(p≠[]->∃g,g<w.heap.size/\ao=some ⟨g,0,none⟩/\∀i,i<p.length->w.cell? ⟨g,i,none⟩=some (.int .i64 ((p.getD i 0:Nat):Int))):=by
 rcases h.shape with ⟨rfl,rfl⟩|⟨g,cap,rfl,_,hg,_,_,hc⟩
 . exact⟨none,0,rfl,λq=>absurd rfl q⟩
 . exact⟨_,_,rfl,λ_=>⟨g,hg,rfl,hc⟩⟩
theorem XK{xs p:List Nat}{b k:Nat}(hk:k<p.length):(bu xs p b).take (k+1)=(bu xs p b).take k++[sS .mul (xs.getD (p.getD k 0) 0) b]:=by
 have hl:(bu xs p b).length=p.length:=by unfold bu;rw[ym]
 rw[Cv ae];congr 1;have:=Lr (xs:=xs) (b:=b) hk;rw[fF,gD ae] at this;rw[<-this];rfl
theorem jD(xs:List Nat)(a:Option Addr)(n c:Nat)(p:List Nat)(v:Value)(lo b:Nat)(w:World)(hn:n=xs.length)(hF:Fs w.heap.size w a xs)(hW:mE xs)(hp:∀k ∈ p,k<xs.length)(hl:p.length<=300)(hP:eG lo w v p)(hb:b<18446744073709551616) :
 Calls Tryz.prog 37 #[.slice a n c,v,.float .f64 b] w λr w'=>∃v',r=.returned v'/\uF w.heap.size w' v' (bu xs p b)/\Below w.heap.size w w':=by
 obtain⟨pa,pc,rfl,hR⟩:=hP.rd;obtain⟨m,hm⟩:=ah (p.length);rw[<-hm] at hl hR |-;have hlt:(bu xs p b).length=m:=by unfold bu;rw[ym,hm]
 have HX:=(nU hn hF hW hR hp hm hlt);clear hn hF hW hR hp hP hm hlt;go_enter Tryz.func37,Tryz.ntmps37;go_wp2_with fail
 go_loopg [7,8] m (λgk ov iv wr=>∃k:Nat,gk+k=m/\iv=.int .i64 (k:Nat)/\Aside (uF w.heap.size wr ov ((bu xs p b).take k)/\Below w.heap.size w wr))
 case atStart=>exact⟨0,ae,rfl,Ar _ _ _ _,aD _ _⟩
 case round =>
  obtain⟨k,hk,rfl,HA⟩:=hrel;obtain⟨oa,oc,rfl,-,-⟩:=fw HA.o.1 rfl;have hkl:((bu xs p b).take k).length=k:=by rw[ig,HX.o.r6];omega
  rw[hkl];have HK:=aA hkl;clear hkl
  by_cases hkm:k<m
  case neg =>
   have d1:decide ((k:Int)<(m:Int))=false:=decide_eq_false ae;go_wp2;go_ret;refine⟨_,rfl,?_,HA.o.2⟩;have h:=HA.o.1;rw[iR (by rw[HX.o.r6];omega)] at h;have e:=HK.o;rw[iR (by rw[HX.o.r6];omega)] at e;unfold uF at h |-;rw[e] at h |-;exact h
  case pos =>
  have d1:decide ((k:Int)<(m:Int))=true:=decide_eq_true ae;have hpk:k<p.length:=by have:=HX.o.r5.1;omega
  obtain⟨g,hg,rfl,hc⟩:=HX.o.r3.1 (by intro e;rw[e] at hpk;simp at hpk);have hpc:=(HA.o.2.cell (p:=⟨g,k,none⟩) hg).trans (hc k ae);obtain⟨q,hq⟩:=ah (p.getD k 0);rw[<-hq] at hpc
  have Zt:q<n:=by
   have:=HX.o.r4.1 (p.getD k 0) (by rw[fF,gD hpk];exact nu hpk);have:=HX.o.1;omega
  obtain⟨bb,off,hlt2,rfl,hcell⟩:=(HX.o.2.1.below HA.o.2) (by intro e;have:=HX.o.1;rw[e] at this;simp at this;omega);have Pe:=hcell q (by have:=HX.o.1;omega);obtain⟨x,hx0⟩:=ah (xs.getD q 0);have hx:x<18446744073709551616:=by rw[hx0];exact HX.o.r2.1.get q
  rw[<-hx0] at Pe;have HT:=hid (λu:World=>sG x b hx hb u);obtain⟨y,hy⟩:=ah (sS .mul x b);have HN:Aside ((bu xs p b).take (k+1)=(bu xs p b).take k++[y]):=aA (by rw[XK hpk,<-hq,<-hx0,<-hy]);rw[<-hy] at HT;clear hc hlt2 hcell hx0 hx hq hy hpk hg;go_wp2_with fail;refine(HT.o wr).mono ?_;rintro r u2 ⟨rfl,hb2⟩;obtain⟨v',w',r1,r2,r3,r4⟩:=zu w.heap.size _ ((bu xs p b).take k) y u2 (wI HA.o.1 hb2) (dW HA.o.2.size hb2.size) (by have:=HK.o;omega);rw[HK.o] at r1;have HR:=aA r1
  have HNx:Aside (uF w.heap.size w' v' ((bu xs p b).take (k+1))/\Below w.heap.size w w'):=by
   rw[HN.o];exact⟨r2,(HA.o.2.trans (hb2.mono HA.o.2.size)).trans r3⟩
  clear r1 r2 r3 r4 hb2 HA HT HN hpc Pe Zt
  go_wp2_with (at_builtin;refine gW rfl (.tmp 15) (.tmp 25) 35 rfl _ _ rfl rfl _ _ HR.o ?_)
  go_roundg (gk-1)
  case measure=>omega
  case rel=>exact⟨k+1,ae,by first | rfl | go_num,HNx.o⟩
theorem XL{x y:Nat}(hx:x<18446744073709551616)(hy:y<18446744073709551616)(fx:dR x)(fy:dR y):(FloatKind.f64.format.order x y==some .eq)=decide (q8 x=q8 y):=by
 have h1:aK x<=9218868437227405312:=jm fx;have h2:aK y<=9218868437227405312:=jm fy;have:=VO (aV x) (aV y) (aK x) (aK y) h1 h2;rw[<-qd x hx,<-qd y hy] at this;rw[this,decide_eq_decide];unfold sK q8 B.sg
 have inj:∀K L,vK K=vK L↔K=L:=λK L=>⟨λe=>by
  rcases lZ K L with q|q|q
  . have:=qE.2 q;omega
  . exact q
  . have:=qE.2 q;omega,λe=>by rw[e]⟩
 have i1:=inj (aK x) (aK y);have z1:=inj (aK x) 0;have z2:=inj (aK y) 0;rw[xW] at z1 z2
 cases aV x <;> cases aV y <;> simp only[if_true,fJ,if_false] <;> omega
theorem wW{B:Nat}{w w':World}(h:Below B w w')(n:Nat):Below B w (w'.drewN n):=⟨h.os,h.tape,h.output,h.size,h.block⟩
theorem Af(xs:List Nat)(a:Option Addr)(n c:Nat)(w:World)(hn:n=xs.length)(hF:Fs w.heap.size w a xs)(hW:mE xs)(hf:∀x ∈ xs,dR x)(hbig:n<=17592186043904) :
 Calls Tryz.prog 42 #[.slice a n c] w λr w'=>∃bb,r=.returned (.bool bb)/\(bb=true↔jo xs)/\Below w.heap.size w w':=by
 have HX:=(ic hn hF hW hf);clear hn hF hW hf;go_enter Tryz.func42,Tryz.ntmps42;go_wp2_with fail
 go_loopg [3] n (λgk iv wr=>∃k:Nat,gk+k=n/\iv=.int .i64 (k:Nat)/\Aside (Below w.heap.size w wr/\∀i,i<k->fX xs i=fX xs 0))
 case atStart=>exact⟨0,ae,rfl,aD _ _,λi hi=>absurd hi ae⟩
 case round =>
  obtain⟨k,hk,rfl,HA⟩:=hrel
  by_cases hkn:k<n
  case neg =>
   have d1:decide ((k:Int)<(n:Int))=false:=decide_eq_false ae;go_wp2;go_ret;exact⟨true,rfl,⟨λ_ i hi=>HA.o.2 i (by have:=HX.o.1;omega),λ_=>rfl⟩,HA.o.1⟩
  case pos =>
  have d1:decide ((k:Int)<(n:Int))=true:=decide_eq_true ae;obtain⟨bb,off,hlt2,rfl,hcell⟩:=(HX.o.2.1.below HA.o.1) (by intro e;have:=HX.o.1;rw[e] at this;simp at this;omega);have Pe:=hcell k (by have:=HX.o.1;omega);have hyc:=hcell 0 (by have:=HX.o.1;omega);rw[fT] at hyc
  have mem:∀i,i<n->xs.getD i 0 ∈ xs:=λi hi=>by
   have hi2:i<xs.length:=by have:=HX.o.1;omega
   rw[fF,gD hi2];exact nu hi2
  have ho:=XL (HX.o.r2.1.get k) (HX.o.r2.1.get 0) (HX.o.r3 _ (mem k hkn)) (HX.o.r3 _ (mem 0 ae));have hn0:(0:Nat)<n:=ae
  have HE:Aside (q8 (xs.getD k 0)=q8 (xs.getD 0 0)↔fX xs k=fX xs 0):=aA Iff.rfl;obtain⟨x,hx⟩:∃x,xs.getD k 0=x:=⟨_,rfl⟩;obtain⟨y,hy⟩:∃y,xs.getD 0 0=y:=⟨_,rfl⟩;rw[hx] at Pe;rw[hy] at hyc;rw[hx,hy] at ho HE;clear hcell hlt2 hx hy mem
  by_cases hE:q8 x=q8 y
  . rw[decide_eq_true hE] at ho;have hne:(FloatKind.f64.format.order x y != some .eq)=false:=by unfold bne;rw[ho];rfl
    have HN:Aside (∀i,i<k+1->fX xs i=fX xs 0):=aA (λi hi=>by
     by_cases q:i=k
     . rw[q];exact HE.o.1 hE
     . exact HA.o.2 i ae)
    clear hE HE;go_wp2
    go_quiet (fail)
    go_wp2;go_roundg (gk-1)
    case measure=>omega
    case rel=>exact⟨k+1,ae,by first | rfl | go_num,by first | exact HA.o.1 | exact HA.o.1.drew | exact wW HA.o.1 _,HN.o⟩
  . rw[decide_eq_false hE] at ho;have hne:(FloatKind.f64.format.order x y != some .eq)=true:=by unfold bne;rw[ho];rfl
    have HN:Aside (¬ jo xs):=aA (λq=>hE (HE.o.2 (q k (by have:=HX.o.1;omega))));clear hE HE;go_wp2
    go_quiet (fail)
    go_wp2;go_ret;exact⟨false,rfl,⟨λq=>(by cases q),λq=>absurd q HN.o⟩,by first | exact HA.o.1 | exact HA.o.1.drew | exact wW HA.o.1 _⟩
theorem Ag(x y:Nat)(e f:Int)(h:x=y)(h2:e=f)(w:World):Calls Tryz.prog 40 #[.float .f64 x,.int .i64 e,.float .f64 y,.int .i64 f] w λr w'=>r=.returned (.bool true)/\w'=w:=by
 subst h;subst h2
 have C:Hid (Calls Tryz.prog 10 #[.float .f64 x,.float .f64 x] w λr w'=>r=.returned (.bool true)/\w'=w):=by
  have:=KJ x x w;rw[beq_self_eq_true] at this;exact this
 go_enter Tryz.func40,Tryz.ntmps40;go_wp2_with fail;refine C.o.mono ?_;rintro r u ⟨rfl,hq⟩;rw[hq];clear hq u C;exact XS
end
section
open Go Go.RowKit J
theorem Ah(x:Nat)(hx:x<18446744073709551616)(fx:dR x)(w:World) :
 Calls Tryz.prog 71 #[.float .f64 x] w λr w'=>bI 0 w' r (gV 1074 (q8 x))/\Below w.heap.size w w':=by
 have HO:=hid (λu:World=>rof12 x hx fx u);rw[g_oW] at HO;obtain⟨o,ho⟩:=ah (gV 1074 (q8 x));rw[<-ho] at HO |-;have FF:Aside (Fm o):=by rw[ho];exact dJ aj aj (Sj hx fx)
 clear ho hx fx;obtain⟨W,hW⟩:=ah (w.alloc (Obj.cells zD3 25));have H0:Aside (Lo W w.heap.size iY/\Below w.heap.size w W):=by rw[hW];exact⟨Lo.zero _,af _ _⟩
 have HW:=aA hW;clear hW;go_enter Tryz.func71,Tryz.ntmps71
 go_upto_region 1 with fail
 rw[<-HW.o];clear HW;go_wp2_with fail;refine(HO.o W).mono ?_;rintro r u ⟨⟨v,rfl,hN⟩,hb⟩;obtain⟨a1,c1,rfl,hN0⟩:=Lo.shape FF.o hN;obtain⟨U,hU⟩:=ah (u.alloc (Obj.cells #[.bool (dN o),.slice a1 (ws (dX o)).length c1,.int .i64 (dE o)] 25));obtain⟨g3,hg3⟩:=ah (u.heap.size)
 have H1:Aside (Lo U g3 o/\Lo U w.heap.size iY/\Below w.heap.size w U):=by
  rw[hU,hg3];exact⟨Lo.new hN0,(H0.o.1.below hb).below (af _ _),(H0.o.2.trans (hb.mono H0.o.2.size)).trans ((af _ _).mono (dW H0.o.2.size hb.size))⟩
 have HU:=(aP hU hg3);clear hU hg3 hN hN0 hb H0 HO
 go_upto_region 2 with fail
 rw[<-HU.o.1,<-HU.o.2];clear HU;obtain⟨p1,q1,D1,M1⟩:=H1.o.1;obtain⟨p2,q2,D2,M2⟩:=H1.o.2.1;obtain⟨x0,x1,x2,dw,dz,dA⟩:=D1.facts;obtain⟨y0,y1,y2,dF,dG,dH⟩:=D2.facts;have D8:=aA M1;clear D1 D2 M1 M2;go_wp2;exact jT Tryz.results71 rfl H1.o.2.1 H1.o.r2 (aC _) D8.o
theorem Qaw{P:Prop}(h:P:=by
 rw[hA];have hm:xs.getD i 0 ∈ xs:=by rw[fF,gD ae];exact nu _
 exact Ah _ (hW _ hm) (hf _ hm) u):P:=h
theorem aaf(xs:List Nat)(a:Option Addr)(n c:Nat)(w:World)(hn:n=xs.length)(hF:Fs w.heap.size w a xs)(hW:mE xs)(hf:∀x ∈ xs,dR x)(hl:n<=65536) :
 Calls Tryz.prog 38 #[.slice a n c] w λr w'=>bI 0 w' r (gV 1074 (sX xs))/\Below w.heap.size w w':=by
 obtain⟨A,hA⟩:∃A:Nat->Option (Bool×Nat×Int),A=λi=>gV 1074 (fX xs i):=⟨_,rfl⟩;obtain⟨T,Ud⟩:∃T:Nat->Option (Bool×Nat×Int),T=λi=>gV 1074 (tS (fX xs) i):=⟨_,rfl⟩;have eT:gV 1074 (sX xs)=T n:=by rw[Ud,hn];rfl
 rw[eT];have FA:∀i,i<n->Fm (A i):=λi hi=>by rw[hA];exact dJ aj aj (iD hW hf i ae)
 have FT:∀i,i<=n->Fm (T i):=λi hi=>by rw[Ud];exact dJ aj aj (jf hW hf ae i ae)
 have ET:∀i,i<n->jv (T i) (A i)=T (i+1):=λi hi=>by
  rw[Ud,hA];exact zK aj aj (jf hW hf ae i ae) ((iD hW hf i ae).mono aj)
 have E0:iY=T 0:=by rw[Ud];exact(nP 1074).symm
 have HV:Hid (∀(i:Nat) (u:World),i<n->Calls Tryz.prog 71 #[.float .f64 (xs.getD i 0)] u λr w'=>bI 0 w' r (A i)/\Below u.heap.size u w'):=λi u hi=>by
  exact Qaw
 have HP:Hid (∀(i:Nat) (u:World) (p q:Option Addr) (cp cq:Nat),i<n->Nt 0 u (.slice p (ws (dX (T i))).length cp) (dX (T i))->Nt 0 u (.slice q (ws (dX (A i))).length cq) (dX (A i))->Calls Tryz.prog 70 #[.agg #[.bool (dN (T i)),.slice p (ws (dX (T i))).length cp,.int .i64 (dE (T i))],.agg #[.bool (dN (A i)),.slice q (ws (dX (A i))).length cq,.int .i64 (dE (A i))]] u λr w'=>bI 0 w' r (T (i+1))/\Below u.heap.size u w') :=
  λi u p q cp cq hi n1 n2=>KS (FT i ae) (FA i hi) (FT (i+1) ae) n1 n2 (ET i hi)
 have HX:=aP hn hF;obtain⟨W,nQ⟩:=ah ((w.alloc (Obj.cells zD3 25)).alloc (Obj.cells zD3 25))
 have H0:Aside (Lo W (w.heap.size+1) (T 0)/\Lo W w.heap.size iY/\Below w.heap.size w W):=by
  subst nQ;exact Kf
 have lG:=aA nQ;clear nQ hn hF hW hf hA Ud eT FA FT ET E0;go_enter Tryz.func38,Tryz.ntmps38
 go_upto_region 2 with fail
 rw[<-lG.o];clear lG;go_wp2
 go_loopg [4] n (λgk i wr=>∃j:Nat,gk+j=n/\i=.int .i64 (j:Nat)/\Aside (Lo wr (w.heap.size+1) (T j)/\Lo wr w.heap.size iY/\Below w.heap.size w wr))
 case atStart=>exact⟨0,ae,aQ,H0.o⟩
 case round =>
  obtain⟨j,hgj,rfl,HA⟩:=hrel
  by_cases hj:j<n
  . have hdr:=(aD wr.heap.size wr).drew;obtain⟨b,off,rfl,hc⟩:=HX.o.2.at (HA.o.r2.trans (hdr.mono HA.o.r2.size)) j (by rw[<-HX.o.1];exact hj);have HVj:=hid (HV.o j wr.drew hj);obtain⟨x,hx⟩:=ah (xs.getD j 0);rw[<-hx] at hc HVj;obtain⟨p1,q1,D1,M1⟩:=HA.o.1;have kS:Aside (wr.drew.cell? ⟨w.heap.size+1,0,none⟩=some (.bool (dN (T j)))/\wr.drew.cell? ⟨w.heap.size+1,1,none⟩=some (.slice p1 (ws (dX (T j))).length q1)/\wr.drew.cell? ⟨w.heap.size+1,2,none⟩=some (.int .i64 (dE (T j)))/\wr.drew.cell? ⟨b,off+j,none⟩=some (.float .f64 x)):=⟨(D1.below hdr).facts.1,(D1.below hdr).facts.2.1,(D1.below hdr).facts.2.2.1,hc⟩;have BD:=ic (D1.below hdr) (M1.below hdr) (HA.o.2.1.below hdr) (HA.o.r2.trans (hdr.mono HA.o.r2.size));clear D1 M1 hdr hc hx;go_wp2_with fail;refine fE (λw'=>w'.cell? ⟨w.heap.size+1,0,none⟩=some (.bool (dN (T j)))/\w'.cell? ⟨w.heap.size+1,1,none⟩=some (.slice p1 (ws (dX (T j))).length q1)/\w'.cell? ⟨w.heap.size+1,2,none⟩=some (.int .i64 (dE (T j)))/\w'.cell? ⟨b,off+j,none⟩=some (.float .f64 x)) 7 df ?_
    refine tk 0 [6] rfl kS.o ?_;try simp only[Act.put,sa,sb,sc]
    refine tk 1 [3,4,5,6] rfl kS.o ?_;try simp only[Act.put,sa,sb,sc]
    refine tk 2 [3,4,5,6] rfl kS.o ?_;try simp only[Act.put,sa,sb,sc]
    refine tk 3 [4,5,6] rfl kS.o ?_;try simp only[Act.put,sa,sb,sc]
    refine tk 4 [5,6] rfl kS.o ?_;try simp only[Act.put,sa,sb,sc]
    have C:=hid (HVj.o);refine au (i:=5) df rfl (λK' hK=>?_);go_simp;refine C.o.mono ?_;rintro r u3 ⟨hd,hb⟩;obtain⟨a3,c3,rfl,fV⟩:=hd.aL;have BD:=fO (BD.o.1.below hb) (BD.o.2.1.below hb) (BD.o.r2.1.below hb) (BD.o.r3.trans (hb.mono BD.o.r3.size)) fV;have kS:=aA (jX hb kS.o);clear hb hd C;dsimp only;refine hK.out _ _ (λ_=>kS.o) ?_;clear hK K'
    try simp only[Act.put,sa,sb,sc]
    have C:=hid (HP.o j u3 p1 a3 q1 c3 hj BD.o.2.1 BD.o.r4);refine au (i:=6) df rfl (λK' hK=>?_);go_simp;refine C.o.mono ?_;rintro r u4 ⟨hd,hb⟩;obtain⟨a4,c4,rfl,iX⟩:=hd.aL;have BD:=fO (BD.o.1.below hb) (BD.o.2.1.below hb) (BD.o.r2.1.below hb) (BD.o.r3.1.trans (hb.mono BD.o.r3.1.size)) iX;have kS:=aA (jX hb kS.o);clear hb hd C;dsimp only;refine hK.out _ _ (λ_=>kS.o) ?_;clear hK K'
    try simp only[Act.put,sa,sb,sc]
    obtain⟨z0,z1,z2,gQ,gT,gU⟩:=BD.o.1.facts;refine au (i:=7) df rfl (λK' hK=>?_);go_simp;refine hK.out _ _ (λh=>absurd h aj) ?_;clear hK K' kS z0 z1 z2 gQ gT gU;refine aS df ?_ _;have LB:Lo u4 (w.heap.size+1) (T j):=⟨_,_,BD.o.1,BD.o.2.1⟩;have b3:=BD.o.r3.1;have H3:=dC (LB.set BD.o.r4) (BD.o.r2.1.other LB ae (.bool (dN (T (j+1)))) (.slice a4 (ws (dX (T (j+1)))).length c4) (.int .i64 (dE (T (j+1))))) (fB b3 b3.size (show w.heap.size<=w.heap.size+1 by omega) (.bool (dN (T (j+1)))) (.slice a4 (ws (dX (T (j+1)))).length c4) (.int .i64 (dE (T (j+1)))));clear LB b3;exact K0
  . obtain rfl:n=j:=ae
    have hd:decide ((n:Int)<n)=false:=by simp
    obtain⟨p1,q1,D1,M1⟩:=HA.o.1;obtain⟨p2,q2,D2,M2⟩:=HA.o.2.1;obtain⟨x0,x1,x2,dw,dz,dA⟩:=D1.facts;obtain⟨y0,y1,y2,dF,dG,dH⟩:=D2.facts;have D8:=aA M1;clear D1 D2 M1 M2;go_wp2;exact jT Tryz.results38 rfl HA.o.2.1 HA.o.r2 (aC _) D8.o
theorem GV(xs ys:List Nat)(a a2:Option Addr)(n n2 c c2:Nat)(w:World)(hn:n=xs.length)(hn2:n2=ys.length)(he:n=n2)(hF:Fs w.heap.size w a xs)(hG:Fs w.heap.size w a2 ys)(hW:mE xs)(hf:∀x ∈ xs,dR x)(hW2:mE ys)(hf2:∀x ∈ ys,dR x)(hl:n<=65536) :
 Calls Tryz.prog 39 #[.slice a n c,.slice a2 n2 c2] w λr w'=>bI 0 w' r (gV 2148 (tS (λi=>fX xs i*fX ys i) n))/\Below w.heap.size w w':=by
 subst he;obtain⟨A,hA⟩:∃A:Nat->Option (Bool×Nat×Int),A=λi=>gV 1074 (fX xs i):=⟨_,rfl⟩;obtain⟨B',hB⟩:∃A:Nat->Option (Bool×Nat×Int),A=λi=>gV 1074 (fX ys i):=⟨_,rfl⟩;obtain⟨P,hP⟩:∃A:Nat->Option (Bool×Nat×Int),A=λi=>gV 2148 (fX xs i*fX ys i):=⟨_,rfl⟩;obtain⟨T,Ud⟩:∃T:Nat->Option (Bool×Nat×Int),T=λi=>gV 2148 (tS (λi=>fX xs i*fX ys i) i):=⟨_,rfl⟩;have eT:gV 2148 (tS (λi=>fX xs i*fX ys i) n)=T n:=by rw[Ud]
 rw[eT];have bx:∀i,i<n->Bd 2098 (fX xs i):=λi hi=>iD hW hf i ae;have by':∀i,i<n->Bd 2098 (fX ys i):=λi hi=>iD hW2 hf2 i ae
 have bP:=λk hk=>vN bx by' hl k hk
 have FA:∀i,i<n->Fm (A i):=λi hi=>by rw[hA];exact dJ aj aj (bx i hi)
 have FB:∀i,i<n->Fm (B' i):=λi hi=>by rw[hB];exact dJ aj aj (by' i hi)
 have FP:∀i,i<n->Fm (P i):=λi hi=>by rw[hP];exact dJ aj aj ((bx i hi).mul (by' i hi))
 have FT:∀i,i<=n->Fm (T i):=λi hi=>by rw[Ud];exact dJ aj aj (bP i hi)
 have EP:∀i,i<n->fu (A i) (B' i)=P i:=λi hi=>by rw[hA,hB,hP];exact mY aj aj aj aj (bx i hi) (by' i hi)
 have ET:∀i,i<n->jv (T i) (P i)=T (i+1):=λi hi=>by
  rw[Ud,hP];exact zK aj aj (bP i ae) (((bx i hi).mul (by' i hi)).mono aj)
 have E0:iY=T 0:=by rw[Ud];exact(nP 2148).symm
 have HV:Hid (∀(i:Nat) (u:World),i<n->Calls Tryz.prog 71 #[.float .f64 (xs.getD i 0)] u λr w'=>bI 0 w' r (A i)/\Below u.heap.size u w'):=λi u hi=>by
  exact Qaw
 have HV2:Hid (∀(i:Nat) (u:World),i<n->Calls Tryz.prog 71 #[.float .f64 (ys.getD i 0)] u λr w'=>bI 0 w' r (B' i)/\Below u.heap.size u w'):=λi u hi=>by
  rw[hB];have hm:ys.getD i 0 ∈ ys:=by rw[fF,gD ae];exact nu _
  exact Ah _ (hW2 _ hm) (hf2 _ hm) u
 have HM:Hid (∀(i:Nat) (u:World) (p q:Option Addr) (cp cq:Nat),i<n->Nt 0 u (.slice p (ws (dX (A i))).length cp) (dX (A i))->Nt 0 u (.slice q (ws (dX (B' i))).length cq) (dX (B' i))->Calls Tryz.prog 69 #[.agg #[.bool (dN (A i)),.slice p (ws (dX (A i))).length cp,.int .i64 (dE (A i))],.agg #[.bool (dN (B' i)),.slice q (ws (dX (B' i))).length cq,.int .i64 (dE (B' i))]] u λr w'=>bI 0 w' r (P i)/\Below u.heap.size u w') :=
  λi u p q cp cq hi n1 n2=>Sm (FA i hi) (FB i hi) (FP i hi) n1 n2 (EP i hi)
 have HP:Hid (∀(i:Nat) (u:World) (p q:Option Addr) (cp cq:Nat),i<n->Nt 0 u (.slice p (ws (dX (T i))).length cp) (dX (T i))->Nt 0 u (.slice q (ws (dX (P i))).length cq) (dX (P i))->Calls Tryz.prog 70 #[.agg #[.bool (dN (T i)),.slice p (ws (dX (T i))).length cp,.int .i64 (dE (T i))],.agg #[.bool (dN (P i)),.slice q (ws (dX (P i))).length cq,.int .i64 (dE (P i))]] u λr w'=>bI 0 w' r (T (i+1))/\Below u.heap.size u w') :=
  λi u p q cp cq hi n1 n2=>KS (FT i ae) (FP i hi) (FT (i+1) ae) n1 n2 (ET i hi)
 have HX:=ic hn hF hn2 hG;obtain⟨W,nQ⟩:=ah ((w.alloc (Obj.cells zD3 25)).alloc (Obj.cells zD3 25))
 have H0:Aside (Lo W (w.heap.size+1) (T 0)/\Lo W w.heap.size iY/\Below w.heap.size w W):=by
  subst nQ;exact Kf
 have lG:=aA nQ;clear nQ hn hF hW hf hn2 hG hW2 hf2 hA hB hP Ud eT FA FB FP FT EP ET E0 bx by' bP
 go_enter Tryz.func39,Tryz.ntmps39
 go_upto_region 2 with fail
 rw[<-lG.o];clear lG;go_wp2
 go_loopg [6] n (λgk i wr=>∃j:Nat,gk+j=n/\i=.int .i64 (j:Nat)/\Aside (Lo wr (w.heap.size+1) (T j)/\Lo wr w.heap.size iY/\Below w.heap.size w wr))
 case atStart=>exact⟨0,ae,aQ,H0.o⟩
 case round =>
  obtain⟨j,hgj,rfl,HA⟩:=hrel
  by_cases hj:j<n
  . have hdr:=(aD wr.heap.size wr).drew;obtain⟨b,off,rfl,hc⟩:=HX.o.2.1.at (HA.o.r2.trans (hdr.mono HA.o.r2.size)) j (by rw[<-HX.o.1];exact hj);obtain⟨b2,Az,rfl,hc2⟩:=HX.o.r3.at (HA.o.r2.trans (hdr.mono HA.o.r2.size)) j (by rw[<-HX.o.r2.1];exact hj);have HVj:=hid (λu=>HV.o j u hj);have HV2j:=hid (λu=>HV2.o j u hj);obtain⟨x,hx⟩:=ah (xs.getD j 0);obtain⟨y,hy⟩:=ah (ys.getD j 0);rw[<-hx] at hc HVj;rw[<-hy] at hc2 HV2j;obtain⟨p1,q1,D1,M1⟩:=HA.o.1;have kS:Aside (wr.drew.cell? ⟨w.heap.size+1,0,none⟩=some (.bool (dN (T j)))/\wr.drew.cell? ⟨w.heap.size+1,1,none⟩=some (.slice p1 (ws (dX (T j))).length q1)/\wr.drew.cell? ⟨w.heap.size+1,2,none⟩=some (.int .i64 (dE (T j)))/\wr.drew.cell? ⟨b,off+j,none⟩=some (.float .f64 x)/\wr.drew.cell? ⟨b2,Az+j,none⟩=some (.float .f64 y)):=⟨(D1.below hdr).facts.1,(D1.below hdr).facts.2.1,(D1.below hdr).facts.2.2.1,hc,hc2⟩;have BD:=ic (D1.below hdr) (M1.below hdr) (HA.o.2.1.below hdr) (HA.o.r2.trans (hdr.mono HA.o.r2.size));clear D1 M1 hdr hc hx hc2 hy;go_wp2_with fail;refine fE (λw'=>w'.cell? ⟨w.heap.size+1,0,none⟩=some (.bool (dN (T j)))/\w'.cell? ⟨w.heap.size+1,1,none⟩=some (.slice p1 (ws (dX (T j))).length q1)/\w'.cell? ⟨w.heap.size+1,2,none⟩=some (.int .i64 (dE (T j)))/\w'.cell? ⟨b,off+j,none⟩=some (.float .f64 x)/\w'.cell? ⟨b2,Az+j,none⟩=some (.float .f64 y)) 13 df ?_
    refine tk 0 [12] rfl kS.o ?_;try simp only[Act.put,sa,sb,sc]
    refine tk 1 [3,4,5,11,12] rfl kS.o ?_;try simp only[Act.put,sa,sb,sc]
    refine tk 2 [3,4,5,11,12] rfl kS.o ?_;try simp only[Act.put,sa,sb,sc]
    refine tk 3 [4,5,11,12] rfl kS.o ?_;try simp only[Act.put,sa,sb,sc]
    refine tk 4 [5,11,12] rfl kS.o ?_;try simp only[Act.put,sa,sb,sc]
    refine tk 6 [8,9,10,11,12] rfl kS.o ?_;try simp only[Act.put,sa,sb,sc]
    refine tk 7 [8,9,10,11,12] rfl kS.o ?_;try simp only[Act.put,sa,sb,sc]
    refine tk 8 [9,10,11,12] rfl kS.o ?_;try simp only[Act.put,sa,sb,sc]
    refine tk 9 [10,11,12] rfl kS.o ?_;try simp only[Act.put,sa,sb,sc]
    have C:=hid (HVj.o wr.drew);refine au (i:=5) df rfl (λK' hK=>?_);go_simp;refine C.o.mono ?_;rintro r u3 ⟨hd,hb⟩;obtain⟨a3,c3,rfl,fV⟩:=hd.aL;have BD:=fO (BD.o.1.below hb) (BD.o.2.1.below hb) (BD.o.r2.1.below hb) (BD.o.r3.trans (hb.mono BD.o.r3.size)) fV;have kS:=aA (ck hb kS.o λh=>ck1 hb h);clear hb hd C;dsimp only;refine hK.out _ _ (λ_=>kS.o) ?_;clear hK K'
    try simp only[Act.put,sa,sb,sc]
    have C:=hid (HV2j.o u3);refine au (i:=10) df rfl (λK' hK=>?_);go_simp;refine C.o.mono ?_;rintro r u4 ⟨hd,hb⟩;obtain⟨a4,c4,rfl,iX⟩:=hd.aL;have BD:=jJ (BD.o.1.below hb) (BD.o.2.1.below hb) (BD.o.r2.1.below hb) (BD.o.r3.1.trans (hb.mono BD.o.r3.1.size)) (BD.o.r4.below hb) iX;have kS:=aA (ck hb kS.o λh=>ck1 hb h);clear hb hd C;dsimp only;refine hK.out _ _ (λ_=>kS.o) ?_;clear hK K'
    try simp only[Act.put,sa,sb,sc]
    have C:=hid (HM.o j u4 a3 a4 c3 c4 hj BD.o.r4.1 BD.o.r5);refine au (i:=11) df rfl (λK' hK=>?_);go_simp;refine C.o.mono ?_;rintro r u5 ⟨hd,hb⟩;obtain⟨a5,c5,rfl,wX⟩:=hd.aL;have BD:=fO (BD.o.1.below hb) (BD.o.2.1.below hb) (BD.o.r2.1.below hb) (BD.o.r3.1.trans (hb.mono BD.o.r3.1.size)) wX;have kS:=aA (ck hb kS.o λh=>ck1 hb h);clear hb hd C;dsimp only;refine hK.out _ _ (λ_=>kS.o) ?_;clear hK K'
    try simp only[Act.put,sa,sb,sc]
    have C:=hid (HP.o j u5 p1 a5 q1 c5 hj BD.o.2.1 BD.o.r4);refine au (i:=12) df rfl (λK' hK=>?_);go_simp;refine C.o.mono ?_;rintro r u6 ⟨hd,hb⟩;obtain⟨a6,c6,rfl,De⟩:=hd.aL;have BD:=fO (BD.o.1.below hb) (BD.o.2.1.below hb) (BD.o.r2.1.below hb) (BD.o.r3.1.trans (hb.mono BD.o.r3.1.size)) De;have kS:=aA (ck hb kS.o λh=>ck1 hb h);clear hb hd C;dsimp only;refine hK.out _ _ (λ_=>kS.o) ?_;clear hK K'
    try simp only[Act.put,sa,sb,sc]
    obtain⟨z0,z1,z2,gQ,gT,gU⟩:=BD.o.1.facts;refine au (i:=13) df rfl (λK' hK=>?_);go_simp;refine hK.out _ _ (λh=>absurd h aj) ?_;clear hK K' kS z0 z1 z2 gQ gT gU;refine aS df ?_ _;have LB:Lo u6 (w.heap.size+1) (T j):=⟨_,_,BD.o.1,BD.o.2.1⟩;have b3:=BD.o.r3.1;have H3:=dC (LB.set BD.o.r4) (BD.o.r2.1.other LB ae (.bool (dN (T (j+1)))) (.slice a6 (ws (dX (T (j+1)))).length c6) (.int .i64 (dE (T (j+1))))) (fB b3 b3.size (show w.heap.size<=w.heap.size+1 by omega) (.bool (dN (T (j+1)))) (.slice a6 (ws (dX (T (j+1)))).length c6) (.int .i64 (dE (T (j+1)))));clear LB b3;exact K0
  . obtain rfl:n=j:=ae
    have hd:decide ((n:Int)<n)=false:=by simp
    obtain⟨p1,q1,D1,M1⟩:=HA.o.1;obtain⟨p2,q2,D2,M2⟩:=HA.o.2.1;obtain⟨x0,x1,x2,dw,dz,dA⟩:=D1.facts;obtain⟨y0,y1,y2,dF,dG,dH⟩:=D2.facts;have D8:=aA M1;clear D1 D2 M1 M2;go_wp2;exact jT Tryz.results39 rfl HA.o.2.1 HA.o.r2 (aC _) D8.o
attribute [local go_sem] B.bF B.aH
local notation "ONE" => 4607182418800017408
local notation "LESS" => 13830554455654793216
local notation "TWO" => 4611686018427387904
theorem GZ{z:Nat}(hz:0<z)(hb:z<=9200854038717923328):(FloatKind.f64.format.order z 0==some .gt)=true/\(FloatKind.f64.format.order z 0==some .eq)=false:=by
 have g:=gt64 false false z 0 ae aj;have e:=VO false false z 0 ae aj;rw[iM,iM] at g e;rw[g,e];unfold sK;simp;omega
theorem G5:(FloatKind.f64.format.order 0 0==some .gt)=false/\(FloatKind.f64.format.order 0 0==some .eq)=true:=by decide +kernel
theorem Ai{z a:Nat}(h:z=0\/4503599627370496<=z)(ha:a<=2)(hb:z<=9200854038717923328):sS .mul z (ONE+a*4503599627370496)=Aq a z:=by
 have:=Ac (s:=false) h ha hb;rw[iM,iM] at this;exact this
theorem XM(xs:List Nat)(a:Option Addr)(n c:Nat)(p:List Nat)(pv:Value)(lo:Nat)(less mode:Int)(w:World)(hn:n=xs.length)(hF:Fs w.heap.size w a xs)(hT:dU w)(hU:jl xs)(hp:p.Perm (List.range xs.length))(hP:eG lo w pv p)(hm:pI mode=true)(hs:lsB less=true)(hle:(n:Int)<=less) :
 Calls Tryz.prog 13 #[.slice a n c,pv,.int .i64 mode,.int .i64 less] w λr w'=>r=.returned (.bool true)/\Below w.heap.size w w':=by
 have up:∀u:World,Below w.heap.size w u->Fs u.heap.size u a xs/\dU u:=λu hb=>⟨(hF.below hb).mono hb.size,hT.belows hb⟩;have hl:=hU.l;have UA:n<=300:=ae
 have Ue:=hid (fun(u:World)=>pM u);have e1:∀rd,kr rd xs less mode 0 0=(0,3):=λrd=>by rw[Ad rd hU.fin ae hm hs,if_pos ae]
 have HV:=hid (fun(u:World) (hb:Below w.heap.size w u)=>uB xs a n c less mode 0 0 u hn (up u hb).1 hU.w (up u hb).2 ae (0,3) (e1 jk));have HS:=hid (fun(u:World) (hb:Below w.heap.size w u)=>Gt xs a n c less mode 0 0 u hn (up u hb).1 hU.w (up u hb).2 ae (0,3) (e1 jI));have d:decide ((n:Int)<=less)=true:=decide_eq_true hle;clear up e1 hF hT hU hp hP hm hs hn hle;have BD:=aA (aD w.heap.size w);go_enter Tryz.func13,Tryz.ntmps13;go_wp2_with fail;refine(Ue.o w).mono ?_;rintro r u1 ⟨rfl,hb⟩;have BD:=aA (BD.o.trans (hb.mono BD.o.size));clear hb;go_wp2_with fail;refine(HV.o u1 BD.o).mono ?_;rintro r u2 ⟨rfl,hb⟩;have BD:=aA (BD.o.trans (hb.mono BD.o.size));clear hb HV;go_wp2_with fail;refine(Ue.o u2).mono ?_;rintro r u3 ⟨rfl,hb⟩;have BD:=aA (BD.o.trans (hb.mono BD.o.size));clear hb;go_wp2_with fail;refine(HS.o u3 BD.o).mono ?_;rintro r u4 ⟨rfl,hb⟩;have BD:=aA (BD.o.trans (hb.mono BD.o.size));clear hb HS;go_wp2;go_ret;exact⟨rfl,BD.o⟩
theorem Uf(xs:List Nat)(a:Option Addr)(n c:Nat)(p:List Nat)(pv:Value)(lo:Nat)(less mode:Int)(w:World)(hn:n=xs.length)(hF:Fs w.heap.size w a xs)(hT:dU w)(hU:jl xs)(hp:p.Perm (List.range xs.length))(hP:eG lo w pv p)(hm:pI mode=true)(hs:lsB less=true)(hlt:less<(n:Int)) :
 Calls Tryz.prog 13 #[.slice a n c,pv,.int .i64 mode,.int .i64 less] w λr w'=>r=.returned (.bool true)/\Below w.heap.size w w':=by
 have up:∀u:World,Below w.heap.size w u->Fs u.heap.size u a xs/\dU u:=λu hb=>⟨(hF.below hb).mono hb.size,hT.belows hb⟩;have hl:=hU.l;have UA:n<=300:=ae
 have Ue:=hid (fun(u:World)=>pM u);obtain⟨v,s,v0,V⟩:=vs14 hU hp hm hs ae;have hpm:∀k ∈ p,k<xs.length:=λk hk=>ql.1 (hp.mem_iff.1 hk);have hpl:p.length<=300:=by rw[hp.length_eq,wy];exact hl
 have HV:=hid (fun(u:World) (hb:Below w.heap.size w u)=>uB xs a n c less mode 0 0 u hn (up u hb).1 hU.w (up u hb).2 ae (v,0) V.a1);have HS:=hid (fun(u:World) (hb:Below w.heap.size w u)=>Gt xs a n c less mode 0 0 u hn (up u hb).1 hU.w (up u hb).2 ae (s,0) V.a2);have HT1:=hid (fun(u:World) (hb:Below w.heap.size w u)=>jD xs a n c p pv lo ONE u hn (up u hb).1 hU.w hpm ae (hP.below hb) aj);have HV1:=hid (fun(u:World) (oa:Option Addr) (oc:Nat) (hb:Below w.heap.size w u) (hF:Fs u.heap.size u oa (bu xs p ONE))=>uB (bu xs p ONE) oa (bu xs p ONE).length oc less mode 0 0 u rfl hF (hU.one hp).2.1 (up u hb).2 (by have:=(hU.one hp).2.2.2;omega) (v,0) V.a3);have HT2:=hid (fun(u:World) (hb:Below w.heap.size w u)=>jD xs a n c p pv lo LESS u hn (up u hb).1 hU.w hpm ae (hP.below hb) aj);have HV2:=hid (fun(u:World) (oa:Option Addr) (oc:Nat) (hb:Below w.heap.size w u) (hF:Fs u.heap.size u oa (bu xs p LESS))=>Gt (bu xs p LESS) oa (bu xs p LESS).length oc less mode 0 0 u rfl hF (hU.less hp).2.1 (up u hb).2 (by have:=(hU.less hp).2.2.2;omega) (s,0) V.a4);have HT3:=hid (fun(u:World) (hb:Below w.heap.size w u)=>jD xs a n c p pv lo TWO u hn (up u hb).1 hU.w hpm ae (hP.below hb) aj);have HV3:=hid (fun(u:World) (oa:Option Addr) (oc:Nat) (hb:Below w.heap.size w u) (hF:Fs u.heap.size u oa (bu xs p TWO))=>uB (bu xs p TWO) oa (bu xs p TWO).length oc less mode 0 0 u rfl hF (hU.two hp).2.1 (up u hb).2 (by have:=(hU.two hp).2.2.2;omega) (Aq 2 v,0) V.a5);have HT4:=hid (fun(u:World) (hb:Below w.heap.size w u)=>jD xs a n c p pv lo TWO u hn (up u hb).1 hU.w hpm ae (hP.below hb) aj);have HV4:=hid (fun(u:World) (oa:Option Addr) (oc:Nat) (hb:Below w.heap.size w u) (hF:Fs u.heap.size u oa (bu xs p TWO))=>Gt (bu xs p TWO) oa (bu xs p TWO).length oc less mode 0 0 u rfl hF (hU.two hp).2.1 (up u hb).2 (by have:=(hU.two hp).2.2.2;omega) (Aq 1 s,0) V.a6);obtain⟨oS,uH⟩:=ah (gV 1074 (sX xs));obtain⟨oP,hoP⟩:=ah (gV 2148 (tS (λi=>fX xs i*fX xs i) xs.length));have FS:Fm oS:=by rw[uH];exact dJ aj aj (jf hU.w hU.fin ae _ (aC _))
 have FP:Fm oP:=by rw[hoP];exact dJ aj aj (uk (λi hi=>(iD hU.w hU.fin i hi).mul (iD hU.w hU.fin i hi)) ae _ (aC _))
 have HSu:Hid (∀u:World,Below w.heap.size w u->Calls Tryz.prog 38 #[.slice a n c] u λr w'=>bI 0 w' r oS/\Below u.heap.size u w'):=λu hb=>by
  rw[uH];exact aaf xs a n c u hn (up u hb).1 hU.w hU.fin ae
 have HPr:Hid (∀u:World,Below w.heap.size w u->Calls Tryz.prog 39 #[.slice a n c,.slice a n c] u λr w'=>bI 0 w' r oP/\Below u.heap.size u w'):=λu hb=>by
  rw[hoP,<-hn];exact GV xs xs a a n n c c u hn hn rfl (up u hb).1 (up u hb).1 hU.w hU.fin hU.w hU.fin ae
 have HOf:Hid (∀(u:World) (a1 a2:Option Addr) (c1 c2:Nat),Below w.heap.size w u->Nt 0 u (.slice a1 (ws (dX oS)).length c1) (dX oS)->Nt 0 u (.slice a2 (ws (dX oP)).length c2) (dX oP)->Calls Tryz.prog 7 #[.int .i64 (n:Nat),.agg #[.bool (dN oS),.slice a1 (ws (dX oS)).length c1,.int .i64 (dE oS)],.agg #[.bool (dN oP),.slice a2 (ws (dX oP)).length c2,.int .i64 (dE oP)],.int .i64 less,.int .i64 mode] u λr w'=>r=.returned (.tuple #[.float .f64 v,.int .i64 0])/\Below u.heap.size u w'):=λu a1 a2 c1 c2 hb n1 n2=>by
  have e:=V.a7;rw[<-uH,<-hoP,<-hn] at e;exact Of14 (n:Nat) (dN oS) (dN oP) (dE oS) (dE oP) less mode (FS.a12 n1) (FP.a12 n2) (up u hb).2 ae FS.qI FP.qI (v,0) (by rw[ak,ak,FS.re,FP.re];exact e)
 have HC:=hid (fun(u:World) (hb:Below w.heap.size w u)=>O5 xs xs a a n n c c less mode u hn hn (up u hb).1 (up u hb).1 hU.w hU.w (up u hb).2 ae ae (v,0) V.a8);have Yz:=hid (fun(u:World) (hb:Below w.heap.size w u)=>vQ xs a n c 2 mode u hn (up u hb).1 hU.w (up u hb).2 ae (v0,0) V.a9);have HZ:=hid (fun(u:World) (hb:Below w.heap.size w u)=>uB xs a n c 0 mode 0 0 u hn (up u hb).1 hU.w (up u hb).2 ae (v0,0) V.b1);have Am:=hid (fun(u:World) (hb:Below w.heap.size w u)=>vQ xs a n c 1 mode u hn (up u hb).1 hU.w (up u hb).2 ae (0,0) V.b2);have HFl:=hid (fun(u:World) (hb:Below w.heap.size w u)=>Af xs a n c u hn (up u hb).1 hU.w hU.fin ae)
 have HX4:Hid (∀u:World,Calls Tryz.prog 41 #[.float .f64 v,.float .f64 4616189618054758400] u λr w'=>r=.returned (.float .f64 (Aq 2 v))/\Below u.heap.size u w'):=λu=>by
  have:=sG v 4616189618054758400 (by have:=V.v2;omega) aj u;rw[show(4616189618054758400:Nat)=ONE+2*4503599627370496 from rfl,Ai V.v1 aj V.v2] at this;exact this
 have YA:Hid (∀u:World,Calls Tryz.prog 41 #[.float .f64 s,.float .f64 TWO] u λr w'=>r=.returned (.float .f64 (Aq 1 s))/\Below u.heap.size u w'):=λu=>by
  have:=sG s TWO (by have:=V.s2;omega) aj u;rw[show(TWO:Nat)=ONE+1*4503599627370496 from rfl,Ai V.s1 aj V.s2] at this;exact this
 have Lu:=hid (fun(u:World) (x:Nat)=>Ag x x 0 0 rfl rfl u);have YB:=hid (fun(u:World) (x:Nat)=>pO x x rfl u);have d:decide ((n:Int)<=less)=false:=decide_eq_false ae;have aag:=jJ V.v3 V.s3 V.v1 V.v2 V.s1 V.s2;clear V up hF hT hU hp hpm hP hm hs hn hlt uH hoP FS FP hl UA hpl;have BD:=aA (aD w.heap.size w);go_enter Tryz.func13,Tryz.ntmps13;go_wp2_with fail;refine(Ue.o w).mono ?_;rintro r u1 ⟨rfl,hb⟩;have BD:=aA (BD.o.trans (hb.mono BD.o.size));clear hb;go_wp2_with fail;refine(HV.o u1 BD.o).mono ?_;rintro r u2 ⟨rfl,hb⟩;have BD:=aA (BD.o.trans (hb.mono BD.o.size));clear hb HV;go_wp2_with fail;refine(Ue.o u2).mono ?_;rintro r u3 ⟨rfl,hb⟩;have BD:=aA (BD.o.trans (hb.mono BD.o.size));clear hb;go_wp2_with fail;refine(HS.o u3 BD.o).mono ?_;rintro r u4 ⟨rfl,hb⟩;have BD:=aA (BD.o.trans (hb.mono BD.o.size));clear hb HS;go_wp2_with fail;refine(HT1.o u4 BD.o).mono ?_;rintro r u5 ⟨v',rfl,hO,hb⟩;obtain⟨oa,oc,rfl,-,oK⟩:=fw hO rfl;have BD:=aP (BD.o.trans (hb.mono BD.o.size)) oK;clear hb hO oK HT1;go_wp2_with fail;refine(Ue.o u5).mono ?_;rintro r u6 ⟨rfl,hb⟩;have BD:=aP (BD.o.1.trans (hb.mono BD.o.1.size)) ((BD.o.2.below hb).mono hb.size);clear hb;go_wp2_with fail;refine(HV1.o u6 oa oc BD.o.1 BD.o.2).mono ?_;rintro r u7 ⟨rfl,hb⟩;have BD:=aA (BD.o.1.trans (hb.mono BD.o.1.size));clear hb HV1;go_wp2_with fail;refine(HT2.o u7 BD.o).mono ?_;rintro r u8 ⟨v',rfl,hO,hb⟩;obtain⟨oa,oc,rfl,-,oK⟩:=fw hO rfl;have BD:=aP (BD.o.trans (hb.mono BD.o.size)) oK;clear hb hO oK HT2;go_wp2_with fail;refine(Ue.o u8).mono ?_;rintro r u9 ⟨rfl,hb⟩;have BD:=aP (BD.o.1.trans (hb.mono BD.o.1.size)) ((BD.o.2.below hb).mono hb.size);clear hb;go_wp2_with fail;refine(HV2.o u9 oa oc BD.o.1 BD.o.2).mono ?_;rintro r u10 ⟨rfl,hb⟩;have BD:=aA (BD.o.1.trans (hb.mono BD.o.1.size));clear hb HV2;go_wp2_with fail;refine(HT3.o u10 BD.o).mono ?_;rintro r El ⟨v',rfl,hO,hb⟩;obtain⟨oa,oc,rfl,-,oK⟩:=fw hO rfl;have BD:=aP (BD.o.trans (hb.mono BD.o.size)) oK;clear hb hO oK HT3;go_wp2_with fail;refine(Ue.o El).mono ?_;rintro r u12 ⟨rfl,hb⟩;have BD:=aP (BD.o.1.trans (hb.mono BD.o.1.size)) ((BD.o.2.below hb).mono hb.size);clear hb;go_wp2_with fail;refine(HV3.o u12 oa oc BD.o.1 BD.o.2).mono ?_;rintro r JC ⟨rfl,hb⟩;have BD:=aA (BD.o.1.trans (hb.mono BD.o.1.size));clear hb HV3;go_wp2_with fail;refine(HT4.o JC BD.o).mono ?_;rintro r u14 ⟨v',rfl,hO,hb⟩;obtain⟨oa,oc,rfl,-,oK⟩:=fw hO rfl;have BD:=aP (BD.o.trans (hb.mono BD.o.size)) oK;clear hb hO oK HT4;go_wp2_with fail;refine(Ue.o u14).mono ?_;rintro r u15 ⟨rfl,hb⟩;have BD:=aP (BD.o.1.trans (hb.mono BD.o.1.size)) ((BD.o.2.below hb).mono hb.size);clear hb;go_wp2_with fail;refine(HV4.o u15 oa oc BD.o.1 BD.o.2).mono ?_;rintro r u16 ⟨rfl,hb⟩;have BD:=aA (BD.o.1.trans (hb.mono BD.o.1.size));clear hb HV4;go_wp2_with fail;refine(HSu.o u16 BD.o).mono ?_;rintro r u17 ⟨hd,hb⟩;obtain⟨a1,c1,rfl,hN1⟩:=hd.aL;have BD:=aP (BD.o.trans (hb.mono BD.o.size)) hN1;clear hb hd hN1 HSu;go_wp2_with fail;refine(HPr.o u17 BD.o.1).mono ?_;rintro r Pm ⟨hd,hb⟩;obtain⟨a2,c2,rfl,kQ⟩:=hd.aL;have BD:=dC (BD.o.1.trans (hb.mono BD.o.1.size)) (BD.o.2.below hb) kQ;clear hb hd kQ HPr;go_wp2_with fail;refine(HOf.o Pm a1 a2 c1 c2 BD.o.1 BD.o.2.1 BD.o.r2).mono ?_;rintro r Pn ⟨rfl,hb⟩;have BD:=aA (BD.o.1.trans (hb.mono BD.o.1.size));clear hb HOf;go_wp2_with fail;refine(HC.o Pn BD.o).mono ?_;rintro r u20 ⟨rfl,hb⟩;have BD:=aA (BD.o.trans (hb.mono BD.o.size));clear hb HC;go_wp2_with fail;refine(Yz.o u20 BD.o).mono ?_;rintro r u21 ⟨rfl,hb⟩;have BD:=aA (BD.o.trans (hb.mono BD.o.size));clear hb Yz;go_wp2_with fail;refine(Ue.o u21).mono ?_;rintro r u22 ⟨rfl,hb⟩;have BD:=aA (BD.o.trans (hb.mono BD.o.size));clear hb;go_wp2_with fail;refine(HZ.o u22 BD.o).mono ?_;rintro r u23 ⟨rfl,hb⟩;have BD:=aA (BD.o.trans (hb.mono BD.o.size));clear hb HZ;go_wp2_with fail;refine(Am.o u23 BD.o).mono ?_;rintro r u24 ⟨rfl,hb⟩;have BD:=aA (BD.o.trans (hb.mono BD.o.size));clear hb Am;go_wp2_with fail;refine(Lu.o u24 v).mono ?_;rintro r uu ⟨rfl,hq⟩;rw[hq];clear hq uu;go_wp2_with fail;refine(Lu.o u24 s).mono ?_;rintro r uu ⟨rfl,hq⟩;rw[hq];clear hq uu;go_wp2_with fail;refine(Lu.o u24 v).mono ?_;rintro r uu ⟨rfl,hq⟩;rw[hq];clear hq uu;go_wp2_with fail;refine(Lu.o u24 v).mono ?_;rintro r uu ⟨rfl,hq⟩;rw[hq];clear hq uu;go_wp2_with fail;refine(Lu.o u24 v0).mono ?_;rintro r uu ⟨rfl,hq⟩;rw[hq];clear hq uu;go_wp2_with fail;refine(YB.o u24 0).mono ?_;rintro r uu ⟨rfl,hq⟩;rw[hq];clear hq uu;go_wp2_with fail;refine(HX4.o u24).mono ?_;rintro r u25 ⟨rfl,hb⟩;have BD:=aA (BD.o.trans (hb.mono BD.o.size));clear hb HX4;go_wp2_with fail;refine(YB.o u25 (Aq 2 v)).mono ?_;rintro r uu ⟨rfl,hq⟩;rw[hq];clear hq uu;go_wp2_with fail;refine(YA.o u25).mono ?_;rintro r u26 ⟨rfl,hb⟩;have BD:=aA (BD.o.trans (hb.mono BD.o.size));clear hb YA;go_wp2_with fail;refine(YB.o u26 (Aq 1 s)).mono ?_;rintro r uu ⟨rfl,hq⟩;rw[hq];clear hq uu;go_wp2_with fail;refine(HFl.o u26 BD.o).mono ?_;rintro r u27 ⟨bb,rfl,hbb,hb⟩;have BD:=aA (BD.o.trans (hb.mono BD.o.size));clear hb HFl Lu YB Ue;obtain⟨w1,w2,w3,w4,w5,w6⟩:=aag.o
 by_cases hv:v=0
 . have hs0:s=0:=w2.2 (w1.1 hv);have hbt:bb=true:=hbb.2 (w1.1 hv);subst hv hs0 hbt;clear w1 w2 w3 w4 w5 w6 aag hbb;have o1:=G5.1;have o2:=G5.2;go_wp2;go_ret;exact⟨rfl,BD.o⟩
 . have hs0:s≠0:=λq=>hv (w1.2 (w2.1 q))
   have hbt:bb=false:=by
    cases bb with
    | false=>rfl
    | true=>exact absurd (w1.2 (hbb.1 rfl)) hv
   subst hbt;have o1:=GZ (z:=v) ae w4;have o2:=GZ (z:=s) ae w6;obtain⟨o1,o3⟩:=o1;obtain⟨o2,o4⟩:=o2;clear w1 w2 w3 w4 w5 w6 aag hbb hv hs0;exact Qar
theorem aah(xs:List Nat)(a:Option Addr)(n c:Nat)(p:List Nat)(pv:Value)(lo:Nat)(less mode:Int)(w:World)(hn:n=xs.length)(hF:Fs w.heap.size w a xs)(hT:dU w)(hU:jl xs)(hp:p.Perm (List.range xs.length))(hP:eG lo w pv p)(hm:pI mode=true)(hs:lsB less=true) :
 Calls Tryz.prog 13 #[.slice a n c,pv,.int .i64 mode,.int .i64 less] w λr w'=>r=.returned (.bool true)/\Below w.heap.size w w':=by
 by_cases h:(n:Int)<=less
 . exact XM xs a n c p pv lo less mode w hn hF hT hU hp hP hm hs h
 . exact Uf xs a n c p pv lo less mode w hn hF hT hU hp hP hm hs ae
end
section
open Go Go.RowKit J
local notation "ONE" => 4607182418800017408
local notation "LESS" => 13830554455654793216
local notation "TWO" => 4611686018427387904
theorem nI{xs ys:List Nat}(h:∀x ∈ xs,dR x)(h2:∀x ∈ ys,dR x)(hl:xs.length<=65536)(he:ys.length=xs.length)(hn:0<xs.length){mode:Int}(hm:pI mode=true) :
 Bf xs ys mode=if cS xs xs*cS ys ys=0 then(0,190) else PD (cS xs ys) (cS xs xs*cS ys ys) mode:=by
 unfold Bf;rw[hm,if_pos rfl,if_pos (x9 h h2 hl he),if_neg (λq=>by rw[q] at hn;simp at hn)]
theorem Lv{xs ys:List Nat}(h:∀x ∈ xs,dR x)(h2:∀x ∈ ys,dR x)(hl:xs.length<=65536)(he:ys.length=xs.length){less mode:Int}(hm:pI mode=true)(hs:lsB less=true) :
 Pz xs ys less mode=if (xs.length:Int)<=less then(0,3) else jk (gV 2148 (cS xs ys)) (gV 0 ((xs.length:Int)*((xs.length:Int)-less))) mode:=by
 unfold Pz;rw[hm,hs,wu,if_pos rfl,if_pos (x9 h h2 hl he)]
structure Li14 (xs ys p:List Nat) (less mode:Int):Prop where
 a1:Bf ys xs mode=Bf xs ys mode
 a2:Bf (bu xs p TWO) (bu ys p ONE) mode=Bf xs ys mode
 a3:Pz (bu ys p ONE) (bu xs p ONE) less mode=Pz xs ys less mode
 a4:xs.length=0->Bf xs ys mode=(0,3)
 a5:0<xs.length->jo xs\/jo ys->Bf xs ys mode=(0,190)
 a6:0<xs.length->¬ jo xs->¬ jo ys->(∃z:Nat,z<=ONE/\(Bf xs ys mode=(z,0)\/Bf xs ys mode=(nH z,0)))/\Bf xs xs mode=(ONE,0) /\
  ∀q:List Nat,q.Perm (List.range xs.length)->Bf (bu xs q ONE) (bu xs q LESS) mode=(LESS,0)
theorem li14{xs ys p:List Nat}(h:jl xs)(k:jl ys)(he:ys.length=xs.length)(hp:p.Perm (List.range xs.length)){less mode:Int}(hm:pI mode=true)(hs:lsB less=true):Li14 xs ys p less mode:=by
 have M:=uz hm;have hl:=h.l;have A:=GH xs;have B:=GH ys;have T1:=h.one hp;have T2:=h.two hp;have U1:=k.one (p:=p) (by rw[he];exact hp);have bA:Bd 4229 (cS xs xs):=lD h.w h.fin h.w h.fin ae rfl;have bB:Bd 4229 (cS ys ys):=lD k.w k.fin k.w k.fin ae rfl;have bC:Bd 4229 (cS xs ys):=lD h.w h.fin k.w k.fin ae he.symm;have bAB:Bd 8458 (cS xs xs*cS ys ys):=bA.mul bB;have bAA:Bd 8458 (cS xs xs*cS xs xs):=bA.mul bA;have c1:cS (bu xs p TWO) (bu xs p TWO)=4*cS xs xs:=by rw[rU hp rfl T2.1 T2.1];omega
 have c2:cS (bu ys p ONE) (bu ys p ONE)=cS ys ys:=by rw[rU (by rw[he];exact hp) rfl U1.1 U1.1];omega
 have c3:cS (bu xs p TWO) (bu ys p ONE)=2*cS xs ys:=by rw[rU hp he T2.1 U1.1];omega
 have c4:cS (bu ys p ONE) (bu xs p ONE)=cS xs ys:=by rw[rU (by rw[he];exact hp) he.symm U1.1 T1.1,<-Lh he];omega
 have flx:=λhn=>Ee xs hn;have fly:=λhn=>Ee ys hn;have le1:(bu ys p ONE).length=(bu xs p TWO).length:=by rw[U1.2.2.2,T2.2.2.2,he]
 refine⟨?_,?_,?_,λh0=>?_,λhn hf=>?_,λhn f1 f2=>?_⟩
 . by_cases hn:0<xs.length
   . rw[nI h.fin k.fin ae he hn hm,nI k.fin h.fin ae he.symm ae hm,Lh he,yC (cS ys ys)]
   . have e1:xs=[]:=l7 ae;have e2:ys=[]:=l7 ae;rw[e1,e2]
 . by_cases hn:0<xs.length
   . rw[nI h.fin k.fin ae he hn hm,nI T2.2.2.1 U1.2.2.1 ae le1 ae hm,c1,c2,c3,kE]
     by_cases q:cS xs xs*cS ys ys=0
     . rw[if_pos q,if_pos ae]
     . rw[if_neg q,if_neg ae];have:=uL A B;exact O7 bC ae bAB mode hm
   . have e1:xs=[]:=l7 ae;have e2:ys=[]:=l7 ae;have e3:p=[]:=l7 (by rw[hp.length_eq];simp;omega);rw[e1,e2,e3];rfl
 . rw[Lv h.fin k.fin ae he hm hs,Lv U1.2.2.1 T1.2.2.1 ae ae hm hs,c4,U1.2.2.2,he]
 . have e1:xs=[]:=l7 h0;unfold Bf;rw[hm,if_pos rfl,if_pos (x9 h.fin k.fin ae he),if_pos e1]
 . rw[nI h.fin k.fin ae he hn hm,if_pos];rcases hf with q|q
   . rw[(flx hn).2 q,Int.zero_mul]
   . rw[(fly ae).2 q,Int.mul_zero]
 . have pA:0<cS xs xs:=by
    have:cS xs xs≠0:=λq=>f1 ((flx hn).1 q);omega
   have pB:0<cS ys ys:=by
    have:cS ys ys≠0:=λq=>f2 ((fly ae).1 q);omega
   have pq:=tu pA pB;have pAA:=tu pA pA;refine⟨?_,?_,λq hq=>?_⟩
   . rw[nI h.fin k.fin ae he hn hm,if_neg ae];obtain⟨z,h1,-,h3⟩:=vS bC pq bAB (O6 he pB) mode hm;refine⟨z,h1,?_⟩;rw[h3]
     by_cases c0:0<=cS xs ys
     . rw[if_pos c0];exact .inl rfl
     . rw[if_neg c0];exact .inr rfl
   . rw[nI h.fin h.fin ae rfl hn hm,if_neg ae];obtain⟨z,h1,h2,h3⟩:=vS bA pAA bAA (Br _) mode hm;rw[h3,if_pos A,h2 rfl]
   . have Q1:=h.one hq;have Q2:=h.less hq;have d1:cS (bu xs q ONE) (bu xs q ONE)=cS xs xs:=by rw[rU hq rfl Q1.1 Q1.1];omega
     have d2:cS (bu xs q LESS) (bu xs q LESS)=cS xs xs:=by rw[rU hq rfl Q2.1 Q2.1];omega
     have d3:cS (bu xs q ONE) (bu xs q LESS)=-cS xs xs:=by rw[rU hq rfl Q1.1 Q2.1];omega
     rw[nI Q1.2.2.1 Q2.2.2.1 ae ae ae hm,d1,d2,d3,if_neg ae];obtain⟨z,h1,h2,h3⟩:=vS (c:=-cS xs xs) (q:=cS xs xs*cS xs xs) bA.neg pAA bAA (by rw[Int.neg_mul_neg];exact Br _) mode hm;rw[h3,if_neg ae,h2 (Int.neg_mul_neg _ _)];rfl
end
end Go.Proofs.YtfmfhehbdfhnbaaGreatDoor
