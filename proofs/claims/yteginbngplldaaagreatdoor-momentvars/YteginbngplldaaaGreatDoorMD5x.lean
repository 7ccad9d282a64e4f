import Derived.Test.YteginbngplldaaaGreatDoorMA2x
import Derived.Test.YteginbngplldaaaGreatDoorM1x
import Derived.ProofKit
import Derived.OpenShut
import Derived.ChangeOld
import Derived.ChangeArms
import Derived.SizedLaws
import Derived.Laws.Cover2
set_option linter.unusedVariables false
set_option linter.unusedSimpArgs false
set_option maxHeartbeats 16000000
set_option maxRecDepth 20000
namespace Go.Proofs.YteginbngplldaaaGreatDoor
namespace J
end J
section
open Go Go.RowKit J
theorem Qaf{P:Prop}(h:P:=by
 rw [vU];exact zG fl fl a' a' m m c' c' v nQ.symm nQ.symm rfl hF' hF' PF.o.1 PF.o.2.1 PF.o.1 PF.o.2.1 m6):P:=h
theorem yd{P:Prop}(h:P:=by
 rw [<-hz]
 cases h1:(qa mode&&lsB less) with
 | false=>rw [if_neg (by decide)]
 | true =>
   rw [h1,nT] at h;have e1:Ps.bO pa pb xs=1:=by unfold Ps.bO;rw [if_pos h]
   rw [if_pos rfl,e1,if_neg (by decide)]):P:=h
theorem Xy (xs:List Nat) (a:Option Addr) (n c:Nat) (less mode pa pb:Int) (w:World) (hn:n=xs.length) (hF:Fs w.heap.size w a xs) (hW:j4 xs) (hl:n<=35184372088832) (z:Nat×Int) (hz:lI mR xs less mode pa pb=z) :
 Calls Tryz.prog 21 #[.slice a n c,.int .i64 less,.int .i64 mode,.agg #[.int .i64 pa,.int .i64 pb]] w fun r w'=>r=.returned (.tuple #[.float .f64 z.1,.int .i64 z.2])/\Below w.heap.size w w':=by
 obtain ⟨X,E⟩:=z;simp only;obtain ⟨W,iq⟩:=af (w.alloc (Obj.cells #[.int .i64 pa,.int .i64 pb] 26))
 have B0:Aside (Bl W w.heap.size 26 [.int .i64 pa,.int .i64 pb]/\Below w.heap.size w W):=by
  exact zc
 have ik:=ak iq;have p0:=B0.o.1.cell 0 _ rfl;have p1:=B0.o.1.cell 1 _ rfl;clear iq;have BP:=hid (fun (b:Bool) (u:World)=>QF b u);unfold lI at hz
 cases h:(qa mode&&lsB less&&may pa pb) with
 | false =>
   have e:(X,E)=(0,1):=by
    exact yd
   have C:=hid (xX xs a n c less mode pa pb W h);obtain ⟨rfl,rfl⟩:=gJ e;clear hz hn hF hW h e;go_enter Tryz.func21,Tryz.ntmps21
   go_upto_region 1 with fail
   rw [<-ik.o];clear ik;go_wp2_with fail;refine C.o.mono ?_;rintro r v ⟨rfl,hb⟩;have B1:=ak (B0.o.2.trans (hb.mono B0.o.2.size));clear hb C p0 p1 B0;go_wp2_with fail;refine (BP.o false v).mono ?_;rintro r v2 ⟨rfl,hb⟩;have B2:=ak (B1.o.trans (hb.mono B1.o.size));clear hb B1;go_wp2;exact aC (v:=.tuple #[.float .f64 0,.int .i64 1]) (by simp [results,Tryz.results21,go_sem]) rfl ⟨rfl,B2.o⟩
 | true =>
   rw [nM,nM] at h;obtain ⟨⟨hm,hs⟩,hy⟩:=h;rw [hm,hs,vW,if_pos rfl] at hz;have HZ:=ak hz;have C:=hid (uR xs a n c less mode pa pb W hn hl ((hF.below B0.o.2).mono B0.o.2.size) hW hm hs hy);have HX:=fF hn hW (xQ hs) (zA hm);clear hz hn hF hW hl hm hs hy;go_enter Tryz.func21,Tryz.ntmps21
   go_upto_region 1 with fail
   rw [<-ik.o];clear ik;go_wp2_with fail;refine C.o.mono ?_;rintro r v ⟨hr,hb⟩;have B1:=ak (B0.o.2.trans (hb.mono B0.o.2.size));clear hb C p0 p1 B0;rcases hr with ⟨h1,rfl⟩|⟨h1,h2,rfl⟩|⟨h1,h2,h3,rfl⟩|⟨h1,h2,h3,a',c',rfl,hF'⟩
   · have hz:=HZ.o;rw [if_neg h1] at hz;obtain ⟨rfl,hE⟩:=gJ hz;rw [hE] at h1 |-;have h1':(E==0)=false:=by simp [h1]
     clear hz HZ hE;go_wp2_with fail;refine (BP.o false v).mono ?_;rintro r v2 ⟨rfl,hb⟩;have B2:=ak (B1.o.trans (hb.mono B1.o.size));clear hb B1;go_wp2;exact aC (v:=.tuple #[.float .f64 0,.int .i64 E]) (by simp [results,Tryz.results21,go_sem]) rfl ⟨rfl,B2.o⟩
   · have hz:=HZ.o;rw [if_pos h1,if_pos h2] at hz;obtain ⟨rfl,rfl⟩:=gJ hz;clear hz HZ h1 h2;go_wp2_with fail;refine (BP.o true v).mono ?_;rintro r v2 ⟨rfl,hb⟩;have B2:=ak (B1.o.trans (hb.mono B1.o.size));clear hb B1;go_wp2;exact aC (v:=.tuple #[.float .f64 9221120237041090560,.int .i64 0]) (by simp [results,Tryz.results21,go_sem]) rfl ⟨rfl,B2.o⟩
   · have hz:=HZ.o;rw [if_pos h1,if_neg (by rw [h2];decide),if_pos h3] at hz;obtain ⟨rfl,rfl⟩:=gJ hz;clear hz HZ h1 h2 h3;go_wp2_with fail;refine (BP.o false v).mono ?_;rintro r v2 ⟨rfl,hb⟩;have B2:=ak (B1.o.trans (hb.mono B1.o.size));clear hb B1;go_wp2;exact aC (v:=.tuple #[.float .f64 0,.int .i64 3]) (by simp [results,Tryz.results21,go_sem]) rfl ⟨rfl,B2.o⟩
   · have hz:=HZ.o;rw [if_pos h1,if_neg (by rw [h2];decide),if_neg h3] at hz;obtain ⟨fl,hfl⟩:∃ f,Ps.fin xs=f:=⟨_,rfl⟩;rw [hfl] at hF' hz h3 |-
     have PF:Aside (j4 fl/\(∀ x ∈ fl,fZ x)/\fl.length<=65536):=by
      rw [<-hfl];exact ⟨vT HX.o.2.1,mU HX.o.2.1,kC h1⟩
     obtain ⟨m,nQ⟩:∃ m,fl.length=m:=⟨_,rfl⟩;rw [nQ] at hz h3 |-;have m6:m<=65536:=by have:=PF.o.r2;omega
     have qb:0<=less/\less<=1:=by have:=HX.o.r2.1;omega
     obtain ⟨oV,vU⟩:=af (gV 2148 (cS fl fl));obtain ⟨oD,pE⟩:=af (gV 0 ((m:Int)*((m:Int)-less)));rw [<-vU,<-pE] at hz;have FV:Fm oV:=by rw [vU];exact bB (by decide) (by decide) (ll PF.o.1 PF.o.2.1 PF.o.1 PF.o.2.1 PF.o.r2 rfl)
     have FD:Fm oD:=by rw [pE];exact bB (by decide) (by decide) (r9 (by omega) qb.1 qb.2)
     have C1:Hid (Calls Tryz.prog 59 #[.slice a' m c',.slice a' m c'] v fun r w'=>aQ 0 w' r oV/\Below v.heap.size v w'):=by
      exact Qaf
     have HBy:Hid (∀ (u:World) (a:Option Addr) (c:Nat),Nt 0 u (.slice a (ws (dX oV)).length c) (dX oV)->Calls Tryz.prog 58 #[.agg #[.bool (dN oV),.slice a (ws (dX oV)).length c,.int .i64 (dE oV)],.int .i64 (m:Nat),.int .i64 less] u fun r w'=>(∃ b d,r=.returned (.agg #[.bool (dN oV),.slice a (ws (dX oV)).length c,.int .i64 (dE oV),.bool (dN oD),.slice b (ws (dX oD)).length d,.int .i64 (dE oD)])/\Nt 0 w' (.slice a (ws (dX oV)).length c) (dX oV)/\Nt 0 w' (.slice b (ws (dX oD)).length d) (dX oD))/\Below u.heap.size u w'):=fun u a c hN=>by
      rw [pE];exact Vt oV a c m less u (by omega) qb.1 qb.2 hN
     have HR:Hid (∀ (u:World) (a b:Option Addr) (ca cb:Nat),Nt 0 u (.slice a (ws (dX oV)).length ca) (dX oV)->Nt 0 u (.slice b (ws (dX oD)).length cb) (dX oD)->Calls Tryz.prog 57 #[.agg #[.bool (dN oV),.slice a (ws (dX oV)).length ca,.int .i64 (dE oV),.bool (dN oD),.slice b (ws (dX oD)).length cb,.int .i64 (dE oD)],.int .i64 mode] u fun r w'=>r=.returned (.tuple #[.float .f64 X,.int .i64 E])/\Below u.heap.size u w'):=fun u a b ca cb n1 n2=>by
      have:=TI mode FV FD n1 n2;exact y6
     clear hz HZ h1 h2 h3 hfl nQ vU pE FV FD hF' m6 qb PF HX;go_wp2_with fail;refine C1.o.mono ?_;rintro r u1 ⟨hd,hb⟩;obtain ⟨a1,c1,rfl,hN1⟩:=hd.aH;have B2:=(aK (B1.o.trans (hb.mono B1.o.size)) hN1);clear hb hd hN1 C1 B1;have C2:=hid (HBy.o u1 a1 c1 B2.o.2);go_wp2_with fail;refine C2.o.mono ?_;rintro r u2 ⟨⟨b2,d2,rfl,jH,dV⟩,hb⟩;have B3:=(cK (B2.o.1.trans (hb.mono B2.o.1.size)) jH dV);clear hb jH dV C2 B2;have C3:=hid (HR.o u2 a1 b2 c1 d2 B3.o.2.1 B3.o.r2);go_wp2_with fail;refine C3.o.mono ?_;rintro r u3 ⟨rfl,hb⟩;have B4:=ak (B3.o.1.trans (hb.mono B3.o.1.size));clear hb C3 B3;go_wp2;exact aC (v:=.tuple #[.float .f64 X,.int .i64 E]) (by simp [results,Tryz.results21,go_sem]) rfl ⟨rfl,B4.o⟩
theorem Xz (xs:List Nat) (a:Option Addr) (n c:Nat) (less mode pa pb:Int) (w:World) (hn:n=xs.length) (hF:Fs w.heap.size w a xs) (hW:j4 xs) (hl:n<=35184372088832) (z:Nat×Int) (hz:lI lh xs less mode pa pb=z) :
 Calls Tryz.prog 22 #[.slice a n c,.int .i64 less,.int .i64 mode,.agg #[.int .i64 pa,.int .i64 pb]] w fun r w'=>r=.returned (.tuple #[.float .f64 z.1,.int .i64 z.2])/\Below w.heap.size w w':=by
 obtain ⟨X,E⟩:=z;simp only;obtain ⟨W,iq⟩:=af (w.alloc (Obj.cells #[.int .i64 pa,.int .i64 pb] 26))
 have B0:Aside (Bl W w.heap.size 26 [.int .i64 pa,.int .i64 pb]/\Below w.heap.size w W):=by
  exact zc
 have ik:=ak iq;have p0:=B0.o.1.cell 0 _ rfl;have p1:=B0.o.1.cell 1 _ rfl;clear iq;have BP:=hid (fun (b:Bool) (u:World)=>QF b u);unfold lI at hz
 cases h:(qa mode&&lsB less&&may pa pb) with
 | false =>
   have e:(X,E)=(0,1):=by
    exact yd
   have C:=hid (xX xs a n c less mode pa pb W h);obtain ⟨rfl,rfl⟩:=gJ e;clear hz hn hF hW h e;go_enter Tryz.func22,Tryz.ntmps22
   go_upto_region 1 with fail
   rw [<-ik.o];clear ik;go_wp2_with fail;refine C.o.mono ?_;rintro r v ⟨rfl,hb⟩;have B1:=ak (B0.o.2.trans (hb.mono B0.o.2.size));clear hb C p0 p1 B0;go_wp2_with fail;refine (BP.o false v).mono ?_;rintro r v2 ⟨rfl,hb⟩;have B2:=ak (B1.o.trans (hb.mono B1.o.size));clear hb B1;go_wp2;exact aC (v:=.tuple #[.float .f64 0,.int .i64 1]) (by simp [results,Tryz.results22,go_sem]) rfl ⟨rfl,B2.o⟩
 | true =>
   rw [nM,nM] at h;obtain ⟨⟨hm,hs⟩,hy⟩:=h;rw [hm,hs,vW,if_pos rfl] at hz;have HZ:=ak hz;have C:=hid (uR xs a n c less mode pa pb W hn hl ((hF.below B0.o.2).mono B0.o.2.size) hW hm hs hy);have HX:=fF hn hW (xQ hs) (zA hm);clear hz hn hF hW hl hm hs hy;go_enter Tryz.func22,Tryz.ntmps22
   go_upto_region 1 with fail
   rw [<-ik.o];clear ik;go_wp2_with fail;refine C.o.mono ?_;rintro r v ⟨hr,hb⟩;have B1:=ak (B0.o.2.trans (hb.mono B0.o.2.size));clear hb C p0 p1 B0;rcases hr with ⟨h1,rfl⟩|⟨h1,h2,rfl⟩|⟨h1,h2,h3,rfl⟩|⟨h1,h2,h3,a',c',rfl,hF'⟩
   · have hz:=HZ.o;rw [if_neg h1] at hz;obtain ⟨rfl,hE⟩:=gJ hz;rw [hE] at h1 |-;have h1':(E==0)=false:=by simp [h1]
     clear hz HZ hE;go_wp2_with fail;refine (BP.o false v).mono ?_;rintro r v2 ⟨rfl,hb⟩;have B2:=ak (B1.o.trans (hb.mono B1.o.size));clear hb B1;go_wp2;exact aC (v:=.tuple #[.float .f64 0,.int .i64 E]) (by simp [results,Tryz.results22,go_sem]) rfl ⟨rfl,B2.o⟩
   · have hz:=HZ.o;rw [if_pos h1,if_pos h2] at hz;obtain ⟨rfl,rfl⟩:=gJ hz;clear hz HZ h1 h2;go_wp2_with fail;refine (BP.o true v).mono ?_;rintro r v2 ⟨rfl,hb⟩;have B2:=ak (B1.o.trans (hb.mono B1.o.size));clear hb B1;go_wp2;exact aC (v:=.tuple #[.float .f64 9221120237041090560,.int .i64 0]) (by simp [results,Tryz.results22,go_sem]) rfl ⟨rfl,B2.o⟩
   · have hz:=HZ.o;rw [if_pos h1,if_neg (by rw [h2];decide),if_pos h3] at hz;obtain ⟨rfl,rfl⟩:=gJ hz;clear hz HZ h1 h2 h3;go_wp2_with fail;refine (BP.o false v).mono ?_;rintro r v2 ⟨rfl,hb⟩;have B2:=ak (B1.o.trans (hb.mono B1.o.size));clear hb B1;go_wp2;exact aC (v:=.tuple #[.float .f64 0,.int .i64 3]) (by simp [results,Tryz.results22,go_sem]) rfl ⟨rfl,B2.o⟩
   · have hz:=HZ.o;rw [if_pos h1,if_neg (by rw [h2];decide),if_neg h3] at hz;obtain ⟨fl,hfl⟩:∃ f,Ps.fin xs=f:=⟨_,rfl⟩;rw [hfl] at hF' hz h3 |-
     have PF:Aside (j4 fl/\(∀ x ∈ fl,fZ x)/\fl.length<=65536):=by
      rw [<-hfl];exact ⟨vT HX.o.2.1,mU HX.o.2.1,kC h1⟩
     obtain ⟨m,nQ⟩:∃ m,fl.length=m:=⟨_,rfl⟩;rw [nQ] at hz h3 |-;have m6:m<=65536:=by have:=PF.o.r2;omega
     have qb:0<=less/\less<=1:=by have:=HX.o.r2.1;omega
     obtain ⟨oV,vU⟩:=af (gV 2148 (cS fl fl));obtain ⟨oD,pE⟩:=af (gV 0 ((m:Int)*((m:Int)-less)));rw [<-vU,<-pE] at hz;have FV:Fm oV:=by rw [vU];exact bB (by decide) (by decide) (ll PF.o.1 PF.o.2.1 PF.o.1 PF.o.2.1 PF.o.r2 rfl)
     have FD:Fm oD:=by rw [pE];exact bB (by decide) (by decide) (r9 (by omega) qb.1 qb.2)
     have C1:Hid (Calls Tryz.prog 59 #[.slice a' m c',.slice a' m c'] v fun r w'=>aQ 0 w' r oV/\Below v.heap.size v w'):=by
      exact Qaf
     have HBy:Hid (∀ (u:World) (a:Option Addr) (c:Nat),Nt 0 u (.slice a (ws (dX oV)).length c) (dX oV)->Calls Tryz.prog 58 #[.agg #[.bool (dN oV),.slice a (ws (dX oV)).length c,.int .i64 (dE oV)],.int .i64 (m:Nat),.int .i64 less] u fun r w'=>(∃ b d,r=.returned (.agg #[.bool (dN oV),.slice a (ws (dX oV)).length c,.int .i64 (dE oV),.bool (dN oD),.slice b (ws (dX oD)).length d,.int .i64 (dE oD)])/\Nt 0 w' (.slice a (ws (dX oV)).length c) (dX oV)/\Nt 0 w' (.slice b (ws (dX oD)).length d) (dX oD))/\Below u.heap.size u w'):=fun u a c hN=>by
      rw [pE];exact Vt oV a c m less u (by omega) qb.1 qb.2 hN
     have HR:Hid (∀ (u:World) (a b:Option Addr) (ca cb:Nat),Nt 0 u (.slice a (ws (dX oV)).length ca) (dX oV)->Nt 0 u (.slice b (ws (dX oD)).length cb) (dX oD)->Calls Tryz.prog 60 #[.agg #[.bool (dN oV),.slice a (ws (dX oV)).length ca,.int .i64 (dE oV),.bool (dN oD),.slice b (ws (dX oD)).length cb,.int .i64 (dE oD)],.int .i64 mode] u fun r w'=>r=.returned (.tuple #[.float .f64 X,.int .i64 E])/\Below u.heap.size u w'):=fun u a b ca cb n1 n2=>by
      have:=TJ mode FV FD n1 n2;exact y6
     clear hz HZ h1 h2 h3 hfl nQ vU pE FV FD hF' m6 qb PF HX;go_wp2_with fail;refine C1.o.mono ?_;rintro r u1 ⟨hd,hb⟩;obtain ⟨a1,c1,rfl,hN1⟩:=hd.aH;have B2:=(aK (B1.o.trans (hb.mono B1.o.size)) hN1);clear hb hd hN1 C1 B1;have C2:=hid (HBy.o u1 a1 c1 B2.o.2);go_wp2_with fail;refine C2.o.mono ?_;rintro r u2 ⟨⟨b2,d2,rfl,jH,dV⟩,hb⟩;have B3:=(cK (B2.o.1.trans (hb.mono B2.o.1.size)) jH dV);clear hb jH dV C2 B2;have C3:=hid (HR.o u2 a1 b2 c1 d2 B3.o.2.1 B3.o.r2);go_wp2_with fail;refine C3.o.mono ?_;rintro r u3 ⟨rfl,hb⟩;have B4:=ak (B3.o.1.trans (hb.mono B3.o.1.size));clear hb C3 B3;go_wp2;exact aC (v:=.tuple #[.float .f64 X,.int .i64 E]) (by simp [results,Tryz.results22,go_sem]) rfl ⟨rfl,B4.o⟩
end
section
open Go.ChangeShapes Go.WideShapes Go.ChangeAt Go.RowKit
theorem ZM {H:Type}{enc:TypeId×Value->H}{P:Program}{w:World}{base:Nat}{spare:Nat->Bool}{held:Bool}{fuel:Nat}{t:TypeId}{cs:List Value}{x:DataW H×List MemPlace}{k:FloatKind}(ht:P.underlying t=some (.float k)) (h:DataW.trod enc P w base spare held fuel t cs=some x):∃ n,cs=[.float k n]/\x=(.lit (.float k n),[])/\(Lit.float k n).wf=true:=by
 cases fuel with
 | zero=>simp [DataW.trod] at h
 | succ m =>
   simp only [DataW.trod,ht] at h
   split at h <;> simp_all
structure Vu (w:World) (a:Option Addr) (n c:Nat) (xs:List Nat):Prop where
 len:n=xs.length
 cap:n<=c
 wf:j4 xs
 rd:Fs w.heap.size w a xs
 nil:a=none->c=0
theorem Mg (b off i:Nat):(⟨b,off,none⟩:Addr).add i=⟨b,off+i,none⟩:=by unfold Addr.add;split <;> simp_all
def UD {H:Type} (y:DataW H×List MemPlace):Nat:=match y.1 with | .lit (.float _ n)=>n | _=>0
theorem Tryz.XA:Tryz.prog.cellsOf 23=1:=by kernel_rfl
theorem Tryz.XB:Tryz.prog.bytesOf 23=8:=by kernel_rfl
theorem QG {H:Type}{enc:TypeId×Value->H}{W:World}{a:Option Addr}{n c:Nat}{d:DataW H}{p:List MemPlace}(h:DataW.Trod enc Tryz.prog W 0 (fun _=>true) true 27 (.slice a n c) d p) :
 ∃ xs,Vu W a n c xs/\((d=.nil/\c=0)\/∃ elems spare:List (DataW H),d=.slice elems spare/\elems.length+spare.length=c):=by
 obtain ⟨fuel,hf⟩:=h;rcases DataW.trod_slice Tryz.underlying27 hf with ⟨hcs,hx⟩|⟨x,l,cp,elems,rest,m,_,hcs,hx,hb,hl,hm,hlen,hel,hsp,hns⟩
 · simp [Value.cells] at hcs;obtain ⟨rfl,rfl,rfl⟩:=hcs;exact ⟨[],⟨rfl,aA _,(fun x hx=>by cases hx),(fun h=>absurd rfl h),fun _=>rfl⟩,.inl ⟨(gJ hx).1,rfl⟩⟩
 · simp [Value.cells] at hcs;obtain ⟨rfl,rfl,rfl⟩:=hcs
   have each:∀ i y,i<n->elems[i]?=some y->y=(.lit (.float .f64 (UD y)),[])/\(Lit.float .f64 (UD y)).wf=true/\W.cell? (x.add i)=some (.float .f64 (UD y)):=by
    intro i y hi hy;have hb':=hel i hi;rw [hy,Tryz.XA,eG,Option.bind_eq_some_iff] at hb';obtain ⟨cs',hcs,hy'⟩:=hb';obtain ⟨k,rfl,rfl,hw⟩:=ZM Tryz.underlying23 hy';exact ⟨rfl,hw,cell_of_cells?_one hcs⟩
   refine ⟨elems.map UD,⟨by simp [hlen],hl,?_,?_,fun e=>by cases e⟩,.inr ⟨_,_,(gJ hx).1,?_⟩⟩
   · intro y hy;obtain ⟨z,hz,rfl⟩:=List.mem_map.1 hy;obtain ⟨i,hi⟩:=List.getElem?_of_mem hz;have hil:=(zI.1 hi).1;have:=(each i z (by omega) hi).2.1;exact of_decide_eq_true this
   · intro hne;obtain ⟨b,off,spot⟩:=x
     have hn0:0<n:=by
      rcases kG n with h0|h0
      · rw [h0] at hlen;have:=yI hlen;subst this;simp at hne
      · exact h0
     have hc0:=(each 0 (elems[0]'(by omega)) hn0 (jV _)).2.2;have hspot:spot=none:=by simpa [Addr.add] using World.cell?_spot hc0
     subst hspot;refine ⟨b,off,lC W _ (by simpa [Addr.add] using hc0),rfl,fun i hi=>?_⟩;rw [List.length_map] at hi;have hadd:=Mg b off i;have:=(each i (elems[i]'hi) (by omega) (jV _)).2.2;rw [hadd] at this;rw [this];simp [gN,hi]
   · have hr:=(hsp rfl).1;simp only [List.length_map];omega
theorem Ey {H:Type}{ts:List TypeId}{ds:List (DataW H)}(h:(DataW.weightsEach Tryz.prog ts ds).all (·<=reachBytes)=true) {j:Nat}{d:DataW H}{c n:Nat}(ht:ts[j]?=some 27) (hd:ds[j]?=some d) (hn:n<=c)
 (hc:(d=.nil/\c=0)\/∃ elems spare:List (DataW H),d=.slice elems spare/\elems.length+spare.length=c):n<=17592186043904:=by
 rcases hc with ⟨_,rfl⟩|⟨elems,spare,rfl,hl⟩
 · omega
 · have:=sized_slice h ht hd Tryz.underlying27;rw [Tryz.XB,hl] at this;simp only [reachBytes] at this;omega
end
section
open Go Go.RowKit J
theorem Ez {w:World}{g n:Nat}{xs:List Nat}(h:iw w g (xs++[4634696597773484032,4634766966517661696])) (hn:n=xs.length):Fs w.heap.size w (some ⟨g,0,none⟩) xs:=by
 have:=h.fs h.lt n;rw [Ci (by omega),gz (by omega)] at this;exact this
theorem ug (a:Option Addr) (n c:Nat) (xs:List Nat) (less mode pa pb:Int) (w:World) (hT:dF w) (hC:Vu w a n c xs) (hm:n<=17592186043904) :
 Calls Tryz.prog 4 #[.slice a n c,.int .i64 less,.int .i64 mode,.agg #[.int .i64 pa,.int .i64 pb]] w fun r w'=>r=.returned (.bool true)/\Below w.heap.size w w':=by
 obtain ⟨hl1,hcap,hW1,hF1,_⟩:=hC;have up:∀ u:World,Below w.heap.size w u->Fs u.heap.size u a xs/\dF u/\Fs w.heap.size u a xs:=fun u hb=>⟨(hF1.below hb).mono hb.size,hT.belows hb,hF1.below hb⟩;obtain ⟨⟨X1,E1⟩,h1⟩:∃ r,lI mR xs less mode pa pb=r:=⟨_,rfl⟩;obtain ⟨⟨X2,E2⟩,h2⟩:∃ r,lI lh xs less mode pa pb=r:=⟨_,rfl⟩;have HA:=hid (fun (u:World) (hb:Below w.heap.size w u)=>Uw u (up u hb).2.1);have HL:=hid (fun (u:World) (hb:Below w.heap.size w u)=>Xt xs a n c u.heap.size u hl1 hm (up u hb).1 (aA _));have HV:=hid (fun (u:World) (hb:Below w.heap.size w u) (g:Nat) (hO:iw u g (xs++[4634696597773484032,4634766966517661696]))=>Ei xs (some ⟨g,0,none⟩) n (n+2) less mode pa pb u hl1 (Ez hO hl1) hW1 (up u hb).2.1 (by omega) (X1,E1) h1);have HS:=hid (fun (u:World) (hb:Below w.heap.size w u) (g:Nat) (hO:iw u g (xs++[4634696597773484032,4634766966517661696]))=>Vd xs (some ⟨g,0,none⟩) n (n+2) less mode pa pb u hl1 (Ez hO hl1) hW1 (up u hb).2.1 (by omega) (X2,E2) h2);have HB:=hid (fun (u:World) (hb:Below w.heap.size w u) (g:Nat) (hg:w.heap.size<=g) (hO:iw u g (xs++[4634696597773484032,4634766966517661696]))=>QC xs a n c w.heap.size g u hl1 hm (up u hb).2.2 hg hO);have ZG:=hid (fun (u:World) (hb:Below w.heap.size w u)=>Xy xs a n c less mode pa pb u hl1 (up u hb).1 hW1 (by omega) (X1,E1) h1);have HRS:=hid (fun (u:World) (hb:Below w.heap.size w u)=>Xz xs a n c less mode pa pb u hl1 (up u hb).1 hW1 (by omega) (X2,E2) h2);have HQ:=hid (fun (x:Nat) (u:World)=>IW x x u);have BD:=ak (aB w.heap.size w);clear hl1 hcap hW1 hF1 hT hm up h1 h2;obtain ⟨W,iq⟩:=af (w.alloc (Obj.cells #[.int .i64 pa,.int .i64 pb] 26))
 have B0:Aside (Bl W w.heap.size 26 [.int .i64 pa,.int .i64 pb]/\Below w.heap.size w W):=by
  rw [iq];exact ⟨Bl.new _ 26 [_,_],ae _ _⟩
 have HE:=ak iq;clear iq;go_enter Tryz.func4,Tryz.ntmps4;go_wp2_with fail;rw [<-HE.o];clear HE;refine (HA.o W B0.o.2).mono ?_;rintro r u1 ⟨rfl,hb⟩;have BD:=aK (B0.o.2.trans (hb.mono B0.o.2.size)) (B0.o.1.below hb B0.o.1.lt);clear hb HA B0;go_wp2_with fail;refine (HL.o u1 BD.o.1).mono ?_;rintro r u2 ⟨rfl,hO,hb⟩;obtain ⟨g,hg⟩:=af (u1.heap.size);rw [<-hg] at hO |-;have BD:=dK (BD.o.1.trans (hb.mono BD.o.1.size)) (BD.o.2.below hb BD.o.2.lt) hO (show w.heap.size<=g by rw [hg];exact BD.o.1.size) (show w.heap.size<g by rw [hg];exact BD.o.2.lt);clear hb hO hg HL;have c0:=BD.o.2.1.cell 0 _ rfl;have c1:=BD.o.2.1.cell 1 _ rfl;have C:=hid (HV.o u2 BD.o.1 g BD.o.r2.1);clear HV;go_wp2_with fail;refine C.o.mono ?_;rintro r u3 ⟨rfl,hb⟩;have BD:=fF (BD.o.1.trans (hb.mono BD.o.1.size)) (BD.o.2.1.below hb BD.o.2.1.lt) (BD.o.r2.1.below hb BD.o.r2.1.lt) BD.o.r3;clear hb C c0 c1;have c0:=BD.o.2.1.cell 0 _ rfl;have c1:=BD.o.2.1.cell 1 _ rfl;have C:=hid (HS.o u3 BD.o.1 g BD.o.r2.1);clear HS;go_wp2_with fail;refine C.o.mono ?_;rintro r u4 ⟨rfl,hb⟩;have BD:=fF (BD.o.1.trans (hb.mono BD.o.1.size)) (BD.o.2.1.below hb BD.o.2.1.lt) (BD.o.r2.1.below hb BD.o.r2.1.lt) BD.o.r3;clear hb C c0 c1;have C:=hid (HB.o u4 BD.o.1 g BD.o.r3.1 BD.o.r2.1);clear HB;go_wp2_with fail;refine C.o.mono ?_;rintro r u5 ⟨rfl,hb⟩;have BD:=aK (But.below BD.o.1 hb BD.o.1.size BD.o.r3.1) (show Bl u5 w.heap.size 26 [.int .i64 pa,.int .i64 pb] by unfold Bl;rw [hb.block _ BD.o.2.1.lt (dH BD.o.r4)];exact BD.o.2.1);clear hb C;have c0:=BD.o.2.cell 0 _ rfl;have c1:=BD.o.2.cell 1 _ rfl;have C:=hid (ZG.o u5 BD.o.1);clear ZG;go_wp2_with fail;refine C.o.mono ?_;rintro r u6 ⟨rfl,hb⟩;have BD:=aK (BD.o.1.trans (hb.mono BD.o.1.size)) (BD.o.2.below hb BD.o.2.lt);clear hb C c0 c1;have c0:=BD.o.2.cell 0 _ rfl;have c1:=BD.o.2.cell 1 _ rfl;have C:=hid (HRS.o u6 BD.o.1);clear HRS;go_wp2_with fail;refine C.o.mono ?_;rintro r u7 ⟨rfl,hb⟩;have BD:=ak (BD.o.1.trans (hb.mono BD.o.1.size));clear hb C c0 c1;go_wp2_with fail;refine (HQ.o X1 u7).mono ?_;rintro r u8 ⟨rfl,hq⟩;rw [hq,beq_self_eq_true];clear hq u8;go_wp2_with fail;refine (HQ.o X2 u7).mono ?_;rintro r u8 ⟨rfl,hq⟩;rw [hq,beq_self_eq_true];clear hq u8;go_wp2;go_ret;exact ⟨rfl,BD.o⟩
end
section
open Go.ChangeShapes Go.WideShapes Go.ChangeAt Go.RowKit
theorem zH {H:Type}{enc:TypeId×Value->H}{W:World}{k:Nat}{c:Value}{x:Option (DataW H×List MemPlace)}{y:DataW H×List MemPlace}(h:DataW.trod enc Tryz.prog W 0 (fun _=>true) true k 3 [c]=x) (hx:x=some y):∃ n:Int,c=.int .i64 n/\y.1=.lit (.int .i64 n)/\-9223372036854775808<=n/\n<=9223372036854775807:=by
 subst hx;obtain ⟨e,e2,rfl,hw⟩:=DataW.trod_int Tryz.underlying3 h
 cases e2
 have hw':-9223372036854775808<=e/\e<=9223372036854775807:=by
  simp [Lit.wf,IntKind.min,IntKind.max,IntKind.signed,IntKind.bits] at hw;omega
 exact ⟨e,rfl,rfl,hw'.1,hw'.2⟩
theorem QH {H:Type}{enc:TypeId×Value->H}{W:World}{r:Reach}{b0:Nat}{v:Value}{d:DataW H}{p:List MemPlace}(hv:Value.okWide Tryz.prog W r b0 26 v) (h:DataW.Trod enc Tryz.prog W 0 (fun _=>true) true 26 v d p) :
 ∃ a b:Int,v=.agg #[.int .i64 a,.int .i64 b]:=by
 obtain ⟨cs,rfl,hsz⟩:=okWide_struct Tryz.underlying26 hv;obtain ⟨fuel,hf⟩:=h;have hC:Tryz.prog.cellsOf 26=2:=by kernel_rfl
 have c3:Tryz.prog.cellsOf 3=1:=by kernel_rfl
 obtain ⟨xs,k,rfl,hx,hl,hxl,hfs⟩:=DataW.trod_struct Tryz.underlying26 hf;rw [hC] at hsz
 obtain ⟨c0,c1,rfl⟩:∃ c0 c1,cs=#[c0,c1]:=by
  obtain ⟨l⟩:=cs
  match l,hsz with
  | [a,b],_=>exact ⟨a,b,rfl⟩
 have h0:DataW.trod enc Tryz.prog W 0 (fun _=>true) true k 3 (List.take (Tryz.prog.cellsOf 3) (List.drop 0 [c0,c1]))=xs[0]?:=hfs 0 _ rfl;have h1:DataW.trod enc Tryz.prog W 0 (fun _=>true) true k 3 (List.take (Tryz.prog.cellsOf 3) (List.drop 1 [c0,c1]))=xs[1]?:=hfs 1 _ rfl;rw [c3] at h0 h1
 match xs,hxl with
 | [x0,x1],_ =>
   obtain ⟨a,rfl,_⟩:=zH (c:=c0) h0 rfl;obtain ⟨b,rfl,_⟩:=zH (c:=c1) h1 rfl;exact ⟨a,b,rfl⟩
end
end Go.Proofs.YteginbngplldaaaGreatDoor
