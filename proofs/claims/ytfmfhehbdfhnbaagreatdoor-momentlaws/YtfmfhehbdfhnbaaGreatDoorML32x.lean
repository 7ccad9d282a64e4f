import Derived.Test.YtfmfhehbdfhnbaaGreatDoorH13x
import Derived.Test.YtfmfhehbdfhnbaaGreatDoorMA2x
import Derived.ProofKit
import Derived.OpenShut
import Derived.ChangeOld
import Derived.ChangeArms
import Derived.Deep.Cut
import Derived.Deep.RegionHeld3
import Derived.BigQuiet
set_option linter.unusedVariables false
set_option linter.unusedSimpArgs false
set_option maxHeartbeats 16000000
set_option maxRecDepth 20000
namespace Go.Proofs.YtfmfhehbdfhnbaaGreatDoor
namespace J
end J
section
open Go Go.RowKit J
attribute [local go_sem] B.bF B.aH
local notation "ONE" => 4607182418800017408
local notation "LESS" => 13830554455654793216
local notation "TWO" => 4611686018427387904
theorem Ug{X z:Nat}(hz:z<=ONE)(hX:X=z\/X=nH z) :
 (((FloatKind.f64.format.order X LESS==some .gt)=true/\(FloatKind.f64.format.order X LESS==some .eq)=false)\/((FloatKind.f64.format.order X LESS==some .gt)=false/\(FloatKind.f64.format.order X LESS==some .eq)=true)) /\
 (((FloatKind.f64.format.order X ONE==some .lt)=true/\(FloatKind.f64.format.order X ONE==some .eq)=false)\/((FloatKind.f64.format.order X ONE==some .lt)=false/\(FloatKind.f64.format.order X ONE==some .eq)=true)):=by
 obtain⟨s,hX⟩:∃s,X=dI s z:=by
  rcases hX with h|h
  . exact⟨false,by rw[iM];exact h⟩
  . refine⟨true,?_⟩;rw[h,<-iM z,VY _ _ ae,iM];rfl
 have g:=gt64 s true z ONE ae aj;have e:=VO s true z ONE ae aj;have l:=lt64 s false z ONE ae aj;have e2:=VO s false z ONE ae aj;rw[<-hX] at g e l e2;rw[show dI true ONE=LESS by decide] at g e;rw[iM] at l e2;rw[g,e,l,e2];simp only[decide_eq_true_eq,decide_eq_false_iff_not];have:-(4607182418800017408:Int)<=sK s z/\sK s z<=4607182418800017408:=by unfold sK;cases s <;> simp <;> omega
 have k1:sK true ONE=-4607182418800017408:=rfl;have k2:sK false ONE=4607182418800017408:=rfl;rw[k1,k2];refine⟨?_,?_⟩
 . by_cases q:sK s z=-4607182418800017408
   . exact .inr ⟨ae,q⟩
   . exact .inl ⟨ae,q⟩
 . by_cases q:sK s z=4607182418800017408
   . exact .inr ⟨ae,q⟩
   . exact .inl ⟨ae,q⟩
theorem Aj(xs ys:List Nat)(a a2:Option Addr)(n c c2:Nat)(p:List Nat)(pv:Value)(lo:Nat)(less mode:Int)(w:World)(hn:n=xs.length)(he:ys.length=xs.length)(hF:Fs w.heap.size w a xs)(hG:Fs w.heap.size w a2 ys)(hT:dU w)(hU:jl xs)(hV:jl ys)(hp:p.Perm (List.range xs.length))(hP:eG lo w pv p)(hm:pI mode=true)(hs:lsB less=true)(hq:n=0\/(0<n/\(jo xs\/jo ys))) :
 Calls Tryz.prog 15 #[.slice a n c,.slice a2 n c2,pv,.int .i64 mode,.int .i64 less] w λr w'=>r=.returned (.bool true)/\Below w.heap.size w w':=by
 have up:∀u:World,Below w.heap.size w u->Fs u.heap.size u a xs/\Fs u.heap.size u a2 ys/\dU u:=λu hb=>⟨(hF.below hb).mono hb.size,(hG.below hb).mono hb.size,hT.belows hb⟩;have hl:=hU.l;have UA:n<=300:=ae
 have hn':n=ys.length:=ae
 have hp':p.Perm (List.range ys.length):=by rw[he];exact hp
 have hpm:∀k ∈ p,k<xs.length:=λk hk=>ql.1 (hp.mem_iff.1 hk);have Uh:∀k ∈ p,k<ys.length:=λk hk=>ql.1 (hp'.mem_iff.1 hk);have hpl:p.length<=300:=by rw[hp.length_eq,wy];exact hl
 have L:=li14 (p:=p) (less:=less) (mode:=mode) hU hV he hp hm hs;obtain⟨⟨X,E⟩,PE⟩:∃z,Bf xs ys mode=z:=⟨_,rfl⟩;obtain⟨⟨C,E2⟩,hCE⟩:∃z,Pz xs ys less mode=z:=⟨_,rfl⟩;have HL1:=hid (fun(u:World) (hb:Below w.heap.size w u)=>nT xs ys a a2 n n c c2 mode u hn hn' (up u hb).1 (up u hb).2.1 hU.w hV.w (up u hb).2.2 ae ae (X,E) PE);have HL2:=hid (fun(u:World) (hb:Below w.heap.size w u)=>nT ys xs a2 a n n c2 c mode u hn' hn (up u hb).2.1 (up u hb).1 hV.w hU.w (up u hb).2.2 ae ae (X,E) (L.a1.trans PE));have Am:=hid (fun(u:World) (hb:Below w.heap.size w u)=>O5 xs ys a a2 n n c c2 less mode u hn hn' (up u hb).1 (up u hb).2.1 hU.w hV.w (up u hb).2.2 ae ae (C,E2) hCE);have YA:=hid (fun(u:World) (hb:Below w.heap.size w u)=>jD xs a n c p pv lo TWO u hn (up u hb).1 hU.w hpm ae (hP.below hb) aj);have HX1:=hid (fun(u:World) (hb:Below w.heap.size w u)=>jD xs a n c p pv lo ONE u hn (up u hb).1 hU.w hpm ae (hP.below hb) aj);have HY1:=hid (fun(u:World) (hb:Below w.heap.size w u)=>jD ys a2 n c2 p pv lo ONE u hn' (up u hb).2.1 hV.w Uh ae (hP.below hb) aj);have Nu:=hid (fun(u:World) (oa ob:Option Addr) (oc od:Nat) (hb:Below w.heap.size w u) (h1:Fs u.heap.size u oa (bu xs p TWO)) (h2:Fs u.heap.size u ob (bu ys p ONE))=>nT (bu xs p TWO) (bu ys p ONE) oa ob (bu xs p TWO).length (bu ys p ONE).length oc od mode u rfl rfl h1 h2 (hU.two hp).2.1 (hV.one hp').2.1 (up u hb).2.2 (by have:=(hU.two hp).2.2.2;omega) (by have:=(hV.one hp').2.2.2;omega) (X,E) (L.a2.trans PE));have Yz:=hid (fun(u:World) (oa ob:Option Addr) (oc od:Nat) (hb:Below w.heap.size w u) (h1:Fs u.heap.size u oa (bu ys p ONE)) (h2:Fs u.heap.size u ob (bu xs p ONE))=>O5 (bu ys p ONE) (bu xs p ONE) oa ob (bu ys p ONE).length (bu xs p ONE).length oc od less mode u rfl rfl h1 h2 (hV.one hp').2.1 (hU.one hp).2.1 (up u hb).2.2 (by have:=(hV.one hp').2.2.2;omega) (by have:=(hU.one hp).2.2.2;omega) (C,E2) (L.a3.trans hCE));have HFx:=hid (fun(u:World) (hb:Below w.heap.size w u)=>Af xs a n c u hn (up u hb).1 hU.w hU.fin ae);have HFy:=hid (fun(u:World) (hb:Below w.heap.size w u)=>Af ys a2 n c2 u hn' (up u hb).2.1 hV.w hV.fin ae);have Lu:=hid (fun(u:World)=>Ag X X E E rfl rfl u);have HTc:=hid (fun(u:World)=>Ag C C E2 E2 rfl rfl u)
 have HE:Aside ((n=0/\E=3)\/(0<n/\E=190/\(jo xs\/jo ys))):=aA (by
  rcases hq with q|⟨q,q2⟩
  . have:=L.a4 ae;rw[PE] at this;exact .inl ⟨q,(eO this).2⟩
  . have:=L.a5 ae q2;rw[PE] at this
    exact .inr ⟨q,(eO this).2,q2⟩)
 clear L PE hCE up hF hG hT hU hV hp hp' hpm Uh hP hm hs hn hn' hl UA hpl he hq;have BD:=aA (aD w.heap.size w);go_enter Tryz.func15,Tryz.ntmps15;go_wp2_with fail;refine(HL1.o w BD.o).mono ?_;rintro r u1 ⟨rfl,hb⟩;have BD:=aA (BD.o.trans (hb.mono BD.o.size));clear hb HL1;go_wp2_with fail;refine(HL2.o u1 BD.o).mono ?_;rintro r u2 ⟨rfl,hb⟩;have BD:=aA (BD.o.trans (hb.mono BD.o.size));clear hb HL2;go_wp2_with fail;refine(YA.o u2 BD.o).mono ?_;rintro r u3 ⟨v',rfl,hO,hb⟩;obtain⟨oa,oc,rfl,-,oK⟩:=fw hO rfl;have BD:=dC (BD.o.trans (hb.mono BD.o.size)) oK trivial;clear hb hO oK;go_wp2_with fail;refine(HY1.o u3 BD.o.1).mono ?_;rintro r u4 ⟨v',rfl,hO,hb⟩;obtain⟨ob,od,rfl,-,oK⟩:=fw hO rfl;have BD:=ic (BD.o.1.trans (hb.mono BD.o.1.size)) ((BD.o.2.1.below hb).mono hb.size) oK trivial;clear hb hO oK;go_wp2_with fail;refine(Nu.o u4 oa ob oc od BD.o.1 BD.o.2.1 BD.o.r2.1).mono ?_;rintro r u5 ⟨rfl,hb⟩;have BD:=aA (BD.o.1.trans (hb.mono BD.o.1.size));clear hb Nu;go_wp2_with fail;refine(Am.o u5 BD.o).mono ?_;rintro r u6 ⟨rfl,hb⟩;have BD:=aA (BD.o.trans (hb.mono BD.o.size));clear hb Am;go_wp2_with fail;refine(HY1.o u6 BD.o).mono ?_;rintro r u7 ⟨v',rfl,hO,hb⟩;obtain⟨oa,oc,rfl,-,oK⟩:=fw hO rfl;have BD:=dC (BD.o.trans (hb.mono BD.o.size)) oK trivial;clear hb hO oK;go_wp2_with fail;refine(HX1.o u7 BD.o.1).mono ?_;rintro r u8 ⟨v',rfl,hO,hb⟩;obtain⟨ob,od,rfl,-,oK⟩:=fw hO rfl;have BD:=ic (BD.o.1.trans (hb.mono BD.o.1.size)) ((BD.o.2.1.below hb).mono hb.size) oK trivial;clear hb hO oK;go_wp2_with fail;refine(Yz.o u8 oa ob oc od BD.o.1 BD.o.2.1 BD.o.r2.1).mono ?_;rintro r u9 ⟨rfl,hb⟩;have BD:=aA (BD.o.1.trans (hb.mono BD.o.1.size));clear hb Yz;go_wp2_with fail;refine(Lu.o u9).mono ?_;rintro r uu ⟨rfl,hq⟩;rw[hq];clear hq uu;go_wp2_with fail;refine(Lu.o u9).mono ?_;rintro r uu ⟨rfl,hq⟩;rw[hq];clear hq uu;go_wp2_with fail;refine(HTc.o u9).mono ?_;rintro r uu ⟨rfl,hq⟩;rw[hq];clear hq uu;go_wp2_with fail;refine(HFx.o u9 BD.o).mono ?_;rintro r u10 ⟨bx,rfl,hbx,hb⟩;have BD:=aA (BD.o.trans (hb.mono BD.o.size));have Gbx:=aA hbx;clear hb HFx hbx;go_wp2_with fail;refine(HFy.o u10 BD.o).mono ?_;rintro r El ⟨by0,rfl,Ui,hb⟩;have BD:=aA (BD.o.trans (hb.mono BD.o.size));have JU:=aA Ui;clear hb HFy Ui;clear YA HX1 HY1 Lu HTc;rcases HE.o with ⟨q1,q2⟩|⟨q1,q2,q3⟩
 . subst q1 q2;clear HE Gbx JU;go_wp2;go_ret;exact⟨rfl,BD.o⟩
 . subst q2;have d0:((n:Int)==0)=false:=by rw[beq_eq_false_iff_ne];omega
   have d1:decide ((0:Int)<(n:Int))=true:=decide_eq_true ae;have d2:decide (0<n)=true:=decide_eq_true q1
   by_cases hx:bx=true
   . subst hx;clear HE Gbx JU q3 q1;exact Qar
   . have hx0:bx=false:=by cases bx <;> simp_all
     have hy0:by0=true:=JU.o.2 (by
      rcases q3 with q|q
      . exact absurd (Gbx.o.2 q) hx
      . exact q)
     subst hx0 hy0;clear HE Gbx JU q3 q1 hx;exact Qar
theorem O8(xs ys:List Nat)(a a2:Option Addr)(n c c2:Nat)(p:List Nat)(pv:Value)(lo:Nat)(less mode:Int)(w:World)(hn:n=xs.length)(he:ys.length=xs.length)(hF:Fs w.heap.size w a xs)(hG:Fs w.heap.size w a2 ys)(hT:dU w)(hU:jl xs)(hV:jl ys)(hp:p.Perm (List.range xs.length))(hP:eG lo w pv p)(hm:pI mode=true)(hs:lsB less=true)(hq0:0<n)(hfx:¬ jo xs)(hfy:¬ jo ys) :
 Calls Tryz.prog 15 #[.slice a n c,.slice a2 n c2,pv,.int .i64 mode,.int .i64 less] w λr w'=>r=.returned (.bool true)/\Below w.heap.size w w':=by
 have up:∀u:World,Below w.heap.size w u->Fs u.heap.size u a xs/\Fs u.heap.size u a2 ys/\dU u:=λu hb=>⟨(hF.below hb).mono hb.size,(hG.below hb).mono hb.size,hT.belows hb⟩;have hl:=hU.l;have UA:n<=300:=ae
 have hn':n=ys.length:=ae
 have hp':p.Perm (List.range ys.length):=by rw[he];exact hp
 have hpm:∀k ∈ p,k<xs.length:=λk hk=>ql.1 (hp.mem_iff.1 hk);have Uh:∀k ∈ p,k<ys.length:=λk hk=>ql.1 (hp'.mem_iff.1 hk);have hpl:p.length<=300:=by rw[hp.length_eq,wy];exact hl
 have L:=li14 (p:=p) (less:=less) (mode:=mode) hU hV he hp hm hs;obtain⟨⟨X,E⟩,PE⟩:∃z,Bf xs ys mode=z:=⟨_,rfl⟩;obtain⟨⟨C,E2⟩,hCE⟩:∃z,Pz xs ys less mode=z:=⟨_,rfl⟩;have HL1:=hid (fun(u:World) (hb:Below w.heap.size w u)=>nT xs ys a a2 n n c c2 mode u hn hn' (up u hb).1 (up u hb).2.1 hU.w hV.w (up u hb).2.2 ae ae (X,E) PE);have HL2:=hid (fun(u:World) (hb:Below w.heap.size w u)=>nT ys xs a2 a n n c2 c mode u hn' hn (up u hb).2.1 (up u hb).1 hV.w hU.w (up u hb).2.2 ae ae (X,E) (L.a1.trans PE));have Am:=hid (fun(u:World) (hb:Below w.heap.size w u)=>O5 xs ys a a2 n n c c2 less mode u hn hn' (up u hb).1 (up u hb).2.1 hU.w hV.w (up u hb).2.2 ae ae (C,E2) hCE);have YA:=hid (fun(u:World) (hb:Below w.heap.size w u)=>jD xs a n c p pv lo TWO u hn (up u hb).1 hU.w hpm ae (hP.below hb) aj);have HX1:=hid (fun(u:World) (hb:Below w.heap.size w u)=>jD xs a n c p pv lo ONE u hn (up u hb).1 hU.w hpm ae (hP.below hb) aj);have HY1:=hid (fun(u:World) (hb:Below w.heap.size w u)=>jD ys a2 n c2 p pv lo ONE u hn' (up u hb).2.1 hV.w Uh ae (hP.below hb) aj);have Nu:=hid (fun(u:World) (oa ob:Option Addr) (oc od:Nat) (hb:Below w.heap.size w u) (h1:Fs u.heap.size u oa (bu xs p TWO)) (h2:Fs u.heap.size u ob (bu ys p ONE))=>nT (bu xs p TWO) (bu ys p ONE) oa ob (bu xs p TWO).length (bu ys p ONE).length oc od mode u rfl rfl h1 h2 (hU.two hp).2.1 (hV.one hp').2.1 (up u hb).2.2 (by have:=(hU.two hp).2.2.2;omega) (by have:=(hV.one hp').2.2.2;omega) (X,E) (L.a2.trans PE));have Yz:=hid (fun(u:World) (oa ob:Option Addr) (oc od:Nat) (hb:Below w.heap.size w u) (h1:Fs u.heap.size u oa (bu ys p ONE)) (h2:Fs u.heap.size u ob (bu xs p ONE))=>O5 (bu ys p ONE) (bu xs p ONE) oa ob (bu ys p ONE).length (bu xs p ONE).length oc od less mode u rfl rfl h1 h2 (hV.one hp').2.1 (hU.one hp).2.1 (up u hb).2.2 (by have:=(hV.one hp').2.2.2;omega) (by have:=(hU.one hp).2.2.2;omega) (C,E2) (L.a3.trans hCE));have HFx:=hid (fun(u:World) (hb:Below w.heap.size w u)=>Af xs a n c u hn (up u hb).1 hU.w hU.fin ae);have HFy:=hid (fun(u:World) (hb:Below w.heap.size w u)=>Af ys a2 n c2 u hn' (up u hb).2.1 hV.w hV.fin ae);have Lu:=hid (fun(u:World)=>Ag X X E E rfl rfl u);have HTc:=hid (fun(u:World)=>Ag C C E2 E2 rfl rfl u);obtain⟨⟨z,hz,hzX⟩,hself,hoth⟩:=L.a6 ae hfx hfy;rw[PE] at hzX;have hE:E=0:=by rcases hzX with q | q <;> exact(eO q).2
 have hX:X=z\/X=nH z:=by rcases hzX with q | q;exact .inl (eO q).1;exact .inr (eO q).1
 have HO:=aA (Ug hz hX);subst hE;have HLs:=hid (fun(u:World) (hb:Below w.heap.size w u)=>nT xs xs a a n n c c mode u hn hn (up u hb).1 (up u hb).1 hU.w hU.w (up u hb).2.2 ae ae (ONE,0) hself);have HMx:=hid (fun(u:World)=>Ld u n UA none 0 0 [] rfl (λq=>absurd rfl q) (λi=>by simp) aj);have HQ1:=hid (fun(u:World) (q:List Nat) (qv:Value) (hb:Below w.heap.size w u) (hq:q.Perm (List.range xs.length)) (hR:eG 0 u qv q)=>jD xs a n c q qv 0 ONE u hn (up u hb).1 hU.w (λk hk=>ql.1 (hq.mem_iff.1 hk)) (by rw[hq.length_eq,wy];exact hl) hR aj);have HQL:=hid (fun(u:World) (q:List Nat) (qv:Value) (hb:Below w.heap.size w u) (hq:q.Perm (List.range xs.length)) (hR:eG 0 u qv q)=>jD xs a n c q qv 0 LESS u hn (up u hb).1 hU.w (λk hk=>ql.1 (hq.mem_iff.1 hk)) (by rw[hq.length_eq,wy];exact hl) hR aj);have HLo:=hid (fun(u:World) (q:List Nat) (oa ob:Option Addr) (oc od:Nat) (hb:Below w.heap.size w u) (h1:Fs u.heap.size u oa (bu xs q ONE)) (h2:Fs u.heap.size u ob (bu xs q LESS)) (hq:q.Perm (List.range xs.length))=>nT (bu xs q ONE) (bu xs q LESS) oa ob (bu xs q ONE).length (bu xs q LESS).length oc od mode u rfl rfl h1 h2 (hU.one hq).2.1 (hU.less hq).2.1 (up u hb).2.2 (by have:=(hU.one hq).2.2.2;omega) (by have:=(hU.less hq).2.2.2;omega) (LESS,0) (hoth q hq));have YB:=hid (fun(u:World) (x:Nat)=>pO x x rfl u);have HFF:=dC hfx hfy hn;have d0:((n:Int)==0)=false:=by rw[beq_eq_false_iff_ne];omega
 clear L PE hCE up hF hG hT hU hV hp hp' hpm Uh hP hm hs hn hn' hl UA hpl he hq0 hfx hfy hself hoth hzX hX hz;have BD:=aA (aD w.heap.size w);go_enter Tryz.func15,Tryz.ntmps15;go_wp2_with fail;refine(HL1.o w BD.o).mono ?_;rintro r u1 ⟨rfl,hb⟩;have BD:=aA (BD.o.trans (hb.mono BD.o.size));clear hb HL1;go_wp2_with fail;refine(HL2.o u1 BD.o).mono ?_;rintro r u2 ⟨rfl,hb⟩;have BD:=aA (BD.o.trans (hb.mono BD.o.size));clear hb HL2;go_wp2_with fail;refine(YA.o u2 BD.o).mono ?_;rintro r u3 ⟨v',rfl,hO,hb⟩;obtain⟨oa,oc,rfl,-,oK⟩:=fw hO rfl;have BD:=dC (BD.o.trans (hb.mono BD.o.size)) oK trivial;clear hb hO oK;go_wp2_with fail;refine(HY1.o u3 BD.o.1).mono ?_;rintro r u4 ⟨v',rfl,hO,hb⟩;obtain⟨ob,od,rfl,-,oK⟩:=fw hO rfl;have BD:=ic (BD.o.1.trans (hb.mono BD.o.1.size)) ((BD.o.2.1.below hb).mono hb.size) oK trivial;clear hb hO oK;go_wp2_with fail;refine(Nu.o u4 oa ob oc od BD.o.1 BD.o.2.1 BD.o.r2.1).mono ?_;rintro r u5 ⟨rfl,hb⟩;have BD:=aA (BD.o.1.trans (hb.mono BD.o.1.size));clear hb Nu;go_wp2_with fail;refine(Am.o u5 BD.o).mono ?_;rintro r u6 ⟨rfl,hb⟩;have BD:=aA (BD.o.trans (hb.mono BD.o.size));clear hb Am;go_wp2_with fail;refine(HY1.o u6 BD.o).mono ?_;rintro r u7 ⟨v',rfl,hO,hb⟩;obtain⟨oa,oc,rfl,-,oK⟩:=fw hO rfl;have BD:=dC (BD.o.trans (hb.mono BD.o.size)) oK trivial;clear hb hO oK;go_wp2_with fail;refine(HX1.o u7 BD.o.1).mono ?_;rintro r u8 ⟨v',rfl,hO,hb⟩;obtain⟨ob,od,rfl,-,oK⟩:=fw hO rfl;have BD:=ic (BD.o.1.trans (hb.mono BD.o.1.size)) ((BD.o.2.1.below hb).mono hb.size) oK trivial;clear hb hO oK;go_wp2_with fail;refine(Yz.o u8 oa ob oc od BD.o.1 BD.o.2.1 BD.o.r2.1).mono ?_;rintro r u9 ⟨rfl,hb⟩;have BD:=aA (BD.o.1.trans (hb.mono BD.o.1.size));clear hb Yz;go_wp2_with fail;refine(Lu.o u9).mono ?_;rintro r uu ⟨rfl,hq⟩;rw[hq];clear hq uu;go_wp2_with fail;refine(Lu.o u9).mono ?_;rintro r uu ⟨rfl,hq⟩;rw[hq];clear hq uu;go_wp2_with fail;refine(HTc.o u9).mono ?_;rintro r uu ⟨rfl,hq⟩;rw[hq];clear hq uu;go_wp2_with fail;refine(HFx.o u9 BD.o).mono ?_;rintro r u10 ⟨bx,rfl,hbx,hb⟩;have BD:=aA (BD.o.trans (hb.mono BD.o.size));have Gbx:=aA hbx;clear hb HFx hbx;go_wp2_with fail;refine(HFy.o u10 BD.o).mono ?_;rintro r El ⟨by0,rfl,Ui,hb⟩;have BD:=aA (BD.o.trans (hb.mono BD.o.size));have JU:=aA Ui;clear hb HFy Ui;clear YA HX1 HY1 Lu HTc
 have hx0:bx=false:=by
  cases bx with
  | false=>rfl
  | true=>exact absurd (Gbx.o.1 rfl) HFF.o.1
 have hy0:by0=false:=by
  cases by0 with
  | false=>rfl
  | true=>exact absurd (JU.o.1 rfl) HFF.o.2.1
 subst hx0 hy0;clear Gbx JU;go_wp2_with fail;refine(HLs.o El BD.o).mono ?_;rintro r u12 ⟨rfl,hb⟩;have BD:=aA (BD.o.trans (hb.mono BD.o.size));clear hb HLs;go_wp2_with fail;refine(HMx.o u12).mono ?_;rintro r JC ⟨qv,q,rfl,hq,hR,hb⟩;have BD:=dC (BD.o.trans (hb.mono BD.o.size)) (by rw[HFF.o.r2] at hq;exact hq:q.Perm (List.range xs.length)) (hR.mono (nV _));clear hb hq hR HMx;obtain⟨qa,qm,qc,rfl⟩:=BD.o.r2.slice;go_wp2_with fail;refine(HQ1.o JC q _ BD.o.1 BD.o.2.1 BD.o.r2).mono ?_;rintro r u14 ⟨v',rfl,hO,hb⟩;obtain⟨oa,oc,rfl,-,oK⟩:=fw hO rfl;have BD:=ic (BD.o.1.trans (hb.mono BD.o.1.size)) oK BD.o.2.1 (BD.o.r2.below hb);clear hb hO oK;go_wp2_with fail;refine(HQL.o u14 q _ BD.o.1 BD.o.r2.1 BD.o.r3).mono ?_;rintro r u15 ⟨v',rfl,hO,hb⟩;obtain⟨ob,od,rfl,-,oK⟩:=fw hO rfl;have BD:=ic (BD.o.1.trans (hb.mono BD.o.1.size)) ((BD.o.2.1.below hb).mono hb.size) oK BD.o.r2.1;clear hb hO oK;go_wp2_with fail;refine(HLo.o u15 q oa ob oc od BD.o.1 BD.o.2.1 BD.o.r2.1 BD.o.r3).mono ?_;rintro r u16 ⟨rfl,hb⟩;have BD:=aA (BD.o.1.trans (hb.mono BD.o.1.size));clear hb HLo;clear HQ1 HQL;go_wp2_with fail;refine(YB.o u16 ONE).mono ?_;rintro r uu ⟨rfl,hq⟩;rw[hq];clear hq uu;go_wp2_with fail;refine(YB.o u16 LESS).mono ?_;rintro r uu ⟨rfl,hq⟩;rw[hq];clear hq uu;clear YB HFF;obtain⟨o1,o2⟩:=HO.o;clear HO;rcases o1 with ⟨g1,g2⟩|⟨g1,g2⟩ <;> rcases o2 with ⟨k1,k2⟩|⟨k1,k2⟩ <;>
 . go_wp2;go_ret;exact⟨rfl,BD.o⟩
theorem XN(xs ys:List Nat)(a a2:Option Addr)(n c c2:Nat)(p:List Nat)(pv:Value)(lo:Nat)(less mode:Int)(w:World)(hn:n=xs.length)(he:ys.length=xs.length)(hF:Fs w.heap.size w a xs)(hG:Fs w.heap.size w a2 ys)(hT:dU w)(hU:jl xs)(hV:jl ys)(hp:p.Perm (List.range xs.length))(hP:eG lo w pv p)(hm:pI mode=true)(hs:lsB less=true) :
 Calls Tryz.prog 15 #[.slice a n c,.slice a2 n c2,pv,.int .i64 mode,.int .i64 less] w λr w'=>r=.returned (.bool true)/\Below w.heap.size w w':=by
 by_cases h0:n=0
 . exact Aj xs ys a a2 n c c2 p pv lo less mode w hn he hF hG hT hU hV hp hP hm hs (.inl h0)
 . by_cases h1:jo xs\/jo ys
   . exact Aj xs ys a a2 n c c2 p pv lo less mode w hn he hF hG hT hU hV hp hP hm hs (.inr ⟨ae,h1⟩)
   . exact O8 xs ys a a2 n c c2 p pv lo less mode w hn he hF hG hT hU hV hp hP hm hs ae (λq=>h1 (.inl q)) (λq=>h1 (.inr q))
end
section
open Go.ChangeShapes Go.WideShapes Go.ChangeAt Go.RowKit
structure YC (w:World) (a:Option Addr) (n c:Nat) (xs:List Int):Prop where
 len:n=xs.length
 cap:n<=c
 wf:Z5 xs
 rd:TK w.heap.size w a xs
 nil:a=none->c=0
def Uj{H:Type}(y:DataW H×List MemPlace):Int:=match y.1 with | .lit (.int _ n)=>n | _=>0
theorem Tryz.Uk:Tryz.prog.cellsOf 3=1:=by kernel_rfl
theorem Tryz.Ul:Tryz.prog.bytesOf 3=8:=by kernel_rfl
theorem Um{H:Type}{enc:TypeId×Value->H}{W:World}{a:Option Addr}{n c:Nat}{d:DataW H}{p:List MemPlace}(h:DataW.Trod enc Tryz.prog W 0 (λ_=>true) true 36 (.slice a n c) d p) :
 ∃xs,YC W a n c xs/\((d=.nil/\c=0)\/∃elems spare:List (DataW H),d=.slice elems spare/\elems.length+spare.length=c):=by
 obtain⟨fuel,hf⟩:=h;rcases DataW.trod_slice Tryz.underlying36 hf with ⟨hcs,hx⟩|⟨x,l,cp,elems,rest,m,_,hcs,hx,hb,hl,hm,hlen,hel,hsp,hns⟩
 . simp[Value.cells] at hcs;obtain⟨rfl,rfl,rfl⟩:=hcs;exact⟨[],⟨rfl,aC _,(λi=>by simp),(λh=>absurd rfl h),λ_=>rfl⟩,.inl ⟨(eO hx).1,rfl⟩⟩
 . simp[Value.cells] at hcs;obtain⟨rfl,rfl,rfl⟩:=hcs
   have each:∀i y,i<n->elems[i]?=some y->y=(.lit (.int .i64 (Uj y)),[])/\(-9223372036854775808<=Uj y/\Uj y<=9223372036854775807)/\W.cell? (x.add i)=some (.int .i64 (Uj y)):=by
    intro i y hi hy;have hb':=hel i hi;rw[hy,Tryz.Uk,fU,Option.bind_eq_some_iff] at hb';obtain⟨cs',hcs,hy'⟩:=hb';obtain⟨e,e2,rfl,hw⟩:=DataW.trod_int Tryz.underlying3 hy';subst e2
    have hw':-9223372036854775808<=e/\e<=9223372036854775807:=by
     simp[Lit.wf,IntKind.min,IntKind.max,IntKind.signed,IntKind.bits] at hw;omega
    exact⟨rfl,hw',cell_of_cells?_one hcs⟩
   refine⟨elems.map Uj,⟨by simp[hlen],hl,?_,?_,λe=>by cases e⟩,.inr ⟨_,_,(eO hx).1,?_⟩⟩
   . intro i
     by_cases hi:i<elems.length
     . have:=(each i (elems[i]'hi) ae (gD _)).2.1;simpa [fF,hi] using this
     . simp[fF,hi]
   . exact qs
   . have hr:=(hsp rfl).1;simp only[ym];omega
theorem G6 {H:Type}{ts:List TypeId}{ds:List (DataW H)}(h:(DataW.weightsEach Tryz.prog ts ds).all (·<=reachBytes)=true) {j:Nat}{d:DataW H}{c n:Nat}(ht:ts[j]?=some 36) (hd:ds[j]?=some d) (hn:n<=c)
 (hc:(d=.nil/\c=0)\/∃elems spare:List (DataW H),d=.slice elems spare/\elems.length+spare.length=c):n<=17592186043904:=by
 rcases hc with ⟨_,rfl⟩|⟨elems,spare,rfl,hl⟩
 . omega
 . have:=sized_slice h ht hd Tryz.underlying36;rw[Tryz.Ul,hl] at this;simp only[reachBytes] at this;omega
end
section
open Go Go.RowKit J
attribute [local go_sem] B.bF B.aH
theorem Cq{m:Nat}(h:m<5):pI (m:Nat)=true:=by unfold pI;simp;omega
theorem O9(n:Int):bits .and .i64 n 1=n%2:=by
 have h1:(BitVec.ofInt 64 1).toNat=2^1-1:=aj
 have key:(BitVec.ofInt 64 n &&& BitVec.ofInt 64 1).toNat=(n%((2^64:Nat):Int)).toNat%2^1:=by
  rw[BitVec.toNat_and,BitVec.toNat_ofInt,h1,Cu]
 show IntKind.i64.wrap ((BitVec.ofInt 64 n &&& BitVec.ofInt 64 1).toNat:Nat)=n%2;rw[key,Em];omega
theorem Un(n:Int):lsB (n%2)=true:=by unfold lsB;simp;omega
theorem Fs.YD{B:Nat}{w:World}{a:Option Addr}{xs:List Nat}(h:Fs B w a xs)(k:Nat):Fs B w a (xs.take k):=λhne=>by
 obtain⟨b,off,h1,h2,h3⟩:=h (λe=>hne (by rw[e];simp));refine⟨b,off,h1,h2,λi hi=>?_⟩;have hi2:i<k/\i<xs.length:=by rw[ig] at hi;omega
 rw[h3 i hi2.2,fF,fF,List.getElem?_take_of_lt hi2.1]
theorem jl.cut{xs:List Nat}(h:jl xs)(k:Nat):jl (xs.take k):=⟨λx hx=>h.w x (Hd hx),λx hx=>h.u x (Hd hx),dW (by rw[ig];omega) h.l⟩
theorem Cr{lo:Nat}{w:World}{v:Value}{xs:List Nat}(h:uF lo w v xs):∃a c,v=.slice a xs.length c/\xs.length<=c/\Fs w.heap.size w a xs/\(a=none->xs.length=0/\c=0)/\(a≠none->∃g,a=some ⟨g,0,none⟩)/\c<=9223372036854775807:=by
 rcases h.2 with ⟨q1,q2⟩|⟨g,cap,cur,q1,_,hg,hn1,hm,_,_⟩
 . obtain⟨a,c,e,h1,h2⟩:=fw h rfl;rw[q1] at e;obtain⟨e1,e2,e3⟩:=Value.slice.inj e;subst e1 e3;exact⟨none,0,by rw[q1,q2],ae,h2,λ_=>⟨q2,rfl⟩,λq=>absurd rfl q,aj⟩
 . obtain⟨a,c,e,h1,h2⟩:=fw h rfl;rw[q1] at e;obtain⟨e1,e2,e3⟩:=Value.slice.inj e;subst e1 e3;exact⟨_,_,q1,h1,h2,λq=>(by cases q),λ_=>⟨_,rfl⟩,by unfold maxLen at hm;omega⟩
theorem vU (a:Option Addr) (n c:Nat) (xs:List Nat) (a2:Option Addr) (n2 c2:Nat) (ys:List Nat) (bo:Option Addr) (nb cb:Nat) (bs:List Int) (mode less:Int) (w:World) (hT:dU w) (hC:Ub w a n c xs) (hD:Ub w a2 n2 c2 ys) (hI:YC w bo nb cb bs)
 (UA:n<=17592186043904) (hn4:n2<=17592186043904) (hnb:nb<=17592186043904) (hmo:-9223372036854775808<=mode/\mode<=9223372036854775807) (hle:-9223372036854775808<=less/\less<=9223372036854775807) :
 Calls Tryz.prog 4 #[.slice a n c,.slice a2 n2 c2,.slice bo nb cb,.int .i64 mode,.int .i64 less] w λr w'=>r=.returned (.bool true)/\Below w.heap.size w w':=by
 obtain⟨hl1,_,hW1,hF1,_⟩:=hC;obtain⟨hl2,_,hW2,hF2,_⟩:=hD;have HA:=hid (fun(u:World) (hb:Below w.heap.size w u)=>Xu u (hT.belows hb));have HU1:=hid (fun(u:World) (hb:Below w.heap.size w u)=>Ls xs a n c u hl1 ((hF1.below hb).mono hb.size) hW1 UA);have Yb:=hid (fun(u:World) (hb:Below w.heap.size w u)=>Ls ys a2 n2 c2 u hl2 ((hF2.below hb).mono hb.size) hW2 hn4);have HPk:=hid (fun(u:World)=>TL mode 5 u hmo.1 hmo.2 aj aj)
 have HMx:=hid (fun(u:World) (k:Nat) (hk:k<=300) (hb:Below w.heap.size w u)=>Ld u k hk bo nb cb bs hI.len (λq=>by
  obtain⟨b,off,h1,h2,h3⟩:=hI.rd q
  exact⟨b,off,iQ h1 hb.size,h2,λi hi=>(hb.cell (p:=⟨b,off+i,none⟩) h1).trans (h3 i hi)⟩) hI.wf ae)
 have HT:=hid (fun(u:World) (hb:Below w.heap.size w u)=>hT.belows hb);have eL:=O9 less;have Y3:=Un less;obtain⟨L,hL⟩:=ah (less%2);rw[<-hL] at eL Y3;have HLs:=aA Y3;have BD:=aA (aD w.heap.size w);clear hl1 hW1 hF1 hl2 hW2 hF2 UA hn4 hnb hmo hle hT hI hL Y3;go_enter Tryz.func4,Tryz.ntmps4;go_wp2_with fail;refine(HA.o w BD.o).mono ?_;rintro r u1 ⟨rfl,hb⟩;have BD:=aA (BD.o.trans (hb.mono BD.o.size));clear hb HA;go_wp2_with fail;refine(HU1.o u1 BD.o).mono ?_;rintro r u2 ⟨v1,X,rfl,hO,hU,hb⟩;have BD:=dC (BD.o.trans (hb.mono BD.o.size)) hO hU;clear hb hO hU HU1;go_wp2_with fail;refine(Yb.o u2 BD.o.1).mono ?_;rintro r u3 ⟨v2,Y,rfl,hO,hV,hb⟩;have BD:=fO (BD.o.1.trans (hb.mono BD.o.1.size)) (wI BD.o.2.1 hb) BD.o.r2 hO hV;clear hb hO hV Yb;obtain⟨ao,ac,rfl,hac,hFX,hA1,hA2,hA3⟩:=Cr BD.o.2.1;obtain⟨bo',bc,rfl,hbc,hFY,hB1,hB2,hB3⟩:=Cr BD.o.r3.1;have HX:=ic BD.o.r2.1 BD.o.r4 hFX hFY;have BD:=aA BD.o.1;clear hFX hFY;obtain⟨m1,hm1⟩:=ah (X.length);obtain⟨m2,hm2⟩:=ah (Y.length);rw[<-hm1] at hac hA1 |-;rw[<-hm2] at hbc hB1 |-;have HM:=(aP hm1 hm2);clear hm1 hm2;obtain⟨N,hN⟩:∃N:Nat,N=min m1 m2:=⟨_,rfl⟩;have hNi:min (m1:Int) (m2:Int)=(N:Nat):=ae
 have hN1:N<=m1:=ae
 have kQ:N<=m2:=ae
 have YE:m1<=300:=by have:=HX.o.1.l;have:=HM.o.1;omega
 have hNa:N<=ac:=ae
 have hNb:N<=bc:=ae
 have hN300:N<=300:=ae
 have HNn:=(aP hN1 kQ);clear hN hN1 kQ;go_wp2_with fail;refine(HPk.o u3).mono ?_;rintro r uu ⟨md,rfl,hmd,hq⟩;rw[hq];have HMd:=aA hmd;clear hq uu hmd HPk;go_wp2_with fail;refine(HMx.o u3 m1 YE BD.o).mono ?_;rintro r u4 ⟨qv,q,rfl,hq,hR,hb⟩;have C:=hid (aah X ao m1 ac q qv _ L (md:Nat) u4 HM.o.1 ((HX.o.r2.1.below hb).mono hb.size) (HT.o u4 (BD.o.trans (hb.mono BD.o.size))) HX.o.1 (by rw[<-HM.o.1];exact hq) hR (Cq HMd.o) HLs.o);have HX:=ic HX.o.1 HX.o.2.1 ((HX.o.r2.1.below hb).mono hb.size) ((HX.o.r3.below hb).mono hb.size);have BD:=aA (BD.o.trans (hb.mono BD.o.size));obtain⟨qa,qm,qc,rfl⟩:=hR.slice;clear hb hq hR YE;go_wp2_with fail;refine C.o.mono ?_;rintro r u5 ⟨rfl,hb⟩;have HX:=ic HX.o.1 HX.o.2.1 ((HX.o.r2.1.below hb).mono hb.size) ((HX.o.r3.below hb).mono hb.size);have BD:=aA (BD.o.trans (hb.mono BD.o.size));clear hb C
 have HLk:Hid (∀(u:World) (q:List Nat) (qv:Value) (lo:Nat),Below u5.heap.size u5 u->q.Perm (List.range N)->eG lo u qv q->Calls Tryz.prog 15 #[.slice ao N ac,.slice bo' N bc,qv,.int .i64 (md:Nat),.int .i64 L] u λr w'=>r=.returned (.bool true)/\Below u.heap.size u w'):=λu q qv lo hb hq hR=>by
  have lX:N=(X.take N).length:=by rw[ig];have:=HM.o.1;have:=HNn.o.1;omega
  have lY:(Y.take N).length=(X.take N).length:=by rw[<-lX,ig];have:=HM.o.2;have:=HNn.o.2;omega
  exact XN (X.take N) (Y.take N) ao bo' N ac bc q qv lo L (md:Nat) u lX lY (((HX.o.r2.1.below hb).mono hb.size).YD N) (((HX.o.r3.below hb).mono hb.size).YD N) (HT.o u (BD.o.trans (hb.mono BD.o.size))) (HX.o.1.cut N) (HX.o.2.1.cut N) (by rw[<-lX];exact hq) hR (Cq HMd.o) HLs.o
 clear HX HT HLs HMd HM;have HM0:Hid (∀u:World,Below w.heap.size w u->Calls Tryz.prog 14 #[.int .i64 0,.slice bo nb cb] u λr w'=>∃v' p,r=.returned v'/\p.Perm (List.range 0)/\eG u.heap.size w' v' p/\Below u.heap.size u w'):=λu hb=>HMx.o u 0 aj hb
 go_upto_region 7 with fail
 go_cut [17] from 39 to 51 (λq wx=>q=.bool true/\Aside (Below w.heap.size w wx))
 case first =>
  have hdr:=(aD u5.heap.size u5).drew;have BB:=aP hdr (BD.o.trans (hdr.mono BD.o.size));clear hdr
  have cA:ao=none/\m1=0/\ac=0/\N=0\/∃g,ao=some ⟨g,0,none⟩:=by
   by_cases q:ao=none
   . have:=hA1 q;have:=HNn.o.1;exact .inl ⟨q,ae,ae,ae⟩
   . exact .inr (hA2 q)
  have cB:bo'=none/\m2=0/\bc=0/\N=0\/∃g,bo'=some ⟨g,0,none⟩:=by
   by_cases q:bo'=none
   . have:=hB1 q;have:=HNn.o.2;exact .inl ⟨q,ae,ae,ae⟩
   . exact .inr (hB2 q)
  clear hA1 hA2 hB1 hB2 HNn hac hbc;rcases cA with ⟨rfl,rfl,rfl,hN0⟩|⟨gA,rfl⟩ <;> rcases cB with ⟨rfl,rfl,rfl,hN0'⟩|⟨gB,rfl⟩
  all_goals
   try subst hN0
   try subst hN0'
   try clear hN0'
   go_region_held3 (λ_=>True) (exact trivial) (first
    | (go_at_call 14
       with_reducible refine(HMx.o _ _ hN300 BB.o.2).mono ?_
       rintro r u6 ⟨qv,q,rfl,hq,hR,hb⟩;have BC:=ic (BB.o.2.trans (hb.mono BB.o.2.size)) (BB.o.1.trans (hb.mono BB.o.1.size)) hq hR;obtain⟨ra,rm,rc,rfl⟩:=hR.slice
       clear hb hq hR)
    | (go_at_call 14
       with_reducible refine(HM0.o _ BB.o.2).mono ?_
       rintro r u6 ⟨qv,q,rfl,hq,hR,hb⟩;have BC:=ic (BB.o.2.trans (hb.mono BB.o.2.size)) (BB.o.1.trans (hb.mono BB.o.1.size)) hq hR;obtain⟨ra,rm,rc,rfl⟩:=hR.slice
       clear hb hq hR)
    | (go_at_call 15
       with_reducible refine(HLk.o _ _ _ _ BC.o.2.1 BC.o.r2.1 BC.o.r3).mono ?_
       rintro r u7 ⟨rfl,hb⟩;have BE:=aA (BC.o.1.trans (hb.mono BC.o.1.size))
       clear hb))
  all_goals
   go_wp2_with fail
   go_meet
   case rel=>exact⟨rfl,BE.o⟩
 obtain⟨rfl,K1⟩:=hcut;go_wp2;go_ret;exact⟨rfl,K1.o⟩
end
end Go.Proofs.YtfmfhehbdfhnbaaGreatDoor
