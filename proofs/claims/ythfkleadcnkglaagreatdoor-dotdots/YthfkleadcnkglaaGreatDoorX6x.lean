import Derived.Test.YthfkleadcnkglaaGreatDoorO4x
import Derived.Test.YthfkleadcnkglaaGreatDoorD21x
import Derived.Test.YthfkleadcnkglaaGreatDoorW13x
import Derived.Test.YthfkleadcnkglaaGreatDoorW9x
import Derived.Test.YthfkleadcnkglaaGreatDoorM1x
import Derived.Laws.IdiomStrings
import Derived.Test.YthfkleadcnkglaaGreatDoorS5x
import Derived.Test.YthfkleadcnkglaaGreatDoorP2x
import Derived.Test.YthfkleadcnkglaaGreatDoorD14x
import Derived.BigQuiet
import Derived.Deep.Cut
set_option linter.unusedVariables false
set_option linter.unusedSimpArgs false
set_option maxHeartbeats 16000000
set_option maxRecDepth 20000
namespace Go.Proofs.YthfkleadcnkglaaGreatDoor
namespace J
end J
section
open Go.RowKit J
theorem finite12 (x:Nat) (hx:x<18446744073709551616) (w:World):Calls Tryz.prog 102 #[.float .f64 x] w fun r w'=>r=.returned (.bool (decide (finW x)))∧Below w.heap.size w w':=by
 by_cases fx:finW x
 · rw [decide_eq_true fx]
   have d:=run_float_arith (P:=Tryz.prog) w .sub 27 .f64 x x 0 (sub_self_fin x hx fx);have ho:(FloatKind.f64.format.order 0 0==some .eq)=true:=by decide +kernel
   clear hx fx;go_enter Tryz.func102,Tryz.ntmps102
   go_wp2_with (simp only [d])
   go_ret;exact ⟨rfl,Below.refl _ _⟩
 · rw [decide_eq_false fx]
   have h:floatBits .sub .f64 x x=none:=by
    rcases sub_odd x x hx hx (fun q=>fx q.1) with ⟨h,_⟩|⟨z,_,_,_,h⟩
    · exact h
    · exfalso
      unfold k12 at h;have hx2:¬ magW x<9218868437227405312:=fx;rw [if_pos (by rcases Nat.lt_or_ge 9218868437227405312 (magW x) with q | q;exact .inl q;exact .inr (.inr ⟨by omega,by omega,rfl⟩))] at h
      omega
   obtain ⟨z,hz,d⟩:=run_float_none (P:=Tryz.prog) w .sub 27 x x (.inr (.inl rfl)) h;have ho:=order_nan z hz.1;clear hx fx h hz;go_enter Tryz.func102,Tryz.ntmps102
   go_wp2_with (simp only [d])
   go_ret;exact ⟨rfl,(Below.refl _ _).drew⟩
def ap12 (x y:Nat):List (Nat×Int):=if finW x∧finW y then [(pK x x,pT x x),(pK y y,pT y y),(pK x (turnW y),pT x (turnW y)),(pK x (turnW y),pT x (turnW y))] else [(k12 x y,0)]
theorem ap12_len (x y:Nat):(ap12 x y).length≤4:=by unfold ap12;split <;> simp
theorem but_cell {g h:Nat}{w w':World}{v:Value}(hb:But g w w') (hl:h<w.heap.size) (hne:h≠g) (hc:w.cell? ⟨h,0,none⟩=some v):w'.cell? ⟨h,0,none⟩=some v:=(World.cell?_of_block (a:=⟨h,0,none⟩) (hb.block h hl hne)).trans hc
theorem apart12 (g h:Nat) (I:List (Nat×Int)) (x y:Nat) (u:World) (hA:At12 u g I) (hl:I.length<999990) (hx:x<18446744073709551616) (hy:y<18446744073709551616) (hc:u.cell? ⟨h,0,none⟩=some (.pointer (some ⟨g,0,none⟩))) (hh:h<u.heap.size) (hne:h≠g) :
 Calls Tryz.prog 49 #[.float .f64 x,.float .f64 y,.func (.func 84) #[] #[.pointer (some ⟨h,0,none⟩)]] u fun r u'=>r=.returned (.tuple #[])∧At12 u' g (I++ap12 x y)∧But g u u':=by
 have F1:=hid (fun W:World=>finite12 x hx W)
 have F2:=hid (fun W:World=>finite12 y hy W)
 by_cases hf:finW x∧finW y
 · have ht:=turn_lt y hy
   have e:I++ap12 x y=(((I++[(pK x x,pT x x)])++[(pK y y,pT y y)])++[(pK x (turnW y),pT x (turnW y))])++[(pK x (turnW y),pT x (turnW y))]:=by
    unfold ap12;rw [if_pos hf];simp
   rw [e];rw [decide_eq_true hf.1] at F1;rw [decide_eq_true hf.2] at F2;obtain ⟨I1,hI1⟩:∃ J,J=I++[(pK x x,pT x x)]:=⟨_,rfl⟩;obtain ⟨I2,hI2⟩:∃ J,J=I1++[(pK y y,pT y y)]:=⟨_,rfl⟩;obtain ⟨I3,hI3⟩:∃ J,J=I2++[(pK x (turnW y),pT x (turnW y))]:=⟨_,rfl⟩;obtain ⟨I4,hI4⟩:∃ J,J=I3++[(pK x (turnW y),pT x (turnW y))]:=⟨_,rfl⟩;rw [←hI1,←hI2,←hI3,←hI4];have l1:I1.length<999991:=by rw [hI1];simp;omega
   have l2:I2.length<999992:=by rw [hI2];simp;omega
   have l3:I3.length<999993:=by rw [hI3];simp;omega
   have P1:=hid (fun (W:World) (a:At12 W g I) (c:W.cell? ⟨h,0,none⟩=some (.pointer (some ⟨g,0,none⟩)))=>put12 g h I x x W a (by omega) hx hx c)
   have P2:=hid (fun (W:World) (a:At12 W g I1) (c:W.cell? ⟨h,0,none⟩=some (.pointer (some ⟨g,0,none⟩)))=>put12 g h I1 y y W a (by omega) hy hy c)
   have P3:=hid (fun (W:World) (a:At12 W g I2) (c:W.cell? ⟨h,0,none⟩=some (.pointer (some ⟨g,0,none⟩)))=>put12 g h I2 x (turnW y) W a (by omega) hx ht c)
   have P4:=hid (fun (W:World) (a:At12 W g I3) (c:W.cell? ⟨h,0,none⟩=some (.pointer (some ⟨g,0,none⟩)))=>put12 g h I3 x (turnW y) W a (by omega) hx ht c)
   rw [←hI1] at P1;rw [←hI2] at P2;rw [←hI3] at P3;rw [←hI4] at P4;have hn:=fun W:World=>neg12 (P:=Tryz.prog) W 0 y hy
   have HA:=qsd (ai hA (ai hc (ai hh hne)));clear hA hc hh hne hI1 hI2 hI3 hI4 l1 l2 l3 e hl ht hx hy hf;go_enter Tryz.func49,Tryz.ntmps49
   go_wp2_with fail
   refine (F1.out _).mono ?_;rintro r u1 ⟨rfl,hb1⟩;have K1:=qsd hb1;clear hb1
   go_wp2_with fail
   refine (F2.out _).mono ?_;rintro r u2 ⟨rfl,hb2⟩
   have K2:Aside (At12 u2 g I∧u2.cell? ⟨h,0,none⟩=some (.pointer (some ⟨g,0,none⟩))∧h<u2.heap.size∧But g u u2):=by
    have hb:=K1.out.trans (hb2.mono K1.out.size);exact ⟨HA.out.1.bel hb,(hb.cell (p:=⟨h,0,none⟩) HA.out.2.2.1).trans HA.out.2.1,Nat.lt_of_lt_of_le HA.out.2.2.1 hb.size,(But.refl g u).of_bel hb⟩
   clear hb2 K1 F1 F2
   go_wp2_with fail
   refine (P1.out _ K2.out.1 K2.out.2.1).mono ?_;rintro r u3 ⟨rfl,hA3,hB3⟩;have K3:=qsd (ai hA3 (ai (but_cell hB3 K2.out.2.2.1 HA.out.2.2.2 K2.out.2.1) (ai (Nat.lt_of_lt_of_le K2.out.2.2.1 hB3.size) (K2.out.2.2.2.trans hB3))));clear hA3 hB3 P1 K2
   go_wp2_with fail
   refine (P2.out _ K3.out.1 K3.out.2.1).mono ?_;rintro r u4 ⟨rfl,hA3,hB3⟩;have K4:=qsd (ai hA3 (ai (but_cell hB3 K3.out.2.2.1 HA.out.2.2.2 K3.out.2.1) (ai (Nat.lt_of_lt_of_le K3.out.2.2.1 hB3.size) (K3.out.2.2.2.trans hB3))));clear hA3 hB3 P2 K3
   go_wp2_with (simp only [hn])
   refine (P3.out _ K4.out.1 K4.out.2.1).mono ?_;rintro r u5 ⟨rfl,hA3,hB3⟩;have K5:=qsd (ai hA3 (ai (but_cell hB3 K4.out.2.2.1 HA.out.2.2.2 K4.out.2.1) (ai (Nat.lt_of_lt_of_le K4.out.2.2.1 hB3.size) (K4.out.2.2.2.trans hB3))));clear hA3 hB3 P3 K4
   go_wp2_with (simp only [hn])
   refine (P4.out _ K5.out.1 K5.out.2.1).mono ?_;rintro r u6 ⟨rfl,hA3,hB3⟩;have K6:=qsd (ai hA3 (K5.out.2.2.2.trans hB3));clear hA3 hB3 P4 K5;go_wp2
   go_end0
   exact ⟨rfl,K6.out.1,K6.out.2⟩
 · have e:ap12 x y=[(k12 x y,0)]:=by unfold ap12;rw [if_neg hf]
   rw [e];have HA:=qsd (ai hA (ai hc (ai hh (ai hne hl))))
   have hfd:(decide (finW x)=false)∨(decide (finW x)=true∧decide (finW y)=false):=by
    by_cases f1:finW x
    · exact .inr ⟨decide_eq_true f1,decide_eq_false (fun f2=>hf ⟨f1,f2⟩)⟩
    · exact .inl (decide_eq_false f1)
   have hodd:=sub_odd x y hx hy hf;have HX:=qsd (ai hx hy);clear hA hc hh hne hl e hf hx hy;have fin:Hid (∀ (W:World) (tmps:Array Value) (z1 z2:Nat),True):=fun _ _ _ _=>trivial
   clear fin
   rcases hfd with hfd|⟨hfd1,hfd⟩
   · rw [hfd] at F1
     clear hfd F2;go_enter Tryz.func49,Tryz.ntmps49
     go_wp2_with fail
     refine (F1.out _).mono ?_;rintro r u2 ⟨rfl,hb⟩
     have K2:Aside (At12 u2 g I∧u2.cell? ⟨h,0,none⟩=some (.pointer (some ⟨g,0,none⟩))∧But g u u2) :=
      ⟨HA.out.1.bel hb,(hb.cell (p:=⟨h,0,none⟩) HA.out.2.2.1).trans HA.out.2.1,(But.refl g u).of_bel hb⟩
     clear hb F1
     rcases hodd with ⟨hno,hk⟩|⟨z,hz,hm,hz64,hk⟩
     · obtain ⟨z1,hz1,d1⟩:=run_float_none (P:=Tryz.prog) u2 .sub 27 x y (.inr (.inl rfl)) hno
       obtain ⟨z2,hz2,d2⟩:=run_float_none (P:=Tryz.prog) u2.drew .sub 27 x y (.inr (.inl rfl)) hno;have HP:=put12 g h I z1 z2 u2.drew.drew (K2.out.1.bel (((Below.refl _ _).drew).drew)) (by have:=HA.out.2.2.2.2;omega) hz1.2 hz2.2 K2.out.2.1
       rw [pK_nans hz1.1 hz2.1,(pT_odd (fun q=>by have q1:magW z1<9218868437227405312:=q.1;have:9218868437227405312<magW z1:=hz1.1;omega)).1,←hk] at HP
       have HP:=hid HP;clear hno hk hz1 hz2 HX
       go_wp2_with (first | simp only [d1] | simp only [d2])
       refine HP.out.mono ?_;rintro r u3 ⟨rfl,hA3,hB3⟩;have K3:=qsd (ai hA3 (K2.out.2.2.trans (((But.refl g u2).drew.drew).trans hB3)));clear hA3 hB3 HP K2 d1 d2;go_wp2;refine bodyPost_ret (results_none rfl _ _ _) rfl ?_;exact ⟨rfl,K3.out.1,K3.out.2⟩
     · have d1:=run_float_arith (P:=Tryz.prog) u2 .sub 27 .f64 x y z hz
       have HP:=put12 g h I z z u2 K2.out.1 (by have:=HA.out.2.2.2.2;omega) hz64 hz64 K2.out.2.1
       rw [pK_self_inf hm,(pT_odd (fun q=>by have q1:magW z<9218868437227405312:=q.1;omega)).1,←hk] at HP
       have HP:=hid HP;clear hz hk hm hz64 HX
       go_wp2_with (simp only [d1])
       refine HP.out.mono ?_;rintro r u3 ⟨rfl,hA3,hB3⟩;have K3:=qsd (ai hA3 (K2.out.2.2.trans hB3));clear hA3 hB3 HP K2 d1;go_wp2;refine bodyPost_ret (results_none rfl _ _ _) rfl ?_;exact ⟨rfl,K3.out.1,K3.out.2⟩
   · rw [hfd1] at F1
     rw [hfd] at F2;clear hfd hfd1;go_enter Tryz.func49,Tryz.ntmps49
     go_wp2_with fail
     refine (F1.out _).mono ?_;rintro r u1 ⟨rfl,hb1⟩;have K1:=qsd hb1;clear hb1
     go_wp2_with fail
     refine (F2.out _).mono ?_;rintro r u2 ⟨rfl,hb2⟩
     have K2:Aside (At12 u2 g I∧u2.cell? ⟨h,0,none⟩=some (.pointer (some ⟨g,0,none⟩))∧But g u u2):=by
      have hb:=K1.out.trans (hb2.mono K1.out.size);exact ⟨HA.out.1.bel hb,(hb.cell (p:=⟨h,0,none⟩) HA.out.2.2.1).trans HA.out.2.1,(But.refl g u).of_bel hb⟩
     clear hb2 F1 F2 K1
     rcases hodd with ⟨hno,hk⟩|⟨z,hz,hm,hz64,hk⟩
     · obtain ⟨z1,hz1,d1⟩:=run_float_none (P:=Tryz.prog) u2 .sub 27 x y (.inr (.inl rfl)) hno
       obtain ⟨z2,hz2,d2⟩:=run_float_none (P:=Tryz.prog) u2.drew .sub 27 x y (.inr (.inl rfl)) hno;have HP:=put12 g h I z1 z2 u2.drew.drew (K2.out.1.bel (((Below.refl _ _).drew).drew)) (by have:=HA.out.2.2.2.2;omega) hz1.2 hz2.2 K2.out.2.1
       rw [pK_nans hz1.1 hz2.1,(pT_odd (fun q=>by have q1:magW z1<9218868437227405312:=q.1;have:9218868437227405312<magW z1:=hz1.1;omega)).1,←hk] at HP
       have HP:=hid HP;clear hno hk hz1 hz2 HX
       go_wp2_with (first | simp only [d1] | simp only [d2])
       refine HP.out.mono ?_;rintro r u3 ⟨rfl,hA3,hB3⟩;have K3:=qsd (ai hA3 (K2.out.2.2.trans (((But.refl g u2).drew.drew).trans hB3)));clear hA3 hB3 HP K2 d1 d2;go_wp2;refine bodyPost_ret (results_none rfl _ _ _) rfl ?_;exact ⟨rfl,K3.out.1,K3.out.2⟩
     · have d1:=run_float_arith (P:=Tryz.prog) u2 .sub 27 .f64 x y z hz
       have HP:=put12 g h I z z u2 K2.out.1 (by have:=HA.out.2.2.2.2;omega) hz64 hz64 K2.out.2.1
       rw [pK_self_inf hm,(pT_odd (fun q=>by have q1:magW z<9218868437227405312:=q.1;omega)).1,←hk] at HP
       have HP:=hid HP;clear hz hk hm hz64 HX
       go_wp2_with (simp only [d1])
       refine HP.out.mono ?_;rintro r u3 ⟨rfl,hA3,hB3⟩;have K3:=qsd (ai hA3 (K2.out.2.2.trans hB3));clear hA3 hB3 HP K2 d1;go_wp2;refine bodyPost_ret (results_none rfl _ _ _) rfl ?_;exact ⟨rfl,K3.out.1,K3.out.2⟩
theorem hand12A (p q g h k n m c1 c2 b1 o1 b2 o2:Nat) (I:List (Nat×Int)) (x y:Nat) (u:World) (hA:At12 u g I) (hl:I.length<999990) (hx:x<18446744073709551616) (hy:y<18446744073709551616) (hc:u.cell? ⟨h,0,none⟩=some (.pointer (some ⟨g,0,none⟩)))
 (hp:u.cell? ⟨p,0,none⟩=some (.slice (some ⟨b1,o1,none⟩) n c1)) (hq:u.cell? ⟨q,0,none⟩=some (.slice (some ⟨b2,o2,none⟩) m c2)) (h1:u.cell? ⟨b1,o1+k,none⟩=some (.float .f64 x)) (h2:u.cell? ⟨b2,o2+k,none⟩=some (.float .f64 y)) (hk1:k<n) (hk2:k<m) (hn:n≤65536) (hh:h<u.heap.size) (hne:h≠g) :
 (p<g∧q<g∧b1<g∧b2<g) →
 Calls Tryz.prog 48 #[.int .i64 (k:Nat),.func (.func 84) #[] #[.pointer (some ⟨h,0,none⟩)],.pointer (some ⟨p,0,none⟩),.pointer (some ⟨q,0,none⟩)] u fun r u'=>r=.returned (.tuple #[])∧At12 u' g (I++ap12 x y)∧But g u u':=by
 rintro ⟨l1,l2,l3,l4⟩;have hgl:=hA.lt;have HP:=hid (apart12 g h I x y u.drew (hA.bel ((Below.refl _ _).drew)) hl hx hy hc hh hne);have kS:Aside (u.drew.cell? ⟨p,0,none⟩=some (.slice (some ⟨b1,o1,none⟩) n c1)∧u.drew.cell? ⟨q,0,none⟩=some (.slice (some ⟨b2,o2,none⟩) m c2)∧u.drew.cell? ⟨b1,o1+k,none⟩=some (.float .f64 x)∧u.drew.cell? ⟨b2,o2+k,none⟩=some (.float .f64 y)):=⟨hp,hq,h1,h2⟩;have HL:=qsd (ai l1 (ai l2 (ai l3 (ai l4 hgl))));have hkb:k<4611686018427387904:=by omega
 clear hA hl hx hy hc hp hq h1 h2 hn l1 l2 l3 l4 hgl hh hne;go_enter Tryz.func48,Tryz.ntmps48
 go_upto_region 0 with fail
 go_region_held3 (fun w'=>w'.cell? ⟨p,0,none⟩=some (.slice (some ⟨b1,o1,none⟩) n c1)∧w'.cell? ⟨q,0,none⟩=some (.slice (some ⟨b2,o2,none⟩) m c2)∧w'.cell? ⟨b1,o1+k,none⟩=some (.float .f64 x)∧w'.cell? ⟨b2,o2+k,none⟩=some (.float .f64 y)) (with_reducible exact kS.out) (first
  | (go_at_call 49
     with_reducible refine HP.out.mono ?_
     rintro r v ⟨rfl,hA,hbut⟩;have H:=qsd (ai hA hbut);have kS:=qsd (ai ((World.cell?_of_block (a:=⟨p,0,none⟩) (hbut.block p (show p<u.heap.size by have:=HL.out;omega) (by have:=HL.out;omega))).trans kS.out.1) (ai ((World.cell?_of_block (a:=⟨q,0,none⟩) (hbut.block q (show q<u.heap.size by have:=HL.out;omega) (by have:=HL.out;omega))).trans kS.out.2.1) (ai ((World.cell?_of_block (a:=⟨b1,o1+k,none⟩) (hbut.block b1 (show b1<u.heap.size by have:=HL.out;omega) (by have:=HL.out;omega))).trans kS.out.2.2.1) ((World.cell?_of_block (a:=⟨b2,o2+k,none⟩) (hbut.block b2 (show b2<u.heap.size by have:=HL.out;omega) (by have:=HL.out;omega))).trans kS.out.2.2.2))))
     clear hA hbut))
 all_goals (
  clear kS HP;go_wp2
  go_end0
  exact ⟨rfl,H.out.1,(But.refl g u).drew.trans H.out.2⟩)
end
section
open Go.RowKit
theorem ahead10 (g:Nat) (V:Int) (s:Sp) (mode a b:Int) (w:World) (hA:Acc7 w g V s) (hs:s.ok) (hm0:0≤mode) (hm1:mode≤4) (hab:may a b=true) (ha:¬ (0<s.n∧a=2)) (hb:¬ (0<s.u+s.d∧b=2)) :
 Calls Tryz.prog 86 #[.pointer (some ⟨g,0,none⟩),.int .i64 mode,.agg #[.int .i64 a,.int .i64 b]] w fun r w'=>r=.returned (.tuple #[.float .f64 (ahd V s mode a b).1,.bool (ahd V s mode a b).2.1,.int .i64 (ahd V s mode a b).2.2])∧Below w.heap.size w w':=by
 obtain ⟨⟨X,tl,er⟩,hX⟩:∃ X,X=ahd V s mode a b:=⟨_,rfl⟩;rw [←hX];simp only;obtain ⟨L,a1,a2,a3,a4,a5,a6⟩:=hA;have hz:=zero_words L V a1 a2 a3 a4 a5;obtain ⟨n,u,d,m,p,l⟩:=s;have HM:=hid (fun u:World=>May_any a b u)
 rw [hab] at HM;have HV:=hid (fun w:World=>Verdict_any n u d m p l a b w)
 have HN:=hid (fun w:World=>Nought_any n u d m p l mode w)
 obtain ⟨⟨vx,vt⟩,hvd⟩:∃ v,v=vd (snd n u d m p l&&may a b) n u d a b:=⟨_,rfl⟩;obtain ⟨nx,hnt⟩:∃ v,v=nt (snd n u d m p l) n u d m p l mode:=⟨_,rfl⟩;rw [←hvd] at HV;rw [←hnt] at HN;simp only at HV;simp only [ahd] at hX;rw [←hvd,←hnt] at hX;simp only at hX;have HX:=qsd hX;have HA:=qsd (ai a1 (ai a6 hz));have hlt:=a6.lt;have hne:g≠w.heap.size:=Nat.ne_of_lt hlt;have hne1:g≠w.heap.size+1:=by omega
 have c0:=a6.cell a1 0 _ rfl;have c1:=a6.cell a1 1 _ rfl;have c2:=a6.cell a1 2 _ rfl;have c3:=a6.cell a1 3 _ rfl;have c4:=a6.cell a1 4 _ rfl;have c5:=a6.cell a1 5 _ rfl;obtain ⟨h0,h1,h2,h3,h4,h5⟩:=hs;have ha1:¬ (0<n∧a=2):=ha;have hb1:¬ (0<u+d∧b=2):=hb;have b0:decide (mode<0)=false:=by simp;omega
 have b1:decide (4<mode)=false:=by simp;omega
 clear a1 a2 a3 a4 a5 a6 hX hvd hnt hab ha hb hz;go_enter Tryz.func86,Tryz.ntmps86
 go_wp2_with fail
 refine (HM.out _).mono ?_;rintro r w1 ⟨rfl,hb1⟩;have hz1:w.heap.size+1<w1.heap.size:=by have:=hb1.size;simp at this;omega
 have B1:=qsd hb1
 have P1:Aside (Bl w1 w.heap.size 24 [.int .i64 a,.int .i64 b]∧Bl w1 (w.heap.size+1) 42 [.int .i64 n,.int .i64 u,.int .i64 d,.int .i64 m,.int .i64 p,.int .i64 l]∧Below w.heap.size w w1∧Ac w1 g L ⟨n,u,d,m,p,l⟩):=by
  have e0:=(bel_alloc w (Obj.cells #[.int .i64 a,.int .i64 b] 24)).trans ((bel_alloc (w.alloc (Obj.cells #[.int .i64 a,.int .i64 b] 24)) (Obj.cells #[.int .i64 n,.int .i64 u,.int .i64 d,.int .i64 m,.int .i64 p,.int .i64 l] 42)).mono (by simp))
  have e1:=e0.trans (hb1.mono e0.size);exact ⟨(((Bl.new w 24 [_,_]).alloc _).below hb1 (by simp;omega)),((Bl.new' (w.alloc _) 42 _ [_,_,_,_,_,_] (by simp)).below hb1 (by simp)),e1,HA.out.2.1.below e1 HA.out.2.1.lt⟩
 clear hb1 c0 c1 c2 c3 c4 c5;have q0:=P1.out.1.cell 0 _ rfl;have q1:=P1.out.1.cell 1 _ rfl;have s0:=P1.out.2.1.cell 0 _ rfl;have s1:=P1.out.2.1.cell 1 _ rfl;have s2:=P1.out.2.1.cell 2 _ rfl;have s3:=P1.out.2.1.cell 3 _ rfl;have s4:=P1.out.2.1.cell 4 _ rfl;have s5:=P1.out.2.1.cell 5 _ rfl
 have hca:(0<n∧(a==2)=false)∨n≤0:=by
  by_cases h:0<n
  · exact .inl ⟨h,by simp;intro e;exact ha1 ⟨h,e⟩⟩
  · exact .inr (by omega)
 have hcb:(0<u+d∧(b==2)=false)∨u+d≤0:=by
  by_cases h:0<u+d
  · exact .inl ⟨h,by simp;intro e;exact hb1 ⟨h,e⟩⟩
  · exact .inr (by omega)
 clear ha1 hb1
 rcases hca with ⟨hn,ha'⟩|hn <;> rcases hcb with ⟨hu,hb'⟩|hu
 all_goals (
  go_wp2_with fail
  refine (HV.out _).mono ?_;rintro r w2 ⟨rfl,hb2⟩
  have P2:Aside (Bl w2 (w.heap.size+1) 42 [.int .i64 n,.int .i64 u,.int .i64 d,.int .i64 m,.int .i64 p,.int .i64 l]∧Below w.heap.size w w2∧Ac w2 g L ⟨n,u,d,m,p,l⟩) :=
   ⟨P1.out.2.1.below hb2 P1.out.2.1.lt,P1.out.2.2.1.trans (hb2.mono P1.out.2.2.1.size),P1.out.2.2.2.below hb2 P1.out.2.2.2.lt⟩
  clear hb2 q0 q1 s0 s1 s2 s3 s4 s5 hn hu
  cases vt
  · have s0:=P2.out.1.cell 0 _ rfl
    have s1:=P2.out.1.cell 1 _ rfl;have s2:=P2.out.1.cell 2 _ rfl;have s3:=P2.out.1.cell 3 _ rfl;have s4:=P2.out.1.cell 4 _ rfl;have s5:=P2.out.1.cell 5 _ rfl
    go_wp2_with (first | (with_reducible refine wpList_load_mid (P:=Tryz.prog) rfl 135 (.tmp 57) rfl g 0 rfl (L.map U) _ P2.out.2.2.range Tryz.desc_words rfl (by simp [Tryz.size_words,HA.out.1]) ?_))
    rw [Tryz.nought_words,eq_words L _ w2 HA.out.1 (by simp),HA.out.2.2]
    generalize (List.replicate 133 0).map U=zz
    by_cases hV:V=0
    · rw [decide_eq_true hV]
      simp only [Result.andThen_ok,Oper.upon];have HX2:=qsd (show (X,tl,er)=(nx,true,0) by rw [HX.out,if_neg (by decide),if_pos hV])
      clear hV
      go_wp2_with fail
      refine (HN.out _).mono ?_;rintro r w3 ⟨rfl,hb3⟩;have B3:=qsd hb3;clear hb3;go_wp2;refine bodyPost_ret (v:=.tuple #[.float .f64 nx,.bool true,.int .i64 0]) (by simp [results,Tryz.results86,go_sem]) rfl ?_
      have e:=HX2.out
      cases e
      exact ⟨rfl,P2.out.2.1.trans (B3.out.mono P2.out.2.1.size)⟩
    · rw [decide_eq_false hV]
      simp only [Result.andThen_ok,Oper.upon];have HX2:=qsd (show (X,tl,er)=(0,false,0) by rw [HX.out,if_neg (by decide),if_neg hV])
      clear hV;go_wp2;refine bodyPost_ret (v:=.tuple #[.float .f64 0,.bool false,.int .i64 0]) (by simp [results,Tryz.results86,go_sem]) rfl ?_
      have e:=HX2.out
      cases e
      exact ⟨rfl,P2.out.2.1⟩
  · go_wp2
    refine bodyPost_ret (v:=.tuple #[.float .f64 vx,.bool true,.int .i64 0]) (by simp [results,Tryz.results86,go_sem]) rfl ?_
    have e:=HX.out;rw [if_pos trivial] at e
    cases e
    exact ⟨rfl,P2.out.2.1⟩)
theorem ahead10_nan (g:Nat) (V:Int) (s:Sp) (mode a b:Int) (w:World) (hA:Acc7 w g V s) (hs:s.ok) (hm0:0≤mode) (hm1:mode≤4) (hab:may a b=true) (hx:0<s.n∧a=2) :
 Calls Tryz.prog 86 #[.pointer (some ⟨g,0,none⟩),.int .i64 mode,.agg #[.int .i64 a,.int .i64 b]] w fun r w'=>r=.returned (.tuple #[.float .f64 0,.bool false,.int .i64 60])∧Below w.heap.size w w':=by
 obtain ⟨L,a1,a2,a3,a4,a5,a6⟩:=hA;obtain ⟨n,u,d,m,p,l⟩:=s;have HM:=hid (fun u:World=>May_any a b u)
 rw [hab] at HM;have HA:=qsd (ai a1 a6);have hlt:=a6.lt;have hne:g≠w.heap.size:=Nat.ne_of_lt hlt;have hne1:g≠w.heap.size+1:=by omega
 have c0:=a6.cell a1 0 _ rfl;have c1:=a6.cell a1 1 _ rfl;have c2:=a6.cell a1 2 _ rfl;have c3:=a6.cell a1 3 _ rfl;have c4:=a6.cell a1 4 _ rfl;have c5:=a6.cell a1 5 _ rfl;obtain ⟨h0,h1,h2,h3,h4,h5⟩:=hs;have b0:decide (mode<0)=false:=by simp;omega
 have b1:decide (4<mode)=false:=by simp;omega
 have hn:0<n:=hx.1;have ha2:(a==2)=true:=by simpa using hx.2
 clear hx;clear a1 a2 a3 a4 a5 a6 hab;go_enter Tryz.func86,Tryz.ntmps86
 go_wp2_with fail
 refine (HM.out _).mono ?_;rintro r w1 ⟨rfl,hb1⟩
 have P1:Aside (Bl w1 w.heap.size 24 [.int .i64 a,.int .i64 b]∧Bl w1 (w.heap.size+1) 42 [.int .i64 n,.int .i64 u,.int .i64 d,.int .i64 m,.int .i64 p,.int .i64 l]∧Below w.heap.size w w1):=by
  have e0:=(bel_alloc w (Obj.cells #[.int .i64 a,.int .i64 b] 24)).trans ((bel_alloc (w.alloc (Obj.cells #[.int .i64 a,.int .i64 b] 24)) (Obj.cells #[.int .i64 n,.int .i64 u,.int .i64 d,.int .i64 m,.int .i64 p,.int .i64 l] 42)).mono (by simp))
  have e1:=e0.trans (hb1.mono e0.size);exact ⟨(((Bl.new w 24 [_,_]).alloc _).below hb1 (by simp;omega)),((Bl.new' (w.alloc _) 42 _ [_,_,_,_,_,_] (by simp)).below hb1 (by simp)),e1⟩
 clear hb1 c0 c1 c2 c3 c4 c5;have q0:=P1.out.1.cell 0 _ rfl;have q1:=P1.out.1.cell 1 _ rfl;have s0:=P1.out.2.1.cell 0 _ rfl;have s1:=P1.out.2.1.cell 1 _ rfl;have s2:=P1.out.2.1.cell 2 _ rfl;have s3:=P1.out.2.1.cell 3 _ rfl;have s4:=P1.out.2.1.cell 4 _ rfl;have s5:=P1.out.2.1.cell 5 _ rfl
 all_goals
  go_wp2;refine bodyPost_ret (v:=.tuple #[.float .f64 0,.bool false,.int .i64 60]) (by simp [results,Tryz.results86,go_sem]) rfl ?_
  exact ⟨rfl,P1.out.2.2⟩
theorem ahead10_inf (g:Nat) (V:Int) (s:Sp) (mode a b:Int) (w:World) (hA:Acc7 w g V s) (hs:s.ok) (hm0:0≤mode) (hm1:mode≤4) (hab:may a b=true) (hn:¬ (0<s.n∧a=2)) (hx:0<s.u+s.d∧b=2) :
 Calls Tryz.prog 86 #[.pointer (some ⟨g,0,none⟩),.int .i64 mode,.agg #[.int .i64 a,.int .i64 b]] w fun r w'=>r=.returned (.tuple #[.float .f64 0,.bool false,.int .i64 61])∧Below w.heap.size w w':=by
 obtain ⟨L,a1,a2,a3,a4,a5,a6⟩:=hA;obtain ⟨n,u,d,m,p,l⟩:=s;have HM:=hid (fun u:World=>May_any a b u)
 rw [hab] at HM;have HA:=qsd (ai a1 a6);have hlt:=a6.lt;have hne:g≠w.heap.size:=Nat.ne_of_lt hlt;have hne1:g≠w.heap.size+1:=by omega
 have c0:=a6.cell a1 0 _ rfl;have c1:=a6.cell a1 1 _ rfl;have c2:=a6.cell a1 2 _ rfl;have c3:=a6.cell a1 3 _ rfl;have c4:=a6.cell a1 4 _ rfl;have c5:=a6.cell a1 5 _ rfl;obtain ⟨h0,h1,h2,h3,h4,h5⟩:=hs;have b0:decide (mode<0)=false:=by simp;omega
 have b1:decide (4<mode)=false:=by simp;omega
 have hu:0<u+d:=hx.1;have hb2:(b==2)=true:=by simpa using hx.2
 have hca:(0<n∧(a==2)=false)∨n≤0:=by
  by_cases h:0<n
  · exact .inl ⟨h,by simp;intro e;exact hn ⟨h,e⟩⟩
  · exact .inr (by omega)
 clear hx hn;clear a1 a2 a3 a4 a5 a6 hab;go_enter Tryz.func86,Tryz.ntmps86
 go_wp2_with fail
 refine (HM.out _).mono ?_;rintro r w1 ⟨rfl,hb1⟩
 have P1:Aside (Bl w1 w.heap.size 24 [.int .i64 a,.int .i64 b]∧Bl w1 (w.heap.size+1) 42 [.int .i64 n,.int .i64 u,.int .i64 d,.int .i64 m,.int .i64 p,.int .i64 l]∧Below w.heap.size w w1):=by
  have e0:=(bel_alloc w (Obj.cells #[.int .i64 a,.int .i64 b] 24)).trans ((bel_alloc (w.alloc (Obj.cells #[.int .i64 a,.int .i64 b] 24)) (Obj.cells #[.int .i64 n,.int .i64 u,.int .i64 d,.int .i64 m,.int .i64 p,.int .i64 l] 42)).mono (by simp))
  have e1:=e0.trans (hb1.mono e0.size);exact ⟨(((Bl.new w 24 [_,_]).alloc _).below hb1 (by simp;omega)),((Bl.new' (w.alloc _) 42 _ [_,_,_,_,_,_] (by simp)).below hb1 (by simp)),e1⟩
 clear hb1 c0 c1 c2 c3 c4 c5;have q0:=P1.out.1.cell 0 _ rfl;have q1:=P1.out.1.cell 1 _ rfl;have s0:=P1.out.2.1.cell 0 _ rfl;have s1:=P1.out.2.1.cell 1 _ rfl;have s2:=P1.out.2.1.cell 2 _ rfl;have s3:=P1.out.2.1.cell 3 _ rfl;have s4:=P1.out.2.1.cell 4 _ rfl;have s5:=P1.out.2.1.cell 5 _ rfl
 rcases hca with ⟨hn,ha2⟩|hn
 all_goals
  go_wp2;refine bodyPost_ret (v:=.tuple #[.float .f64 0,.bool false,.int .i64 61]) (by simp [results,Tryz.results86,go_sem]) rfl ?_
  exact ⟨rfl,P1.out.2.2⟩
end
section
open Go.RowKit
def rd10 (V:Int) (s:Sp) (mode a b:Int):Nat×Int:=if 0<s.n∧a=2 then (0,60) else if 0<s.u+s.d∧b=2 then (0,61) else rd7 V s mode a b
theorem round10_ok (g:Nat) (V:Int) (s:Sp) (mode a b:Int) (w:World) (hA:Acc7 w g V s) (hs:s.ok) (hT:Tab w) (hm0:0≤mode) (hm1:mode≤4) (hab:may a b=true) (ha:¬ (0<s.n∧a=2)) (hb:¬ (0<s.u+s.d∧b=2)) :
 Calls Tryz.prog 39 #[.pointer (some ⟨g,0,none⟩),.int .i64 mode,.agg #[.int .i64 a,.int .i64 b]] w fun r w'=>r=.returned (.tuple #[.float .f64 (rd7 V s mode a b).1,.int .i64 (rd7 V s mode a b).2])∧Below w.heap.size w w':=by
 obtain ⟨⟨X,er⟩,hX⟩:∃ X,X=rd7 V s mode a b:=⟨_,rfl⟩;rw [←hX];simp only;have hb0:=bel_alloc w (Obj.cells #[.int .i64 a,.int .i64 b] 24);have HH:=hid (ahead10 g V s mode a b _ (hA.bel hb0) hs hm0 hm1 hab ha hb);have her:=ahd_er V s mode a b;unfold rd7 at hX;obtain ⟨⟨ax,at',ae⟩,hAh⟩:∃ Y,Y=ahd V s mode a b:=⟨_,rfl⟩;rw [←hAh] at HH her hX;simp only at HH her hX;subst her;have HX:=qsd hX;have HA:=qsd (ai hA (ai hT hb0));clear hA hT hb0 hX hAh hs hab ha hb;go_enter Tryz.func39,Tryz.ntmps39
 go_wp2_with fail
 refine HH.out.mono ?_;rintro r w1 ⟨rfl,hb1⟩;have B1:=qsd (HA.out.2.2.trans (hb1.mono HA.out.2.2.size));clear hb1
 cases at'
 · go_wp2_with fail
   refine (Exact7 g V s w1 (HA.out.1.bel B1.out) (HA.out.2.1.belows B1.out)).mono ?_;rintro r w2 ⟨v,rfl,hN,hb2⟩;obtain ⟨L,_,_,_,h0,h1,_⟩:=HA.out.1;obtain ⟨ad,c,rfl,AV⟩:=hN.arg (Nat.le_trans (dX_small h0 h1) (by decide))
   have HR:=hid (Round_any AV (HA.out.2.1.belows (B1.out.trans (hb2.mono B1.out.size))) (dN (exV V)) (dE (exV V)) mode (dE_small V).1 (dE_small V).2);rw [val_ws] at HR;have HX2:=HX.out;rw [if_neg (by decide)] at HX2
   rw [←HX2] at HR;simp only at HR;have B2:=qsd (B1.out.trans (hb2.mono B1.out.size));clear hN hb2 AV h0 h1 HX2
   go_wp2_with fail
   refine HR.out.mono ?_;rintro r w3 ⟨rfl,hb3⟩;have B3:=qsd hb3;clear hb3;go_wp2;refine bodyPost_ret (v:=.tuple #[.float .f64 X,.int .i64 er]) (by simp [results,Tryz.results39,go_sem]) rfl ?_
   exact ⟨rfl,B2.out.trans (B3.out.mono B2.out.size)⟩
 · go_wp2
   have HX2:=HX.out;rw [if_pos trivial] at HX2
   cases HX2
   refine bodyPost_ret (v:=.tuple #[.float .f64 X,.int .i64 0]) (by simp [results,Tryz.results39,go_sem]) rfl ?_
   exact ⟨rfl,B1.out⟩
theorem round10_nan (g:Nat) (mode a b:Int) (w:World)
 (HH:Hid (∀ u:World,Below w.heap.size w u→Calls Tryz.prog 86 #[.pointer (some ⟨g,0,none⟩),.int .i64 mode,.agg #[.int .i64 a,.int .i64 b]] u fun r w'=>r=.returned (.tuple #[.float .f64 0,.bool false,.int .i64 60])∧Below u.heap.size u w')) :
 Calls Tryz.prog 39 #[.pointer (some ⟨g,0,none⟩),.int .i64 mode,.agg #[.int .i64 a,.int .i64 b]] w fun r w'=>r=.returned (.tuple #[.float .f64 0,.int .i64 60])∧Below w.heap.size w w':=by
 have hb0:=qsd (bel_alloc w (Obj.cells #[.int .i64 a,.int .i64 b] 24));go_enter Tryz.func39,Tryz.ntmps39
 go_wp2_with fail
 refine (HH.out _ hb0.out).mono ?_;rintro r w1 ⟨rfl,hb1⟩;have B1:=qsd (hb0.out.trans (hb1.mono hb0.out.size));clear hb1 HH;go_wp2;refine bodyPost_ret (v:=.tuple #[.float .f64 0,.int .i64 60]) (by simp [results,Tryz.results39,go_sem]) rfl ?_
 exact ⟨rfl,B1.out⟩
theorem round10_inf (g:Nat) (mode a b:Int) (w:World)
 (HH:Hid (∀ u:World,Below w.heap.size w u→Calls Tryz.prog 86 #[.pointer (some ⟨g,0,none⟩),.int .i64 mode,.agg #[.int .i64 a,.int .i64 b]] u fun r w'=>r=.returned (.tuple #[.float .f64 0,.bool false,.int .i64 61])∧Below u.heap.size u w')) :
 Calls Tryz.prog 39 #[.pointer (some ⟨g,0,none⟩),.int .i64 mode,.agg #[.int .i64 a,.int .i64 b]] w fun r w'=>r=.returned (.tuple #[.float .f64 0,.int .i64 61])∧Below w.heap.size w w':=by
 have hb0:=qsd (bel_alloc w (Obj.cells #[.int .i64 a,.int .i64 b] 24));go_enter Tryz.func39,Tryz.ntmps39
 go_wp2_with fail
 refine (HH.out _ hb0.out).mono ?_;rintro r w1 ⟨rfl,hb1⟩;have B1:=qsd (hb0.out.trans (hb1.mono hb0.out.size));clear hb1 HH;go_wp2;refine bodyPost_ret (v:=.tuple #[.float .f64 0,.int .i64 61]) (by simp [results,Tryz.results39,go_sem]) rfl ?_
 exact ⟨rfl,B1.out⟩
theorem Round10 (g:Nat) (V:Int) (s:Sp) (mode a b:Int) (w:World) (hA:Acc7 w g V s) (hs:s.ok) (hT:Tab w) (hm0:0≤mode) (hm1:mode≤4) (hab:may a b=true) :
 Calls Tryz.prog 39 #[.pointer (some ⟨g,0,none⟩),.int .i64 mode,.agg #[.int .i64 a,.int .i64 b]] w fun r w'=>r=.returned (.tuple #[.float .f64 (rd10 V s mode a b).1,.int .i64 (rd10 V s mode a b).2])∧Below w.heap.size w w':=by
 unfold rd10
 by_cases h1:0<s.n∧a=2
 · rw [if_pos h1]
   exact round10_nan g mode a b w (hid fun u hb=>ahead10_nan g V s mode a b u (hA.bel hb) hs hm0 hm1 hab h1)
 · rw [if_neg h1]
   by_cases h2:0<s.u+s.d∧b=2
   · rw [if_pos h2]
     exact round10_inf g mode a b w (hid fun u hb=>ahead10_inf g V s mode a b u (hA.bel hb) hs hm0 hm1 hab h1 h2)
   · rw [if_neg h2]
     exact round10_ok g V s mode a b w hA hs hT hm0 hm1 hab h1 h2
end
section
open Go.RowKit J
def md (mode:Int):Bool:=decide (0≤mode)&&decide (mode≤4)
theorem isMode12 (a:Int) (w:World):Calls Tryz.prog 56 #[.int .i64 a] w fun r w'=>r=.returned (.bool (md a))∧w'=w:=by
 unfold md
 by_cases h:0≤a
 · have hd:decide (0≤a)=true:=decide_eq_true h
   rw [hd];go_enter Tryz.func56,Tryz.ntmps56;go_wp2;go_ret;exact ⟨by first | rfl | simp,rfl⟩
 · have hd:decide (0≤a)=false:=decide_eq_false h
   rw [hd];go_enter Tryz.func56,Tryz.ntmps56;go_wp2;go_ret;exact ⟨by first | rfl | simp,rfl⟩
def rf12 (mode:Int) (n m:Nat):Int:=if md mode=false then 1 else if 65536<n∨65536<m then 2 else if n≠m then 4 else 0
theorem refused12 (mode:Int) (a b:Option Addr) (n c m d:Nat) (w:World):Calls Tryz.prog 36 #[.slice a n c,.slice b m d,.int .i64 mode] w fun r w'=>r=.returned (.int .i64 (rf12 mode n m))∧w'=w:=by
 have HM:=hid (isMode12 mode w);obtain ⟨k,hk⟩:∃ k,k=md mode:=⟨_,rfl⟩;rw [←hk] at HM;unfold rf12;rw [←hk];clear hk
 cases k
 · rw [if_pos rfl]
   go_enter Tryz.func36,Tryz.ntmps36
   go_wp2_with fail
   refine HM.out.mono ?_;rintro r w1 ⟨rfl,rfl⟩;clear HM;go_wp2;go_ret;exact ⟨rfl,rfl⟩
 · rw [if_neg (by decide)]
   by_cases h1:65536<n
   · rw [if_pos (.inl h1)]
     have d1:decide ((65536:Int)<(n:Int))=true:=by simp;omega
     clear h1;go_enter Tryz.func36,Tryz.ntmps36
     go_wp2_with fail
     refine HM.out.mono ?_;rintro r w1 ⟨rfl,rfl⟩;clear HM;go_wp2;go_ret;exact ⟨rfl,rfl⟩
   · have d1:decide ((65536:Int)<(n:Int))=false:=by simp;omega
     by_cases h2:65536<m
     · rw [if_pos (.inr h2)]
       have d2:decide ((65536:Int)<(m:Int))=true:=by simp;omega
       clear h1 h2;go_enter Tryz.func36,Tryz.ntmps36
       go_wp2_with fail
       refine HM.out.mono ?_;rintro r w1 ⟨rfl,rfl⟩;clear HM;go_wp2;go_ret;exact ⟨rfl,rfl⟩
     · have d2:decide ((65536:Int)<(m:Int))=false:=by simp;omega
       rw [if_neg (by omega)]
       by_cases h3:n=m
       · rw [if_neg (by omega)]
         have d3:((n:Int) != (m:Int))=false:=by simp [h3]
         clear h1 h2;go_enter Tryz.func36,Tryz.ntmps36
         go_wp2_with fail
         refine HM.out.mono ?_;rintro r w1 ⟨rfl,rfl⟩;clear HM;go_wp2;go_ret;exact ⟨rfl,rfl⟩
       · rw [if_pos h3]
         have d3:((n:Int) != (m:Int))=true:=by simp;omega
         clear h1 h2;go_enter Tryz.func36,Tryz.ntmps36
         go_wp2_with fail
         refine HM.out.mono ?_;rintro r w1 ⟨rfl,rfl⟩;clear HM;go_wp2;go_ret;exact ⟨rfl,rfl⟩
theorem Fs.atb {B:Nat}{w w':World}{ao:Option Addr}{xs:List Nat}(h:Fs B w ao xs) (hb:Below B w w') (i:Nat) (hi:i<xs.length):∃ b off,b<B∧ao=some ⟨b,off,none⟩∧w'.cell? ⟨b,off+i,none⟩=some (.float .f64 (xs.getD i 0)):=by
 obtain ⟨b,off,h1,h2,h3⟩:=h (by intro e;subst e;simp at hi)
 exact ⟨b,off,h1,h2,(hb.cell (p:=⟨b,off+i,none⟩) h1).trans (h3 i hi)⟩
def dI (xs ys:List Nat):List (Nat×Int):=List.zipWith (fun x y=>(pK x y,pT x y)) xs ys
theorem dI_take (xs ys:List Nat) (k:Nat) (h1:k<xs.length) (h2:k<ys.length):dI (xs.take (k+1)) (ys.take (k+1))=dI (xs.take k) (ys.take k)++[(pK (xs.getD k 0) (ys.getD k 0),pT (xs.getD k 0) (ys.getD k 0))]:=by
 unfold dI;rw [take_snoc10 xs k h1,take_snoc10 ys k h2,List.zipWith_append (by simp;omega)]
 rfl
theorem dI_len (xs ys:List Nat):(dI xs ys).length=min xs.length ys.length:=by unfold dI;simp
def dotR (xs ys:List Nat) (mode pa pb:Int):Nat×Int:=if may pa pb=false then (0,1) else if rf12 mode xs.length ys.length=0 then rd10 (vI (dI xs ys)) (sI (dI xs ys)) mode pa pb else (0,rf12 mode xs.length ys.length)
theorem rf12_ok {mode:Int}{n m:Nat}(h:rf12 mode n m=0):0≤mode∧mode≤4∧n≤65536∧n=m:=by
 unfold rf12 at h
 split at h
 · omega
 · rename_i h1
   split at h
   · omega
   · split at h
     · omega
     · have h1:md mode=true:=by simpa using h1
       unfold md at h1;simp only [Bool.and_eq_true,decide_eq_true_eq] at h1;omega
theorem dot12_no (a b:Option Addr) (n c m d:Nat) (mode pa pb e:Int) (w:World) (hab:may pa pb=true) (he:rf12 mode n m=e) (h0:(e==0)=false) :
 Calls Tryz.prog 11 #[.slice a n c,.slice b m d,.int .i64 mode,.agg #[.int .i64 pa,.int .i64 pb]] w fun r w'=>r=.returned (.tuple #[.float .f64 0,.int .i64 e])∧Below w.heap.size w w':=by
 have HM:=hid (fun u:World=>May_any pa pb u)
 rw [hab] at HM;have HR:=hid (fun u:World=>refused12 mode a b n c m d u)
 rw [he] at HR;have h0':(e != 0)=true:=by simp at h0 ⊢;exact h0
 obtain ⟨W,hW⟩:∃ W,W=((w.alloc (Obj.cells #[.slice a n c] 22)).alloc (Obj.cells #[.slice b m d] 22)).alloc (Obj.cells #[.int .i64 pa,.int .i64 pb] 24):=⟨_,rfl⟩
 have H0:Aside (Below w.heap.size w W∧Bl W w.heap.size 22 [.slice a n c]∧Bl W (w.heap.size+1) 22 [.slice b m d]∧W.heap.size=w.heap.size+3):=by
  subst hW;exact ⟨((bel_alloc _ _).trans ((bel_alloc _ _).mono (by simp))).trans ((bel_alloc _ _).mono (by simp;omega)),((Bl.new w 22 [_]).alloc _).alloc _,(Bl.new' (w.alloc _) 22 _ [_] (by simp)).alloc _,by simp⟩
 clear hab he h0;go_enter Tryz.func11,Tryz.ntmps11
 go_wp2_with fail
 rw [←hW];clear hW;refine (HM.out _).mono ?_;rintro r w1 ⟨rfl,hb1⟩
 have K1:Aside (Below w.heap.size w w1∧Bl w1 w.heap.size 22 [.slice a n c]∧Bl w1 (w.heap.size+1) 22 [.slice b m d]) :=
  ⟨H0.out.1.trans (hb1.mono H0.out.1.size),H0.out.2.1.below hb1 (by have:=H0.out.2.2.2;omega),H0.out.2.2.1.below hb1 (by have:=H0.out.2.2.2;omega)⟩
 have c0:=K1.out.2.1.cell 0 _ rfl;have c1:=K1.out.2.2.cell 0 _ rfl;clear hb1 HM H0
 go_wp2_with fail
 refine (HR.out _).mono ?_;rintro r w2 ⟨rfl,rfl⟩;clear HR;go_wp2
 go_ret2
 exact ⟨rfl,K1.out.1⟩
theorem dot12_may (a b:Option Addr) (n c m d:Nat) (mode pa pb:Int) (w:World) (hab:may pa pb=false) :
 Calls Tryz.prog 11 #[.slice a n c,.slice b m d,.int .i64 mode,.agg #[.int .i64 pa,.int .i64 pb]] w fun r w'=>r=.returned (.tuple #[.float .f64 0,.int .i64 1])∧Below w.heap.size w w':=by
 have HM:=hid (fun u:World=>May_any pa pb u)
 rw [hab] at HM
 have H0:Aside (Below w.heap.size w (((w.alloc (Obj.cells #[.slice a n c] 22)).alloc (Obj.cells #[.slice b m d] 22)).alloc (Obj.cells #[.int .i64 pa,.int .i64 pb] 24))) :=
  ((bel_alloc _ _).trans ((bel_alloc _ _).mono (by simp))).trans ((bel_alloc _ _).mono (by simp;omega))
 clear hab;go_enter Tryz.func11,Tryz.ntmps11
 go_wp2_with fail
 refine (HM.out _).mono ?_;rintro r w1 ⟨rfl,hb1⟩;have K1:=qsd (H0.out.trans (hb1.mono H0.out.size));clear hb1 HM H0;go_wp2
 go_ret2
 exact ⟨rfl,K1.out⟩
theorem dot12_ok (xs ys:List Nat) (a b:Option Addr) (n c m d:Nat) (mode pa pb:Int) (w:World) (hn:n=xs.length) (hm:m=ys.length) (hF:Fs w.heap.size w a xs) (hG:Fs w.heap.size w b ys) (hW1:W64 xs) (hW2:W64 ys) (hT:Tab w) (hab:may pa pb=true) (he:rf12 mode n m=0) (X:Nat) (er:Int) (hX:rd10 (vI (dI xs ys)) (sI (dI xs ys)) mode pa pb=(X,er)) :
 Calls Tryz.prog 11 #[.slice a n c,.slice b m d,.int .i64 mode,.agg #[.int .i64 pa,.int .i64 pb]] w fun r w'=>r=.returned (.tuple #[.float .f64 X,.int .i64 er])∧Below w.heap.size w w':=by
 have HM:=hid (fun u:World=>May_any pa pb u)
 rw [hab] at HM;have HR:=hid (fun u:World=>refused12 mode a b n c m d u)
 rw [he] at HR;obtain ⟨o1,o2,o3,o4⟩:=rf12_ok he;obtain ⟨W,hW⟩:∃ W,W=((w.alloc (Obj.cells #[.slice a n c] 22)).alloc (Obj.cells #[.slice b m d] 22)).alloc (Obj.cells #[.int .i64 pa,.int .i64 pb] 24):=⟨_,rfl⟩
 have H0:Aside (Below w.heap.size w W∧Bl W w.heap.size 22 [.slice a n c]∧Bl W (w.heap.size+1) 22 [.slice b m d]∧Bl W (w.heap.size+2) 24 [.int .i64 pa,.int .i64 pb]∧W.heap.size=w.heap.size+3):=by
  subst hW;exact ⟨((bel_alloc _ _).trans ((bel_alloc _ _).mono (by simp))).trans ((bel_alloc _ _).mono (by simp;omega)),((Bl.new w 22 [_]).alloc _).alloc _,(Bl.new' (w.alloc _) 22 _ [_] (by simp)).alloc _,Bl.new' ((w.alloc _).alloc _) 24 _ [_,_] (by simp),by simp⟩
 have HX:=qsd (ai hn (ai hm (ai hF (ai hG (ai hW1 (ai hW2 (ai hT (ai hab (ai o1 (ai o2 (ai o3 (ai o4 hX))))))))))));clear hn hm hF hG hW1 hW2 hT hab he o1 o2 o3 o4 hX;go_enter Tryz.func11,Tryz.ntmps11
 go_wp2_with fail
 rw [←hW];clear hW;refine (HM.out _).mono ?_;rintro r w1 ⟨rfl,hb1⟩
 have K1:Aside (Below w.heap.size w w1∧Bl w1 w.heap.size 22 [.slice a n c]∧Bl w1 (w.heap.size+1) 22 [.slice b m d]∧Bl w1 (w.heap.size+2) 24 [.int .i64 pa,.int .i64 pb]∧w.heap.size+3≤w1.heap.size) :=
  ⟨H0.out.1.trans (hb1.mono H0.out.1.size),H0.out.2.1.below hb1 (by have:=H0.out.2.2.2.2;omega),H0.out.2.2.1.below hb1 (by have:=H0.out.2.2.2.2;omega),H0.out.2.2.2.1.below hb1 (by have:=H0.out.2.2.2.2;omega),by have:=hb1.size;have:=H0.out.2.2.2.2;omega⟩
 have c0:=K1.out.2.1.cell 0 _ rfl;have c1:=K1.out.2.2.1.cell 0 _ rfl;clear hb1 HM H0
 go_wp2_with fail
 refine (HR.out _).mono ?_;rintro r w2 ⟨rfl,rfl⟩;clear HR
 have HS:=hid (sum12D n w.heap.size (w.heap.size+1) (fun k=>dI (xs.take k) (ys.take k)) w2 (by simp [dI]) HX.out.2.2.2.2.2.2.2.2.2.2.1 (hid (by
  intro g h k u hg hh hk hA hc hb;obtain ⟨hn,hm,hF,hG,hW1,hW2,hT,hab,o1,o2,o3,o4,hX⟩:=HX.out;have hbu:=K1.out.1.trans (hb.mono K1.out.1.size);obtain ⟨b1,p1,l1,e1,d1⟩:=hF.atb hbu k (by omega)
  obtain ⟨b2,p2,l2,e2,d2⟩:=hG.atb hbu k (by omega)
  have q1:=(K1.out.2.1.below hb (by have:=K1.out.2.2.2.2;omega)).cell 0 _ rfl
  have q2:=(K1.out.2.2.1.below hb (by have:=K1.out.2.2.2.2;omega)).cell 0 _ rfl
  rw [e1] at q1;rw [e2] at q2;have hz:=K1.out.2.2.2.2
  try simp only at hA ⊢
  rw [dI_take xs ys k (by omega) (by omega)]
  exact hand12D w.heap.size (w.heap.size+1) g h k n m c d b1 p1 b2 p2 _ _ _ u hA (by rw [dI_len];simp;omega) (hW1.get k) (hW2.get k) hc q1 q2 d1 d2 hk (by omega) o3 ⟨by omega,by omega,by omega,by omega⟩)))
 go_wp2_with fail
 refine HS.out.mono ?_;rintro r w3 ⟨g,rfl,hA,hb3⟩;have K3:=qsd (ai hA (ai (K1.out.1.trans (hb3.mono K1.out.1.size)) (K1.out.2.2.2.1.below hb3 (by have:=K1.out.2.2.2.2;omega))))
 clear hA hb3 HS c0 c1 K1;have c0:=K3.out.2.2.cell 0 _ rfl;have c1:=K3.out.2.2.cell 1 _ rfl
 have HRd:Hid (Calls Tryz.prog 39 #[.pointer (some ⟨g,0,none⟩),.int .i64 mode,.agg #[.int .i64 pa,.int .i64 pb]] w3 fun r w'=>r=.returned (.tuple #[.float .f64 X,.int .i64 er])∧Below w3.heap.size w3 w'):=by
  obtain ⟨hn,hm,hF,hG,hW1,hW2,hT,hab,o1,o2,o3,o4,hX⟩:=HX.out;have hA:=K3.out.1;simp only [hn,show n=ys.length by omega] at hA
  rw [←o4,hn] at hm
  have hA:At12 w3 g (dI xs ys):=by
   have:=K3.out.1
   try simp only at this
   rw [List.take_of_length_le (by omega),List.take_of_length_le (by omega)] at this
   exact this
  have hR:=Round10 g (vI (dI xs ys)) (sI (dI xs ys)) mode pa pb w3 hA.1 (hA.ok (by rw [dI_len];omega)) (hT.belows K3.out.2.1) o1 o2 hab
  rw [hX] at hR;exact hR
 have KB:=qsd K3.out.2.1;clear K3 HX
 go_wp2_with fail
 refine HRd.out.mono ?_;rintro r w4 ⟨rfl,hb4⟩;have K4:=qsd (KB.out.trans (hb4.mono KB.out.size));clear hb4 HRd c0 c1;go_wp2
 go_ret2
 exact ⟨rfl,K4.out⟩
theorem Dot12 (xs ys:List Nat) (a b:Option Addr) (n c m d:Nat) (mode pa pb:Int) (w:World) (hn:n=xs.length) (hm:m=ys.length) (hF:Fs w.heap.size w a xs) (hG:Fs w.heap.size w b ys) (hW1:W64 xs) (hW2:W64 ys) (hT:Tab w) :
 Calls Tryz.prog 11 #[.slice a n c,.slice b m d,.int .i64 mode,.agg #[.int .i64 pa,.int .i64 pb]] w fun r w'=>r=.returned (.tuple #[.float .f64 (dotR xs ys mode pa pb).1,.int .i64 (dotR xs ys mode pa pb).2])∧Below w.heap.size w w':=by
 unfold dotR;rw [←hn,←hm]
 by_cases hab:may pa pb=false
 · rw [if_pos hab]
   exact dot12_may a b n c m d mode pa pb w hab
 · rw [if_neg hab]
   have hab:may pa pb=true:=by simpa using hab
   by_cases he:rf12 mode n m=0
   · rw [if_pos he]
     exact dot12_ok xs ys a b n c m d mode pa pb w hn hm hF hG hW1 hW2 hT hab he _ _ rfl
   · rw [if_neg he]
     exact dot12_no a b n c m d mode pa pb _ w hab rfl (by simpa using he)
end
section
open Go.RowKit
def cutS (Y size:Nat):Nat:=bl Y+size-262144
def higS (Y size:Nat):Nat:=Y/2^cutS Y size
def byS (X Y size:Nat):Int:=(bl (higS Y size):Int)+size-bl X
def levS (X Y size:Nat):Nat:=if byS X Y size<0 then X/2^(-byS X Y size).toNat else X*2^(byS X Y size).toNat
def who0 (X Y size:Nat):Nat:=levS X Y size/higS Y size
def lefS (X Y size:Nat):Nat:=levS X Y size%higS Y size
def lowS (Y size:Nat):Nat:=Y-higS Y size*2^cutS Y size
def hasS (X Y size:Nat):Nat:=lefS X Y size*2^cutS Y size
def takS (X Y size:Nat):Nat:=who0 X Y size*lowS Y size
def whoS (X Y size:Nat):Nat:=if hasS X Y size<takS X Y size then who0 X Y size-1 else who0 X Y size
def atS (X Y size:Nat):Bool:=decide (hasS X Y size=takS X Y size)&&decide (0≤byS X Y size)
structure DivS (X Y size:Nat):Prop where
 one:atS X Y size=true→X*2^((byS X Y size).toNat+cutS Y size)=whoS X Y size*Y*2^(-byS X Y size).toNat
 low:atS X Y size=false→whoS X Y size*Y*2^(-byS X Y size).toNat<X*2^((byS X Y size).toNat+cutS Y size)
 high:atS X Y size=false→X*2^((byS X Y size).toNat+cutS Y size)<(whoS X Y size+1)*Y*2^(-byS X Y size).toNat
 least:X≠0→2^(size-1)≤whoS X Y size+1
 most:whoS X Y size<2^(size+1)
 less:hasS X Y size<takS X Y size→1≤who0 X Y size
 hig:higS Y size≠0
 low':higS Y size*2^cutS Y size≤Y
 lowlt:lowS Y size<2^cutS Y size
 w0:who0 X Y size<2^(size+1)
 blh:bl (higS Y size)=bl Y-cutS Y size
 lev:levS X Y size<2^(bl (higS Y size)+size)
 lef:lefS X Y size<higS Y size
theorem bl_unique {X k:Nat}(h1:2^k≤X) (h2:X<2^(k+1)):bl X=k+1:=by
 have h0:X≠0:=by have:=Nat.two_pow_pos k;omega
 have a:=bl_lt X;have b:=bl_ge X h0;have c:=bl_pos X h0;have d1:=(Nat.pow_lt_pow_iff_right (a:=2) (by decide)).1 (Nat.lt_of_le_of_lt h1 a)
 have d2:=(Nat.pow_lt_pow_iff_right (a:=2) (by decide)).1 (Nat.lt_of_le_of_lt b h2)
 omega
theorem divS_facts (X Y size:Nat) (hX:X=0∨X%2=1) (hY:Y≠0) (hs0:1≤size) (hs:size≤1000) (hbX:bl X≤262144) (hbY:bl Y≤262144):DivS X Y size:=by
 obtain ⟨cut,ecut⟩:∃ c,cutS Y size=c:=⟨_,rfl⟩;obtain ⟨H,eH⟩:∃ c,higS Y size=c:=⟨_,rfl⟩;have eH':Y/2^cut=H:=by rw [←eH,←ecut];rfl
 have hD:0<2^cut:=Nat.two_pow_pos cut;have hYlt:=bl_lt Y;have hYge:=bl_ge Y hY;have hYpos:=bl_pos Y hY;have hcut:cut<bl Y∧(0<cut→cut=bl Y+size-262144):=by unfold cutS at ecut;omega
 have hH1:2^(bl Y-1-cut)≤H:=by
  rw [←eH',Nat.le_div_iff_mul_le hD,←Nat.pow_add,show bl Y-1-cut+cut=bl Y-1 by omega];exact hYge
 have hH2:H<2^(bl Y-1-cut+1):=by
  rw [←eH',Nat.div_lt_iff_lt_mul hD,←Nat.pow_add,show bl Y-1-cut+1+cut=bl Y by omega];exact hYlt
 have hblH:bl H=bl Y-cut:=by rw [bl_unique hH1 hH2];omega
 have hH0:0<H:=Nat.lt_of_lt_of_le (Nat.two_pow_pos _) hH1;have hHD:H*2^cut≤Y:=by rw [←eH'];exact Nat.div_mul_le_self _ _
 have hYdm:H*2^cut+Y%2^cut=Y:=by rw [←eH',Nat.mul_comm];exact Nat.div_add_mod Y _
 have hYm:=Nat.mod_lt Y hD;obtain ⟨Lo,eLo⟩:∃ c,lowS Y size=c:=⟨_,rfl⟩;have eLo':Y-H*2^cut=Lo:=by rw [←eLo];unfold lowS;rw [eH,ecut]
 have hLo:Lo<2^cut:=by omega
 have hYs:Y=H*2^cut+Lo:=by omega
 obtain ⟨b,eb⟩:∃ b,byS X Y size=b:=⟨_,rfl⟩;have eb':(bl H:Int)+size-bl X=b:=by rw [←eb];unfold byS;rw [eH]
 obtain ⟨lev,elev⟩:∃ c,levS X Y size=c:=⟨_,rfl⟩;have elev':(if b<0 then X/2^(-b).toNat else X*2^b.toNat)=lev:=by rw [←elev];unfold levS;rw [eb]
 obtain ⟨W0,eW0⟩:∃ c,who0 X Y size=c:=⟨_,rfl⟩;have eW0':lev/H=W0:=by rw [←eW0];unfold who0;rw [elev,eH]
 obtain ⟨Lf,eLf⟩:∃ c,lefS X Y size=c:=⟨_,rfl⟩;have eLf':lev%H=Lf:=by rw [←eLf];unfold lefS;rw [elev,eH]
 have hdm:H*W0+Lf=lev:=by rw [←eW0',←eLf'];exact Nat.div_add_mod lev H
 have hLf:Lf<H:=by rw [←eLf'];exact Nat.mod_lt _ hH0
 have eHas:hasS X Y size=Lf*2^cut:=by unfold hasS;rw [eLf,ecut]
 have eTak:takS X Y size=W0*Lo:=by unfold takS;rw [eW0,eLo]
 have hXlt:=bl_lt X
 have hlevlt:lev<2^(bl H+size):=by
  rw [←elev']
  split
  · rename_i hb
    rw [Nat.div_lt_iff_lt_mul (Nat.two_pow_pos _),←Nat.pow_add,show bl H+size+(-b).toNat=bl X by omega];exact hXlt
  · rename_i hb
    refine Nat.lt_of_lt_of_le (Nat.mul_lt_mul_of_pos_right hXlt (Nat.two_pow_pos _)) ?_;rw [←Nat.pow_add];exact Nat.pow_le_pow_right (by decide) (by omega)
 have hW0lt:W0<2^(size+1):=by
  rw [←eW0',Nat.div_lt_iff_lt_mul hH0];refine Nat.lt_of_lt_of_le hlevlt ?_;have:2^(size+1)*2^(bl Y-1-cut)≤2^(size+1)*H:=Nat.mul_le_mul_left _ hH1;rw [←Nat.pow_add,show size+1+(bl Y-1-cut)=bl H+size by omega] at this
  exact this
 have hW0ge:X≠0→2^(size-1)≤W0:=by
  intro h0;have hXge:=bl_ge X h0;have hXp:=bl_pos X h0
  have hl:2^(bl H+size-1)≤lev:=by
   rw [←elev']
   split
   · rename_i hb
     rw [Nat.le_div_iff_mul_le (Nat.two_pow_pos _),←Nat.pow_add,show bl H+size-1+(-b).toNat=bl X-1 by omega];exact hXge
   · rename_i hb
     refine Nat.le_trans ?_ (Nat.mul_le_mul_right _ hXge);rw [←Nat.pow_add];exact Nat.pow_le_pow_right (by decide) (by omega)
  rw [←eW0',Nat.le_div_iff_mul_le hH0];refine Nat.le_trans ?_ hl;have:2^(size-1)*H≤2^(size-1)*2^(bl H):=Nat.mul_le_mul_left _ (Nat.le_of_lt (bl_lt H));rw [←Nat.pow_add,show size-1+bl H=bl H+size-1 by omega] at this
  exact this
 -- whole times the low end is below Y
 have hWL:W0*Lo<Y:=by
  by_cases hc:cut=0
  · subst hc
    have:Lo=0:=by simpa using hLo
    rw [this,Nat.mul_zero];omega
  · have h1:W0*Lo<2^(size+1)*2^cut:=Nat.mul_lt_mul'' hW0lt hLo
    rw [←Nat.pow_add] at h1;refine Nat.lt_of_lt_of_le h1 (Nat.le_trans ?_ hYge);exact Nat.pow_le_pow_right (by decide) (by omega)
 -- what the level is,by whole
 have hsum:lev*2^cut+W0*Lo=W0*Y+Lf*2^cut:=by
  rw [←hdm,hYs,Nat.add_mul,Nat.mul_add,Nat.mul_comm H W0,Nat.mul_assoc];omega
 have hLfD:Lf*2^cut<Y:=Nat.lt_of_lt_of_le (Nat.mul_lt_mul_of_pos_right hLf hD) hHD
 have hless:hasS X Y size<takS X Y size→1≤W0:=by
  intro h;rw [eHas,eTak] at h
  rcases Nat.eq_zero_or_pos W0 with q|q
  · rw [q,Nat.zero_mul] at h;omega
  · exact q
 have eWho:whoS X Y size=if Lf*2^cut<W0*Lo then W0-1 else W0:=by unfold whoS;rw [eHas,eTak,eW0]
 have eAt:atS X Y size=(decide (Lf*2^cut=W0*Lo)&&decide (0≤b)):=by unfold atS;rw [eHas,eTak,eb]
 have key:(atS X Y size=true→X*2^(b.toNat+cut)=whoS X Y size*Y*2^(-b).toNat)∧(atS X Y size=false→whoS X Y size*Y*2^(-b).toNat<X*2^(b.toNat+cut)∧X*2^(b.toNat+cut)<(whoS X Y size+1)*Y*2^(-b).toNat):=by
  rw [eAt,eWho]
  by_cases hb:b<0
  · have hc0:cut=0:=by omega
    have hX0:X≠0:=by intro h;rw [h,bl_zero] at eb';omega
    have hXo:X%2=1:=by omega
    rw [if_pos hb] at elev';subst hc0;have hL0:Lo=0:=by simpa using hLo
    have hb1:b.toNat=0:=by omega
    rw [hL0,Nat.mul_zero,if_neg (by omega),hb1,Nat.add_zero,Nat.pow_zero,Nat.mul_one]
    rw [hL0,Nat.pow_zero,Nat.mul_one,Nat.mul_one,Nat.mul_zero] at hsum;rw [decide_eq_false (show ¬ 0≤b by omega),Bool.and_false]
    refine ⟨fun h=>(by cases h),fun _=>?_⟩
    obtain ⟨k,hk⟩:∃ k,(-b).toNat=k:=⟨_,rfl⟩;have hk0:0<k:=by omega
    rw [hk] at elev' ⊢;have hP:=Nat.two_pow_pos k;have hxm:2^k*lev+X%2^k=X:=by rw [←elev'];exact Nat.div_add_mod X _
    have hxl:=Nat.mod_lt X hP
    have hx0:X%2^k≠0:=by
     intro h;rw [h] at hxm;rw [show k=k-1+1 by omega,Nat.pow_succ,Nat.mul_comm _ 2,Nat.mul_assoc] at hxm
     omega
    have h1:W0*Y≤lev:=by omega
    have h2:lev+1≤(W0+1)*Y:=by
     rw [Nat.add_mul,Nat.one_mul];rw [Nat.pow_zero,Nat.mul_one] at hLfD;omega
    have h3:=Nat.mul_le_mul_right (2^k) h1;have h4:=Nat.mul_le_mul_right (2^k) h2;rw [Nat.add_mul,Nat.one_mul] at h4;rw [Nat.mul_comm] at hxm;omega
  · rw [if_neg hb] at elev'
    have hb1:(-b).toNat=0:=by omega
    rw [hb1,Nat.pow_zero,Nat.mul_one,Nat.mul_one,decide_eq_true (show 0≤b by omega),Bool.and_true]
    have e1:X*2^(b.toNat+cut)=lev*2^cut:=by rw [Nat.pow_add,←Nat.mul_assoc,elev']
    rw [e1];generalize lev*2^cut=L at *;generalize Lf*2^cut=A at *;generalize hT:W0*Lo=T at *
    by_cases hlt:A<T
    · rw [if_pos hlt]
      have hW1:1≤W0:=hless (by rw [eHas,eTak];exact hlt)
      obtain ⟨W,rfl⟩:∃ W,W0=W+1:=⟨W0-1,by omega⟩
      rw [Nat.add_sub_cancel];rw [Nat.add_mul,Nat.one_mul] at hsum ⊢;refine ⟨fun h=>?_,fun _=>by omega⟩
      have:=of_decide_eq_true h;omega
    · rw [if_neg hlt]
      rw [Nat.add_mul,Nat.one_mul];refine ⟨fun h=>?_,fun h=>?_⟩
      · have:=of_decide_eq_true h;omega
      · have:=of_decide_eq_false h;omega
 refine ⟨?_,?_,?_,?_,?_,?_,?_,?_,?_,?_,?_,?_,?_⟩
 · rw [eb,ecut];exact key.1
 · rw [eb,ecut];exact fun h=>(key.2 h).1
 · rw [eb,ecut];exact fun h=>(key.2 h).2
 · intro h
   have:=hW0ge h;rw [eWho];split <;> omega
 · rw [eWho];split <;> omega
 · rw [eW0];exact hless
 · rw [eH];omega
 · rw [eH,ecut];exact hHD
 · rw [eLo,ecut];exact hLo
 · rw [eW0];exact hW0lt
 · rw [eH,ecut];exact hblH
 · rw [elev,eH];exact hlevlt
 · rw [eLf,eH];exact hLf
def clampE (h:Int):Int:=min (max (h-1) (-4096)) 4096
def hvW (W:Nat) (x:Int):Nat:=if x%2=0 then W else W/2
def hvX (x:Int):Int:=if x%2=0 then x else x+1
def hvA (W:Nat) (x:Int) (t:Bool):Bool:=if x%2=0 then t else t&&decide (W%2=0)
end
section
open Go.RowKit
theorem Div_arg {w:World}{a b:Option Addr}{n c m d:Nat}{xs ys:List Nat}{V U:Nat}{z:Int}(h1:Arg w a n c xs) (h2:Arg w b m d ys) (e:divS (val xs) (val ys)=(V,U,z)) :
 Calls Tryz.prog 204 #[.slice a n c,.slice b m d] w fun r w'=>∃ v u,r=.returned (.tuple #[v,u,.int .i64 z])∧Nt w.heap.size w' v V∧Nt w.heap.size w' u U∧Below w.heap.size w w' :=
 (Div_any xs ys a b n c m d w.heap.size w h1.len h2.len h1.cap h2.cap (by have:=h1.big;omega) (by have:=h2.big;omega) h1.wf h2.wf h1.rd h2.rd (Nat.le_refl _)).mono
  fun r w' ⟨⟨v,u,h3,h4,h5,h6⟩,hb⟩=>by rw [e] at h3 h4 h5;exact ⟨v,u,h3,h4,h5,hb⟩
end
section
open Go.RowKit
theorem Root_arg {w:World}{a:Option Addr}{n c:Nat}{xs:List Nat}{q l:Nat}(h1:Arg w a n c xs) (hq:IsRoot (val xs) q) (hl:val xs-q*q=l) :
 Calls Tryz.prog 180 #[.slice a n c] w fun r w'=>∃ v u,r=.returned (.tuple #[v,u])∧Nt w.heap.size w' v q∧Nt w.heap.size w' u l∧Below w.heap.size w w' :=
 (root_any xs a n c w.heap.size w h1.len h1.cap h1.big h1.wf h1.rd (Nat.le_refl _)).mono
  fun r w' ⟨q',hq',⟨v,u,h3,h4,h5,h6⟩,hb⟩=>by
   have:=hq'.unique hq;subst this;rw [hl] at h5;exact ⟨v,u,h3,h4,h5,hb⟩
end
section
open Go.RowKit
theorem Len_arg {w:World}{a:Option Addr}{n c:Nat}{xs:List Nat}{k:Nat}(h1:Arg w a n c xs) (e:bl (val xs)=k) :
 Calls Tryz.prog 147 #[.slice a n c] w fun r w'=>r=.returned (.int .i64 (k:Nat))∧Below w.heap.size w w':=by
 subst e;exact (len_any xs a n c w.heap.size w h1.len h1.cap (by have:=h1.big;omega) h1.wf h1.rd).mono fun r w' ⟨h,e⟩=>⟨h,by rw [e];exact Below.refl _ _⟩
theorem shiftS_up {X V:Nat}{k:Nat}(hX:¬ LG X) (hb:X=0∨bl X+k≤262144) (e:X*2^k=V):shiftS X (k:Int)=(V,0):=by
 unfold shiftS;rw [if_neg hX]
 by_cases h0:X=0
 · rw [if_pos h0,←e,h0,Nat.zero_mul]
 · rw [if_neg h0,if_neg (by omega),if_neg (by omega)]
   simp [e]
theorem shiftS_dn {X V:Nat}{k:Nat}(hX:¬ LG X) (e:X/2^k=V):shiftS X (-(k:Int))=(V,0):=by
 unfold shiftS;rw [if_neg hX]
 by_cases h0:X=0
 · rw [if_pos h0,←e,h0,Nat.zero_div]
 · rw [if_neg h0]
   by_cases hk:k=0
   · subst hk
     rw [if_neg (by simp),if_neg (by have:=mt (LG_bl X).2 hX;omega)]
     simp at e;simp [e]
   · rw [if_pos (by omega)]
     simp [e]
theorem divS_ok {X Y:Nat}(h1:¬ LG X) (h2:¬ LG Y) (h:Y≠0) {V U:Nat}(e1:X/Y=V) (e2:X%Y=U):divS X Y=(V,U,0):=by
 unfold divS;rw [if_neg (by simp [h1,h2]),if_neg h,e1,e2]
theorem cmpLow_any {w:World}{a b q h:Option Addr}{ca cb cq ch:Nat}(W0 Lf Y H cut Bk Lo Tk' Hs:Nat) (z:Int) (AW:Arg w a (ws W0).length ca (ws W0)) (AL:Arg w b (ws Lf).length cb (ws Lf)) (AY:Arg w q (ws Y).length cq (ws Y)) (AH:Arg w h (ws H).length ch (ws H))
 (hc:cut≤4611686018427387904) (e1:shiftS H (cut:Int)=(Bk,0)) (e2:subS Y Bk=(Lo,0)) (e3:mulS W0 Lo=(Tk',0)) (e4:shiftS Lf (cut:Int)=(Hs,0)) (e5:cmpI Hs Tk'=z)
 (l1:(ws Bk).length≤8192) (l2:(ws Lo).length≤8192) (l3:(ws Tk').length≤8192) (l4:(ws Hs).length≤8192) :
 Calls Tryz.prog 205 #[.slice a (ws W0).length ca,.slice b (ws Lf).length cb,.slice q (ws Y).length cq,.slice h (ws H).length ch,.int .i64 (cut:Nat)] w fun r w'=>r=.returned (.int .i64 z)∧Below w.heap.size w w':=by
 rw [←val_ws H] at e1;rw [←val_ws Y,←val_ws Bk] at e2;rw [←val_ws W0,←val_ws Lo] at e3;rw [←val_ws Lf] at e4;rw [←val_ws Hs,←val_ws Tk'] at e5;have E:=(qsd (ai e1 (ai e2 (ai e3 (ai e4 e5)))));clear e1 e2 e3 e4 e5;have hbel:=Below.refl w.heap.size w;have S0:=(qsd (ai hbel (ai AW (ai AL (ai AY AH)))));clear hbel;clear AW AL AY AH;go_enter Tryz.func205,Tryz.ntmps205;obtain ⟨bel,AW,AL,AY,AH⟩:=S0.out;have HC:=hid (Shift_arg (cut:Int) AH E.out.1 (by omega) (by omega))
 clear bel AW AL AY AH
 go_wp2_with fail
 refine HC.out.mono ?_;rintro r u1 ⟨v,rfl,hN,hb⟩;obtain ⟨a1,c1,rfl,_⟩:=hN.arg (by omega)
 clear HC;obtain ⟨bel,AW,AL,AY,AH⟩:=S0.out;have hbn:=bel.trans (hb.mono bel.size);have S1:=qsd (ai hbn (ai (AW.below hb) (ai (AL.below hb) (ai (AY.below hb) (ai (AH.below hb) (hN.mono bel.size))))));clear bel AW AL AY AH;clear hb hbn S0;clear hN;obtain ⟨bel,AW,AL,AY,AH,NB⟩:=S1.out;have HC:=hid (Sub_arg AY (NB.arg' (by omega)).2 E.out.2.1)
 clear bel AW AL AY AH NB
 go_wp2_with fail
 refine HC.out.mono ?_;rintro r u2 ⟨v,rfl,hN,hb⟩;obtain ⟨a2,c2,rfl,_⟩:=hN.arg (by omega)
 clear HC;obtain ⟨bel,AW,AL,AY,AH,NB⟩:=S1.out;have hbn:=bel.trans (hb.mono bel.size);have S2:=qsd (ai hbn (ai (AW.below hb) (ai (AL.below hb) (ai (AY.below hb) (ai (AH.below hb) (ai (NB.below hb) (hN.mono bel.size)))))));clear bel AW AL AY AH NB;clear hb hbn S1;clear hN;obtain ⟨bel,AW,AL,AY,AH,NB,NL⟩:=S2.out;have HC:=hid (Mul_arg AW (NL.arg' (by omega)).2 E.out.2.2.1)
 clear bel AW AL AY AH NB NL
 go_wp2_with fail
 refine HC.out.mono ?_;rintro r u3 ⟨v,rfl,hN,hb⟩;obtain ⟨a3,c3,rfl,_⟩:=hN.arg (by omega)
 clear HC;obtain ⟨bel,AW,AL,AY,AH,NB,NL⟩:=S2.out;have hbn:=bel.trans (hb.mono bel.size);have S3:=qsd (ai hbn (ai (AW.below hb) (ai (AL.below hb) (ai (AY.below hb) (ai (AH.below hb) (ai (NB.below hb) (ai (NL.below hb) (hN.mono bel.size))))))));clear bel AW AL AY AH NB NL;clear hb hbn S2;clear hN;obtain ⟨bel,AW,AL,AY,AH,NB,NL,NT⟩:=S3.out;have HC:=hid (Shift_arg (cut:Int) AL E.out.2.2.2.1 (by omega) (by omega))
 clear bel AW AL AY AH NB NL NT
 go_wp2_with fail
 refine HC.out.mono ?_;rintro r u4 ⟨v,rfl,hN,hb⟩;obtain ⟨a4,c4,rfl,_⟩:=hN.arg (by omega)
 clear HC;obtain ⟨bel,AW,AL,AY,AH,NB,NL,NT⟩:=S3.out;have hbn:=bel.trans (hb.mono bel.size);have S4:=qsd (ai hbn (ai (AW.below hb) (ai (AL.below hb) (ai (AY.below hb) (ai (AH.below hb) (ai (NB.below hb) (ai (NL.below hb) (ai (NT.below hb) (hN.mono bel.size)))))))));clear bel AW AL AY AH NB NL NT;clear hb hbn S3;clear hN;obtain ⟨bel,AW,AL,AY,AH,NB,NL,NT,NS⟩:=S4.out;have HC:=hid (Cmp_arg (NS.arg' (by omega)).2 (NT.arg' (by omega)).2 z E.out.2.2.2.2)
 clear bel AW AL AY AH NB NL NT NS
 go_wp2_with fail
 refine HC.out.mono ?_;rintro r u5 ⟨rfl,hb⟩;clear HC;obtain ⟨bel,AW,AL,AY,AH,NB,NL,NT,NS⟩:=S4.out;have hbn:=bel.trans (hb.mono bel.size);have S5:=qsd (ai hbn (ai (AW.below hb) (ai (AL.below hb) (ai (AY.below hb) (ai (AH.below hb) (ai (NB.below hb) (ai (NL.below hb) (ai (NT.below hb) (NS.below hb)))))))));clear bel AW AL AY AH NB NL NT NS;clear hb hbn S4;have hbW:=hid S5.out.1;clear S5 E;go_wp2;go_ret;exact ⟨rfl,hbW.out⟩
end
section
open Go.RowKit
def Tk (w:World) (g T:Nat) (x y z:Value):Prop:=w.heap[g]?=some (.cells #[x,y,z] T (0,0))
theorem Tk.lt {w:World}{g T:Nat}{x y z:Value}(h:Tk w g T x y z):g<w.heap.size:=(Array.getElem?_eq_some_iff.1 h).1
theorem Tk.below {w w':World}{g T:Nat}{x y z:Value}(h:Tk w g T x y z) (hb:Below w.heap.size w w'):Tk w' g T x y z:=by
 unfold Tk;rw [hb.block g h.lt];exact h
theorem Tk.alloc {w:World}{g T:Nat}{x y z:Value}(h:Tk w g T x y z) (o:Obj):Tk (w.alloc o) g T x y z:=h.below (below_alloc w o)
theorem Tk.new (w:World) (T:Nat) (x y z:Value):Tk (w.alloc (.cells #[x,y,z] T)) w.heap.size T x y z:=heap_alloc_new _ _
theorem Tk.facts {w:World}{g T:Nat}{x y z:Value}(h:Tk w g T x y z) :
 w.cell? ⟨g,0,none⟩=some x∧w.cell? ⟨g,1,none⟩=some y∧w.cell? ⟨g,2,none⟩=some z∧w.frozen? ⟨g,0,none⟩=false∧w.frozen? ⟨g,1,none⟩=false∧w.frozen? ⟨g,2,none⟩=false:=by
 unfold Tk at h;simp [World.cell?,World.frozen?,h]
theorem Tk.set {w:World}{g T:Nat}{x y z:Value}(h:Tk w g T x y z) (a b c:Value):Tk (st3 w g a b c) g T a b c:=by
 unfold Tk at h ⊢;simp [st3,World.setCell,Array.getElem?_modify,h]
theorem Tk.but {w w':World}{g g' T:Nat}{x y z:Value}(h:Tk w g T x y z) (hb:But g' w w') (hg:g≠g'):Tk w' g T x y z:=by
 unfold Tk;rw [hb.block g h.lt hg];exact h
def Rq (w:World) (g:Nat) (n:Bool) (v:Value) (e:Int) (m:Bool) (u:Value) (f:Int):Prop:=w.heap[g]?=some (.cells #[.bool n,v,.int .i64 e,.bool m,u,.int .i64 f] 119 (0,0))
theorem Rq.lt {w:World}{g:Nat}{n:Bool}{v:Value}{e:Int}{m:Bool}{u:Value}{f:Int}(h:Rq w g n v e m u f):g<w.heap.size:=(Array.getElem?_eq_some_iff.1 h).1
theorem Rq.below {w w':World}{g:Nat}{n:Bool}{v:Value}{e:Int}{m:Bool}{u:Value}{f:Int}(h:Rq w g n v e m u f) (hb:Below w.heap.size w w'):Rq w' g n v e m u f:=by
 unfold Rq;rw [hb.block g h.lt];exact h
theorem Rq.alloc {w:World}{g:Nat}{n:Bool}{v:Value}{e:Int}{m:Bool}{u:Value}{f:Int}(h:Rq w g n v e m u f) (o:Obj):Rq (w.alloc o) g n v e m u f:=h.below (below_alloc w o)
theorem Rq.new (w:World) (n:Bool) (v:Value) (e:Int) (m:Bool) (u:Value) (f:Int):Rq (w.alloc (.cells #[.bool n,v,.int .i64 e,.bool m,u,.int .i64 f] 119)) w.heap.size n v e m u f:=heap_alloc_new _ _
theorem Rq.facts {w:World}{g:Nat}{n:Bool}{v:Value}{e:Int}{m:Bool}{u:Value}{f:Int}(h:Rq w g n v e m u f) :
 w.cell? ⟨g,0,none⟩=some (.bool n)∧w.cell? ⟨g,1,none⟩=some v∧w.cell? ⟨g,2,none⟩=some (.int .i64 e)∧w.cell? ⟨g,3,none⟩=some (.bool m)∧w.cell? ⟨g,4,none⟩=some u∧w.cell? ⟨g,5,none⟩=some (.int .i64 f):=by
 unfold Rq at h;simp [World.cell?,h]
theorem Rq.frz {w:World}{g:Nat}{n:Bool}{v:Value}{e:Int}{m:Bool}{u:Value}{f:Int}(h:Rq w g n v e m u f) :
 w.frozen? ⟨g,0,none⟩=false∧w.frozen? ⟨g,1,none⟩=false∧w.frozen? ⟨g,2,none⟩=false∧w.frozen? ⟨g,3,none⟩=false∧w.frozen? ⟨g,4,none⟩=false∧w.frozen? ⟨g,5,none⟩=false:=by
 unfold Rq at h;simp [World.frozen?,h]
abbrev st6 (w:World) (g:Nat) (a b c d e f:Value):World:=(((((w.setCell ⟨g,0,none⟩ a).setCell ⟨g,1,none⟩ b).setCell ⟨g,2,none⟩ c).setCell ⟨g,3,none⟩ d).setCell ⟨g,4,none⟩ e).setCell ⟨g,5,none⟩ f
theorem st6_but (g:Nat) (w:World) (a b c d e f:Value):But g w (st6 w g a b c d e f):=((((((But.refl g w).set _ _).set _ _).set _ _).set _ _).set _ _).set _ _
theorem Rq.set {w:World}{g:Nat}{n:Bool}{v:Value}{e:Int}{m:Bool}{u:Value}{f:Int}(h:Rq w g n v e m u f) (n':Bool) (v':Value) (e':Int) (m':Bool) (u':Value) (f':Int) :
 Rq (st6 w g (.bool n') v' (.int .i64 e') (.bool m') u' (.int .i64 f')) g n' v' e' m' u' f':=by
 unfold Rq at h ⊢;simp [st6,World.setCell,Array.getElem?_modify,h]
theorem Nt.off {lo:Nat}{w w':World}{v:Value}{X g:Nat}(h:Nt lo w v X) (hb:But g w w') (hg:v.ownBlock≠Option.some g):Nt lo w' v X:=by
 refine ⟨h.1,?_⟩
 rcases h.2 with hn|⟨g',cap,cur,rfl,hlo,hg',rest⟩
 · exact .inl hn
 · refine .inr ⟨g',cap,cur,rfl,hlo,?_,rest⟩
   rw [hb.block g' (Array.getElem?_eq_some_iff.1 hg').1 (by intro e;subst e;exact hg (by simp [Value.ownBlock]))];exact hg'
theorem Nt.notin {lo:Nat}{w:World}{v:Value}{X g T:Nat}{C:Array Value}{fz:Nat×Nat}(h:Nt lo w v X) (hT:T≠133) (hg:w.heap[g]?=Option.some (.cells C T fz)):v.ownBlock≠Option.some g:=by
 intro e
 rcases h.2 with ⟨rfl,_⟩|⟨g',cap,cur,rfl,_,h2,_⟩
 · simp [Value.ownBlock] at e
 · simp [Value.ownBlock] at e
   subst e;rw [hg] at h2;simp at h2;exact hT h2.2.1
theorem Nt.st3k {lo:Nat}{w:World}{v:Value}{X g T:Nat}{x y z:Value}(h:Nt lo w v X) (D:Tk w g T x y z) (hT:T≠133) (a b c:Value):Nt lo (st3 w g a b c) v X:=h.off (set3_but g w a b c) (h.notin hT D)
theorem Nt.st6k {lo:Nat}{w:World}{v:Value}{X g:Nat}{n:Bool}{p:Value}{e:Int}{m:Bool}{u:Value}{f:Int}(h:Nt lo w v X) (D:Rq w g n p e m u f) (a b c d q r:Value):Nt lo (st6 w g a b c d q r) v X:=h.off (st6_but g w a b c d q r) (h.notin (by decide) D)
theorem below_st3 {B g:Nat}{a w:World}(h:Below B a w) (hB:B≤w.heap.size) (hg:B≤g) (x y z:Value):Below B a (st3 w g x y z):=But.below h (set3_but g w x y z) hB hg
theorem below_st6 {B g:Nat}{a w:World}(h:Below B a w) (hB:B≤w.heap.size) (hg:B≤g) (x y z p q r:Value):Below B a (st6 w g x y z p q r):=But.below h (st6_but g w x y z p q r) hB hg
def Ap (v u:Value):Prop:=∀ g,v.ownBlock=some g→u.ownBlock≠some g
theorem Nt.blk {lo:Nat}{w:World}{v:Value}{X g:Nat}(h:Nt lo w v X) (hg:v.ownBlock=Option.some g):lo≤g∧g<w.heap.size:=by
 rcases h.2 with ⟨rfl,_⟩|⟨g',cap,cur,rfl,h1,h2,_⟩
 · simp [Value.ownBlock] at hg
 · simp [Value.ownBlock] at hg
   subst hg;exact ⟨h1,(Array.getElem?_eq_some_iff.1 h2).1⟩
theorem Nt.ap {lo:Nat}{w w':World}{v u:Value}{X Y:Nat}(h:Nt lo w v X) (k:Nt w.heap.size w' u Y):Ap v u:=by
 intro g hg hu;have:=(h.blk hg).2;have:=(k.blk hu).1;omega
theorem ws0:(ws 0).length=0:=by rw [ws_zero];rfl
end
section
open Go.RowKit
theorem divided_res (W:World) (g:Nat) (v:Value) (x:Int) (t:Bool) (tmps:Array Value) (ht:tmps[4]?.getD undef=.pointer (some ⟨g,0,none⟩)) (D:Tk W g 195 v (.int .i64 x) (.bool t)) :
 (results Tryz.f178 tmps).run Tryz.prog W=.ok (.agg #[v,.int .i64 x,.bool t]) W:=by
 obtain ⟨x0,x1,x2,_,_,_⟩:=D.facts;simp [results,Tryz.results178,ht,go_sem,x0,x1,x2]
theorem div_begin (w:World) (n:Bool) (v:Value) (e:Int) (m:Bool) (u:Value) (f:Int) (W:World) (hW:W=(w.alloc (.cells #[.bool n,v,.int .i64 e,.bool m,u,.int .i64 f] 119)).alloc (.cells #[.slice none 0 0,.int .i64 0,.bool false] 195)) :
 Below w.heap.size w W∧W.heap.size=w.heap.size+2∧Rq W w.heap.size n v e m u f∧Tk W (w.heap.size+1) 195 (.slice none 0 0) (.int .i64 0) (.bool false):=by
 rw [hW];refine ⟨(below_alloc w _).alloc (by simp) _,by simp,(Rq.new _ _ _ _ _ _ _).alloc _,?_⟩
 have:=Tk.new (w.alloc (.cells #[.bool n,v,.int .i64 e,.bool m,u,.int .i64 f] 119)) 195 (.slice none 0 0) (.int .i64 0) (.bool false);simpa using this
theorem divided_pos {w:World}{a b:Option Addr}{ca cb:Nat}(n m:Bool) (X Y:Nat) (e f:Int) (size lX lY lH cut H lev W0 Lf WH:Nat) (t bb z x y1 y2:Int) (tt:Bool)
 (AX:Arg w a (ws X).length ca (ws X)) (AY:Arg w b (ws Y).length cb (ws Y))
 (he0:-1048576≤e) (he1:e≤1048576) (hf0:-1048576≤f) (hf1:f≤1048576) (hs:size≤1000) (hlY:bl Y=lY) (hlX:bl X=lX) (hlH:bl H=lH) (bX:lX≤262144) (bY:lY≤262144) (bH:lH≤262144)
 (ht:(lY:Int)+(size:Int)-262144=t) (hcut:max t 0=(cut:Int)) (bcut:cut≤2000)
 (e1:shiftS Y (-(cut:Int))=(H,0)) (hbb:(lH:Int)+(size:Int)-(lX:Int)=bb) (e2:shiftS X bb=(lev,0)) (e3:divS lev H=(W0,Lf,0))
 (HL:Hid (∀ (u:World) (p q r s:Option Addr) (cp cq cr cs:Nat),Arg u p (ws W0).length cp (ws W0)→Arg u q (ws Lf).length cq (ws Lf)→Arg u r (ws Y).length cr (ws Y)→Arg u s (ws H).length cs (ws H)→Calls Tryz.prog 205 #[.slice p (ws W0).length cp,.slice q (ws Lf).length cq,.slice r (ws Y).length cr,.slice s (ws H).length cs,.int .i64 (cut:Nat)] u fun r w'=>r=.returned (.int .i64 z)∧Below u.heap.size u w'))
 (hz:decide (z<0)=false)
 (h1:e-f=y1) (h2:y1-bb=y2) (h3:y2-(cut:Int)=x) (htt:(decide (z=0)&&decide (0≤bb))=tt)
 (l1:(ws H).length≤8192) (l2:(ws lev).length≤8192) (l3:(ws W0).length≤8192) (l4:(ws Lf).length≤8192) :
 Calls Tryz.prog 178 #[.agg #[.bool n,.slice a (ws X).length ca,.int .i64 e,.bool m,.slice b (ws Y).length cb,.int .i64 f],.int .i64 (size:Nat)] w fun r w'=>(∃ v,r=.returned (.agg #[v,.int .i64 x,.bool tt])∧Nt w.heap.size w' v W0)∧Below w.heap.size w w':=by
 obtain ⟨W1,hW1⟩:∃ W,W=(w.alloc (.cells #[.bool n,.slice a (ws X).length ca,.int .i64 e,.bool m,.slice b (ws Y).length cb,.int .i64 f] 119)).alloc (.cells #[.slice none 0 0,.int .i64 0,.bool false] 195):=⟨_,rfl⟩;obtain ⟨hB,hz1,RQ,SK⟩:=div_begin w n _ e m _ f W1 hW1;have e1':shiftS (val (ws Y)) (-(cut:Int))=(H,0):=by rw [val_ws];exact e1
 have e2':shiftS (val (ws X)) bb=(lev,0):=by rw [val_ws];exact e2
 have e3':divS (val (ws lev)) (val (ws H))=(W0,Lf,0):=by rw [val_ws,val_ws];exact e3
 have lY':bl (val (ws Y))=lY:=by rw [val_ws];exact hlY
 have lX':bl (val (ws X))=lX:=by rw [val_ws];exact hlX
 have lH':bl (val (ws H))=lH:=by rw [val_ws];exact hlH
 have E:=(qsd (ai e1' (ai e2' (ai e3' (ai lY' (ai lX' lH'))))));have SZ:=(qsd (ai hz1 hB));have hs2:w.heap.size+2≤W1.heap.size:=by omega
 have hbel:=hB;have S0:=(qsd (ai hbel (ai (AX.below hB) (ai (AY.below hB) (ai RQ SK)))));clear hbel;clear e1 e2 e3 e1' e2' e3' lY' lX' lH' hlY hlX hlH AX AY hB RQ SK hz1;go_enter Tryz.func178,Tryz.ntmps178
 go_upto_region 1 with fail
 rw [←hW1];clear hW1;obtain ⟨x0,x1,x2,x3,x4,x5⟩:=S0.out.2.2.2.1.facts
 go_quiet (fail)
 clear x0 x1 x2 x3 x4 x5;generalize hV:World.drewN W1 _=V1;have hb:Below W1.heap.size W1 V1:=by rw [←hV];exact Below.drewN' (Below.refl _ _) _
 clear hV;obtain ⟨bel,AX,AY,RQ,SK⟩:=S0.out;have hbn:=bel.trans (hb.mono bel.size);have S1:=qsd (ai hbn (ai (AX.below hb) (ai (AY.below hb) (ai (RQ.below hb) (SK.below hb)))));clear bel AX AY RQ SK;clear hb hbn S0;obtain ⟨bel,AX,AY,RQ,SK⟩:=S1.out;have HC:=hid (Len_arg AY E.out.2.2.2.1);clear bel AX AY RQ SK
 go_wp2_with fail
 refine HC.out.mono ?_;rintro r u2 ⟨rfl,hb⟩;clear HC;obtain ⟨bel,AX,AY,RQ,SK⟩:=S1.out;have hbn:=bel.trans (hb.mono bel.size);have S2:=qsd (ai hbn (ai (AX.below hb) (ai (AY.below hb) (ai (RQ.below hb) (SK.below hb)))));clear bel AX AY RQ SK;clear hb hbn S1;obtain ⟨bel,AX,AY,RQ,SK⟩:=S2.out;have HC:=hid (Shift_arg (-(cut:Int)) AY E.out.1 (by omega) (by omega))
 clear bel AX AY RQ SK
 go_wp2_with fail
 refine HC.out.mono ?_;rintro r u3 ⟨v,rfl,hN,hb⟩;obtain ⟨a1,c1,rfl,_⟩:=hN.arg (by omega)
 clear HC;obtain ⟨bel,AX,AY,RQ,SK⟩:=S2.out;have hbn:=bel.trans (hb.mono bel.size);have S3:=qsd (ai hbn (ai (AX.below hb) (ai (AY.below hb) (ai (RQ.below hb) (ai (SK.below hb) (hN.mono bel.size))))));clear bel AX AY RQ SK;clear hb hbn S2;clear hN;obtain ⟨bel,AX,AY,RQ,SK,NH⟩:=S3.out;have HC:=hid (Len_arg (NH.arg' (by omega)).2 E.out.2.2.2.2.2)
 clear bel AX AY RQ SK NH
 go_wp2_with fail
 refine HC.out.mono ?_;rintro r u4 ⟨rfl,hb⟩;clear HC;obtain ⟨bel,AX,AY,RQ,SK,NH⟩:=S3.out;have hbn:=bel.trans (hb.mono bel.size);have S4:=qsd (ai hbn (ai (AX.below hb) (ai (AY.below hb) (ai (RQ.below hb) (ai (SK.below hb) (NH.below hb))))));clear bel AX AY RQ SK NH;clear hb hbn S3;obtain ⟨bel,AX,AY,RQ,SK,NH⟩:=S4.out;have HC:=hid (Len_arg AX E.out.2.2.2.2.1);clear bel AX AY RQ SK NH
 go_wp2_with fail
 refine HC.out.mono ?_;rintro r u5 ⟨rfl,hb⟩;clear HC;obtain ⟨bel,AX,AY,RQ,SK,NH⟩:=S4.out;have hbn:=bel.trans (hb.mono bel.size);have S5:=qsd (ai hbn (ai (AX.below hb) (ai (AY.below hb) (ai (RQ.below hb) (ai (SK.below hb) (NH.below hb))))));clear bel AX AY RQ SK NH;clear hb hbn S4;obtain ⟨bel,AX,AY,RQ,SK,NH⟩:=S5.out;have HC:=hid (Shift_arg bb AX E.out.2.1 (by omega) (by omega))
 clear bel AX AY RQ SK NH
 go_wp2_with fail
 refine HC.out.mono ?_;rintro r u6 ⟨v,rfl,hN,hb⟩;obtain ⟨a2,c2,rfl,_⟩:=hN.arg (by omega)
 clear HC;obtain ⟨bel,AX,AY,RQ,SK,NH⟩:=S5.out;have hbn:=bel.trans (hb.mono bel.size);have S6:=qsd (ai hbn (ai (AX.below hb) (ai (AY.below hb) (ai (RQ.below hb) (ai (SK.below hb) (ai (NH.below hb) (hN.mono bel.size)))))));clear bel AX AY RQ SK NH;clear hb hbn S5;clear hN;obtain ⟨bel,AX,AY,RQ,SK,NH,NV⟩:=S6.out;have HC:=hid (Div_arg (NV.arg' (by omega)).2 (NH.arg' (by omega)).2 E.out.2.2.1)
 clear bel AX AY RQ SK NH NV
 go_wp2_with fail
 refine HC.out.mono ?_;rintro r u7 ⟨v,v2,rfl,hN,hM,hb⟩;obtain ⟨a3,c3,rfl,_⟩:=hN.arg (by omega)
 obtain ⟨a4,c4,rfl,_⟩:=hM.arg (by omega)
 clear HC;obtain ⟨bel,AX,AY,RQ,SK,NH,NV⟩:=S6.out;have hbn:=bel.trans (hb.mono bel.size);have S7:=qsd (ai hbn (ai (AX.below hb) (ai (AY.below hb) (ai (RQ.below hb) (ai (SK.below hb) (ai (NH.below hb) (ai (hN.mono bel.size) (hM.mono bel.size))))))));clear bel AX AY RQ SK NH NV;clear hb hbn S6;clear hN hM;obtain ⟨bel,AX,AY,RQ,SK,NH,NW,NL⟩:=S7.out;have HC:=hid (HL.out u7 _ _ _ _ _ _ _ _ (NW.arg' (by omega)).2 (NL.arg' (by omega)).2 AY (NH.arg' (by omega)).2)
 clear bel AX AY RQ SK NH NW NL
 go_wp2_with fail
 refine HC.out.mono ?_;rintro r u8 ⟨rfl,hb⟩;clear HC;obtain ⟨bel,AX,AY,RQ,SK,NH,NW,NL⟩:=S7.out;have hbn:=bel.trans (hb.mono bel.size);have S8:=qsd (ai hbn (ai (AX.below hb) (ai (AY.below hb) (ai (RQ.below hb) (ai (SK.below hb) (ai (NH.below hb) (ai (NW.below hb) (NL.below hb))))))));clear bel AX AY RQ SK NH NW NL;clear hb hbn S7;obtain ⟨bel,AX,AY,RQ,SK,NH,NW,NL⟩:=S8.out;have hlast:=qsd (ai bel (ai NW SK));obtain ⟨x0,x1,x2,x3,x4,x5⟩:=RQ.facts;obtain ⟨s0,s1,s2,sf0,sf1,sf2⟩:=SK.facts;have hsz:=qsd (SK.lt);clear bel AX AY RQ SK NH NW NL;clear S8 E HL;have htA:=qsd htt;clear htt;go_wp2
 all_goals (
  obtain ⟨bel,NZ,SK⟩:=hlast.out;have hsz:=bel.size;refine bodyPost_ret (divided_res _ (w.heap.size+1) (.slice a3 (ws W0).length c3) x _ _ rfl (SK.set _ _ _)) rfl ⟨⟨.slice a3 (ws W0).length c3,?_,NZ.st3k SK (by decide) _ _ _⟩,below_st3 bel hsz (by omega) _ _ _⟩
  rw [←htA.out]
  first | rfl | simp [*])
theorem divided_neg {w:World}{a b:Option Addr}{ca cb:Nat}(n m:Bool) (X Y:Nat) (e f:Int) (size lX lY lH cut H lev W0 Lf WH:Nat) (t bb z x y1 y2:Int) (tt:Bool)
 (AX:Arg w a (ws X).length ca (ws X)) (AY:Arg w b (ws Y).length cb (ws Y))
 (he0:-1048576≤e) (he1:e≤1048576) (hf0:-1048576≤f) (hf1:f≤1048576) (hs:size≤1000) (hlY:bl Y=lY) (hlX:bl X=lX) (hlH:bl H=lH) (bX:lX≤262144) (bY:lY≤262144) (bH:lH≤262144)
 (ht:(lY:Int)+(size:Int)-262144=t) (hcut:max t 0=(cut:Int)) (bcut:cut≤2000)
 (e1:shiftS Y (-(cut:Int))=(H,0)) (hbb:(lH:Int)+(size:Int)-(lX:Int)=bb) (e2:shiftS X bb=(lev,0)) (e3:divS lev H=(W0,Lf,0))
 (HL:Hid (∀ (u:World) (p q r s:Option Addr) (cp cq cr cs:Nat),Arg u p (ws W0).length cp (ws W0)→Arg u q (ws Lf).length cq (ws Lf)→Arg u r (ws Y).length cr (ws Y)→Arg u s (ws H).length cs (ws H)→Calls Tryz.prog 205 #[.slice p (ws W0).length cp,.slice q (ws Lf).length cq,.slice r (ws Y).length cr,.slice s (ws H).length cs,.int .i64 (cut:Nat)] u fun r w'=>r=.returned (.int .i64 z)∧Below u.heap.size u w'))
 (hz:decide (z<0)=true) (e4:subS W0 1=(WH,0))
 (h1:e-f=y1) (h2:y1-bb=y2) (h3:y2-(cut:Int)=x) (htt:(decide (z=0)&&decide (0≤bb))=tt)
 (l1:(ws H).length≤8192) (l2:(ws lev).length≤8192) (l3:(ws W0).length≤8192) (l4:(ws Lf).length≤8192) (l5:(ws WH).length≤8192) :
 Calls Tryz.prog 178 #[.agg #[.bool n,.slice a (ws X).length ca,.int .i64 e,.bool m,.slice b (ws Y).length cb,.int .i64 f],.int .i64 (size:Nat)] w fun r w'=>(∃ v,r=.returned (.agg #[v,.int .i64 x,.bool tt])∧Nt w.heap.size w' v WH)∧Below w.heap.size w w':=by
 obtain ⟨W1,hW1⟩:∃ W,W=(w.alloc (.cells #[.bool n,.slice a (ws X).length ca,.int .i64 e,.bool m,.slice b (ws Y).length cb,.int .i64 f] 119)).alloc (.cells #[.slice none 0 0,.int .i64 0,.bool false] 195):=⟨_,rfl⟩;obtain ⟨hB,hz1,RQ,SK⟩:=div_begin w n _ e m _ f W1 hW1;have e1':shiftS (val (ws Y)) (-(cut:Int))=(H,0):=by rw [val_ws];exact e1
 have e2':shiftS (val (ws X)) bb=(lev,0):=by rw [val_ws];exact e2
 have e3':divS (val (ws lev)) (val (ws H))=(W0,Lf,0):=by rw [val_ws,val_ws];exact e3
 have lY':bl (val (ws Y))=lY:=by rw [val_ws];exact hlY
 have lX':bl (val (ws X))=lX:=by rw [val_ws];exact hlX
 have lH':bl (val (ws H))=lH:=by rw [val_ws];exact hlH
 have E:=(qsd (ai e1' (ai e2' (ai e3' (ai lY' (ai lX' lH'))))));have SZ:=(qsd (ai hz1 hB));have hs2:w.heap.size+2≤W1.heap.size:=by omega
 have e4':subS (val (ws W0)) (val (ws 1))=(WH,0):=by rw [val_ws,val_ws];exact e4
 have E4:=qsd e4';have l1s:(ws 1).length≤8192:=by rw [ws_one];simp
 clear e4 e4';have hbel:=hB;have S0:=(qsd (ai hbel (ai (AX.below hB) (ai (AY.below hB) (ai RQ SK)))));clear hbel;clear e1 e2 e3 e1' e2' e3' lY' lX' lH' hlY hlX hlH AX AY hB RQ SK hz1;go_enter Tryz.func178,Tryz.ntmps178
 go_upto_region 1 with fail
 rw [←hW1];clear hW1;obtain ⟨x0,x1,x2,x3,x4,x5⟩:=S0.out.2.2.2.1.facts
 go_quiet (fail)
 clear x0 x1 x2 x3 x4 x5;generalize hV:World.drewN W1 _=V1;have hb:Below W1.heap.size W1 V1:=by rw [←hV];exact Below.drewN' (Below.refl _ _) _
 clear hV;obtain ⟨bel,AX,AY,RQ,SK⟩:=S0.out;have hbn:=bel.trans (hb.mono bel.size);have S1:=qsd (ai hbn (ai (AX.below hb) (ai (AY.below hb) (ai (RQ.below hb) (SK.below hb)))));clear bel AX AY RQ SK;clear hb hbn S0;obtain ⟨bel,AX,AY,RQ,SK⟩:=S1.out;have HC:=hid (Len_arg AY E.out.2.2.2.1);clear bel AX AY RQ SK
 go_wp2_with fail
 refine HC.out.mono ?_;rintro r u2 ⟨rfl,hb⟩;clear HC;obtain ⟨bel,AX,AY,RQ,SK⟩:=S1.out;have hbn:=bel.trans (hb.mono bel.size);have S2:=qsd (ai hbn (ai (AX.below hb) (ai (AY.below hb) (ai (RQ.below hb) (SK.below hb)))));clear bel AX AY RQ SK;clear hb hbn S1;obtain ⟨bel,AX,AY,RQ,SK⟩:=S2.out;have HC:=hid (Shift_arg (-(cut:Int)) AY E.out.1 (by omega) (by omega))
 clear bel AX AY RQ SK
 go_wp2_with fail
 refine HC.out.mono ?_;rintro r u3 ⟨v,rfl,hN,hb⟩;obtain ⟨a1,c1,rfl,_⟩:=hN.arg (by omega)
 clear HC;obtain ⟨bel,AX,AY,RQ,SK⟩:=S2.out;have hbn:=bel.trans (hb.mono bel.size);have S3:=qsd (ai hbn (ai (AX.below hb) (ai (AY.below hb) (ai (RQ.below hb) (ai (SK.below hb) (hN.mono bel.size))))));clear bel AX AY RQ SK;clear hb hbn S2;clear hN;obtain ⟨bel,AX,AY,RQ,SK,NH⟩:=S3.out;have HC:=hid (Len_arg (NH.arg' (by omega)).2 E.out.2.2.2.2.2)
 clear bel AX AY RQ SK NH
 go_wp2_with fail
 refine HC.out.mono ?_;rintro r u4 ⟨rfl,hb⟩;clear HC;obtain ⟨bel,AX,AY,RQ,SK,NH⟩:=S3.out;have hbn:=bel.trans (hb.mono bel.size);have S4:=qsd (ai hbn (ai (AX.below hb) (ai (AY.below hb) (ai (RQ.below hb) (ai (SK.below hb) (NH.below hb))))));clear bel AX AY RQ SK NH;clear hb hbn S3;obtain ⟨bel,AX,AY,RQ,SK,NH⟩:=S4.out;have HC:=hid (Len_arg AX E.out.2.2.2.2.1);clear bel AX AY RQ SK NH
 go_wp2_with fail
 refine HC.out.mono ?_;rintro r u5 ⟨rfl,hb⟩;clear HC;obtain ⟨bel,AX,AY,RQ,SK,NH⟩:=S4.out;have hbn:=bel.trans (hb.mono bel.size);have S5:=qsd (ai hbn (ai (AX.below hb) (ai (AY.below hb) (ai (RQ.below hb) (ai (SK.below hb) (NH.below hb))))));clear bel AX AY RQ SK NH;clear hb hbn S4;obtain ⟨bel,AX,AY,RQ,SK,NH⟩:=S5.out;have HC:=hid (Shift_arg bb AX E.out.2.1 (by omega) (by omega))
 clear bel AX AY RQ SK NH
 go_wp2_with fail
 refine HC.out.mono ?_;rintro r u6 ⟨v,rfl,hN,hb⟩;obtain ⟨a2,c2,rfl,_⟩:=hN.arg (by omega)
 clear HC;obtain ⟨bel,AX,AY,RQ,SK,NH⟩:=S5.out;have hbn:=bel.trans (hb.mono bel.size);have S6:=qsd (ai hbn (ai (AX.below hb) (ai (AY.below hb) (ai (RQ.below hb) (ai (SK.below hb) (ai (NH.below hb) (hN.mono bel.size)))))));clear bel AX AY RQ SK NH;clear hb hbn S5;clear hN;obtain ⟨bel,AX,AY,RQ,SK,NH,NV⟩:=S6.out;have HC:=hid (Div_arg (NV.arg' (by omega)).2 (NH.arg' (by omega)).2 E.out.2.2.1)
 clear bel AX AY RQ SK NH NV
 go_wp2_with fail
 refine HC.out.mono ?_;rintro r u7 ⟨v,v2,rfl,hN,hM,hb⟩;obtain ⟨a3,c3,rfl,_⟩:=hN.arg (by omega)
 obtain ⟨a4,c4,rfl,_⟩:=hM.arg (by omega)
 clear HC;obtain ⟨bel,AX,AY,RQ,SK,NH,NV⟩:=S6.out;have hbn:=bel.trans (hb.mono bel.size);have S7:=qsd (ai hbn (ai (AX.below hb) (ai (AY.below hb) (ai (RQ.below hb) (ai (SK.below hb) (ai (NH.below hb) (ai (hN.mono bel.size) (hM.mono bel.size))))))));clear bel AX AY RQ SK NH NV;clear hb hbn S6;clear hN hM;obtain ⟨bel,AX,AY,RQ,SK,NH,NW,NL⟩:=S7.out;have HC:=hid (HL.out u7 _ _ _ _ _ _ _ _ (NW.arg' (by omega)).2 (NL.arg' (by omega)).2 AY (NH.arg' (by omega)).2)
 clear bel AX AY RQ SK NH NW NL
 go_wp2_with fail
 refine HC.out.mono ?_;rintro r u8 ⟨rfl,hb⟩;clear HC;obtain ⟨bel,AX,AY,RQ,SK,NH,NW,NL⟩:=S7.out;have hbn:=bel.trans (hb.mono bel.size);have S8:=qsd (ai hbn (ai (AX.below hb) (ai (AY.below hb) (ai (RQ.below hb) (ai (SK.below hb) (ai (NH.below hb) (ai (NW.below hb) (NL.below hb))))))));clear bel AX AY RQ SK NH NW NL;clear hb hbn S7;obtain ⟨bel,AX,AY,RQ,SK,NH,NW,NL⟩:=S8.out;have HC:=hid (of_any 1 u8 (by omega))
 clear bel AX AY RQ SK NH NW NL
 go_wp2_with fail
 refine HC.out.mono ?_;rintro r u9 ⟨v,rfl,hN,hb⟩;obtain ⟨a5,c5,rfl,_⟩:=hN.arg (by omega)
 clear HC;obtain ⟨bel,AX,AY,RQ,SK,NH,NW,NL⟩:=S8.out;have hbn:=bel.trans (hb.mono bel.size);have S9:=qsd (ai hbn (ai (AX.below hb) (ai (AY.below hb) (ai (RQ.below hb) (ai (SK.below hb) (ai (NH.below hb) (ai (NW.below hb) (ai (NL.below hb) (hN.mono bel.size)))))))));clear bel AX AY RQ SK NH NW NL;clear hb hbn S8;clear hN;obtain ⟨bel,AX,AY,RQ,SK,NH,NW,NL,NO⟩:=S9.out;have HC:=hid (Sub_arg (NW.arg' (by omega)).2 (NO.arg' (by omega)).2 E4.out)
 clear bel AX AY RQ SK NH NW NL NO
 go_wp2_with fail
 refine HC.out.mono ?_;rintro r u10 ⟨v,rfl,hN,hb⟩;obtain ⟨a6,c6,rfl,_⟩:=hN.arg (by omega)
 clear HC;obtain ⟨bel,AX,AY,RQ,SK,NH,NW,NL,NO⟩:=S9.out;have hbn:=bel.trans (hb.mono bel.size);have S10:=qsd (ai hbn (ai (AX.below hb) (ai (AY.below hb) (ai (RQ.below hb) (ai (SK.below hb) (ai (NH.below hb) (ai (NW.below hb) (ai (NL.below hb) (ai (NO.below hb) (hN.mono bel.size))))))))));clear bel AX AY RQ SK NH NW NL NO;clear hb hbn S9;clear hN;obtain ⟨bel,AX,AY,RQ,SK,NH,NW,NL,NO,NR⟩:=S10.out;have hlast:=qsd (ai bel (ai NR SK));obtain ⟨x0,x1,x2,x3,x4,x5⟩:=RQ.facts;obtain ⟨s0,s1,s2,sf0,sf1,sf2⟩:=SK.facts;have hsz:=qsd (SK.lt);clear bel AX AY RQ SK NH NW NL NO NR;clear S10 E HL;have htA:=qsd htt;clear htt;go_wp2
 all_goals (
  obtain ⟨bel,NZ,SK⟩:=hlast.out;have hsz:=bel.size;refine bodyPost_ret (divided_res _ (w.heap.size+1) (.slice a6 (ws WH).length c6) x _ _ rfl (SK.set _ _ _)) rfl ⟨⟨.slice a6 (ws WH).length c6,?_,NZ.st3k SK (by decide) _ _ _⟩,below_st3 bel hsz (by omega) _ _ _⟩
  rw [←htA.out]
  first | rfl | simp [*])
end
end Go.Proofs.YthfkleadcnkglaaGreatDoor
