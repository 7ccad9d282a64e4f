import Derived.Test.YtaofncmoehebmaaDoorS11x
import Derived.Test.YtaofncmoehebmaaDoorD24x
import Derived.ProofKit
import Derived.OpenShut
import Derived.ChangeOld
import Derived.ChangeArms
import Derived.SizedLaws
import Derived.Laws.Cover2
import Derived.Test.YtaofncmoehebmaaDoorW14x
import Derived.BigQuiet
import Derived.Test.YtaofncmoehebmaaDoorS3x
import Derived.Test.YtaofncmoehebmaaDoorBIeeex
import Derived.OwnWalk
import Derived.Maps.AppendAt
import Derived.Test.YtaofncmoehebmaaDoorD4x
set_option linter.unusedVariables false
set_option linter.unusedSimpArgs false
set_option maxHeartbeats 16000000
set_option maxRecDepth 20000
namespace Go.Proofs.YtaofncmoehebmaaDoor
namespace J
end J
section
open Go.RowKit
theorem ahead10 (g:Nat) (V:Int) (s:Sp) (mode a b:Int) (w:World) (hA:Acc7 w g V s) (hs:s.ok) (hm0:0≤mode) (hm1:mode≤4) (hab:may a b=true) (ha:¬ (0<s.n∧a=2)) (hb:¬ (0<s.u+s.d∧b=2)) :
 Calls Tryd.prog 23 #[.pointer (some ⟨g,0,none⟩),.int .i64 mode,.agg #[.int .i64 a,.int .i64 b]] w fun r w'=>r=.returned (.tuple #[.float .f64 (ahd V s mode a b).1,.bool (ahd V s mode a b).2.1,.int .i64 (ahd V s mode a b).2.2])∧Below w.heap.size w w':=by
 obtain ⟨⟨X,tl,er⟩,hX⟩:∃ X,X=ahd V s mode a b:=⟨_,rfl⟩;rw [←hX];simp only;obtain ⟨L,a1,a2,a3,a4,a5,a6⟩:=hA;have hz:=zero_words L V a1 a2 a3 a4 a5;obtain ⟨n,u,d,m,p,l⟩:=s;have HM:=hid (fun u:World=>May_any a b u)
 rw [hab] at HM;have HV:=hid (fun w:World=>Verdict_any n u d m p l a b w)
 have HN:=hid (fun w:World=>Nought_any n u d m p l mode w)
 obtain ⟨⟨vx,vt⟩,hvd⟩:∃ v,v=vd (snd n u d m p l&&may a b) n u d a b:=⟨_,rfl⟩;obtain ⟨nx,hnt⟩:∃ v,v=nt (snd n u d m p l) n u d m p l mode:=⟨_,rfl⟩;rw [←hvd] at HV;rw [←hnt] at HN;simp only at HV;simp only [ahd] at hX;rw [←hvd,←hnt] at hX;simp only at hX;have HX:=qsd hX;have HA:=qsd (ai a1 (ai a6 hz));have hlt:=a6.lt;have hne:g≠w.heap.size:=Nat.ne_of_lt hlt;have hne1:g≠w.heap.size+1:=by omega
 have c0:=a6.cell a1 0 _ rfl;have c1:=a6.cell a1 1 _ rfl;have c2:=a6.cell a1 2 _ rfl;have c3:=a6.cell a1 3 _ rfl;have c4:=a6.cell a1 4 _ rfl;have c5:=a6.cell a1 5 _ rfl;obtain ⟨h0,h1,h2,h3,h4,h5⟩:=hs;have ha1:¬ (0<n∧a=2):=ha;have hb1:¬ (0<u+d∧b=2):=hb;have b0:decide (mode<0)=false:=by simp;omega
 have b1:decide (4<mode)=false:=by simp;omega
 clear a1 a2 a3 a4 a5 a6 hX hvd hnt hab ha hb hz;go_enter Tryd.func23,Tryd.ntmps23
 go_wp2_with fail
 refine (HM.out _).mono ?_;rintro r w1 ⟨rfl,hb1⟩;have hz1:w.heap.size+1<w1.heap.size:=by have:=hb1.size;simp at this;omega
 have B1:=qsd hb1
 have P1:Aside (Bl w1 w.heap.size 39 [.int .i64 a,.int .i64 b]∧Bl w1 (w.heap.size+1) 47 [.int .i64 n,.int .i64 u,.int .i64 d,.int .i64 m,.int .i64 p,.int .i64 l]∧Below w.heap.size w w1∧Ac w1 g L ⟨n,u,d,m,p,l⟩):=by
  have e0:=(bel_alloc w (Obj.cells #[.int .i64 a,.int .i64 b] 39)).trans ((bel_alloc (w.alloc (Obj.cells #[.int .i64 a,.int .i64 b] 39)) (Obj.cells #[.int .i64 n,.int .i64 u,.int .i64 d,.int .i64 m,.int .i64 p,.int .i64 l] 47)).mono (by simp))
  have e1:=e0.trans (hb1.mono e0.size);exact ⟨(((Bl.new w 39 [_,_]).alloc _).below hb1 (by simp;omega)),((Bl.new' (w.alloc _) 47 _ [_,_,_,_,_,_] (by simp)).below hb1 (by simp)),e1,HA.out.2.1.below e1 HA.out.2.1.lt⟩
 clear hb1 c0 c1 c2 c3 c4 c5;have q0:=P1.out.1.cell 0 _ rfl;have q1:=P1.out.1.cell 1 _ rfl;have s0:=P1.out.2.1.cell 0 _ rfl;have s1:=P1.out.2.1.cell 1 _ rfl;have s2:=P1.out.2.1.cell 2 _ rfl;have s3:=P1.out.2.1.cell 3 _ rfl;have s4:=P1.out.2.1.cell 4 _ rfl;have s5:=P1.out.2.1.cell 5 _ rfl
 have hca:(0<n∧(a==2)=false)∨n≤0:=by
  by_cases h:0<n
  · exact .inl ⟨h,by simp;intro e;exact ha1 ⟨h,e⟩⟩
  · exact .inr (by omega)
 have hcb:(0<u+d∧(b==2)=false)∨u+d≤0:=by
  by_cases h:0<u+d
  · exact .inl ⟨h,by simp;intro e;exact hb1 ⟨h,e⟩⟩
  · exact .inr (by omega)
 clear ha1 hb1
 rcases hca with ⟨hn,ha'⟩|hn <;> rcases hcb with ⟨hu,hb'⟩|hu
 all_goals (
  go_wp2_with fail
  refine (HV.out _).mono ?_;rintro r w2 ⟨rfl,hb2⟩
  have P2:Aside (Bl w2 (w.heap.size+1) 47 [.int .i64 n,.int .i64 u,.int .i64 d,.int .i64 m,.int .i64 p,.int .i64 l]∧Below w.heap.size w w2∧Ac w2 g L ⟨n,u,d,m,p,l⟩) :=
   ⟨P1.out.2.1.below hb2 P1.out.2.1.lt,P1.out.2.2.1.trans (hb2.mono P1.out.2.2.1.size),P1.out.2.2.2.below hb2 P1.out.2.2.2.lt⟩
  clear hb2 q0 q1 s0 s1 s2 s3 s4 s5 hn hu
  cases vt
  · have s0:=P2.out.1.cell 0 _ rfl
    have s1:=P2.out.1.cell 1 _ rfl;have s2:=P2.out.1.cell 2 _ rfl;have s3:=P2.out.1.cell 3 _ rfl;have s4:=P2.out.1.cell 4 _ rfl;have s5:=P2.out.1.cell 5 _ rfl
    go_wp2_with (first | (with_reducible refine wpList_load_mid (P:=Tryd.prog) rfl 45 (.tmp 57) rfl g 0 rfl (L.map U) _ P2.out.2.2.range Tryd.desc_words rfl (by simp [Tryd.size_words,HA.out.1]) ?_))
    rw [Tryd.nought_words,eq_words L _ w2 HA.out.1 (by simp),HA.out.2.2]
    generalize (List.replicate 133 0).map U=zz
    by_cases hV:V=0
    · rw [decide_eq_true hV]
      simp only [Result.andThen_ok,Oper.upon];have HX2:=qsd (show (X,tl,er)=(nx,true,0) by rw [HX.out,if_neg (by decide),if_pos hV])
      clear hV
      go_wp2_with fail
      refine (HN.out _).mono ?_;rintro r w3 ⟨rfl,hb3⟩;have B3:=qsd hb3;clear hb3;go_wp2;refine bodyPost_ret (v:=.tuple #[.float .f64 nx,.bool true,.int .i64 0]) (by simp [results,Tryd.results23,go_sem]) rfl ?_
      have e:=HX2.out
      cases e
      exact ⟨rfl,P2.out.2.1.trans (B3.out.mono P2.out.2.1.size)⟩
    · rw [decide_eq_false hV]
      simp only [Result.andThen_ok,Oper.upon];have HX2:=qsd (show (X,tl,er)=(0,false,0) by rw [HX.out,if_neg (by decide),if_neg hV])
      clear hV;go_wp2;refine bodyPost_ret (v:=.tuple #[.float .f64 0,.bool false,.int .i64 0]) (by simp [results,Tryd.results23,go_sem]) rfl ?_
      have e:=HX2.out
      cases e
      exact ⟨rfl,P2.out.2.1⟩
  · go_wp2
    refine bodyPost_ret (v:=.tuple #[.float .f64 vx,.bool true,.int .i64 0]) (by simp [results,Tryd.results23,go_sem]) rfl ?_
    have e:=HX.out;rw [if_pos trivial] at e
    cases e
    exact ⟨rfl,P2.out.2.1⟩)
theorem ahead10_nan (g:Nat) (V:Int) (s:Sp) (mode a b:Int) (w:World) (hA:Acc7 w g V s) (hs:s.ok) (hm0:0≤mode) (hm1:mode≤4) (hab:may a b=true) (hx:0<s.n∧a=2) :
 Calls Tryd.prog 23 #[.pointer (some ⟨g,0,none⟩),.int .i64 mode,.agg #[.int .i64 a,.int .i64 b]] w fun r w'=>r=.returned (.tuple #[.float .f64 0,.bool false,.int .i64 60])∧Below w.heap.size w w':=by
 obtain ⟨L,a1,a2,a3,a4,a5,a6⟩:=hA;obtain ⟨n,u,d,m,p,l⟩:=s;have HM:=hid (fun u:World=>May_any a b u)
 rw [hab] at HM;have HA:=qsd (ai a1 a6);have hlt:=a6.lt;have hne:g≠w.heap.size:=Nat.ne_of_lt hlt;have hne1:g≠w.heap.size+1:=by omega
 have c0:=a6.cell a1 0 _ rfl;have c1:=a6.cell a1 1 _ rfl;have c2:=a6.cell a1 2 _ rfl;have c3:=a6.cell a1 3 _ rfl;have c4:=a6.cell a1 4 _ rfl;have c5:=a6.cell a1 5 _ rfl;obtain ⟨h0,h1,h2,h3,h4,h5⟩:=hs;have b0:decide (mode<0)=false:=by simp;omega
 have b1:decide (4<mode)=false:=by simp;omega
 have hn:0<n:=hx.1;have ha2:(a==2)=true:=by simpa using hx.2
 clear hx;clear a1 a2 a3 a4 a5 a6 hab;go_enter Tryd.func23,Tryd.ntmps23
 go_wp2_with fail
 refine (HM.out _).mono ?_;rintro r w1 ⟨rfl,hb1⟩
 have P1:Aside (Bl w1 w.heap.size 39 [.int .i64 a,.int .i64 b]∧Bl w1 (w.heap.size+1) 47 [.int .i64 n,.int .i64 u,.int .i64 d,.int .i64 m,.int .i64 p,.int .i64 l]∧Below w.heap.size w w1):=by
  have e0:=(bel_alloc w (Obj.cells #[.int .i64 a,.int .i64 b] 39)).trans ((bel_alloc (w.alloc (Obj.cells #[.int .i64 a,.int .i64 b] 39)) (Obj.cells #[.int .i64 n,.int .i64 u,.int .i64 d,.int .i64 m,.int .i64 p,.int .i64 l] 47)).mono (by simp))
  have e1:=e0.trans (hb1.mono e0.size);exact ⟨(((Bl.new w 39 [_,_]).alloc _).below hb1 (by simp;omega)),((Bl.new' (w.alloc _) 47 _ [_,_,_,_,_,_] (by simp)).below hb1 (by simp)),e1⟩
 clear hb1 c0 c1 c2 c3 c4 c5;have q0:=P1.out.1.cell 0 _ rfl;have q1:=P1.out.1.cell 1 _ rfl;have s0:=P1.out.2.1.cell 0 _ rfl;have s1:=P1.out.2.1.cell 1 _ rfl;have s2:=P1.out.2.1.cell 2 _ rfl;have s3:=P1.out.2.1.cell 3 _ rfl;have s4:=P1.out.2.1.cell 4 _ rfl;have s5:=P1.out.2.1.cell 5 _ rfl
 all_goals
  go_wp2;refine bodyPost_ret (v:=.tuple #[.float .f64 0,.bool false,.int .i64 60]) (by simp [results,Tryd.results23,go_sem]) rfl ?_
  exact ⟨rfl,P1.out.2.2⟩
theorem ahead10_inf (g:Nat) (V:Int) (s:Sp) (mode a b:Int) (w:World) (hA:Acc7 w g V s) (hs:s.ok) (hm0:0≤mode) (hm1:mode≤4) (hab:may a b=true) (hn:¬ (0<s.n∧a=2)) (hx:0<s.u+s.d∧b=2) :
 Calls Tryd.prog 23 #[.pointer (some ⟨g,0,none⟩),.int .i64 mode,.agg #[.int .i64 a,.int .i64 b]] w fun r w'=>r=.returned (.tuple #[.float .f64 0,.bool false,.int .i64 61])∧Below w.heap.size w w':=by
 obtain ⟨L,a1,a2,a3,a4,a5,a6⟩:=hA;obtain ⟨n,u,d,m,p,l⟩:=s;have HM:=hid (fun u:World=>May_any a b u)
 rw [hab] at HM;have HA:=qsd (ai a1 a6);have hlt:=a6.lt;have hne:g≠w.heap.size:=Nat.ne_of_lt hlt;have hne1:g≠w.heap.size+1:=by omega
 have c0:=a6.cell a1 0 _ rfl;have c1:=a6.cell a1 1 _ rfl;have c2:=a6.cell a1 2 _ rfl;have c3:=a6.cell a1 3 _ rfl;have c4:=a6.cell a1 4 _ rfl;have c5:=a6.cell a1 5 _ rfl;obtain ⟨h0,h1,h2,h3,h4,h5⟩:=hs;have b0:decide (mode<0)=false:=by simp;omega
 have b1:decide (4<mode)=false:=by simp;omega
 have hu:0<u+d:=hx.1;have hb2:(b==2)=true:=by simpa using hx.2
 have hca:(0<n∧(a==2)=false)∨n≤0:=by
  by_cases h:0<n
  · exact .inl ⟨h,by simp;intro e;exact hn ⟨h,e⟩⟩
  · exact .inr (by omega)
 clear hx hn;clear a1 a2 a3 a4 a5 a6 hab;go_enter Tryd.func23,Tryd.ntmps23
 go_wp2_with fail
 refine (HM.out _).mono ?_;rintro r w1 ⟨rfl,hb1⟩
 have P1:Aside (Bl w1 w.heap.size 39 [.int .i64 a,.int .i64 b]∧Bl w1 (w.heap.size+1) 47 [.int .i64 n,.int .i64 u,.int .i64 d,.int .i64 m,.int .i64 p,.int .i64 l]∧Below w.heap.size w w1):=by
  have e0:=(bel_alloc w (Obj.cells #[.int .i64 a,.int .i64 b] 39)).trans ((bel_alloc (w.alloc (Obj.cells #[.int .i64 a,.int .i64 b] 39)) (Obj.cells #[.int .i64 n,.int .i64 u,.int .i64 d,.int .i64 m,.int .i64 p,.int .i64 l] 47)).mono (by simp))
  have e1:=e0.trans (hb1.mono e0.size);exact ⟨(((Bl.new w 39 [_,_]).alloc _).below hb1 (by simp;omega)),((Bl.new' (w.alloc _) 47 _ [_,_,_,_,_,_] (by simp)).below hb1 (by simp)),e1⟩
 clear hb1 c0 c1 c2 c3 c4 c5;have q0:=P1.out.1.cell 0 _ rfl;have q1:=P1.out.1.cell 1 _ rfl;have s0:=P1.out.2.1.cell 0 _ rfl;have s1:=P1.out.2.1.cell 1 _ rfl;have s2:=P1.out.2.1.cell 2 _ rfl;have s3:=P1.out.2.1.cell 3 _ rfl;have s4:=P1.out.2.1.cell 4 _ rfl;have s5:=P1.out.2.1.cell 5 _ rfl
 rcases hca with ⟨hn,ha2⟩|hn
 all_goals
  go_wp2;refine bodyPost_ret (v:=.tuple #[.float .f64 0,.bool false,.int .i64 61]) (by simp [results,Tryd.results23,go_sem]) rfl ?_
  exact ⟨rfl,P1.out.2.2⟩
end
section
open Go.RowKit
def rd10 (V:Int) (s:Sp) (mode a b:Int):Nat×Int:=if 0<s.n∧a=2 then (0,60) else if 0<s.u+s.d∧b=2 then (0,61) else rd7 V s mode a b
theorem round10_ok (g:Nat) (V:Int) (s:Sp) (mode a b:Int) (w:World) (hA:Acc7 w g V s) (hs:s.ok) (hT:Tab w) (hm0:0≤mode) (hm1:mode≤4) (hab:may a b=true) (ha:¬ (0<s.n∧a=2)) (hb:¬ (0<s.u+s.d∧b=2)) :
 Calls Tryd.prog 11 #[.pointer (some ⟨g,0,none⟩),.int .i64 mode,.agg #[.int .i64 a,.int .i64 b]] w fun r w'=>r=.returned (.tuple #[.float .f64 (rd7 V s mode a b).1,.int .i64 (rd7 V s mode a b).2])∧Below w.heap.size w w':=by
 obtain ⟨⟨X,er⟩,hX⟩:∃ X,X=rd7 V s mode a b:=⟨_,rfl⟩;rw [←hX];simp only;have hb0:=bel_alloc w (Obj.cells #[.int .i64 a,.int .i64 b] 39);have HH:=hid (ahead10 g V s mode a b _ (hA.bel hb0) hs hm0 hm1 hab ha hb);have her:=ahd_er V s mode a b;unfold rd7 at hX;obtain ⟨⟨ax,at',ae⟩,hAh⟩:∃ Y,Y=ahd V s mode a b:=⟨_,rfl⟩;rw [←hAh] at HH her hX;simp only at HH her hX;subst her;have HX:=qsd hX;have HA:=qsd (ai hA (ai hT hb0));clear hA hT hb0 hX hAh hs hab ha hb;go_enter Tryd.func11,Tryd.ntmps11
 go_wp2_with fail
 refine HH.out.mono ?_;rintro r w1 ⟨rfl,hb1⟩;have B1:=qsd (HA.out.2.2.trans (hb1.mono HA.out.2.2.size));clear hb1
 cases at'
 · go_wp2_with fail
   refine (Exact7 g V s w1 (HA.out.1.bel B1.out) (HA.out.2.1.belows B1.out)).mono ?_;rintro r w2 ⟨v,rfl,hN,hb2⟩;obtain ⟨L,_,_,_,h0,h1,_⟩:=HA.out.1;obtain ⟨ad,c,rfl,AV⟩:=hN.arg (Nat.le_trans (dX_small h0 h1) (by decide))
   have HR:=hid (Round_any AV (HA.out.2.1.belows (B1.out.trans (hb2.mono B1.out.size))) (dN (exV V)) (dE (exV V)) mode (dE_small V).1 (dE_small V).2);rw [val_ws] at HR;have HX2:=HX.out;rw [if_neg (by decide)] at HX2
   rw [←HX2] at HR;simp only at HR;have B2:=qsd (B1.out.trans (hb2.mono B1.out.size));clear hN hb2 AV h0 h1 HX2
   go_wp2_with fail
   refine HR.out.mono ?_;rintro r w3 ⟨rfl,hb3⟩;have B3:=qsd hb3;clear hb3;go_wp2;refine bodyPost_ret (v:=.tuple #[.float .f64 X,.int .i64 er]) (by simp [results,Tryd.results11,go_sem]) rfl ?_
   exact ⟨rfl,B2.out.trans (B3.out.mono B2.out.size)⟩
 · go_wp2
   have HX2:=HX.out;rw [if_pos trivial] at HX2
   cases HX2
   refine bodyPost_ret (v:=.tuple #[.float .f64 X,.int .i64 0]) (by simp [results,Tryd.results11,go_sem]) rfl ?_
   exact ⟨rfl,B1.out⟩
theorem round10_nan (g:Nat) (mode a b:Int) (w:World)
 (HH:Hid (∀ u:World,Below w.heap.size w u→Calls Tryd.prog 23 #[.pointer (some ⟨g,0,none⟩),.int .i64 mode,.agg #[.int .i64 a,.int .i64 b]] u fun r w'=>r=.returned (.tuple #[.float .f64 0,.bool false,.int .i64 60])∧Below u.heap.size u w')) :
 Calls Tryd.prog 11 #[.pointer (some ⟨g,0,none⟩),.int .i64 mode,.agg #[.int .i64 a,.int .i64 b]] w fun r w'=>r=.returned (.tuple #[.float .f64 0,.int .i64 60])∧Below w.heap.size w w':=by
 have hb0:=qsd (bel_alloc w (Obj.cells #[.int .i64 a,.int .i64 b] 39));go_enter Tryd.func11,Tryd.ntmps11
 go_wp2_with fail
 refine (HH.out _ hb0.out).mono ?_;rintro r w1 ⟨rfl,hb1⟩;have B1:=qsd (hb0.out.trans (hb1.mono hb0.out.size));clear hb1 HH;go_wp2;refine bodyPost_ret (v:=.tuple #[.float .f64 0,.int .i64 60]) (by simp [results,Tryd.results11,go_sem]) rfl ?_
 exact ⟨rfl,B1.out⟩
theorem round10_inf (g:Nat) (mode a b:Int) (w:World)
 (HH:Hid (∀ u:World,Below w.heap.size w u→Calls Tryd.prog 23 #[.pointer (some ⟨g,0,none⟩),.int .i64 mode,.agg #[.int .i64 a,.int .i64 b]] u fun r w'=>r=.returned (.tuple #[.float .f64 0,.bool false,.int .i64 61])∧Below u.heap.size u w')) :
 Calls Tryd.prog 11 #[.pointer (some ⟨g,0,none⟩),.int .i64 mode,.agg #[.int .i64 a,.int .i64 b]] w fun r w'=>r=.returned (.tuple #[.float .f64 0,.int .i64 61])∧Below w.heap.size w w':=by
 have hb0:=qsd (bel_alloc w (Obj.cells #[.int .i64 a,.int .i64 b] 39));go_enter Tryd.func11,Tryd.ntmps11
 go_wp2_with fail
 refine (HH.out _ hb0.out).mono ?_;rintro r w1 ⟨rfl,hb1⟩;have B1:=qsd (hb0.out.trans (hb1.mono hb0.out.size));clear hb1 HH;go_wp2;refine bodyPost_ret (v:=.tuple #[.float .f64 0,.int .i64 61]) (by simp [results,Tryd.results11,go_sem]) rfl ?_
 exact ⟨rfl,B1.out⟩
theorem Round10 (g:Nat) (V:Int) (s:Sp) (mode a b:Int) (w:World) (hA:Acc7 w g V s) (hs:s.ok) (hT:Tab w) (hm0:0≤mode) (hm1:mode≤4) (hab:may a b=true) :
 Calls Tryd.prog 11 #[.pointer (some ⟨g,0,none⟩),.int .i64 mode,.agg #[.int .i64 a,.int .i64 b]] w fun r w'=>r=.returned (.tuple #[.float .f64 (rd10 V s mode a b).1,.int .i64 (rd10 V s mode a b).2])∧Below w.heap.size w w':=by
 unfold rd10
 by_cases h1:0<s.n∧a=2
 · rw [if_pos h1]
   exact round10_nan g mode a b w (hid fun u hb=>ahead10_nan g V s mode a b u (hA.bel hb) hs hm0 hm1 hab h1)
 · rw [if_neg h1]
   by_cases h2:0<s.u+s.d∧b=2
   · rw [if_pos h2]
     exact round10_inf g mode a b w (hid fun u hb=>ahead10_inf g V s mode a b u (hA.bel hb) hs hm0 hm1 hab h1 h2)
   · rw [if_neg h2]
     exact round10_ok g V s mode a b w hA hs hT hm0 hm1 hab h1 h2
theorem Exact10_any (xs:List Nat) (a:Option Addr) (n c:Nat) (mode pa pb:Int) (w:World) (hn:n=xs.length) (hF:Fs w.heap.size w a xs) (hW:W64 xs) (hT:Tab w) (hm0:0≤mode) (hm1:mode≤4) (hab:may pa pb=true) (hl:n≤65536) :
 Calls Tryd.prog 12 #[.slice a n c,.int .i64 mode,.agg #[.int .i64 pa,.int .i64 pb]] w fun r w'=>r=.returned (.tuple #[.float .f64 (rd10 (vS xs) (sS xs) mode pa pb).1,.int .i64 (rd10 (vS xs) (sS xs) mode pa pb).2])∧Below w.heap.size w w' :=
 exact_core xs a n c mode pa pb _ _ w hn hF hW hT hm0 hm1 hab hl (hid fun g u hA hs hT=>Round10 g (vS xs) (sS xs) mode pa pb u hA hs hT hm0 hm1 hab)
end
section
open Go.RowKit J
theorem take_snocT (L:List Nat) (k:Nat) (h:k<L.length):L.take (k+1)=L.take k++[L.getD k 0]:=by
 rw [List.take_succ_eq_append_getElem h,List.getD_eq_getElem?_getD,List.getElem?_eq_getElem h];rfl
def stF (L:List Nat):Nat×List Nat:=L.foldl (fun p x=>((sumP p.1 x).1,p.2++[(sumP p.1 x).2])) (0,[])
theorem stF_snoc (L:List Nat) (x:Nat):stF (L++[x])=((sumP (stF L).1 x).1,(stF L).2++[(sumP (stF L).1 x).2]):=by
 unfold stF;rw [List.foldl_append];rfl
theorem fvL_one (x:Nat):fvL [x]=fvW x:=by simp [fvL]
structure StOk (G M:Nat) (L:List Nat):Prop where
 w:Wd (stF L).1
 f:finW (stF L).1
 fl:FinL (stF L).2
 len:(stF L).2.length=L.length
 val:fvW (stF L).1+fvL (stF L).2=fvL L
 small:(fvW (stF L).1).natAbs≤L.length*(M+G)
theorem st_ok (G M:Nat) (hG:4503599627370496*G≤QQ) (hM:8192*(M+G)≤4503599627370496*G) (L:List Nat) (hF:FinL L) (hb:∀ x ∈ L,(fvW x).natAbs≤M) (hl:L.length≤8000):∀ k,k≤L.length→StOk G M (L.take k)
 | 0,_=>by
   rw [List.take_zero];have z:fvW 0=0:=by decide +kernel
   exact ⟨by show (0:Nat)<_;decide,by show finW 0;decide,fun x hx=>by simp [stF] at hx,rfl,by show fvW 0+fvL []=fvL [];rw [z];simp [fvL],by show (fvW 0).natAbs≤_;rw [z];simp⟩
 | k+1,h=>by
   have ih:=st_ok G M hG hM L hF hb hl k (by omega)
   have hk:k<L.length:=by omega
   have hm:L.getD k 0 ∈ L:=by rw [List.getD_eq_getElem?_getD,List.getElem?_eq_getElem hk];exact List.getElem_mem _
   obtain ⟨x,hx⟩:∃ x,x=L.getD k 0:=⟨_,rfl⟩;rw [←hx] at hm;have hx2:=hF x hm;have hxb:=hb x hm;have hlk:(L.take k).length=k:=by rw [List.length_take];omega
   have hs:=ih.small;rw [hlk] at hs
   have h1:k*(M+G)+(M+G)≤8192*(M+G):=by
    rw [←Nat.succ_mul];exact Nat.mul_le_mul_right _ (by omega)
   obtain ⟨t,g⟩:=sum_grows (a:=(stF (L.take k)).1) (b:=x) ⟨ih.w,ih.f⟩ hx2 (G:=G) (by omega) hG
   rw [take_snocT L k hk,←hx];have e:=stF_snoc (L.take k) x;refine ⟨by rw [e];exact t.w1,by rw [e];exact t.f1,?_,?_,?_,?_⟩
   · rw [e]
     exact ih.fl.append (fun y hy=>by rw [List.mem_singleton.1 hy];exact ⟨t.w2,t.f2⟩)
   · rw [e,List.length_append,List.length_append,ih.len];rfl
   · rw [e,fvL_append,fvL_append,fvL_one,fvL_one]
     have:=t.val;have:=ih.val;simp only;omega
   · rw [e,List.length_append,hlk]
     simp only [List.length_singleton];rw [Nat.succ_mul];omega
theorem st_run (L:List Nat) (h0:L.getD 0 0=4602678819172646912) (hp:0<L.length):∀ k,k<L.length→(stF (L.take (k+1))).1=runF (L.take (k+1))
 | 0,_=>by
   rw [runF_one L hp,take_snocT L 0 hp,h0,List.take_zero]
   kernel_rfl
 | k+1,h=>by
   have ih:=st_run L h0 hp k (by omega)
   rw [runF_take L (k+1) (by omega) h,←ih,take_snocT L (k+1) h,stF_snoc]
   rfl
theorem fvL_take (L:List Nat) (k:Nat) (h:k<L.length):fvL (L.take (k+1))=fvL (L.take k)+fvW (L.getD k 0):=by rw [take_snocT L k h,fvL_append,fvL_one]
theorem vS_fv (j:Nat) (hj:j=1074) (L:List Nat) (hF:FinL L):∀ k,k≤L.length→vS (L.take k)=fvL (L.take k)*((2^j:Nat):Int)∧(sS (L.take k)).n=0∧(sS (L.take k)).u=0∧(sS (L.take k)).d=0
 | 0,_=>by simp [vS,sS,fvL]
 | k+1,h=>by
   obtain ⟨i1,i2,i3,i4⟩:=vS_fv j hj L hF k (by omega)
   have hk:k<L.length:=by omega
   have hm:L.getD k 0 ∈ L:=by rw [List.getD_eq_getElem?_getD,List.getElem?_eq_getElem hk];exact List.getElem_mem _
   obtain ⟨hx,fx⟩:=hF _ hm;obtain ⟨p1,p2⟩:=pT_fv hx fx;rw [vS_take L k hk,sS_take L k hk,fvL_take L k hk,i1,p1,Int.add_mul,←hj];refine ⟨rfl,?_,?_,?_⟩ <;> unfold Sp.cnt <;> simp only <;> rcases p2 with e | e | e <;> rw [e] <;> simp <;> assumption
theorem vS_all (j:Nat) (hj:j=1074) (L:List Nat) (hF:FinL L):vS L=fvL L*((2^j:Nat):Int)∧(sS L).n=0∧(sS L).u=0∧(sS L).d=0:=by
 have:=vS_fv j hj L hF L.length (Nat.le_refl _);rw [List.take_length] at this;exact this
theorem exV_someT {V:Int}(h0:-(HB:Int)<V) (h1:V<(HB:Int)):∃ n X e,exV V=some (n,X,e)∧mkS n X e=some (n,X,e):=by
 by_cases hv:V=0
 · subst hv
   exact ⟨false,0,0,by unfold exV;exact mkS_zero _ _,mkS_zero _ _⟩
 · have hb:bl V.natAbs≤4238:=by
    refine Nat.le_of_not_lt (fun q=>?_)
    obtain ⟨k,hk⟩:∃ k,k=4238:=⟨_,rfl⟩;rw [←hk] at q;have h2:=(bl_gt V.natAbs k).1 q;have h3:=HB_two k hk;omega
   have hlo:lo V.natAbs≤bl V.natAbs:=by
    obtain ⟨m,o1,o2,o3⟩:=odd_part V.natAbs (by omega)
    omega
   have hs:mkS (decide (V<0)) V.natAbs (-2148)=some (decide (V<0),V.natAbs/2^lo V.natAbs,-2148+(lo V.natAbs:Int)):=by
    unfold mkS;rw [if_neg (by omega),if_neg (by omega)]
   exact ⟨_,_,_,hs,mkS_idem (mkS_frm hs)⟩
theorem nt_no (ok:Bool) (n u d m p a mode:Int):nt ok n u d m p a mode=0∨nt ok n u d m p a mode=9223372036854775808:=by
 unfold nt
 (repeat' split) <;> first | exact .inl rfl | exact .inr rfl
theorem vd_no (ok:Bool) (a b:Int):(vd ok 0 0 0 a b).2=false:=by
 unfold vd
 (repeat' split) <;> first | rfl | (exfalso;omega)
theorem rd_same {V:Int}{s t:Sp}{mode:Int}(h0:-(HB:Int)<V) (h1:V<(HB:Int)) (hs:s.n=0∧s.u=0∧s.d=0) (ht:t.n=0∧t.u=0∧t.d=0) (hm0:0≤mode) (hm4:mode≤4) :
 (rd10 V s mode 0 0).2=0∧(rd10 V t mode 0 0).2=0∧((rd10 V s mode 0 0).1=(rd10 V t mode 0 0).1∨(((rd10 V s mode 0 0).1=0∨(rd10 V s mode 0 0).1=9223372036854775808)∧((rd10 V t mode 0 0).1=0∨(rd10 V t mode 0 0).1=9223372036854775808))):=by
 have key:∀ q:Sp,(q.n=0∧q.u=0∧q.d=0)→(V=0→rd10 V q mode 0 0=(nt (snd q.n q.u q.d q.m q.p q.a) q.n q.u q.d q.m q.p q.a mode,0))∧(V≠0→rd10 V q mode 0 0=rndS (exV V) mode):=by
  intro q ⟨q1,q2,q3⟩;have hv:(vd (snd q.n q.u q.d q.m q.p q.a&&may 0 0) q.n q.u q.d 0 0).2=false:=by rw [q1,q2,q3];exact vd_no _ _ _
  have hr:rd10 V q mode 0 0=rd7 V q mode 0 0:=by unfold rd10;rw [if_neg (by omega),if_neg (by omega)]
  rw [hr];refine ⟨fun hV=>?_,fun hV=>?_⟩
  · have ha:ahd V q mode 0 0=(nt (snd q.n q.u q.d q.m q.p q.a) q.n q.u q.d q.m q.p q.a mode,true,0):=by unfold ahd;rw [hv,if_neg (by decide),if_pos hV]
    unfold rd7;rw [ha,if_pos rfl]
  · have ha:ahd V q mode 0 0=(0,false,0):=by unfold ahd;rw [hv,if_neg (by decide),if_neg hV]
    obtain ⟨n,X,e,h2,h3⟩:=exV_someT h0 h1;unfold rd7;rw [ha,if_neg (by decide),h2]
    show rndS (mkS n X e) mode=_
    rw [h3]
 by_cases hV:V=0
 · rw [(key s hs).1 hV,(key t ht).1 hV]
   exact ⟨rfl,rfl,.inr ⟨nt_no _ _ _ _ _ _ _ _,nt_no _ _ _ _ _ _ _ _⟩⟩
 · obtain ⟨n,X,e,h2,h3⟩:=exV_someT h0 h1
   rw [(key s hs).2 hV,(key t ht).2 hV,h2,rndS_form mode n X e hm0 hm4];exact ⟨rfl,rfl,.inl rfl⟩
end
section
open Go.ChangeShapes Go.WideShapes Go.ChangeAt Go.RowKit
theorem trodF {H:Type}{enc:TypeId×Value→H}{P:Program}{w:World}{base:Nat}{spare:Nat→Bool}{held:Bool}{fuel:Nat}{t:TypeId}{cs:List Value}{x:DataW H×List MemPlace}{k:FloatKind}(ht:P.underlying t=some (.float k)) (h:DataW.trod enc P w base spare held fuel t cs=some x):∃ n,cs=[.float k n]∧x=(.lit (.float k n),[])∧(Lit.float k n).wf=true:=by
 cases fuel with
 | zero=>simp [DataW.trod] at h
 | succ m =>
   simp only [DataW.trod,ht] at h
   split at h <;> simp_all
structure CameF (w:World) (a:Option Addr) (n c:Nat) (xs:List Nat):Prop where
 len:n=xs.length
 cap:n≤c
 wf:W64 xs
 rd:Fs w.heap.size w a xs
 nil:a=none→c=0
theorem add_noneF (b off i:Nat):(⟨b,off,none⟩:Addr).add i=⟨b,off+i,none⟩:=by unfold Addr.add;split <;> simp_all
def numF {H:Type} (y:DataW H×List MemPlace):Nat:=match y.1 with | .lit (.float _ n)=>n | _=>0
theorem Tryd.cellsF:Tryd.prog.cellsOf 23=1:=by kernel_rfl
theorem Tryd.bytesF:Tryd.prog.bytesOf 23=8:=by kernel_rfl
theorem cameF_of {H:Type}{enc:TypeId×Value→H}{W:World}{a:Option Addr}{n c:Nat}{d:DataW H}{p:List MemPlace}(h:DataW.Trod enc Tryd.prog W 0 (fun _=>true) true 22 (.slice a n c) d p) :
 ∃ xs,CameF W a n c xs∧((d=.nil∧c=0)∨∃ elems spare:List (DataW H),d=.slice elems spare∧elems.length+spare.length=c):=by
 obtain ⟨fuel,hf⟩:=h
 rcases DataW.trod_slice Tryd.underlying22 hf with ⟨hcs,hx⟩|⟨x,l,cp,elems,rest,m,_,hcs,hx,hb,hl,hm,hlen,hel,hsp,hns⟩
 · simp [Value.cells] at hcs
   obtain ⟨rfl,rfl,rfl⟩:=hcs;exact ⟨[],⟨rfl,Nat.le_refl _,(fun x hx=>by cases hx),(fun h=>absurd rfl h),fun _=>rfl⟩,.inl ⟨(Prod.mk.inj hx).1,rfl⟩⟩
 · simp [Value.cells] at hcs
   obtain ⟨rfl,rfl,rfl⟩:=hcs
   have each:∀ i y,i<n→elems[i]?=some y→y=(.lit (.float .f64 (numF y)),[])∧(Lit.float .f64 (numF y)).wf=true∧W.cell? (x.add i)=some (.float .f64 (numF y)):=by
    intro i y hi hy;have hb':=hel i hi;rw [hy,Tryd.cellsF,Nat.mul_one,Option.bind_eq_some_iff] at hb';obtain ⟨cs',hcs,hy'⟩:=hb';obtain ⟨k,rfl,rfl,hw⟩:=trodF Tryd.underlying23 hy';exact ⟨rfl,hw,cell_of_cells?_one hcs⟩
   refine ⟨elems.map numF,⟨by simp [hlen],hl,?_,?_,fun e=>by cases e⟩,.inr ⟨_,_,(Prod.mk.inj hx).1,?_⟩⟩
   · intro y hy
     obtain ⟨z,hz,rfl⟩:=List.mem_map.1 hy;obtain ⟨i,hi⟩:=List.getElem?_of_mem hz;have hil:=(List.getElem?_eq_some_iff.1 hi).1;have:=(each i z (by omega) hi).2.1
     exact of_decide_eq_true this
   · intro hne
     obtain ⟨b,off,spot⟩:=x
     have hn0:0<n:=by
      rcases Nat.eq_zero_or_pos n with h0|h0
      · rw [h0] at hlen;have:=List.eq_nil_of_length_eq_zero hlen;subst this;simp at hne
      · exact h0
     have hc0:=(each 0 (elems[0]'(by omega)) hn0 (List.getElem?_eq_getElem _)).2.2
     have hspot:spot=none:=by simpa [Addr.add] using World.cell?_spot hc0
     subst hspot;refine ⟨b,off,World.block_lt_of_cell? W _ (by simpa [Addr.add] using hc0),rfl,fun i hi=>?_⟩
     rw [List.length_map] at hi;have hadd:=add_noneF b off i;have:=(each i (elems[i]'hi) (by omega) (List.getElem?_eq_getElem _)).2.2
     rw [hadd] at this;rw [this];simp [List.getD_eq_getElem?_getD,hi]
   · have hr:=(hsp rfl).1
     simp only [List.length_map];omega
theorem cameF_reach {H:Type}{ts:List TypeId}{ds:List (DataW H)}(h:(DataW.weightsEach Tryd.prog ts ds).all (·≤reachBytes)=true) {j:Nat}{d:DataW H}{c n:Nat}(ht:ts[j]?=some 22) (hd:ds[j]?=some d) (hn:n≤c)
 (hc:(d=.nil∧c=0)∨∃ elems spare:List (DataW H),d=.slice elems spare∧elems.length+spare.length=c):n≤17592186043904:=by
 rcases hc with ⟨_,rfl⟩|⟨elems,spare,rfl,hl⟩
 · omega
 · have:=sized_slice h ht hd Tryd.underlying22
   rw [Tryd.bytesF,hl] at this;simp only [reachBytes] at this;omega
end
section
open Go.RowKit J
attribute [local go_sem] st_float
def Fw10 (n:Nat):Value:=.float .f64 n
theorem Tryd.und_floats:Tryd.prog.underlying 22=some (.slice 23):=by kernel_rfl
theorem Tryd.info_f64:(Tryd.prog.info? 23).map (fun i=>(i.zero,i.size,i.bytes))=some (some (.float .f64 0),1,8):=by kernel_rfl
end
section
open Go.RowKit
def Rf (lo:Nat) (w:World) (v:Value) (R:List Nat):Prop:=w.ownsRow lo 23 1 v R.length (R.map Fw10)
theorem Rf.alloc {lo:Nat}{w:World}{v:Value}{R:List Nat}(h:Rf lo w v R) (o:Obj):Rf lo (w.alloc o) v R:=World.ownsRow.alloc h o
theorem Rf.lt {lo:Nat}{w:World}{v:Value}{R:List Nat}(h:Rf lo w v R) (b:Nat) (hb:v.ownBlock=some b):lo≤b∧b<w.heap.size:=by
 rcases h.2 with ⟨rfl,_⟩|⟨g,cap,cur,rfl,hlo,hg,_⟩
 · simp [Value.ownBlock] at hb
 · simp [Value.ownBlock] at hb
   subst hb;exact ⟨hlo,(Array.getElem?_eq_some_iff.1 hg).1⟩
theorem Rf.shape {lo:Nat}{w:World}{v:Value}{R:List Nat}(h:Rf lo w v R) (hR:0<R.length):∃ g cap,v=.slice (some ⟨g,0,none⟩) R.length cap∧lo≤g∧g<w.heap.size∧R.length≤cap∧cap≤maxLen∧∀ i,i<R.length→w.cell? ⟨g,i,none⟩=some (.float .f64 (R.getD i 0)):=by
 have h':=h
 rcases h.2 with ⟨_,h0⟩|⟨g,cap,cur,rfl,hlo,hg,hn,hm,hs,ht⟩
 · omega
 · refine ⟨g,cap,rfl,hlo,(Array.getElem?_eq_some_iff.1 hg).1,hn,hm,fun i hi=>?_⟩
   have:=World.ownsRow.cellAt h' i (by omega)
   rw [this,List.getElem?_map,List.getElem?_eq_getElem hi,List.getD_eq_getElem?_getD,List.getElem?_eq_getElem hi]
   rfl
theorem Rf.shape0 {lo:Nat}{w:World}{v:Value}{R:List Nat}(h:Rf lo w v R):∃ ao cap,v=.slice ao R.length cap∧R.length≤cap:=by
 rcases h.2 with ⟨rfl,h0⟩|⟨g,cap,cur,rfl,_,_,hn,_⟩
 · exact ⟨none,0,by rw [h0],by omega⟩
 · exact ⟨_,cap,rfl,hn⟩
theorem Rf.fs {lo:Nat}{w:World}{ao:Option Addr}{n c:Nat}{R:List Nat}(h:Rf lo w (.slice ao n c) R):Fs w.heap.size w ao R:=by
 intro hne;obtain ⟨g,cap,e,h1,h2,h3,h4,h5⟩:=h.shape (List.length_pos_iff.2 hne)
 cases e
 exact ⟨g,0,h2,rfl,fun i hi=>by rw [Nat.zero_add];exact h5 i hi⟩
theorem append_flts (w:World) (lo:Nat) (v:Value) (xs src:List Nat) (ao:Option Addr) (m c:Nat) (ty:TypeId) (hown:Rf lo w v xs) (hm:m=src.length)
 (hR:src≠[]→∃ b off,ao=some ⟨b,off,none⟩∧∀ i,i<src.length→w.cell? ⟨b,off+i,none⟩=some (.float .f64 (src.getD i 0)))
 (hnn:ao≠none) (hbig:xs.length+m≤100000) (hlo:lo≤w.heap.size) :
 ∃ v' w',(Builtin.append_ #[22,22] ty #[v,.slice ao m c]).run Tryd.prog w=.ok v' w'∧Rf lo w' v' (xs++src)∧w.grownBy w' v.ownBlock∧(v'.ownBlock=v.ownBlock∨v'.ownBlock=some w.heap.size):=by
 obtain ⟨i0,hi,hz0,hz1,hz2⟩:=info_parts Tryd.info_f64;subst hm;obtain ⟨a,rfl⟩:∃ a,ao=some a:=by cases ao;exact absurd rfl hnn;exact ⟨_,rfl⟩
 obtain ⟨v',w',h1,h2,h3,_,h5⟩:=run_append_own_at (P:=Tryd.prog) w lo 22 ty 23 i0 (.float .f64 0) 1 8 Tryd.und_floats hi hz0 hz1 hz2 rfl (by decide) v xs.length (xs.map Fw10) hown a src.length c (src.map Fw10) (by simp) (by
  intro j u hj;have hj2:j<src.length:=by have:=(List.getElem?_eq_some_iff.1 hj).1;simpa using this
  obtain ⟨b,off,e,hc⟩:=hR (by intro e;subst e;simp at hj2)
  cases e
  have hadd:(⟨b,off,none⟩:Addr).add j=⟨b,off+j,none⟩:=by unfold Addr.add;split <;> simp_all
  rw [hadd,hc j hj2];rw [List.getElem?_map,List.getElem?_eq_getElem hj2] at hj
  rw [List.getD_eq_getElem?_getD,List.getElem?_eq_getElem hj2]
  exact hj) (by
  intro u hu;obtain ⟨x,_,rfl⟩:=List.mem_map.1 hu
  rfl) (by unfold maxLen;omega) (by omega) hlo
 exact ⟨v',w',h1,by unfold Rf;rw [List.map_append,List.length_append];exact h2,h3,h5⟩
theorem wpList_append_flt {w:World}{ops:Array Oper}{rest:List Oper}{o:Oper}{a:Act}{Q:Exit→Act→World→Prop}(hgd:o.guard=none) (s x:Operand)
 (ho:o.op=.call { callee:=.builtin .append,args:=#[s,x],argTypes:=#[22,22] }) (v u:Value) (hs:a.eval s=v) (hx:a.eval x=u) (v':Value) (w':World)
 (hrun:(Builtin.append_ #[22,22] o.type #[v,u]).run Tryd.prog w=.ok v' w') (h:wpList Tryd.prog ops Q rest (a.put o.dst v') w'):wpList Tryd.prog ops Q (o::rest) a w:=by
 refine wpList_plain hgd fun K hK=>?_
 unfold Oper.wp;simp [execOp,ho,resolve,invoke,builtin,hs,hx,hrun,Result.andThen];exact hK _ _ h
end
section
open Go.RowKit J
attribute [local go_sem] st_float
def Is (z v:Nat):Prop:=z<18446744073709551616∧nrm z=v
theorem Is.self {x:Nat}(h:x<18446744073709551616):Is x (nrm x):=⟨h,rfl⟩
theorem Is.pl {x y a b z:Nat}(hx:Is x a) (hy:Is y b) (hz:Gives .add x y z):Is z (plF a b):=by
 obtain ⟨h1,rfl⟩:=hx;obtain ⟨h2,rfl⟩:=hy;obtain ⟨h3,h4⟩:=gives_nrm (.inl rfl) hz;exact ⟨h4,h3.trans (add_nrm h1 h2).symm⟩
theorem plus10 {x y a b:Nat}(hx:Is x a) (hy:Is y b) (w:World):Calls Tryd.prog 37 #[.float .f64 x,.float .f64 y] w fun r w'=>∃ z,r=.returned (.float .f64 z)∧Is z (plF a b)∧Below w.heap.size w w':=by
 have HZ:Aside (∀ z,Gives .add x y z→Is z (plF a b)):=fun z hz=>hx.pl hy hz
 clear hx hy;go_enter Tryd.func37,Tryd.ntmps37
 cases h:floatBits .add .f64 x y with
 | some z =>
   have d:=run_float_arith (P:=Tryd.prog) w .add 23 .f64 x y z h
   go_wp2_with (simp only [d])
   exact bodyPost_ret (v:=.float .f64 z) (by simp [results,Tryd.results37,go_sem]) rfl ⟨z,rfl,HZ.out z (.inl h),Below.refl _ _⟩
 | none =>
   obtain ⟨z,hz,d⟩:=run_float_none (P:=Tryd.prog) w .add 23 x y (.inl rfl) h
   go_wp2_with (simp only [d])
   exact bodyPost_ret (v:=.float .f64 z) (by simp [results,Tryd.results37,go_sem]) rfl ⟨z,rfl,HZ.out z (.inr ⟨h,hz⟩),(Below.refl _ _).drew⟩
theorem told10 {x a:Nat}(hx:Is x a) (w:World):Calls Tryd.prog 21 #[.float .f64 x] w fun r w'=>r=.returned (.float .f64 a)∧w'=w:=by
 obtain ⟨s,e,f,he,hf,h1,h2⟩:=bwz x hx.1;have h3:=B.order_self s e f he hf;rw [←h1,h2] at h3;have h4:=hx.2;unfold nrm at h4;have HN:=hid (fun u:World=>B.nan_any u)
 clear h1 h2 he hf hx
 cases hn:nanW x
 · rw [hn] at h3 h4
   rw [if_neg (by decide)] at h4
   subst h4;go_enter Tryd.func21,Tryd.ntmps21;go_wp2;go_ret;exact ⟨rfl,rfl⟩
 · rw [hn] at h3 h4
   rw [if_pos rfl] at h4;subst h4;go_enter Tryd.func21,Tryd.ntmps21
   go_wp2_with fail
   refine (HN.out _).mono ?_;rintro r w1 ⟨rfl,rfl⟩;go_wp2;exact bodyPost_ret (v:=.float .f64 oddW) (by simp [results,Tryd.results21,go_sem,oddW]) rfl ⟨rfl,rfl⟩
theorem running10 (xs:List Nat) (a:Option Addr) (n c:Nat) (w:World) (hn:n=xs.length) (hF:Fs w.heap.size w a xs) (hW:W64 xs) (hc:n≤c) (hm:n≤4611686018427387904) :
 Calls Tryd.prog 22 #[.slice a n c] w fun r w'=>∃ z,r=.returned (.float .f64 z)∧Is z (runF xs)∧Below w.heap.size w w':=by
 by_cases h0:n=0
 · have e:xs=[]:=List.eq_nil_of_length_eq_zero (by omega)
   subst h0 e;clear hF hW hn;go_enter Tryd.func22,Tryd.ntmps22;go_wp2;exact bodyPost_ret (v:=.float .f64 0) (by simp [results,Tryd.results22,go_sem]) rfl ⟨0,rfl,⟨by decide,by decide⟩,Below.refl _ _⟩
 · have hne:xs≠[]:=by intro e;subst e;simp at hn;omega
   obtain ⟨b,off,hlt,rfl,hcl⟩:=hF hne;have hc0:=hcl 0 (by omega)
   rw [Nat.add_zero] at hc0;have HR:Aside (Fs w.heap.size w (some ⟨b,off,none⟩) xs∧W64 xs∧n=xs.length):=⟨hF,hW,hn⟩;have hz0:((n:Int)==0)=false:=by simp;omega
   have hz1:decide ((0:Int)<n)=true:=by simp;omega
   obtain ⟨x0,hx0⟩:∃ x0,x0=xs.getD 0 0:=⟨_,rfl⟩;rw [←hx0] at hc0;have HX:=qsd (show Is x0 (runF (xs.take 1)) by rw [runF_one xs (by omega),←hx0];exact Is.self (by rw [hx0];exact hW.get 0))
   have hnc:c=1∨c≠1:=by omega
   clear hF hW hn hcl hne hlt hx0;have hcc:(c=1∧n=1)∨c≠1:=by omega
   clear hnc
   rcases hcc with ⟨hc1,hn1⟩|hc1
   · subst hc1 hn1
     have HK:=qsd (show xs.take 1=xs by rw [List.take_of_length_le];rw [←HR.out.2.2];omega)
     go_enter Tryd.func22,Tryd.ntmps22;go_wp2
     go_loopg [15,3] 1 (fun gk i s wr=>i=.int .i64 0∧s=.float .f64 x0∧wr=w)
     case atStart=>exact ⟨by simp,rfl,rfl⟩
     case round =>
      obtain ⟨rfl,rfl,rfl⟩:=hrel;go_wp2;refine bodyPost_ret (v:=.float .f64 x0) (by simp [results,Tryd.results22,go_sem]) rfl ?_
      have e:=HX.out;rw [HK.out] at e;exact ⟨x0,rfl,e,Below.refl _ _⟩
   · go_enter Tryd.func22,Tryd.ntmps22
     go_wp2
     go_loopg [15,3] n (fun gk i s wr=>∃ (k z:Nat),gk+k=n∧i=.int .i64 (k:Nat)∧s=.float .f64 z∧Aside (Is z (runF (xs.take (k+1)))∧Below w.heap.size w wr))
     case atStart=>exact ⟨0,x0,by omega,by simp,rfl,HX.out,Below.refl _ _⟩
     case round =>
      obtain ⟨k,z,hgk,rfl,rfl,HA⟩:=hrel
      by_cases hk:k+1<n
      · have hcell:=HR.out.1.cell HA.out.2 (k+1) (by rw [←HR.out.2.2];exact hk)
        rw [show off+(k+1)=off+1+k by omega] at hcell
        obtain ⟨x,hx⟩:∃ x,x=xs.getD (k+1) 0:=⟨_,rfl⟩;rw [←hx] at hcell
        have HP:Hid (∀ u:World,Calls Tryd.prog 37 #[.float .f64 z,.float .f64 x] u fun r w'=>∃ z',r=.returned (.float .f64 z')∧Is z' (runF (xs.take (k+1+1)))∧Below u.heap.size u w'):=fun u=>by
         have hx64:x<18446744073709551616:=by rw [hx];exact HR.out.2.1.get (k+1)
         have h:=plus10 HA.out.1 (Is.self hx64) u;have hw:=runF_ok (xs.take (k+1)) (fun y hy=>HR.out.2.1 y (List.mem_of_mem_take hy))
         have e:=add_nrm hw.1 hx64;rw [hw.2] at e;rw [runF_take xs (k+1) (by omega) (by rw [←HR.out.2.2];exact hk),←hx]
         rw [show plF (runF (xs.take (k+1))) (nrm x)=plF (runF (xs.take (k+1))) x from e] at h
         exact h
        have hd:decide ((k:Int)<(n:Int)-1)=true:=by simp;omega
        clear hx
        go_wp2_with fail
        refine (HP.out _).mono ?_;rintro r w2 ⟨z',rfl,hz',hb2⟩;have HB:=qsd (ai hz' hb2);clear hz' hb2 HP;go_wp2
        go_roundg (gk-1)
        case measure=>omega
        case rel=>exact ⟨k+1,z',by omega,by first | rfl | simp,rfl,HB.out.1,HA.out.2.trans (HB.out.2.mono HA.out.2.size)⟩
      · have hd:decide ((k:Int)<(n:Int)-1)=false:=by simp;omega
        have HK:=qsd (show xs.take (k+1)=xs by rw [List.take_of_length_le];rw [←HR.out.2.2];omega)
        go_wp2;refine bodyPost_ret (v:=.float .f64 z) (by simp [results,Tryd.results22,go_sem]) rfl ?_
        have e:=HA.out.1;rw [HK.out] at e;exact ⟨z,rfl,e,HA.out.2⟩
theorem Running10 (xs:List Nat) (a:Option Addr) (n c:Nat) (w:World) (hn:n=xs.length) (hF:Fs w.heap.size w a xs) (hW:W64 xs) (hc:n≤c) (hm:n≤4611686018427387904) :
 Calls Tryd.prog 10 #[.slice a n c] w fun r w'=>r=.returned (.float .f64 (runF xs))∧Below w.heap.size w w':=by
 have H1:=hid (running10 xs a n c w hn hF hW hc hm);obtain ⟨y,hy⟩:∃ y,y=runF xs:=⟨_,rfl⟩;rw [←hy] at H1 ⊢;clear hn hF hW hc hm hy;go_enter Tryd.func10,Tryd.ntmps10
 go_wp2_with fail
 refine (H1.out).mono ?_;rintro r w1 ⟨z,rfl,hz,hb⟩;have H2:=hid (fun u:World=>told10 hz u)
 have HB:=qsd hb;clear hz hb H1
 go_wp2_with fail
 refine (H2.out _).mono ?_;rintro r w2 ⟨rfl,rfl⟩;go_wp2;exact bodyPost_ret (v:=.float .f64 y) (by simp [results,Tryd.results10,go_sem]) rfl ⟨rfl,HB.out⟩
end
section
open Go.RowKit J
theorem ldexp_pow10 (e E:Nat) (x:Int) (w:World) (he0:0<e) (he1:e<2047) (hE0:0<E) (hE:E<2047) (hx0:-3000≤x) (hx1:x≤3000) (hxE:(E:Int)=x+e) :
 Calls Tryd.prog 15 #[.float .f64 (B.bw false e 0),.int .i64 x] w fun r w'=>r=.returned (.float .f64 (B.bw false E 0))∧w'=w:=by
 have hb:B.bw false e 0=e*4503599627370496+0:=by unfold B.bw;simp
 have hd:B.bw false E 0=E*4503599627370496+0:=by unfold B.bw;simp
 exact B.ldexp_norm (B.bw false e 0) e 0 (B.bw false E 0) x (x+((e:Int)-1023)) ((E:Int)*4503599627370496) w (by rw [hb];omega) hx0 hx1 he0 he1 (by omega)
  (by rw [B.eq_zero false e 0 (by omega) (by omega)];simp;omega) (hid fun u=>B.isInf0 e 0 (by omega) (by omega) u) (hid fun u=>B.nan_no e 0 (by omega) (by omega) u) (hid fun u=>B.normalize_any e 0 he0 (by omega) (by omega) u)
  (B.bw_exp false e 0 (by omega) (by omega)) (B.mask_clear e 0 (by omega) (by omega)) rfl (by omega) (by omega) (by omega) (by omega) (by omega) (B.join_exp E 0 (by omega) (by omega)) (B.mul_one _ (by rw [hd];omega) (by rw [hd];omega) _)
end
end Go.Proofs.YtaofncmoehebmaaDoor
