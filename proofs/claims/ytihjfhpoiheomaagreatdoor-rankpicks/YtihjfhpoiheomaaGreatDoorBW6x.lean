import Derived.Test.YtihjfhpoiheomaaGreatDoorRS7x
import Derived.Test.YtihjfhpoiheomaaGreatDoorBIeeex
import Derived.Test.YtihjfhpoiheomaaGreatDoorW50x
import Derived.Deep.RegionWith
import Derived.BigQuiet
import Derived.Deep.RegionHeld3
import Derived.Test.YtihjfhpoiheomaaGreatDoorW25x
set_option linter.unusedVariables false
set_option linter.unusedSimpArgs false
set_option maxHeartbeats 16000000
set_option maxRecDepth 20000
namespace Go.Proofs.YtihjfhpoiheomaaGreatDoor
namespace B
open Go.RowKit
attribute [local go_sem] f64bits f64frombits
theorem ret_bool {a b:Bool}(h:a=b):Ending.returned (.bool a)=.returned (.bool b):=by rw [h]
theorem negF (s:Bool) (e f:Nat) (he:e<2048) (hf:f<4503599627370496) (w:World):(Op.unary .neg (.float .f64 (bw s e f))).run Tryz.prog w=.ok (.float .f64 (bw (!s) e f)) w:=by
 rw [←neg_bw s e f he hf];rfl
theorem isInf_pos (s:Bool) (e f:Nat) (he:e<2048) (hf:f<4503599627370496) (w:World) :
 Calls Tryz.prog 57 #[.float .f64 (bw s e f),.int .i64 1] w fun r w'=>r=.returned (.bool (!s&&(e==2047&&f==0)))∧w'=w:=by
 have h1:=gt_max s e f he hf;generalize (!s&&(e==2047&&f==0))=k at *;go_enter Tryz.func57,Tryz.ntmps57;go_wp2;go_ret;exact ⟨rfl,rfl⟩
theorem isInf_neg (s:Bool) (e f:Nat) (he:e<2048) (hf:f<4503599627370496) (w:World) :
 Calls Tryz.prog 57 #[.float .f64 (bw s e f),.int .i64 (-1)] w fun r w'=>r=.returned (.bool (s&&(e==2047&&f==0)))∧w'=w:=by
 have h1:=gt_max (!s) e f he hf;rw [Bool.not_not] at h1;have h2:=negF s e f he hf;generalize (s&&(e==2047&&f==0))=k at *;generalize bw (!s) e f=g at *;go_enter Tryz.func57,Tryz.ntmps57;go_wp2;go_ret;exact ⟨rfl,rfl⟩
theorem sign_any (s:Bool) (e f:Nat) (he:e<2048) (hf:f<4503599627370496) (w:World) :
 Calls Tryz.prog 97 #[.float .f64 (bw s e f)] w fun r w'=>r=.returned (.bool s)∧w'=w:=by
 have hl:=bw_lt s e f he hf
 cases s
 · have h1:bw false e f<9223372036854775808:=by unfold bw;simp only [Bool.toNat_false];omega
   go_enter Tryz.func97,Tryz.ntmps97;go_wp2;go_ret;exact ⟨ret_bool (decide_eq_false (by omega)),rfl⟩
 · have h1:9223372036854775808≤bw true e f:=by unfold bw;simp only [Bool.toNat_true];omega
   go_enter Tryz.func97,Tryz.ntmps97;go_wp2;go_ret;exact ⟨ret_bool (decide_eq_true (by unfold wrap64;omega)),rfl⟩
theorem abs_any (s:Bool) (e f:Nat) (he:e<2048) (hf:f<4503599627370496) (w:World) :
 Calls Tryz.prog 72 #[.float .f64 (bw s e f)] w fun r w'=>r=.returned (.float .f64 (bw false e f))∧w'=w:=by
 have h1:=abs_bw s e f he hf;go_enter Tryz.func72,Tryz.ntmps72;go_wp2;go_ret;exact ⟨rfl,rfl⟩
theorem order_any (s t:Bool) (e f u v:Nat) (he:e<2048) (hf:f<4503599627370496) (hu:u<2048) (hv:v<4503599627370496) (w:World) :
 Calls Tryz.prog 68 #[.float .f64 (bw s e f),.float .f64 (bw t u v)] w fun r w'=>r=.returned (.int .i64 (oc (ky s e f) (ky t u v)))∧w'=w:=by
 have HS:=Same_any s t e f u v he hf hu hv;have hgt:=gt_f64 s t e f u v he hf hu hv;have hlt:=lt_f64 s t e f u v he hf hu hv
 cases hd:decide (cb s e f=cb t u v)
 · rw [hd] at HS
   have H2:Hid (∀ w,Calls Tryz.prog 56 #[.float .f64 (bw s e f),.float .f64 (bw t u v)] w fun r w'=>r=.returned (.bool false)∧w'=w):=HS
   have hne:=of_decide_eq_false hd;clear HS hd
   cases h1:odd e f
   · cases h2:odd u v
     · rw [h1,h2] at hgt hlt
       simp only [Bool.not_false,Bool.true_and] at hgt hlt;rw [cb_else s e f (not_odd e f h1),cb_else t u v (not_odd u v h2)] at hne
       by_cases c1:pl t u v<pl s e f
       · rw [oc_gt (ky_of_pl t s u v e f h2 h1 c1)]
         rw [decide_eq_true c1] at hgt;clear hne c1 hlt;go_enter Tryz.func68,Tryz.ntmps68
         go_wp2_with fail
         refine (H2.out _).mono ?_;rintro r w1 ⟨rfl,rfl⟩
         go_wp2_with fail
         refine (isNaN_any s e f he hf _).mono ?_;rintro r w1 ⟨rfl,rfl⟩
         go_wp2_with fail
         go_ret;exact ⟨rfl,rfl⟩
       · by_cases c2:pl s e f<pl t u v
         · rw [oc_lt (ky_of_pl s t e f u v h1 h2 c2)]
           rw [decide_eq_true c2] at hlt;rw [decide_eq_false c1] at hgt;clear hne c1 c2;go_enter Tryz.func68,Tryz.ntmps68
           go_wp2_with fail
           refine (H2.out _).mono ?_;rintro r w1 ⟨rfl,rfl⟩
           go_wp2_with fail
           refine (isNaN_any s e f he hf _).mono ?_;rintro r w1 ⟨rfl,rfl⟩
           go_wp2_with fail
           refine (isNaN_any t u v hu hv _).mono ?_;rintro r w1 ⟨rfl,rfl⟩
           go_wp2_with fail
           go_ret;exact ⟨rfl,rfl⟩
         · rw [decide_eq_false c1] at hgt
           rw [decide_eq_false c2] at hlt;have hk:=ky_zero s t e f u v h1 h2 hne (by omega)
           clear hne c1 c2
           cases s
           · rw [oc_gt (hk.1 rfl)]
             clear hk;go_enter Tryz.func68,Tryz.ntmps68
             go_wp2_with fail
             refine (H2.out _).mono ?_;rintro r w1 ⟨rfl,rfl⟩
             go_wp2_with fail
             refine (isNaN_any false e f he hf _).mono ?_;rintro r w1 ⟨rfl,rfl⟩
             go_wp2_with fail
             refine (isNaN_any t u v hu hv _).mono ?_;rintro r w1 ⟨rfl,rfl⟩
             go_wp2_with fail
             refine (sign_any false e f he hf _).mono ?_;rintro r w1 ⟨rfl,rfl⟩
             go_wp2_with fail
             go_ret;exact ⟨rfl,rfl⟩
           · rw [oc_lt (hk.2 rfl)]
             clear hk;go_enter Tryz.func68,Tryz.ntmps68
             go_wp2_with fail
             refine (H2.out _).mono ?_;rintro r w1 ⟨rfl,rfl⟩
             go_wp2_with fail
             refine (isNaN_any true e f he hf _).mono ?_;rintro r w1 ⟨rfl,rfl⟩
             go_wp2_with fail
             refine (isNaN_any t u v hu hv _).mono ?_;rintro r w1 ⟨rfl,rfl⟩
             go_wp2_with fail
             refine (sign_any true e f he hf _).mono ?_;rintro r w1 ⟨rfl,rfl⟩
             go_wp2_with fail
             go_ret;exact ⟨rfl,rfl⟩
     · rw [ky_odd t u v h2,oc_lt (ky_lt s e f he hf h1)]
       rw [h1,h2] at hgt hlt;simp only [Bool.not_false,Bool.true_and,Bool.not_true,Bool.false_and] at hgt hlt;clear hne hlt;go_enter Tryz.func68,Tryz.ntmps68
       go_wp2_with fail
       refine (H2.out _).mono ?_;rintro r w1 ⟨rfl,rfl⟩
       go_wp2_with fail
       refine (isNaN_any s e f he hf _).mono ?_;rintro r w1 ⟨rfl,rfl⟩
       go_wp2_with fail
       refine (isNaN_any t u v hu hv _).mono ?_;rintro r w1 ⟨rfl,rfl⟩
       go_wp2_with fail
       go_ret;exact ⟨rfl,rfl⟩
   · have h2:odd u v=false:=by
      cases h2:odd u v
      · rfl
      · exact absurd ((cb_odd s e f (is_odd e f h1)).trans (cb_odd t u v (is_odd u v h2)).symm) hne
     rw [ky_odd s e f h1,oc_gt (ky_lt t u v hu hv h2)];clear hne hgt hlt;go_enter Tryz.func68,Tryz.ntmps68
     go_wp2_with fail
     refine (H2.out _).mono ?_;rintro r w1 ⟨rfl,rfl⟩
     go_wp2_with fail
     refine (isNaN_any s e f he hf _).mono ?_;rintro r w1 ⟨rfl,rfl⟩
     go_wp2_with fail
     go_ret;exact ⟨rfl,rfl⟩
 · rw [hd] at HS
   have H2:Hid (∀ w,Calls Tryz.prog 56 #[.float .f64 (bw s e f),.float .f64 (bw t u v)] w fun r w'=>r=.returned (.bool true)∧w'=w):=HS
   rw [oc_eq (ky_of_cb s t e f u v he hf hu hv (of_decide_eq_true hd))];clear HS hd hgt hlt;go_enter Tryz.func68,Tryz.ntmps68
   go_wp2_with fail
   refine (H2.out _).mono ?_;rintro r w1 ⟨rfl,rfl⟩
   go_wp2_with fail
   go_ret;exact ⟨rfl,rfl⟩
end B
section
open Go.RowKit
def FAns (lo:Nat) (w:World) (r:Ending) (o:Option (Bool×Nat×Int)):Prop :=
 ∃ v,r=.returned (.tuple #[.agg #[.bool (dN o),v,.int .i64 (dE o)],.bool o.isSome])∧Nt lo w v (dX o)
theorem moved_low {w:World}{v:Value}{X lo':Nat}(hN:Nt lo' w v X) (hX:X≠0) (hl:(ws X).length≤2000000) :
 Calls Tryz.prog 81 #[v,.int .i64 (-(lo X:Int))] w fun r w'=>∃ v,r=.returned v∧Nt w.heap.size w' v (X/2^lo X)∧Below w.heap.size w w':=by
 have hb:=lo_lt X hX (ws X).length (ws_len_lt X);have h:=moved_any hN (-(lo X:Int)) (by omega) (by omega) hX hl
 have e:(if -(lo X:Int)<0 then X/2^(- -(lo X:Int)).toNat else X*2^(-(lo X:Int)).toNat)=X/2^lo X:=by
  by_cases h0:lo X=0
  · rw [h0];simp
  · rw [if_pos (by omega),show (- -(lo X:Int)).toNat=lo X by omega]
 rw [e] at h;exact h
theorem rForm_any {w:World}{a:Option Addr}{n c:Nat}{xs:List Nat}(h1:Arg w a n c xs) (hn:n≤2000000) (neg:Bool) (e:Int) (he0:-9223372036854775808≤e) (he1:e≤9223372036854775807) :
 Calls Tryz.prog 113 #[.bool neg,.slice a n c,.int .i64 e] w fun r w'=>FAns w.heap.size w' r (mkS neg (val xs) e)∧Below w.heap.size w w':=by
 have hB1:Below w.heap.size w (w.alloc (.cells #[.bool false,.slice none 0 0,.int .i64 0] 77)):=below_alloc w _;obtain ⟨X,hX⟩:∃ X,val xs=X:=⟨_,rfl⟩;have H1:=hid (rNorm_arg (h1.below hB1) hX);rw [hX];have hXp:X<pw n:=by rw [←hX,h1.len];exact val_lt xs h1.wf
 have hXl:(ws X).length≤2000000:=by have:=(ws_len_le X n).2 hXp;omega
 have HB:=qsd hB1;clear h1 hX hB1 hXp;unfold mkS
 by_cases h0:X=0
 · rw [if_pos h0]
   have hl0:(ws X).length=0:=by rw [h0,ws_zero];rfl
   go_enter Tryz.func113,Tryz.ntmps113
   go_wp2_with fail
   refine H1.out.mono ?_;rintro r w2 ⟨v,rfl,hN,hb⟩;obtain ⟨a2,c2,rfl,_⟩:=hN.arg (by omega)
   obtain ⟨hc,hf⟩:=bcell hb;have HN:=(qsd (ai hN hb));have hz:=hb.size;clear hN hb;rw [hl0];go_wp2;obtain ⟨q1,q2⟩:=laid3 HB.out (by simp) HN.out.1 HN.out.2 (.bool false) (.slice none 0 0) (.int .i64 0)
   exact bodyPost_ret (v:=.tuple #[.agg #[.bool false,.slice none 0 0,.int .i64 0],.bool true]) (by simp [results,Tryz.results113,go_sem,hc]) rfl ⟨⟨_,rfl,Nt.nil _ _⟩,q2⟩
 · rw [if_neg h0]
   have hlo:=lo_lt X h0 (ws X).length (ws_len_lt X);have hml:=mk_len X h0;have hbl:=bl_pos X h0
   have hL0:((((ws X).length:Nat):Int)==0)=false:=by
    have:(ws X).length≠0:=fun e=>h0 ((ws_len_zero X).1 e)
    exact beq_eq_false_iff_ne.2 (by omega)
   have H2:Hid (∀ (a2:Option Addr) (c2:Nat) (u:World),Arg u a2 (ws X).length c2 (ws X)→Calls Tryz.prog 145 #[.slice a2 (ws X).length c2] u fun r w'=>r=.returned (.int .i64 (lo X:Nat))∧w'=u):=by
    intro a2 c2 u A;have:=rLow_any (ws X) a2 (ws X).length c2 u.heap.size u A.len (by omega) A.wf A.rd
    rw [val_ws] at this;exact this
   have H3:Hid (∀ (lo':Nat) (v:Value) (u:World),Nt lo' u v X→Calls Tryz.prog 81 #[v,.int .i64 (-(lo X:Int))] u fun r w'=>∃ v,r=.returned v∧Nt u.heap.size w' v (X/2^lo X)∧Below u.heap.size u w') :=
    fun lo' v u hN=>moved_low hN h0 hXl
   obtain ⟨l,hl⟩:∃ l,lo X=l:=⟨_,rfl⟩;obtain ⟨b,hb⟩:∃ b,bl X=b:=⟨_,rfl⟩;obtain ⟨Y,hY⟩:∃ Y,X/2^l=Y:=⟨_,rfl⟩;rw [hl] at H2 H3 hlo hml;rw [hb] at hml hbl;rw [hY] at H3 hml;rw [hl,hb,hY];have hYl:(ws Y).length≤2000000:=by rw [←hY];have:=ws_len_mono (Nat.div_le_self X (2^l));omega
   by_cases h3:1048576-(l:Int)<e∨e < -1048576-(l:Int)
   · rw [if_pos (.inr h3)]
     clear hml hbl hY hl hb h0
     by_cases g1:1048576<e
     · clear h3
       go_enter Tryz.func113,Tryz.ntmps113
       go_wp2_with fail
       refine H1.out.mono ?_;rintro r w2 ⟨v,rfl,hN,hb⟩;obtain ⟨a2,c2,rfl,A2⟩:=hN.arg (by omega)
       obtain ⟨hc,hf⟩:=bcell hb;have HN:=(qsd (ai hN hb));have hz:=hb.size;have H2':=hid (H2.out a2 c2 w2 A2);clear hN hb A2
       go_wp2_with fail
       refine (Calls.mono H2'.out) ?_;rintro r w3 ⟨rfl,rfl⟩;go_wp2;obtain ⟨q1,q2⟩:=laid3 HB.out (by simp) HN.out.1 HN.out.2 (.bool false) (.slice none 0 0) (.int .i64 0)
       exact bodyPost_ret (v:=.tuple #[.agg #[.bool false,.slice none 0 0,.int .i64 0],.bool false]) (by simp [results,Tryz.results113,go_sem,hc]) rfl ⟨⟨_,rfl,Nt.nil _ _⟩,q2⟩
     · have g1':decide (1048576<e)=false:=decide_eq_false g1
       by_cases g2:1048576<e+(l:Int)
       · clear h3
         go_enter Tryz.func113,Tryz.ntmps113
         go_wp2_with fail
         refine H1.out.mono ?_;rintro r w2 ⟨v,rfl,hN,hb⟩;obtain ⟨a2,c2,rfl,A2⟩:=hN.arg (by omega)
         obtain ⟨hc,hf⟩:=bcell hb;have HN:=(qsd (ai hN hb));have hz:=hb.size;have H2':=hid (H2.out a2 c2 w2 A2);clear hN hb A2
         go_wp2_with fail
         refine (Calls.mono H2'.out) ?_;rintro r w3 ⟨rfl,rfl⟩;go_wp2;obtain ⟨q1,q2⟩:=laid3 HB.out (by simp) HN.out.1 HN.out.2 (.bool false) (.slice none 0 0) (.int .i64 0)
         exact bodyPost_ret (v:=.tuple #[.agg #[.bool false,.slice none 0 0,.int .i64 0],.bool false]) (by simp [results,Tryz.results113,go_sem,hc]) rfl ⟨⟨_,rfl,Nt.nil _ _⟩,q2⟩
       · have g2':decide (1048576<e+(l:Int))=false:=decide_eq_false g2
         have g3:e+(l:Int) < -1048576:=by omega
         clear h3;go_enter Tryz.func113,Tryz.ntmps113
         go_wp2_with fail
         refine H1.out.mono ?_;rintro r w2 ⟨v,rfl,hN,hb⟩;obtain ⟨a2,c2,rfl,A2⟩:=hN.arg (by omega)
         obtain ⟨hc,hf⟩:=bcell hb;have HN:=(qsd (ai hN hb));have hz:=hb.size;have H2':=hid (H2.out a2 c2 w2 A2);clear hN hb A2
         go_wp2_with fail
         refine (Calls.mono H2'.out) ?_;rintro r w3 ⟨rfl,rfl⟩;go_wp2;obtain ⟨q1,q2⟩:=laid3 HB.out (by simp) HN.out.1 HN.out.2 (.bool false) (.slice none 0 0) (.int .i64 0)
         exact bodyPost_ret (v:=.tuple #[.agg #[.bool false,.slice none 0 0,.int .i64 0],.bool false]) (by simp [results,Tryz.results113,go_sem,hc]) rfl ⟨⟨_,rfl,Nt.nil _ _⟩,q2⟩
   · have g1':decide (1048576<e)=false:=decide_eq_false (by omega)
     have g2':decide (1048576<e+(l:Int))=false:=decide_eq_false (by omega)
     have g3':decide (e+(l:Int) < -1048576)=false:=decide_eq_false (by omega)
     have g4:e+(l:Int)≤1048576:=by omega
     have g5:-1048576≤e+(l:Int):=by omega
     have hdec:(262144<b-l)↔8192<(ws Y).length:=by omega
     by_cases h4:262144<b-l
     · rw [if_pos (.inl h4)]
       have h5:8192<(ws Y).length:=hdec.1 h4;clear hml hbl hY hl hb h0 h3 hdec h4;go_enter Tryz.func113,Tryz.ntmps113
       go_wp2_with fail
       refine H1.out.mono ?_;rintro r w2 ⟨v,rfl,hN,hb⟩;obtain ⟨a2,c2,rfl,A2⟩:=hN.arg (by omega)
       have hz:=hb.size;have H2':=hid (H2.out a2 c2 w2 A2);have H3':=hid (H3.out _ _ w2 hN);have HN:=(qsd (ai hN hb));clear hN hb A2
       go_wp2_with fail
       refine (Calls.mono H2'.out) ?_;rintro r w3 ⟨rfl,rfl⟩
       go_wp2_with fail
       refine (Calls.mono H3'.out) ?_;rintro r w4 ⟨v4,rfl,hN4,hb4⟩;obtain ⟨a4,c4,rfl,_⟩:=hN4.arg (by omega)
       have hb:=HN.out.2.trans (hb4.mono hz);have hN5:=hN4.mono hz;obtain ⟨hc,hf⟩:=bcell hb;have HN:=(qsd (ai hN5 hb));clear hN4 hb4 hb hN5;go_wp2;obtain ⟨q1,q2⟩:=laid3 HB.out (by simp) HN.out.1 HN.out.2 (.bool false) (.slice none 0 0) (.int .i64 0)
       exact bodyPost_ret (v:=.tuple #[.agg #[.bool false,.slice none 0 0,.int .i64 0],.bool false]) (by simp [results,Tryz.results113,go_sem,hc]) rfl ⟨⟨_,rfl,Nt.nil _ _⟩,q2⟩
     · rw [if_neg (by omega)]
       have h5:(ws Y).length≤8192:=by omega
       clear hml hbl hY hl hb h0 h3 hdec h4;go_enter Tryz.func113,Tryz.ntmps113
       go_wp2_with fail
       refine H1.out.mono ?_;rintro r w2 ⟨v,rfl,hN,hb⟩;obtain ⟨a2,c2,rfl,A2⟩:=hN.arg (by omega)
       have hz:=hb.size;have H2':=hid (H2.out a2 c2 w2 A2);have H3':=hid (H3.out _ _ w2 hN);have HN:=(qsd (ai hN hb));clear hN hb A2
       go_wp2_with fail
       refine (Calls.mono H2'.out) ?_;rintro r w3 ⟨rfl,rfl⟩
       go_wp2_with fail
       refine (Calls.mono H3'.out) ?_;rintro r w4 ⟨v4,rfl,hN4,hb4⟩;obtain ⟨a4,c4,rfl,_⟩:=hN4.arg (by omega)
       have hb:=HN.out.2.trans (hb4.mono hz);have hN5:=hN4.mono hz;obtain ⟨hc,hf⟩:=bcell hb;have HN:=(qsd (ai hN5 hb));clear hN4 hb4 hb hN5;go_wp2;obtain ⟨q1,q2⟩:=laid3 HB.out (by simp) HN.out.1 HN.out.2 (.bool neg) (.slice a4 (ws Y).length c4) (.int .i64 (e+l))
       exact bodyPost_ret (v:=.tuple #[.agg #[.bool neg,.slice a4 (ws Y).length c4,.int .i64 (e+l)],.bool true]) (by simp [results,Tryz.results113,go_sem,hc]) rfl ⟨⟨_,rfl,q1⟩,q2⟩
end
section
open Go.RowKit
theorem But.setC {g:Nat}(w:World) (i:Nat) (u:Value):But g w (w.setCell ⟨g,i,none⟩ u):=(But.refl g w).set _ _
theorem Nt.setC {lo:Nat}{w:World}{v:Value}{X:Nat}(h:Nt lo w v X) (b i:Nat) (u:Value) (hb:b<lo):Nt lo (w.setCell ⟨b,i,none⟩ u) v X:=h.but (But.setC w i u) hb
theorem Nt.allocC {lo:Nat}{w:World}{v:Value}{X:Nat}(h:Nt lo w v X) (o:Obj):Nt lo (w.alloc o) v X:=h.below (below_alloc w o)
theorem Below.setC {lo:Nat}{w0 w:World}(h:Below lo w0 w) (b i:Nat) (u:Value) (hb:lo≤b) (hs:lo≤w.heap.size):Below lo w0 (w.setCell ⟨b,i,none⟩ u):=But.below h (But.setC w i u) hs hb
structure Fin (lo m:Nat) (w0 w:World) (v:Value) (X:Nat):Prop where
 nt:Nt m w v X
 bel:Below lo w0 w
 size:lo≤w.heap.size
theorem Fin.set {lo m:Nat}{w0 w:World}{v:Value}{X:Nat}(H:Fin lo m w0 w v X) (b i:Nat) (u:Value) (h1:lo≤b) (h2:b<m):Fin lo m w0 (w.setCell ⟨b,i,none⟩ u) v X :=
 ⟨H.nt.setC b i u h2,Below.setC H.bel b i u h1 H.size,by simpa [World.setCell] using H.size⟩
theorem Fin.alloc {lo m:Nat}{w0 w:World}{v:Value}{X:Nat}(H:Fin lo m w0 w v X) (o:Obj):Fin lo m w0 (w.alloc o) v X :=
 ⟨H.nt.allocC o,H.bel.alloc H.size o,by have:=H.size;simp;omega⟩
theorem Fin.of {lo:Nat}{w0 W1 w2:World}{v:Value}{X:Nat}(k:Nat) (hB:Below lo w0 W1) (hk:W1.heap.size=lo+k) (hN:Nt W1.heap.size w2 v X) (hb:Below W1.heap.size W1 w2):Fin lo (lo+k) w0 w2 v X :=
 ⟨hk ▸ hN,hB.trans (hb.mono (by omega)),by have:=hb.size;omega⟩
theorem Fin.dans {lo m:Nat}{w0 w:World}{n:Bool}{v:Value}{X:Nat}{e:Int}{k:Value}(H:Fin lo m w0 w v X) (h:lo≤m) :
 (∃ v',Ending.returned (.tuple #[.agg #[.bool n,v,.int .i64 e],k])=.returned (.tuple #[.agg #[.bool n,v',.int .i64 e],k])∧Nt lo w v' X)∧Below lo w0 w:=⟨⟨v,rfl,H.nt.mono h⟩,H.bel⟩
theorem Fin.dnil {lo m:Nat}{w0 w:World}{n:Bool}{v:Value}{X:Nat}{e:Int}{k:Value}(H:Fin lo m w0 w v X) :
 (∃ v',Ending.returned (.tuple #[.agg #[.bool n,.slice none 0 0,.int .i64 e],k])=.returned (.tuple #[.agg #[.bool n,v',.int .i64 e],k])∧Nt lo w v' 0)∧Below lo w0 w:=⟨⟨_,rfl,Nt.nil _ _⟩,H.bel⟩
theorem rtold_any {w:World}{a:Option Addr}{n c:Nat}{xs:List Nat}(h1:Arg w a n c xs) (hn:n≤2000000) (neg:Bool) (e:Int) (he0:-9223372036854775808≤e) (he1:e≤9223372036854775807) :
 Calls Tryz.prog 82 #[.bool neg,.slice a n c,.int .i64 e] w fun r w'=>DAns w.heap.size w' r (mkS neg (val xs) e)∧Below w.heap.size w w':=by
 have H1:=hid (rForm_any (h1.below (below_alloc w (.cells #[.bool false,.slice none 0 0,.int .i64 0] 77))) hn neg e he0 he1);have hl:=mkS_len neg (val xs) e;obtain ⟨o,ho⟩:∃ o,mkS neg (val xs) e=o:=⟨_,rfl⟩;rw [ho] at H1 hl ⊢;unfold FAns at H1;unfold DAns;have HB:=qsd (below_alloc w (.cells #[.bool false,.slice none 0 0,.int .i64 0] 77));clear h1 ho hn he0 he1
 match o with
 | none =>
   simp only [dN,dX,dE,erS,Option.isSome,Option.getD] at H1 hl ⊢;go_enter Tryz.func82,Tryz.ntmps82
   go_wp2_with fail
   refine H1.out.mono ?_;rintro r w2 ⟨⟨v,rfl,hN⟩,hb⟩;obtain ⟨a2,c2,rfl,_⟩:=hN.arg (by omega)
   obtain ⟨hc,hf⟩:=bcell hb;have HF:=qsd (Fin.of 1 HB.out (by simp) hN hb)
   have hz:w.heap.size<w2.heap.size:=by have:=hb.size;simp at this;omega
   clear hN hb;go_wp2;exact bodyPost_ret (v:=.tuple #[.agg #[.bool false,.slice none 0 0,.int .i64 0],.int .i64 2]) (by simp [results,Tryz.results82,go_sem,hc,hz]) rfl (Fin.dnil (m:=w.heap.size+1) (v:=.slice a2 (ws 0).length c2) (X:=0) (by repeat (first | exact HF.out | refine Fin.alloc ?_ _ | refine Fin.set ?_ _ _ _ (by omega) (by omega))))
 | some (dn,X,de) =>
   simp only [dN,dX,dE,erS,Option.isSome,Option.getD] at H1 hl ⊢;go_enter Tryz.func82,Tryz.ntmps82
   go_wp2_with fail
   refine H1.out.mono ?_;rintro r w2 ⟨⟨v,rfl,hN⟩,hb⟩;obtain ⟨a2,c2,rfl,_⟩:=hN.arg (by omega)
   obtain ⟨hc,hf⟩:=bcell hb;have HF:=qsd (Fin.of 1 HB.out (by simp) hN hb)
   have hz:w.heap.size<w2.heap.size:=by have:=hb.size;simp at this;omega
   clear hN hb;go_wp2;exact bodyPost_ret (v:=.tuple #[.agg #[.bool dn,.slice a2 (ws X).length c2,.int .i64 de],.int .i64 0]) (by simp [results,Tryz.results82,go_sem,hc,hz]) rfl (Fin.dans (m:=w.heap.size+1) (by repeat (first | exact HF.out | refine Fin.alloc ?_ _ | refine Fin.set ?_ _ _ _ (by omega) (by omega))) (by omega))
end
section
open Go.RowKit
theorem rMake_any {w:World}{a:Option Addr}{n c:Nat}{xs:List Nat}(h1:Arg w a n c xs) (hn:n≤2000000) (neg:Bool) (e:Int) (he0:-9223372036854775808≤e) (he1:e≤9223372036854775807) :
 Calls Tryz.prog 63 #[.bool neg,.slice a n c,.int .i64 e] w fun r w'=>DAns w.heap.size w' r (mkS neg (val xs) e)∧Below w.heap.size w w':=by
 have HB:=qsd (show Below w.heap.size w (w.alloc (.cells #[.bool false,.slice none 0 0,.int .i64 0] 77)) from ((Below.refl _ _).alloc (Nat.le_refl _) _))
 have H1:=hid (rtold_any (h1.below HB.out) hn neg e he0 he1);have hl:=mkS_len neg (val xs) e;obtain ⟨o,ho⟩:∃ o,mkS neg (val xs) e=o:=⟨_,rfl⟩;rw [ho] at H1 hl ⊢;unfold DAns at H1 ⊢;obtain ⟨dn,hdn⟩:∃ d,dN o=d:=⟨_,rfl⟩;obtain ⟨X,hdx⟩:∃ d,dX o=d:=⟨_,rfl⟩;obtain ⟨de,hde⟩:∃ d,dE o=d:=⟨_,rfl⟩;obtain ⟨er,her⟩:∃ d,erS o=d:=⟨_,rfl⟩;rw [hdn,hdx,hde,her] at H1 ⊢;rw [hdx] at hl;clear h1 ho hdn hdx hde her hn he0 he1;go_enter Tryz.func63,Tryz.ntmps63
 go_wp2_with fail
 refine H1.out.mono ?_;rintro r w2 ⟨⟨v,rfl,hN⟩,hb⟩;obtain ⟨a2,c2,rfl,_⟩:=hN.arg (by omega)
 obtain ⟨hc,hf⟩:=bcell hb;have HF:=qsd (Fin.of 1 HB.out (by simp) hN hb)
 have hz:w.heap.size<w2.heap.size:=by have:=hb.size;simp at this;omega
 clear hN hb;go_wp2;exact bodyPost_ret (v:=.tuple #[.agg #[.bool dn,.slice a2 (ws X).length c2,.int .i64 de],.int .i64 er]) (by simp [results,Tryz.results63,go_sem,hc]) rfl (Fin.dans (m:=w.heap.size+1) (by repeat (first | exact HF.out | refine Fin.alloc ?_ _ | refine Fin.set ?_ _ _ _ (by omega) (by omega))) (by omega))
theorem rMade_any {w:World}{a:Option Addr}{n c:Nat}{xs:List Nat}(h1:Arg w a n c xs) (hn:n≤2000000) (neg:Bool) (e:Int) (he0:-9223372036854775808≤e) (he1:e≤9223372036854775807) :
 Calls Tryz.prog 80 #[.agg #[.bool neg,.slice a n c,.int .i64 e]] w fun r w'=>FAns w.heap.size w' r (mkS neg (val xs) e)∧Below w.heap.size w w':=by
 have HB:=qsd (show Below w.heap.size w ((w.alloc (.cells #[.bool neg,.slice a n c,.int .i64 e] 77)).alloc (.cells #[.bool false,.slice none 0 0,.int .i64 0] 77)) from (((Below.refl _ _).alloc (Nat.le_refl _) _).alloc (by simp) _))
 have H1:=hid (rForm_any (h1.below HB.out) hn neg e he0 he1);have hl:=mkS_len neg (val xs) e;obtain ⟨o,ho⟩:∃ o,mkS neg (val xs) e=o:=⟨_,rfl⟩;rw [ho] at H1 hl ⊢;unfold FAns at H1 ⊢;obtain ⟨dn,hdn⟩:∃ d,dN o=d:=⟨_,rfl⟩;obtain ⟨X,hdx⟩:∃ d,dX o=d:=⟨_,rfl⟩;obtain ⟨de,hde⟩:∃ d,dE o=d:=⟨_,rfl⟩;obtain ⟨er,her⟩:∃ d,o.isSome=d:=⟨_,rfl⟩;rw [hdn,hdx,hde,her] at H1 ⊢;rw [hdx] at hl;clear h1 ho hdn hdx hde her hn he0 he1;go_enter Tryz.func80,Tryz.ntmps80
 go_wp2_with fail
 refine H1.out.mono ?_;rintro r w2 ⟨⟨v,rfl,hN⟩,hb⟩;obtain ⟨a2,c2,rfl,_⟩:=hN.arg (by omega)
 obtain ⟨hc,hf⟩:=bcell hb;have HF:=qsd (Fin.of 2 HB.out (by simp) hN hb)
 have hz:w.heap.size+1<w2.heap.size:=by have:=hb.size;simp at this;omega
 clear hN hb;go_wp2;exact bodyPost_ret (v:=.tuple #[.agg #[.bool dn,.slice a2 (ws X).length c2,.int .i64 de],.bool er]) (by simp [results,Tryz.results80,go_sem,hc]) rfl (Fin.dans (m:=w.heap.size+2) (by repeat (first | exact HF.out | refine Fin.alloc ?_ _ | refine Fin.set ?_ _ _ _ (by omega) (by omega))) (by omega))
theorem form_any {w:World}{a:Option Addr}{n c:Nat}{xs:List Nat}(h1:Arg w a n c xs) (hT:Tab w) (neg:Bool) (e:Int) (he0:-9223372036854775808≤e) (he1:e≤9223372036854775807) :
 Calls Tryz.prog 100 #[.agg #[.bool neg,.slice a n c,.int .i64 e]] w fun r w'=>DAns w.heap.size w' r (mkS neg (val xs) e)∧Below w.heap.size w w':=by
 have HB:=qsd (show Below w.heap.size w ((w.alloc (.cells #[.bool neg,.slice a n c,.int .i64 e] 77)).alloc (.cells #[.bool false,.slice none 0 0,.int .i64 0] 77)) from (((Below.refl _ _).alloc (Nat.le_refl _) _).alloc (by simp) _))
 have H1:=hid (Make_any (h1.below HB.out) (hT.belows HB.out) neg e he0 he1);have hl:=mkS_len neg (val xs) e;obtain ⟨o,ho⟩:∃ o,mkS neg (val xs) e=o:=⟨_,rfl⟩;rw [ho] at H1 hl ⊢;unfold DAns at H1 ⊢;obtain ⟨dn,hdn⟩:∃ d,dN o=d:=⟨_,rfl⟩;obtain ⟨X,hdx⟩:∃ d,dX o=d:=⟨_,rfl⟩;obtain ⟨de,hde⟩:∃ d,dE o=d:=⟨_,rfl⟩;obtain ⟨er,her⟩:∃ d,erS o=d:=⟨_,rfl⟩;rw [hdn,hdx,hde,her] at H1 ⊢;rw [hdx] at hl;clear h1 ho hdn hdx hde her hT he0 he1;go_enter Tryz.func100,Tryz.ntmps100
 go_wp2_with fail
 refine H1.out.mono ?_;rintro r w2 ⟨⟨v,rfl,hN⟩,hb⟩;obtain ⟨a2,c2,rfl,_⟩:=hN.arg (by omega)
 obtain ⟨hc,hf⟩:=bcell hb;have HF:=qsd (Fin.of 2 HB.out (by simp) hN hb)
 have hz:w.heap.size+1<w2.heap.size:=by have:=hb.size;simp at this;omega
 clear hN hb;go_wp2;exact bodyPost_ret (v:=.tuple #[.agg #[.bool dn,.slice a2 (ws X).length c2,.int .i64 de],.int .i64 er]) (by simp [results,Tryz.results100,go_sem,hc]) rfl (Fin.dans (m:=w.heap.size+2) (by repeat (first | exact HF.out | refine Fin.alloc ?_ _ | refine Fin.set ?_ _ _ _ (by omega) (by omega))) (by omega))
def DVal (lo:Nat) (w:World) (r:Ending) (o:Option (Bool×Nat×Int)):Prop :=
 ∃ v,r=.returned (.agg #[.bool (dN o),v,.int .i64 (dE o)])∧Nt lo w v (dX o)
end
section
open Go.RowKit
attribute [local go_sem] B.eqParts B.fld0 B.fld1 B.fld2 B.fld3
def ofR (s:Bool) (e f:Nat):Option (Bool×Nat×Int):=if e=2047 then none else mkS s (if e=0 then f else f+4503599627370496) (if e=0 then -1074 else (e:Int)-1075)
def ofE (e:Nat):Int:=if e=2047 then 30 else 0
def OAns (lo:Nat) (w:World) (r:Ending) (o:Option (Bool×Nat×Int)) (er:Int):Prop :=
 ∃ v,r=.returned (.tuple #[.agg #[.bool (dN o),v,.int .i64 (dE o)],.int .i64 er])∧Nt lo w v (dX o)
theorem bl_le53 (X:Nat) (h:X<9007199254740992):bl X≤53:=by
 by_cases h0:X=0
 · subst h0;rw [bl_zero];omega
 · have:=(Nat.pow_lt_pow_iff_right (a:=2) (by omega)).1 (Nat.lt_of_le_of_lt (bl_ge X h0) (show X<2^53 from h))
   omega
theorem of_some (s:Bool) (X:Nat) (x:Int) (hX:X<9007199254740992) (h0:-1100≤x) (h1:x≤1000):∃ d,mkS s X x=some d:=by
 unfold mkS
 by_cases h:X=0
 · rw [if_pos h];exact ⟨_,rfl⟩
 · rw [if_neg h]
   obtain ⟨m,_,_,hb⟩:=odd_part X h;have:=bl_le53 X hX;rw [if_neg (by omega)]
   exact ⟨_,rfl⟩
theorem of_core (s:Bool) (b:Nat) (F:Nat) (k x:Int) (w:World) (hT:Tab w) (hF:F<9007199254740992) (hx0:-1100≤x) (hx1:x≤1000)
 (HA:Hid (∀ u,Calls Tryz.prog 72 #[.float .f64 b] u fun r w'=>r=.returned (.float .f64 (b%9223372036854775808))∧w'=u))
 (HS:Hid (∀ u,Calls Tryz.prog 70 #[.float .f64 (b%9223372036854775808)] u fun r w'=>r=.returned (.agg #[.bool false,.int .i64 k,.int .i64 x,.int .u64 (F:Nat)])∧Below u.heap.size u w'))
 (H0:Hid (∀ u,Calls Tryz.prog 70 #[.float .f64 0] u fun r w'=>r=.returned (.agg #[.bool false,.int .i64 0,.int .i64 (-1074),.int .u64 0])∧Below u.heap.size u w'))
 (hlt:(FloatKind.f64.format.order b 0==some .lt)=s) (k0:(k==0)=false) (k3:(k==3)=false) (k4:(k==4)=false) :
 Calls Tryz.prog 74 #[.float .f64 b] w fun r w'=>DAns w.heap.size w' r (mkS s F x)∧Below w.heap.size w w':=by
 generalize hb2:b%9223372036854775808=b2 at *;clear hb2;have HO:Hid (∀ u,Calls Tryz.prog 106 #[.int .u64 (F:Nat)] u fun r w'=>∃ v,r=.returned v∧Nt u.heap.size w' v F∧Below u.heap.size u w'):=fun u=>of_any F u (by omega)
 have HM:Hid (∀ (u:World) (a:Option Addr) (c:Nat),Tab u→Arg u a (ws F).length c (ws F)→Calls Tryz.prog 105 #[.bool s,.slice a (ws F).length c,.int .i64 x] u fun r w'=>DAns u.heap.size w' r (mkS s F x)∧Below u.heap.size u w'):=by
  intro u a c hTu hA;have:=Make_any hA hTu s x (by omega) (by omega)
  rw [val_ws] at this;exact this
 have hFl:(ws F).length≤100:=by have:=ws_len_bl F;have:=bl_le53 F hF;omega
 have hl:=mkS_len s F x;obtain ⟨o,ho⟩:∃ o,mkS s F x=o:=⟨_,rfl⟩;rw [ho] at HM hl ⊢;unfold DAns at HM ⊢;obtain ⟨dn,hdn⟩:∃ d,dN o=d:=⟨_,rfl⟩;obtain ⟨X,hdx⟩:∃ d,dX o=d:=⟨_,rfl⟩;obtain ⟨de,hde⟩:∃ d,dE o=d:=⟨_,rfl⟩;obtain ⟨er,her⟩:∃ d,erS o=d:=⟨_,rfl⟩;rw [hdn,hdx,hde,her] at HM ⊢;rw [hdx] at hl;have HT:=qsd hT;clear ho hdn hdx hde her hT hF hx0 hx1;go_enter Tryz.func74,Tryz.ntmps74
 go_wp2_with fail
 refine (Calls.mono (HA.out _)) ?_;rintro r w1 ⟨rfl,rfl⟩
 go_wp2_with fail
 refine (Calls.mono (HS.out _)) ?_;rintro r w2 ⟨rfl,hb⟩;obtain ⟨hc,hf⟩:=bcell hb;have hz:w.heap.size<w2.heap.size:=by have:=hb.size;simp at this;omega
 have hbw:Below w.heap.size w w2:=((Below.refl _ _).alloc (Nat.le_refl _) _).trans (hb.mono (by simp))
 have SB:=qsd hbw;clear hb hbw;obtain ⟨W2,hW2⟩:∃ W,W=w2.alloc (.cells #[.bool false,.int .i64 k,.int .i64 x,.int .u64 (F:Nat)] 80):=⟨_,rfl⟩;have hbW:Below w.heap.size w W2:=by rw [hW2];exact SB.out.alloc (by omega) _
 have P:W2.heap[w2.heap.size]?=some (.cells #[.bool false,.int .i64 k,.int .i64 x,.int .u64 (F:Nat)] 80 (0,0)):=by rw [hW2,heap_alloc_new]
 have p0:W2.cell? ⟨w2.heap.size,0,none⟩=some (.bool false):=by simp [World.cell?,P]
 have p1:W2.cell? ⟨w2.heap.size,1,none⟩=some (.int .i64 k):=by simp [World.cell?,P]
 have p2:W2.cell? ⟨w2.heap.size,2,none⟩=some (.int .i64 x):=by simp [World.cell?,P]
 have p3:W2.cell? ⟨w2.heap.size,3,none⟩=some (.int .u64 (F:Nat)):=by simp [World.cell?,P]
 have r0:W2.cell? ⟨w.heap.size,0,none⟩=some (.bool false):=by rw [hW2];go_simp
 have r1:W2.cell? ⟨w.heap.size,1,none⟩=some (.slice none 0 0):=by rw [hW2];go_simp
 have r2:W2.cell? ⟨w.heap.size,2,none⟩=some (.int .i64 0):=by rw [hW2];go_simp
 have f0:W2.frozen? ⟨w.heap.size,0,none⟩=false:=by rw [hW2];go_simp
 have f1:W2.frozen? ⟨w.heap.size,1,none⟩=false:=by rw [hW2];go_simp
 have f2:W2.frozen? ⟨w.heap.size,2,none⟩=false:=by rw [hW2];go_simp
 have hz2:w2.heap.size<W2.heap.size:=by rw [hW2];simp
 have hz3:w.heap.size<W2.heap.size:=by omega
 have SW:=qsd hbW
 go_wp2_with fail
 rw [←hW2];clear hW2 hbW P hc hf SB
 go_region_with (go_at_call 70;refine (H0.out _).mono ?_;rintro r w3 ⟨rfl,hb3⟩;have hb4:Below W2.heap.size W2 w3:=(by first | exact hb3 | exact ((Below.refl _ W2).drew).trans (hb3.mono (Nat.le_refl _)));obtain ⟨hc,hf⟩:=bcell hb4;have S3:=qsd hb4;clear hb3 hb4)
 all_goals (
  go_wp2_with fail
  have hz4:w2.heap.size<w3.heap.size:=by have:=S3.out.size;omega
  have hz5:w.heap.size<w3.heap.size:=by have:=S3.out.size;omega
  go_region_with (first
   | (go_at_call 106
      refine (HO.out _).mono ?_;rintro r w4 ⟨v4,rfl,hN,hb⟩;obtain ⟨a4,c4,rfl,A4⟩:=hN.arg (by omega)
      have hb34:Below w3.heap.size w3 w4:=(by first | exact hb | exact ((Below.refl _ w3).drew).trans (hb.mono (Nat.le_refl _)))
      have T4:Tab w4:=(HT.out.belows SW.out).belows (S3.out.trans (hb34.mono S3.out.size));obtain ⟨hc4,hf4⟩:=bcell hb34;have hz6:w.heap.size<w4.heap.size:=by have:=hb34.size;omega
      have S4:=(qsd (ai hb34 (ai A4 T4)));clear hN hb hb34 A4 T4)
   | (go_at_call 105
      refine (HM.out _ a4 c4 (by first | exact S4.out.2.2 | exact S4.out.2.2) (by first | exact S4.out.2.1 | exact Arg.drew' S4.out.2.1)).mono ?_
      rintro r w5 ⟨⟨v5,rfl,hN⟩,hb⟩;obtain ⟨a5,c5,rfl,_⟩:=hN.arg (by omega)
      have hb45:Below w4.heap.size w4 w5:=(by first | exact hb | exact ((Below.refl _ w4).drew).trans (hb.mono (Nat.le_refl _)))
      obtain ⟨hc5,hf5⟩:=bcell hb45;have HF:=qsd (show Fin w.heap.size w4.heap.size w w5 (.slice a5 (ws X).length c5) X from ⟨hN,((SW.out.trans (S3.out.mono (by omega))).trans (S4.out.1.mono (by omega))).trans (hb45.mono (by omega)),by have:=hb45.size;omega⟩)
      clear hN hb hb45))
  all_goals (
   go_wp2;exact bodyPost_ret (v:=.tuple #[.agg #[.bool dn,.slice a5 (ws X).length c5,.int .i64 de],.int .i64 er]) (by simp [results,Tryz.results74,go_sem,hc5,hc4,hc,hz6,hz5,hz3,r0,r1,r2]) rfl (Fin.dans (m:=w4.heap.size) (by repeat (first | exact HF.out | refine Fin.alloc ?_ _ | refine Fin.set ?_ _ _ _ (by omega) (by omega))) (by omega))))
theorem of_nought (b b2:Nat) (w:World)
 (HA:Hid (∀ u,Calls Tryz.prog 72 #[.float .f64 b] u fun r w'=>r=.returned (.float .f64 b2)∧w'=u))
 (HS:Hid (∀ u,Calls Tryz.prog 70 #[.float .f64 b2] u fun r w'=>r=.returned (.agg #[.bool false,.int .i64 0,.int .i64 (-1074),.int .u64 0])∧Below u.heap.size u w'))
 (H0:Hid (∀ u,Calls Tryz.prog 70 #[.float .f64 0] u fun r w'=>r=.returned (.agg #[.bool false,.int .i64 0,.int .i64 (-1074),.int .u64 0])∧Below u.heap.size u w')) :
 Calls Tryz.prog 74 #[.float .f64 b] w fun r w'=>r=.returned (.tuple #[.agg #[.bool false,.slice none 0 0,.int .i64 0],.int .i64 0])∧Below w.heap.size w w':=by
 go_enter Tryz.func74,Tryz.ntmps74
 go_wp2_with fail
 refine (Calls.mono (HA.out _)) ?_;rintro r w1 ⟨rfl,rfl⟩
 go_wp2_with fail
 refine (Calls.mono (HS.out _)) ?_;rintro r w2 ⟨rfl,hb⟩;obtain ⟨hc,hf⟩:=bcell hb;have hz:w.heap.size<w2.heap.size:=by have:=hb.size;simp at this;omega
 have hbw:Below w.heap.size w w2:=((Below.refl _ _).alloc (Nat.le_refl _) _).trans (hb.mono (by simp))
 have SB:=qsd hbw;clear hb hbw;obtain ⟨W2,hW2⟩:∃ W,W=w2.alloc (.cells #[.bool false,.int .i64 0,.int .i64 (-1074),.int .u64 0] 80):=⟨_,rfl⟩;have hbW:Below w.heap.size w W2:=by rw [hW2];exact SB.out.alloc (by omega) _
 have P:W2.heap[w2.heap.size]?=some (.cells #[.bool false,.int .i64 0,.int .i64 (-1074),.int .u64 0] 80 (0,0)):=by rw [hW2,heap_alloc_new]
 have p0:W2.cell? ⟨w2.heap.size,0,none⟩=some (.bool false):=by simp [World.cell?,P]
 have p1:W2.cell? ⟨w2.heap.size,1,none⟩=some (.int .i64 0):=by simp [World.cell?,P]
 have p2:W2.cell? ⟨w2.heap.size,2,none⟩=some (.int .i64 (-1074)):=by simp [World.cell?,P]
 have p3:W2.cell? ⟨w2.heap.size,3,none⟩=some (.int .u64 0):=by simp [World.cell?,P]
 have r0:W2.cell? ⟨w.heap.size,0,none⟩=some (.bool false):=by rw [hW2];go_simp
 have r1:W2.cell? ⟨w.heap.size,1,none⟩=some (.slice none 0 0):=by rw [hW2];go_simp
 have r2:W2.cell? ⟨w.heap.size,2,none⟩=some (.int .i64 0):=by rw [hW2];go_simp
 have f0:W2.frozen? ⟨w.heap.size,0,none⟩=false:=by rw [hW2];go_simp
 have f1:W2.frozen? ⟨w.heap.size,1,none⟩=false:=by rw [hW2];go_simp
 have f2:W2.frozen? ⟨w.heap.size,2,none⟩=false:=by rw [hW2];go_simp
 have hz2:w2.heap.size<W2.heap.size:=by rw [hW2];simp
 have hz3:w.heap.size<W2.heap.size:=by omega
 have SW:=qsd hbW
 go_wp2_with fail
 rw [←hW2];clear hW2 hbW P hc hf SB
 go_region_with (go_at_call 70;refine (H0.out _).mono ?_;rintro r w3 ⟨rfl,hb3⟩;have hb4:Below W2.heap.size W2 w3:=(by first | exact hb3 | exact ((Below.refl _ W2).drew).trans (hb3.mono (Nat.le_refl _)));obtain ⟨hc,hf⟩:=bcell hb4;have S3:=qsd hb4;clear hb3 hb4)
 all_goals (
  go_wp2;have hbf:=SW.out.trans (S3.out.mono (by omega))
  have hzf:w.heap.size≤w3.heap.size:=by have:=S3.out.size;omega
  exact bodyPost_ret (v:=.tuple #[.agg #[.bool false,.slice none 0 0,.int .i64 0],.int .i64 0]) (by simp [results,Tryz.results74,go_sem,hc,hz3,r0,r1,r2]) rfl ⟨rfl,Below.setC (Below.setC (Below.setC hbf _ _ _ (Nat.le_refl _) hzf) _ _ _ (Nat.le_refl _) (by simpa [World.setCell] using hzf)) _ _ _ (Nat.le_refl _) (by simpa [World.setCell] using hzf)⟩)
theorem of_wild (b b2:Nat) (k:Int) (w:World) (hk:k=3∨k=4)
 (HA:Hid (∀ u,Calls Tryz.prog 72 #[.float .f64 b] u fun r w'=>r=.returned (.float .f64 b2)∧w'=u))
 (HS:Hid (∀ u,Calls Tryz.prog 70 #[.float .f64 b2] u fun r w'=>r=.returned (.agg #[.bool false,.int .i64 k,.int .i64 0,.int .u64 0])∧Below u.heap.size u w'))
 (H0:Hid (∀ u,Calls Tryz.prog 70 #[.float .f64 0] u fun r w'=>r=.returned (.agg #[.bool false,.int .i64 0,.int .i64 (-1074),.int .u64 0])∧Below u.heap.size u w')) :
 Calls Tryz.prog 74 #[.float .f64 b] w fun r w'=>r=.returned (.tuple #[.agg #[.bool false,.slice none 0 0,.int .i64 0],.int .i64 30])∧Below w.heap.size w w':=by
 have k0:(k==0)=false:=by rcases hk with rfl | rfl <;> rfl
 go_enter Tryz.func74,Tryz.ntmps74
 go_wp2_with fail
 refine (Calls.mono (HA.out _)) ?_;rintro r w1 ⟨rfl,rfl⟩
 go_wp2_with fail
 refine (Calls.mono (HS.out _)) ?_;rintro r w2 ⟨rfl,hb⟩;obtain ⟨hc,hf⟩:=bcell hb;have hz:w.heap.size<w2.heap.size:=by have:=hb.size;simp at this;omega
 have hbw:Below w.heap.size w w2:=((Below.refl _ _).alloc (Nat.le_refl _) _).trans (hb.mono (by simp))
 have SB:=qsd hbw;clear hb hbw;obtain ⟨W2,hW2⟩:∃ W,W=w2.alloc (.cells #[.bool false,.int .i64 k,.int .i64 0,.int .u64 0] 80):=⟨_,rfl⟩;have hbW:Below w.heap.size w W2:=by rw [hW2];exact SB.out.alloc (by omega) _
 have P:W2.heap[w2.heap.size]?=some (.cells #[.bool false,.int .i64 k,.int .i64 0,.int .u64 0] 80 (0,0)):=by rw [hW2,heap_alloc_new]
 have p0:W2.cell? ⟨w2.heap.size,0,none⟩=some (.bool false):=by simp [World.cell?,P]
 have p1:W2.cell? ⟨w2.heap.size,1,none⟩=some (.int .i64 k):=by simp [World.cell?,P]
 have p2:W2.cell? ⟨w2.heap.size,2,none⟩=some (.int .i64 0):=by simp [World.cell?,P]
 have p3:W2.cell? ⟨w2.heap.size,3,none⟩=some (.int .u64 0):=by simp [World.cell?,P]
 have r0:W2.cell? ⟨w.heap.size,0,none⟩=some (.bool false):=by rw [hW2];go_simp
 have r1:W2.cell? ⟨w.heap.size,1,none⟩=some (.slice none 0 0):=by rw [hW2];go_simp
 have r2:W2.cell? ⟨w.heap.size,2,none⟩=some (.int .i64 0):=by rw [hW2];go_simp
 have f0:W2.frozen? ⟨w.heap.size,0,none⟩=false:=by rw [hW2];go_simp
 have f1:W2.frozen? ⟨w.heap.size,1,none⟩=false:=by rw [hW2];go_simp
 have f2:W2.frozen? ⟨w.heap.size,2,none⟩=false:=by rw [hW2];go_simp
 have hz2:w2.heap.size<W2.heap.size:=by rw [hW2];simp
 have hz3:w.heap.size<W2.heap.size:=by omega
 have SW:=qsd hbW
 go_wp2_with fail
 rw [←hW2];clear hW2 hbW P hc hf SB
 go_region_with (go_at_call 70;refine (H0.out _).mono ?_;rintro r w3 ⟨rfl,hb3⟩;have hb4:Below W2.heap.size W2 w3:=(by first | exact hb3 | exact ((Below.refl _ W2).drew).trans (hb3.mono (Nat.le_refl _)));obtain ⟨hc,hf⟩:=bcell hb4;have S3:=qsd hb4;clear hb3 hb4)
 all_goals (
  have hbf:=qsd (SW.out.trans (S3.out.mono (by omega)))
  have hzf:w.heap.size≤w3.heap.size:=by have:=S3.out.size;omega
  rcases hk with rfl|rfl
  all_goals (
   go_wp2;exact bodyPost_ret (v:=.tuple #[.agg #[.bool false,.slice none 0 0,.int .i64 0],.int .i64 30]) (by simp [results,Tryz.results74,go_sem,hc,hz3,r0,r1,r2]) rfl ⟨rfl,Below.setC (Below.setC (Below.setC hbf.out _ _ _ (Nat.le_refl _) hzf) _ _ _ (Nat.le_refl _) (by simpa [World.setCell] using hzf)) _ _ _ (Nat.le_refl _) (by simpa [World.setCell] using hzf)⟩))
theorem Of_any (s:Bool) (e f:Nat) (he:e<2048) (hf:f<4503599627370496) (w:World) (hT:Tab w) :
 Calls Tryz.prog 74 #[.float .f64 (B.bw s e f)] w fun r w'=>OAns w.heap.size w' r (ofR s e f) (ofE e)∧Below w.heap.size w w':=by
 have HA:Hid (∀ u,Calls Tryz.prog 72 #[.float .f64 (B.bw s e f)] u fun r w'=>r=.returned (.float .f64 (B.bw false e f))∧w'=u):=fun u=>B.abs_any s e f he hf u
 have HS:∀ u,Calls Tryz.prog 70 #[.float .f64 (B.bw false e f)] u fun r w'=>r=.returned (.agg #[.bool (B.ng false e f),.int .i64 (B.cls e f),.int .i64 (B.xp e),.int .u64 (B.fr e f)])∧Below u.heap.size u w':=fun u=>B.Split_any false e f he hf u
 have H0:Hid (∀ u,Calls Tryz.prog 70 #[.float .f64 0] u fun r w'=>r=.returned (.agg #[.bool false,.int .i64 0,.int .i64 (-1074),.int .u64 0])∧Below u.heap.size u w'):=fun u=>B.Split_any false 0 0 (by omega) (by omega) u
 have hng:B.ng false e f=false:=by unfold B.ng;split <;> rfl
 rw [hng] at HS;unfold ofR ofE
 by_cases h7:e=2047
 · rw [if_pos h7,if_pos h7]
   have h2:B.xp e=0∧B.fr e f=0:=by unfold B.xp B.fr;rw [if_pos h7,if_pos h7];exact ⟨rfl,rfl⟩
   rw [h2.1,h2.2] at HS;have hk:B.cls e f=3∨B.cls e f=4:=by unfold B.cls;rw [if_pos h7];split <;> simp
   exact (of_wild _ _ _ w hk HA (hid HS) H0).mono fun r w' ⟨h1,h3⟩=>⟨⟨_,h1,Nt.nil _ _⟩,h3⟩
 · rw [if_neg h7,if_neg h7]
   have hx:B.xp e=(if e=0 then -1074 else (e:Int)-1075):=by unfold B.xp;rw [if_neg h7]
   have hfr:B.fr e f=(((if e=0 then f else f+4503599627370496:Nat)):Int):=by unfold B.fr;rw [if_neg h7];split <;> simp
   rw [hx,hfr] at HS
   by_cases h0:e=0∧f=0
   · obtain ⟨rfl,rfl⟩:=h0
     rw [show B.cls 0 0=0 from rfl] at HS
     simp only [if_pos,Int.ofNat_zero] at HS;rw [if_pos rfl,mkS_zero];exact (of_nought _ _ w HA (hid HS) H0).mono fun r w' ⟨h1,h3⟩=>⟨⟨_,h1,Nt.nil _ _⟩,h3⟩
   · have hcl:B.cls e f=1∨B.cls e f=2:=by
      unfold B.cls;rw [if_neg h7]
      by_cases h1:e=0
      · rw [if_pos h1,if_neg (fun h=>h0 ⟨h1,h⟩)];simp
      · rw [if_neg h1];simp
     obtain ⟨F,hF⟩:∃ F:Nat,(if e=0 then f else f+4503599627370496:Nat)=F:=⟨_,rfl⟩
     obtain ⟨x,hxx⟩:∃ x:Int,(if e=0 then -1074 else (e:Int)-1075)=x:=⟨_,rfl⟩
     have hFb:F<9007199254740992:=by rw [←hF];split <;> omega
     have hxb:-1100≤x∧x≤1000:=by rw [←hxx];split <;> omega
     rw [hF,hxx] at HS ⊢;have ho:B.odd e f=false:=by unfold B.odd;simp [h7]
     have hz:(e==0&&f==0)=false:=by
      cases h1:(e==0&&f==0)
      · rfl
      · exact absurd (by simpa using h1) h0
     have hb2:B.bw false e f=B.bw s e f%9223372036854775808:=by
      have h1:=B.bw_mod s e f he hf;have h2:(B.bw false e f:Int)=(e:Int)*4503599627370496+f:=by unfold B.bw;simp
      omega
     rw [hb2] at HA HS;obtain ⟨d,hd⟩:=of_some s F x hFb hxb.1 hxb.2;have:=of_core s (B.bw s e f) F (B.cls e f) x w hT hFb hxb.1 hxb.2 HA (hid HS) H0 (B.lt_zero s e f he hf ho hz) (by rcases hcl with h | h <;> rw [h] <;> rfl) (by rcases hcl with h | h <;> rw [h] <;> rfl) (by rcases hcl with h | h <;> rw [h] <;> rfl)
     refine this.mono fun r w' ⟨⟨v,h1,h2⟩,h3⟩=>⟨⟨v,?_,h2⟩,h3⟩
     rw [h1,hd];rfl
end
section
open Go.RowKit
attribute [local go_sem] B.f64bits B.f64frombits
def num64 (k:Nat):Nat×Int:=if k/4503599627370496=0 then (k%4503599627370496,-1074) else (4503599627370496+k%4503599627370496,-1074+((k/4503599627370496:Nat):Int)-1)
theorem rNumber64_low (K:Int) (V:Nat) (w:World) (e1:K/4503599627370496=0) (hK0:0≤K) (hK1:K≤9218868437227405312)
 (HO:Hid (∀ u,Calls Tryz.prog 144 #[.int .u64 (K%4503599627370496)] u fun r w'=>∃ v,r=.returned v∧Nt u.heap.size w' v V∧Below u.heap.size u w')) :
 Calls Tryz.prog 112 #[.agg #[.int .i64 53,.int .i64 (-1074),.int .u64 9218868437227405312],.int .u64 K] w fun r w'=>∃ v,r=.returned (.tuple #[v,.int .i64 (-1074)])∧Nt w.heap.size w' v V∧Below w.heap.size w w':=by
 obtain ⟨W1,hW1⟩:∃ W,W=w.alloc (.cells #[.int .i64 53,.int .i64 (-1074),.int .u64 9218868437227405312] 96):=⟨_,rfl⟩;have P:W1.heap[w.heap.size]?=some (.cells #[.int .i64 53,.int .i64 (-1074),.int .u64 9218868437227405312] 96 (0,0)):=by rw [hW1,heap_alloc_new]
 have p1:W1.cell? ⟨w.heap.size,1,none⟩=some (.int .i64 (-1074)):=by simp [World.cell?,P]
 have hz:w.heap.size<W1.heap.size:=by rw [hW1];simp
 have HB:=qsd (show Below w.heap.size w W1 by rw [hW1];exact below_alloc w _)
 go_enter Tryz.func112,Tryz.ntmps112;go_wp2;rw [←hW1];clear hW1 P e1
 go_region_held3 (fun w'=>w'.cell? ⟨w.heap.size,1,none⟩=some (.int .i64 (-1074))) (go_keep) (first | (go_at_call 144;refine (HO.out _).mono ?_;rintro r w2 ⟨v,rfl,hN,hb⟩;have hb2:Below W1.heap.size W1 w2:=(by first | exact hb | exact ((Below.refl _ W1).drew).trans (hb.mono (Nat.le_refl _)));have p2:w2.cell? ⟨w.heap.size,1,none⟩=some (.int .i64 (-1074)):=(hb2.cell (p:=⟨w.heap.size,1,none⟩) hz).trans p1;have S2:=(qsd (ai hb2 hN));clear hb hb2 hN))
 all_goals (
  go_wp2
  go_simp
  go_ret2
  exact ⟨v,rfl,S2.out.2.mono (Nat.le_of_lt hz),HB.out.trans (S2.out.1.mono (Nat.le_of_lt hz))⟩)
theorem rNumber64_high (K q f g x y:Int) (V:Nat) (w:World) (e1:K/4503599627370496=q) (e2:K%4503599627370496=f) (e3:IntKind.u64.wrap (4503599627370496+f)=g) (e4:IntKind.i64.wrap q=q) (e5:IntKind.i64.wrap (-1074+q)=x) (e6:IntKind.i64.wrap (x-1)=y) (hK0:0≤K) (hK1:K≤9218868437227405312) (hq0:(q==0)=false)
 (HO:Hid (∀ u,Calls Tryz.prog 144 #[.int .u64 g] u fun r w'=>∃ v,r=.returned v∧Nt u.heap.size w' v V∧Below u.heap.size u w')) :
 Calls Tryz.prog 112 #[.agg #[.int .i64 53,.int .i64 (-1074),.int .u64 9218868437227405312],.int .u64 K] w fun r w'=>∃ v,r=.returned (.tuple #[v,.int .i64 y])∧Nt w.heap.size w' v V∧Below w.heap.size w w':=by
 obtain ⟨W1,hW1⟩:∃ W,W=w.alloc (.cells #[.int .i64 53,.int .i64 (-1074),.int .u64 9218868437227405312] 96):=⟨_,rfl⟩;have P:W1.heap[w.heap.size]?=some (.cells #[.int .i64 53,.int .i64 (-1074),.int .u64 9218868437227405312] 96 (0,0)):=by rw [hW1,heap_alloc_new]
 have p1:W1.cell? ⟨w.heap.size,1,none⟩=some (.int .i64 (-1074)):=by simp [World.cell?,P]
 have hz:w.heap.size<W1.heap.size:=by rw [hW1];simp
 have HB:=qsd (show Below w.heap.size w W1 by rw [hW1];exact below_alloc w _)
 go_enter Tryz.func112,Tryz.ntmps112;go_wp2;rw [←hW1]
 try simp only [e1,e2]
 clear hW1 P e1 e2 hK0 hK1
 go_region_held3 (fun w'=>w'.cell? ⟨w.heap.size,1,none⟩=some (.int .i64 (-1074))) (go_keep) (first | (go_at_call 144;refine (HO.out _).mono ?_;rintro r w2 ⟨v,rfl,hN,hb⟩;have hb2:Below W1.heap.size W1 w2:=(by first | exact hb | exact ((Below.refl _ W1).drew).trans (hb.mono (Nat.le_refl _)));have p2:w2.cell? ⟨w.heap.size,1,none⟩=some (.int .i64 (-1074)):=(hb2.cell (p:=⟨w.heap.size,1,none⟩) hz).trans p1;have S2:=(qsd (ai hb2 hN));clear hb hb2 hN))
 all_goals (
  go_wp2
  go_simp
  go_ret2
  exact ⟨v,rfl,S2.out.2.mono (Nat.le_of_lt hz),HB.out.trans (S2.out.1.mono (Nat.le_of_lt hz))⟩)
theorem rNumber64 (k:Nat) (hk:k≤9218868437227405312) (w:World) :
 Calls Tryz.prog 112 #[.agg #[.int .i64 53,.int .i64 (-1074),.int .u64 9218868437227405312],.int .u64 (k:Nat)] w fun r w'=>∃ v,r=.returned (.tuple #[v,.int .i64 (num64 k).2])∧Nt w.heap.size w' v (num64 k).1∧Below w.heap.size w w':=by
 unfold num64
 by_cases h0:k/4503599627370496=0
 · rw [if_pos h0]
   exact rNumber64_low (k:Int) (k%4503599627370496) w (by omega) (by omega) (by omega) (hid fun u=>by simpa using rOf_any (k%4503599627370496) u (by omega))
 · rw [if_neg h0]
   have hw:∀ n:Int,0≤n→n<18446744073709551616→IntKind.u64.wrap n=n:=fun n h1 h2=>by simp [IntKind.wrap,IntKind.bits,IntKind.signed];omega
   have hv:∀ n:Int,-4000≤n→n<4000→IntKind.i64.wrap n=n:=fun n h1 h2=>by simp [IntKind.wrap,IntKind.bits,IntKind.signed];omega
   have e3:(4503599627370496:Int)+((k%4503599627370496:Nat):Int)=((4503599627370496+k%4503599627370496:Nat):Int):=by omega
   exact rNumber64_high (k:Int) ((k/4503599627370496:Nat):Int) ((k%4503599627370496:Nat):Int) ((4503599627370496+k%4503599627370496:Nat):Int) (-1074+((k/4503599627370496:Nat):Int)) (-1074+((k/4503599627370496:Nat):Int)-1) (4503599627370496+k%4503599627370496) w (by omega) (by omega) (by rw [e3];exact hw _ (by omega) (by omega)) (hv _ (by omega) (by omega)) (hv _ (by omega) (by omega)) (hv _ (by omega) (by omega)) (by omega) (by omega) (beq_eq_false_iff_ne.2 (by omega)) (hid fun u=>rOf_any _ u (by omega))
theorem num64_bits (e f:Nat) (hf:f<4503599627370496):num64 (e*4503599627370496+f)=(if e=0 then f else f+4503599627370496,if e=0 then -1074 else (e:Int)-1075):=by
 have h1:(e*4503599627370496+f)/4503599627370496=e:=by omega
 have h2:(e*4503599627370496+f)%4503599627370496=f:=by omega
 unfold num64;rw [h1,h2]
 by_cases h:e=0
 · rw [if_pos h,if_pos h,if_pos h]
 · rw [if_neg h,if_neg h,if_neg h]
   refine Prod.ext (by simp;omega) (by simp;omega)
theorem of64_any (w:World):Calls Tryz.prog 78 #[] w fun r w'=>r=.returned (.agg #[.int .i64 53,.int .i64 (-1074),.int .u64 9218868437227405312])∧Below w.heap.size w w':=by
 go_enter Tryz.func78,Tryz.ntmps78;go_wp2;exact bodyPost_ret (v:=.agg #[.int .i64 53,.int .i64 (-1074),.int .u64 9218868437227405312]) (by simp [results,Tryz.results78,go_sem]) rfl ⟨rfl,by repeat (first | exact Below.refl _ _ | refine Below.alloc ?_ (by first | omega | simp) _ | refine Below.setC ?_ _ _ _ (by omega) (by simp))⟩
theorem rBits_wild (neg:Bool) (k:Int) (w:World) (hk:9218868437227405312≤k) (hk2:k<9223372036854775808) :
 Calls Tryz.prog 79 #[.agg #[.int .i64 53,.int .i64 (-1074),.int .u64 9218868437227405312],.bool neg,.int .u64 k] w fun r w'=>r=.returned (.tuple #[.agg #[.bool false,.slice none 0 0,.int .i64 0],.bool false])∧Below w.heap.size w w':=by
 have HB:=qsd (show Below w.heap.size w ((w.alloc (.cells #[.int .i64 53,.int .i64 (-1074),.int .u64 9218868437227405312] 96)).alloc (.cells #[.bool false,.slice none 0 0,.int .i64 0] 77)) from (below_alloc w _).alloc (by simp) _)
 go_enter Tryz.func79,Tryz.ntmps79;go_wp2;exact bodyPost_ret (v:=.tuple #[.agg #[.bool false,.slice none 0 0,.int .i64 0],.bool false]) (by simp [results,Tryz.results79,go_sem]) rfl ⟨rfl,HB.out⟩
theorem rBits_core (neg:Bool) (k:Int) (F:Nat) (x:Int) (w:World) (hk:k<9218868437227405312) (hF:F<9007199254740992) (hx0:-1100≤x) (hx1:x≤1000)
 (HN0:Hid (∀ u,Calls Tryz.prog 112 #[.agg #[.int .i64 53,.int .i64 (-1074),.int .u64 9218868437227405312],.int .u64 k] u fun r w'=>∃ v,r=.returned (.tuple #[v,.int .i64 x])∧Nt u.heap.size w' v F∧Below u.heap.size u w')) :
 Calls Tryz.prog 79 #[.agg #[.int .i64 53,.int .i64 (-1074),.int .u64 9218868437227405312],.bool neg,.int .u64 k] w fun r w'=>FAns w.heap.size w' r (mkS neg F x)∧Below w.heap.size w w':=by
 have HB:=qsd (show Below w.heap.size w ((w.alloc (.cells #[.int .i64 53,.int .i64 (-1074),.int .u64 9218868437227405312] 96)).alloc (.cells #[.bool false,.slice none 0 0,.int .i64 0] 77)) from (below_alloc w _).alloc (by simp) _)
 have HN:=hid (HN0.out ((w.alloc (.cells #[.int .i64 53,.int .i64 (-1074),.int .u64 9218868437227405312] 96)).alloc (.cells #[.bool false,.slice none 0 0,.int .i64 0] 77)));have hl:=mkS_len neg F x;have hFl:(ws F).length≤100:=by have:=ws_len_bl F;have:=bl_le53 F hF;omega
 have HM:Hid (∀ (u:World) (a:Option Addr) (c:Nat),Arg u a (ws F).length c (ws F)→Calls Tryz.prog 113 #[.bool neg,.slice a (ws F).length c,.int .i64 x] u fun r w'=>FAns u.heap.size w' r (mkS neg F x)∧Below u.heap.size u w'):=by
  intro u a c hA;have:=rForm_any hA (by omega) neg x (by omega) (by omega)
  rw [val_ws] at this;exact this
 obtain ⟨o,ho⟩:∃ o,mkS neg F x=o:=⟨_,rfl⟩;rw [ho] at HM hl ⊢;unfold FAns at HM ⊢;obtain ⟨dn,hdn⟩:∃ d,dN o=d:=⟨_,rfl⟩;obtain ⟨X,hdx⟩:∃ d,dX o=d:=⟨_,rfl⟩;obtain ⟨de,hde⟩:∃ d,dE o=d:=⟨_,rfl⟩;obtain ⟨er,her⟩:∃ d,o.isSome=d:=⟨_,rfl⟩;rw [hdn,hdx,hde,her] at HM ⊢;rw [hdx] at hl;clear ho hdn hdx hde her hF hx0 hx1 HN0;go_enter Tryz.func79,Tryz.ntmps79
 go_wp2_with fail
 refine HN.out.mono ?_;rintro r w2 ⟨v,rfl,hN,hb⟩;obtain ⟨a2,c2,rfl,A2⟩:=hN.arg (by omega)
 obtain ⟨hc,hf⟩:=bcell hb;have hz:w.heap.size+1<w2.heap.size:=by have:=hb.size;simp at this;omega
 have H2:=hid (HM.out w2 a2 c2 A2);have S2:=qsd (HB.out.trans (hb.mono (by simp;omega)))
 clear hN hb A2
 go_wp2_with fail
 refine H2.out.mono ?_;rintro r w3 ⟨⟨v3,rfl,hN⟩,hb⟩;obtain ⟨a3,c3,rfl,_⟩:=hN.arg (by omega)
 obtain ⟨hc3,hf3⟩:=bcell hb;have HF:=qsd (show Fin w.heap.size w2.heap.size w w3 (.slice a3 (ws X).length c3) X from ⟨hN,S2.out.trans (hb.mono (by omega)),by have:=hb.size;omega⟩)
 clear hN hb;go_wp2;exact bodyPost_ret (v:=.tuple #[.agg #[.bool dn,.slice a3 (ws X).length c3,.int .i64 de],.bool er]) (by simp [results,Tryz.results79,go_sem,hc,hc3,hz]) rfl (Fin.dans (m:=w2.heap.size) (by repeat (first | exact HF.out | refine Fin.alloc ?_ _ | refine Fin.set ?_ _ _ _ (by omega) (by omega))) (by omega))
theorem rBits_any (neg:Bool) (k:Nat) (w:World) (hk:k<9218868437227405312) :
 Calls Tryz.prog 79 #[.agg #[.int .i64 53,.int .i64 (-1074),.int .u64 9218868437227405312],.bool neg,.int .u64 (k:Nat)] w fun r w'=>FAns w.heap.size w' r (mkS neg (num64 k).1 (num64 k).2)∧Below w.heap.size w w':=by
 have hb1:(num64 k).1<9007199254740992∧-1100≤(num64 k).2∧(num64 k).2≤1000:=by unfold num64;split <;> simp <;> omega
 exact rBits_core neg (k:Int) _ _ w (by omega) hb1.1 hb1.2.1 hb1.2.2 (hid fun u=>rNumber64 k (by omega) u)
end
section
open Go.RowKit
attribute [local go_sem] B.f64bits B.f64frombits
theorem rOf_core (s:Bool) (b:Nat) (k:Int) (dn:Bool) (X:Nat) (de:Int) (er:Bool) (w:World) (hl:(ws X).length≤8192)
 (e1:((b:Int)/9223372036854775808==1)=s) (e2:IntKind.u64.wrap ((b:Int)*2)/2=k) (hX:er=false→dn=false∧X=0∧de=0)
 (hO:Hid (∀ u,Calls Tryz.prog 78 #[] u fun r w'=>r=.returned (.agg #[.int .i64 53,.int .i64 (-1074),.int .u64 9218868437227405312])∧Below u.heap.size u w'))
 (HW:Hid (∀ u,Calls Tryz.prog 79 #[.agg #[.int .i64 53,.int .i64 (-1074),.int .u64 9218868437227405312],.bool s,.int .u64 k] u fun r w'=>(∃ v,r=.returned (.tuple #[.agg #[.bool dn,v,.int .i64 de],.bool er])∧Nt u.heap.size w' v X)∧Below u.heap.size u w')) :
 Calls Tryz.prog 61 #[.float .f64 b] w fun r w'=>(∃ v,r=.returned (.tuple #[.agg #[.bool dn,v,.int .i64 de],.int .i64 (if er then 0 else 30)])∧Nt w.heap.size w' v X)∧Below w.heap.size w w':=by
 go_enter Tryz.func61,Tryz.ntmps61
 go_wp2_with fail
 refine (Calls.mono (hO.out _)) ?_;rintro r w1 ⟨rfl,hb1⟩;have hz:w.heap.size<w1.heap.size:=by have:=hb1.size;simp at this;omega
 have S1:=qsd ((below_alloc w (.cells #[.bool false,.slice none 0 0,.int .i64 0] 77)).trans (hb1.mono (by simp)))
 obtain ⟨hc,hf⟩:=bcell hb1;clear hb1
 go_wp2_with fail
 try simp only [e1,e2]
 refine (Calls.mono (HW.out _)) ?_;rintro r w2 ⟨⟨v,rfl,hN⟩,hb2⟩;obtain ⟨a2,c2,rfl,_⟩:=hN.arg (by omega)
 obtain ⟨hc2,hf2⟩:=bcell hb2;have hz2:w.heap.size<w2.heap.size:=by have:=hb2.size;omega
 have HF:=qsd (show Fin w.heap.size w1.heap.size w w2 (.slice a2 (ws X).length c2) X from ⟨hN,S1.out.trans (hb2.mono (by omega)),by omega⟩)
 clear hN hb2 e1 e2
 cases er
 · obtain ⟨rfl,rfl,rfl⟩:=hX rfl
   clear hX;go_wp2;exact bodyPost_ret (v:=.tuple #[.agg #[.bool false,.slice none 0 0,.int .i64 0],.int .i64 30]) (by simp [results,Tryz.results61,go_sem,hc,hc2,hz,hz2]) rfl (Fin.dnil (m:=w1.heap.size) (v:=.slice a2 (ws 0).length c2) (X:=0) (by repeat (first | exact HF.out | refine Fin.alloc ?_ _ | refine Fin.set ?_ _ _ _ (by omega) (by omega))))
 · clear hX
   go_wp2;exact bodyPost_ret (v:=.tuple #[.agg #[.bool dn,.slice a2 (ws X).length c2,.int .i64 de],.int .i64 0]) (by simp [results,Tryz.results61,go_sem,hc,hc2,hz,hz2]) rfl (Fin.dans (m:=w1.heap.size) (by repeat (first | exact HF.out | refine Fin.alloc ?_ _ | refine Fin.set ?_ _ _ _ (by omega) (by omega))) (by omega))
theorem rOf3_any (s:Bool) (e f:Nat) (he:e<2048) (hf:f<4503599627370496) (w:World) :
 Calls Tryz.prog 61 #[.float .f64 (B.bw s e f)] w fun r w'=>OAns w.heap.size w' r (ofR s e f) (ofE e)∧Below w.heap.size w w':=by
 have hbl:=B.bw_lt s e f he hf;have hb1:(B.bw s e f:Int)=(if s then 9223372036854775808 else 0)+((e*4503599627370496+f:Nat):Int):=by unfold B.bw;cases s <;> simp <;> omega
 obtain ⟨b,hb⟩:∃ b,B.bw s e f=b:=⟨_,rfl⟩;obtain ⟨k,hk⟩:∃ k,e*4503599627370496+f=k:=⟨_,rfl⟩;rw [hb,hk] at hb1;rw [hb] at hbl ⊢;have hk2:k<9223372036854775808:=by omega
 have e1:((b:Int)/9223372036854775808==1)=s:=by cases s <;> simp at hb1 ⊢ <;> omega
 have e2:IntKind.u64.wrap ((b:Int)*2)/2=(k:Int):=by
  simp [IntKind.wrap,IntKind.bits,IntKind.signed]
  cases s <;> simp at hb1 <;> omega
 unfold ofR ofE
 by_cases h7:e=2047
 · rw [if_pos h7,if_pos h7]
   exact rOf_core s b (k:Int) false 0 0 false w (by rw [ws_zero];simp) e1 e2 (fun _=>⟨rfl,rfl,rfl⟩) (hid fun u=>of64_any u)
    (hid fun u=>(rBits_wild s (k:Int) u (by omega) (by omega)).mono fun r w' ⟨h1,h2⟩=>⟨⟨_,h1,Nt.nil _ _⟩,h2⟩)
 · rw [if_neg h7,if_neg h7]
   have hn:=num64_bits e f hf;rw [hk] at hn;have hF:(if e=0 then f else f+4503599627370496)<9007199254740992:=by split <;> omega
   have hx0:(-1100:Int)≤(if e=0 then -1074 else (e:Int)-1075):=by split <;> omega
   have hx1:(if e=0 then -1074 else (e:Int)-1075)≤(1000:Int):=by split <;> omega
   obtain ⟨d,hd⟩:=of_some s _ _ hF hx0 hx1;have hl:=mkS_len s (if e=0 then f else f+4503599627370496) (if e=0 then -1074 else (e:Int)-1075)
   have hB:∀ u,_:=fun u=>rBits_any s k u (by omega)
   rw [hn] at hB;simp only [] at hB;rw [hd] at hB hl ⊢;exact rOf_core s b (k:Int) _ _ _ true w hl e1 e2 (fun h=>by cases h) (hid fun u=>of64_any u) (hid hB)
end
section
open Go.RowKit
theorem Nt.arg' {lo:Nat}{w:World}{a:Option Addr}{n c X:Nat}(h:Nt lo w (.slice a n c) X) (hs:(ws X).length≤35184372088832):n=(ws X).length∧Arg w a (ws X).length c (ws X):=by
 obtain ⟨a',c',e,A⟩:=h.arg hs
 cases e
 exact ⟨rfl,A⟩
end
end Go.Proofs.YtihjfhpoiheomaaGreatDoor
