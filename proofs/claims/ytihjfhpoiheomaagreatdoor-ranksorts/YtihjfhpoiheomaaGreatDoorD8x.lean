import Derived.Test.YtihjfhpoiheomaaGreatDoorRS8x
import Derived.Deep.RegionWith
import Derived.BigQuiet
import Derived.Deep.RegionHeld3
import Derived.Test.YtihjfhpoiheomaaGreatDoorW25x
set_option linter.unusedVariables false
set_option linter.unusedSimpArgs false
set_option maxHeartbeats 16000000
set_option maxRecDepth 20000
namespace Go.Proofs.YtihjfhpoiheomaaGreatDoor
section
open Go.RowKit
attribute [local go_sem] B.eqParts B.fld0 B.fld1 B.fld2 B.fld3
def ofR (s:Bool) (e f:Nat):Option (Bool×Nat×Int):=if e=2047 then none else mkS s (if e=0 then f else f+4503599627370496) (if e=0 then -1074 else (e:Int)-1075)
def ofE (e:Nat):Int:=if e=2047 then 30 else 0
def OAns (lo:Nat) (w:World) (r:Ending) (o:Option (Bool×Nat×Int)) (er:Int):Prop :=
 ∃ v,r=.returned (.tuple #[.agg #[.bool (dN o),v,.int .i64 (dE o)],.int .i64 er])∧Nt lo w v (dX o)
theorem bl_le53 (X:Nat) (h:X<9007199254740992):bl X≤53:=by
 by_cases h0:X=0
 · subst h0;rw [bl_zero];omega
 · have:=(Nat.pow_lt_pow_iff_right (a:=2) (by omega)).1 (Nat.lt_of_le_of_lt (bl_ge X h0) (show X<2^53 from h))
   omega
theorem of_some (s:Bool) (X:Nat) (x:Int) (hX:X<9007199254740992) (h0:-1100≤x) (h1:x≤1000):∃ d,mkS s X x=some d:=by
 unfold mkS
 by_cases h:X=0
 · rw [if_pos h];exact ⟨_,rfl⟩
 · rw [if_neg h]
   obtain ⟨m,_,_,hb⟩:=odd_part X h;have:=bl_le53 X hX;rw [if_neg (by omega)]
   exact ⟨_,rfl⟩
theorem of_core (s:Bool) (b:Nat) (F:Nat) (k x:Int) (w:World) (hT:Tab w) (hF:F<9007199254740992) (hx0:-1100≤x) (hx1:x≤1000)
 (HA:Hid (∀ u,Calls Tryz.prog 72 #[.float .f64 b] u fun r w'=>r=.returned (.float .f64 (b%9223372036854775808))∧w'=u))
 (HS:Hid (∀ u,Calls Tryz.prog 70 #[.float .f64 (b%9223372036854775808)] u fun r w'=>r=.returned (.agg #[.bool false,.int .i64 k,.int .i64 x,.int .u64 (F:Nat)])∧Below u.heap.size u w'))
 (H0:Hid (∀ u,Calls Tryz.prog 70 #[.float .f64 0] u fun r w'=>r=.returned (.agg #[.bool false,.int .i64 0,.int .i64 (-1074),.int .u64 0])∧Below u.heap.size u w'))
 (hlt:(FloatKind.f64.format.order b 0==some .lt)=s) (k0:(k==0)=false) (k3:(k==3)=false) (k4:(k==4)=false) :
 Calls Tryz.prog 74 #[.float .f64 b] w fun r w'=>DAns w.heap.size w' r (mkS s F x)∧Below w.heap.size w w':=by
 generalize hb2:b%9223372036854775808=b2 at *;clear hb2;have HO:Hid (∀ u,Calls Tryz.prog 106 #[.int .u64 (F:Nat)] u fun r w'=>∃ v,r=.returned v∧Nt u.heap.size w' v F∧Below u.heap.size u w'):=fun u=>of_any F u (by omega)
 have HM:Hid (∀ (u:World) (a:Option Addr) (c:Nat),Tab u→Arg u a (ws F).length c (ws F)→Calls Tryz.prog 105 #[.bool s,.slice a (ws F).length c,.int .i64 x] u fun r w'=>DAns u.heap.size w' r (mkS s F x)∧Below u.heap.size u w'):=by
  intro u a c hTu hA;have:=Make_any hA hTu s x (by omega) (by omega)
  rw [val_ws] at this;exact this
 have hFl:(ws F).length≤100:=by have:=ws_len_bl F;have:=bl_le53 F hF;omega
 have hl:=mkS_len s F x;obtain ⟨o,ho⟩:∃ o,mkS s F x=o:=⟨_,rfl⟩;rw [ho] at HM hl ⊢;unfold DAns at HM ⊢;obtain ⟨dn,hdn⟩:∃ d,dN o=d:=⟨_,rfl⟩;obtain ⟨X,hdx⟩:∃ d,dX o=d:=⟨_,rfl⟩;obtain ⟨de,hde⟩:∃ d,dE o=d:=⟨_,rfl⟩;obtain ⟨er,her⟩:∃ d,erS o=d:=⟨_,rfl⟩;rw [hdn,hdx,hde,her] at HM ⊢;rw [hdx] at hl;have HT:=qsd hT;clear ho hdn hdx hde her hT hF hx0 hx1;go_enter Tryz.func74,Tryz.ntmps74
 go_wp2_with fail
 refine (Calls.mono (HA.out _)) ?_;rintro r w1 ⟨rfl,rfl⟩
 go_wp2_with fail
 refine (Calls.mono (HS.out _)) ?_;rintro r w2 ⟨rfl,hb⟩;obtain ⟨hc,hf⟩:=bcell hb;have hz:w.heap.size<w2.heap.size:=by have:=hb.size;simp at this;omega
 have hbw:Below w.heap.size w w2:=((Below.refl _ _).alloc (Nat.le_refl _) _).trans (hb.mono (by simp))
 have SB:=qsd hbw;clear hb hbw;obtain ⟨W2,hW2⟩:∃ W,W=w2.alloc (.cells #[.bool false,.int .i64 k,.int .i64 x,.int .u64 (F:Nat)] 80):=⟨_,rfl⟩;have hbW:Below w.heap.size w W2:=by rw [hW2];exact SB.out.alloc (by omega) _
 have P:W2.heap[w2.heap.size]?=some (.cells #[.bool false,.int .i64 k,.int .i64 x,.int .u64 (F:Nat)] 80 (0,0)):=by rw [hW2,heap_alloc_new]
 have p0:W2.cell? ⟨w2.heap.size,0,none⟩=some (.bool false):=by simp [World.cell?,P]
 have p1:W2.cell? ⟨w2.heap.size,1,none⟩=some (.int .i64 k):=by simp [World.cell?,P]
 have p2:W2.cell? ⟨w2.heap.size,2,none⟩=some (.int .i64 x):=by simp [World.cell?,P]
 have p3:W2.cell? ⟨w2.heap.size,3,none⟩=some (.int .u64 (F:Nat)):=by simp [World.cell?,P]
 have r0:W2.cell? ⟨w.heap.size,0,none⟩=some (.bool false):=by rw [hW2];go_simp
 have r1:W2.cell? ⟨w.heap.size,1,none⟩=some (.slice none 0 0):=by rw [hW2];go_simp
 have r2:W2.cell? ⟨w.heap.size,2,none⟩=some (.int .i64 0):=by rw [hW2];go_simp
 have f0:W2.frozen? ⟨w.heap.size,0,none⟩=false:=by rw [hW2];go_simp
 have f1:W2.frozen? ⟨w.heap.size,1,none⟩=false:=by rw [hW2];go_simp
 have f2:W2.frozen? ⟨w.heap.size,2,none⟩=false:=by rw [hW2];go_simp
 have hz2:w2.heap.size<W2.heap.size:=by rw [hW2];simp
 have hz3:w.heap.size<W2.heap.size:=by omega
 have SW:=qsd hbW
 go_wp2_with fail
 rw [←hW2];clear hW2 hbW P hc hf SB
 go_region_with (go_at_call 70;refine (H0.out _).mono ?_;rintro r w3 ⟨rfl,hb3⟩;have hb4:Below W2.heap.size W2 w3:=(by first | exact hb3 | exact ((Below.refl _ W2).drew).trans (hb3.mono (Nat.le_refl _)));obtain ⟨hc,hf⟩:=bcell hb4;have S3:=qsd hb4;clear hb3 hb4)
 all_goals (
  go_wp2_with fail
  have hz4:w2.heap.size<w3.heap.size:=by have:=S3.out.size;omega
  have hz5:w.heap.size<w3.heap.size:=by have:=S3.out.size;omega
  go_region_with (first
   | (go_at_call 106
      refine (HO.out _).mono ?_;rintro r w4 ⟨v4,rfl,hN,hb⟩;obtain ⟨a4,c4,rfl,A4⟩:=hN.arg (by omega)
      have hb34:Below w3.heap.size w3 w4:=(by first | exact hb | exact ((Below.refl _ w3).drew).trans (hb.mono (Nat.le_refl _)))
      have T4:Tab w4:=(HT.out.belows SW.out).belows (S3.out.trans (hb34.mono S3.out.size));obtain ⟨hc4,hf4⟩:=bcell hb34;have hz6:w.heap.size<w4.heap.size:=by have:=hb34.size;omega
      have S4:=(qsd (ai hb34 (ai A4 T4)));clear hN hb hb34 A4 T4)
   | (go_at_call 105
      refine (HM.out _ a4 c4 (by first | exact S4.out.2.2 | exact S4.out.2.2) (by first | exact S4.out.2.1 | exact Arg.drew' S4.out.2.1)).mono ?_
      rintro r w5 ⟨⟨v5,rfl,hN⟩,hb⟩;obtain ⟨a5,c5,rfl,_⟩:=hN.arg (by omega)
      have hb45:Below w4.heap.size w4 w5:=(by first | exact hb | exact ((Below.refl _ w4).drew).trans (hb.mono (Nat.le_refl _)))
      obtain ⟨hc5,hf5⟩:=bcell hb45;have HF:=qsd (show Fin w.heap.size w4.heap.size w w5 (.slice a5 (ws X).length c5) X from ⟨hN,((SW.out.trans (S3.out.mono (by omega))).trans (S4.out.1.mono (by omega))).trans (hb45.mono (by omega)),by have:=hb45.size;omega⟩)
      clear hN hb hb45))
  all_goals (
   go_wp2;exact bodyPost_ret (v:=.tuple #[.agg #[.bool dn,.slice a5 (ws X).length c5,.int .i64 de],.int .i64 er]) (by simp [results,Tryz.results74,go_sem,hc5,hc4,hc,hz6,hz5,hz3,r0,r1,r2]) rfl (Fin.dans (m:=w4.heap.size) (by repeat (first | exact HF.out | refine Fin.alloc ?_ _ | refine Fin.set ?_ _ _ _ (by omega) (by omega))) (by omega))))
theorem of_nought (b b2:Nat) (w:World)
 (HA:Hid (∀ u,Calls Tryz.prog 72 #[.float .f64 b] u fun r w'=>r=.returned (.float .f64 b2)∧w'=u))
 (HS:Hid (∀ u,Calls Tryz.prog 70 #[.float .f64 b2] u fun r w'=>r=.returned (.agg #[.bool false,.int .i64 0,.int .i64 (-1074),.int .u64 0])∧Below u.heap.size u w'))
 (H0:Hid (∀ u,Calls Tryz.prog 70 #[.float .f64 0] u fun r w'=>r=.returned (.agg #[.bool false,.int .i64 0,.int .i64 (-1074),.int .u64 0])∧Below u.heap.size u w')) :
 Calls Tryz.prog 74 #[.float .f64 b] w fun r w'=>r=.returned (.tuple #[.agg #[.bool false,.slice none 0 0,.int .i64 0],.int .i64 0])∧Below w.heap.size w w':=by
 go_enter Tryz.func74,Tryz.ntmps74
 go_wp2_with fail
 refine (Calls.mono (HA.out _)) ?_;rintro r w1 ⟨rfl,rfl⟩
 go_wp2_with fail
 refine (Calls.mono (HS.out _)) ?_;rintro r w2 ⟨rfl,hb⟩;obtain ⟨hc,hf⟩:=bcell hb;have hz:w.heap.size<w2.heap.size:=by have:=hb.size;simp at this;omega
 have hbw:Below w.heap.size w w2:=((Below.refl _ _).alloc (Nat.le_refl _) _).trans (hb.mono (by simp))
 have SB:=qsd hbw;clear hb hbw;obtain ⟨W2,hW2⟩:∃ W,W=w2.alloc (.cells #[.bool false,.int .i64 0,.int .i64 (-1074),.int .u64 0] 80):=⟨_,rfl⟩;have hbW:Below w.heap.size w W2:=by rw [hW2];exact SB.out.alloc (by omega) _
 have P:W2.heap[w2.heap.size]?=some (.cells #[.bool false,.int .i64 0,.int .i64 (-1074),.int .u64 0] 80 (0,0)):=by rw [hW2,heap_alloc_new]
 have p0:W2.cell? ⟨w2.heap.size,0,none⟩=some (.bool false):=by simp [World.cell?,P]
 have p1:W2.cell? ⟨w2.heap.size,1,none⟩=some (.int .i64 0):=by simp [World.cell?,P]
 have p2:W2.cell? ⟨w2.heap.size,2,none⟩=some (.int .i64 (-1074)):=by simp [World.cell?,P]
 have p3:W2.cell? ⟨w2.heap.size,3,none⟩=some (.int .u64 0):=by simp [World.cell?,P]
 have r0:W2.cell? ⟨w.heap.size,0,none⟩=some (.bool false):=by rw [hW2];go_simp
 have r1:W2.cell? ⟨w.heap.size,1,none⟩=some (.slice none 0 0):=by rw [hW2];go_simp
 have r2:W2.cell? ⟨w.heap.size,2,none⟩=some (.int .i64 0):=by rw [hW2];go_simp
 have f0:W2.frozen? ⟨w.heap.size,0,none⟩=false:=by rw [hW2];go_simp
 have f1:W2.frozen? ⟨w.heap.size,1,none⟩=false:=by rw [hW2];go_simp
 have f2:W2.frozen? ⟨w.heap.size,2,none⟩=false:=by rw [hW2];go_simp
 have hz2:w2.heap.size<W2.heap.size:=by rw [hW2];simp
 have hz3:w.heap.size<W2.heap.size:=by omega
 have SW:=qsd hbW
 go_wp2_with fail
 rw [←hW2];clear hW2 hbW P hc hf SB
 go_region_with (go_at_call 70;refine (H0.out _).mono ?_;rintro r w3 ⟨rfl,hb3⟩;have hb4:Below W2.heap.size W2 w3:=(by first | exact hb3 | exact ((Below.refl _ W2).drew).trans (hb3.mono (Nat.le_refl _)));obtain ⟨hc,hf⟩:=bcell hb4;have S3:=qsd hb4;clear hb3 hb4)
 all_goals (
  go_wp2;have hbf:=SW.out.trans (S3.out.mono (by omega))
  have hzf:w.heap.size≤w3.heap.size:=by have:=S3.out.size;omega
  exact bodyPost_ret (v:=.tuple #[.agg #[.bool false,.slice none 0 0,.int .i64 0],.int .i64 0]) (by simp [results,Tryz.results74,go_sem,hc,hz3,r0,r1,r2]) rfl ⟨rfl,Below.setC (Below.setC (Below.setC hbf _ _ _ (Nat.le_refl _) hzf) _ _ _ (Nat.le_refl _) (by simpa [World.setCell] using hzf)) _ _ _ (Nat.le_refl _) (by simpa [World.setCell] using hzf)⟩)
theorem of_wild (b b2:Nat) (k:Int) (w:World) (hk:k=3∨k=4)
 (HA:Hid (∀ u,Calls Tryz.prog 72 #[.float .f64 b] u fun r w'=>r=.returned (.float .f64 b2)∧w'=u))
 (HS:Hid (∀ u,Calls Tryz.prog 70 #[.float .f64 b2] u fun r w'=>r=.returned (.agg #[.bool false,.int .i64 k,.int .i64 0,.int .u64 0])∧Below u.heap.size u w'))
 (H0:Hid (∀ u,Calls Tryz.prog 70 #[.float .f64 0] u fun r w'=>r=.returned (.agg #[.bool false,.int .i64 0,.int .i64 (-1074),.int .u64 0])∧Below u.heap.size u w')) :
 Calls Tryz.prog 74 #[.float .f64 b] w fun r w'=>r=.returned (.tuple #[.agg #[.bool false,.slice none 0 0,.int .i64 0],.int .i64 30])∧Below w.heap.size w w':=by
 have k0:(k==0)=false:=by rcases hk with rfl | rfl <;> rfl
 go_enter Tryz.func74,Tryz.ntmps74
 go_wp2_with fail
 refine (Calls.mono (HA.out _)) ?_;rintro r w1 ⟨rfl,rfl⟩
 go_wp2_with fail
 refine (Calls.mono (HS.out _)) ?_;rintro r w2 ⟨rfl,hb⟩;obtain ⟨hc,hf⟩:=bcell hb;have hz:w.heap.size<w2.heap.size:=by have:=hb.size;simp at this;omega
 have hbw:Below w.heap.size w w2:=((Below.refl _ _).alloc (Nat.le_refl _) _).trans (hb.mono (by simp))
 have SB:=qsd hbw;clear hb hbw;obtain ⟨W2,hW2⟩:∃ W,W=w2.alloc (.cells #[.bool false,.int .i64 k,.int .i64 0,.int .u64 0] 80):=⟨_,rfl⟩;have hbW:Below w.heap.size w W2:=by rw [hW2];exact SB.out.alloc (by omega) _
 have P:W2.heap[w2.heap.size]?=some (.cells #[.bool false,.int .i64 k,.int .i64 0,.int .u64 0] 80 (0,0)):=by rw [hW2,heap_alloc_new]
 have p0:W2.cell? ⟨w2.heap.size,0,none⟩=some (.bool false):=by simp [World.cell?,P]
 have p1:W2.cell? ⟨w2.heap.size,1,none⟩=some (.int .i64 k):=by simp [World.cell?,P]
 have p2:W2.cell? ⟨w2.heap.size,2,none⟩=some (.int .i64 0):=by simp [World.cell?,P]
 have p3:W2.cell? ⟨w2.heap.size,3,none⟩=some (.int .u64 0):=by simp [World.cell?,P]
 have r0:W2.cell? ⟨w.heap.size,0,none⟩=some (.bool false):=by rw [hW2];go_simp
 have r1:W2.cell? ⟨w.heap.size,1,none⟩=some (.slice none 0 0):=by rw [hW2];go_simp
 have r2:W2.cell? ⟨w.heap.size,2,none⟩=some (.int .i64 0):=by rw [hW2];go_simp
 have f0:W2.frozen? ⟨w.heap.size,0,none⟩=false:=by rw [hW2];go_simp
 have f1:W2.frozen? ⟨w.heap.size,1,none⟩=false:=by rw [hW2];go_simp
 have f2:W2.frozen? ⟨w.heap.size,2,none⟩=false:=by rw [hW2];go_simp
 have hz2:w2.heap.size<W2.heap.size:=by rw [hW2];simp
 have hz3:w.heap.size<W2.heap.size:=by omega
 have SW:=qsd hbW
 go_wp2_with fail
 rw [←hW2];clear hW2 hbW P hc hf SB
 go_region_with (go_at_call 70;refine (H0.out _).mono ?_;rintro r w3 ⟨rfl,hb3⟩;have hb4:Below W2.heap.size W2 w3:=(by first | exact hb3 | exact ((Below.refl _ W2).drew).trans (hb3.mono (Nat.le_refl _)));obtain ⟨hc,hf⟩:=bcell hb4;have S3:=qsd hb4;clear hb3 hb4)
 all_goals (
  have hbf:=qsd (SW.out.trans (S3.out.mono (by omega)))
  have hzf:w.heap.size≤w3.heap.size:=by have:=S3.out.size;omega
  rcases hk with rfl|rfl
  all_goals (
   go_wp2;exact bodyPost_ret (v:=.tuple #[.agg #[.bool false,.slice none 0 0,.int .i64 0],.int .i64 30]) (by simp [results,Tryz.results74,go_sem,hc,hz3,r0,r1,r2]) rfl ⟨rfl,Below.setC (Below.setC (Below.setC hbf.out _ _ _ (Nat.le_refl _) hzf) _ _ _ (Nat.le_refl _) (by simpa [World.setCell] using hzf)) _ _ _ (Nat.le_refl _) (by simpa [World.setCell] using hzf)⟩))
theorem Of_any (s:Bool) (e f:Nat) (he:e<2048) (hf:f<4503599627370496) (w:World) (hT:Tab w) :
 Calls Tryz.prog 74 #[.float .f64 (B.bw s e f)] w fun r w'=>OAns w.heap.size w' r (ofR s e f) (ofE e)∧Below w.heap.size w w':=by
 have HA:Hid (∀ u,Calls Tryz.prog 72 #[.float .f64 (B.bw s e f)] u fun r w'=>r=.returned (.float .f64 (B.bw false e f))∧w'=u):=fun u=>B.abs_any s e f he hf u
 have HS:∀ u,Calls Tryz.prog 70 #[.float .f64 (B.bw false e f)] u fun r w'=>r=.returned (.agg #[.bool (B.ng false e f),.int .i64 (B.cls e f),.int .i64 (B.xp e),.int .u64 (B.fr e f)])∧Below u.heap.size u w':=fun u=>B.Split_any false e f he hf u
 have H0:Hid (∀ u,Calls Tryz.prog 70 #[.float .f64 0] u fun r w'=>r=.returned (.agg #[.bool false,.int .i64 0,.int .i64 (-1074),.int .u64 0])∧Below u.heap.size u w'):=fun u=>B.Split_any false 0 0 (by omega) (by omega) u
 have hng:B.ng false e f=false:=by unfold B.ng;split <;> rfl
 rw [hng] at HS;unfold ofR ofE
 by_cases h7:e=2047
 · rw [if_pos h7,if_pos h7]
   have h2:B.xp e=0∧B.fr e f=0:=by unfold B.xp B.fr;rw [if_pos h7,if_pos h7];exact ⟨rfl,rfl⟩
   rw [h2.1,h2.2] at HS;have hk:B.cls e f=3∨B.cls e f=4:=by unfold B.cls;rw [if_pos h7];split <;> simp
   exact (of_wild _ _ _ w hk HA (hid HS) H0).mono fun r w' ⟨h1,h3⟩=>⟨⟨_,h1,Nt.nil _ _⟩,h3⟩
 · rw [if_neg h7,if_neg h7]
   have hx:B.xp e=(if e=0 then -1074 else (e:Int)-1075):=by unfold B.xp;rw [if_neg h7]
   have hfr:B.fr e f=(((if e=0 then f else f+4503599627370496:Nat)):Int):=by unfold B.fr;rw [if_neg h7];split <;> simp
   rw [hx,hfr] at HS
   by_cases h0:e=0∧f=0
   · obtain ⟨rfl,rfl⟩:=h0
     rw [show B.cls 0 0=0 from rfl] at HS
     simp only [if_pos,Int.ofNat_zero] at HS;rw [if_pos rfl,mkS_zero];exact (of_nought _ _ w HA (hid HS) H0).mono fun r w' ⟨h1,h3⟩=>⟨⟨_,h1,Nt.nil _ _⟩,h3⟩
   · have hcl:B.cls e f=1∨B.cls e f=2:=by
      unfold B.cls;rw [if_neg h7]
      by_cases h1:e=0
      · rw [if_pos h1,if_neg (fun h=>h0 ⟨h1,h⟩)];simp
      · rw [if_neg h1];simp
     obtain ⟨F,hF⟩:∃ F:Nat,(if e=0 then f else f+4503599627370496:Nat)=F:=⟨_,rfl⟩
     obtain ⟨x,hxx⟩:∃ x:Int,(if e=0 then -1074 else (e:Int)-1075)=x:=⟨_,rfl⟩
     have hFb:F<9007199254740992:=by rw [←hF];split <;> omega
     have hxb:-1100≤x∧x≤1000:=by rw [←hxx];split <;> omega
     rw [hF,hxx] at HS ⊢;have ho:B.odd e f=false:=by unfold B.odd;simp [h7]
     have hz:(e==0&&f==0)=false:=by
      cases h1:(e==0&&f==0)
      · rfl
      · exact absurd (by simpa using h1) h0
     have hb2:B.bw false e f=B.bw s e f%9223372036854775808:=by
      have h1:=B.bw_mod s e f he hf;have h2:(B.bw false e f:Int)=(e:Int)*4503599627370496+f:=by unfold B.bw;simp
      omega
     rw [hb2] at HA HS;obtain ⟨d,hd⟩:=of_some s F x hFb hxb.1 hxb.2;have:=of_core s (B.bw s e f) F (B.cls e f) x w hT hFb hxb.1 hxb.2 HA (hid HS) H0 (B.lt_zero s e f he hf ho hz) (by rcases hcl with h | h <;> rw [h] <;> rfl) (by rcases hcl with h | h <;> rw [h] <;> rfl) (by rcases hcl with h | h <;> rw [h] <;> rfl)
     refine this.mono fun r w' ⟨⟨v,h1,h2⟩,h3⟩=>⟨⟨v,?_,h2⟩,h3⟩
     rw [h1,hd];rfl
end
section
open Go.RowKit
theorem Nt.arg' {lo:Nat}{w:World}{a:Option Addr}{n c X:Nat}(h:Nt lo w (.slice a n c) X) (hs:(ws X).length≤35184372088832):n=(ws X).length∧Arg w a (ws X).length c (ws X):=by
 obtain ⟨a',c',e,A⟩:=h.arg hs
 cases e
 exact ⟨rfl,A⟩
end
section
open Go.RowKit
theorem len8 {X:Nat}(h:bl X≤262144):(ws X).length≤8192:=by rw [ws_len_bl];omega
theorem notLG {X:Nat}(h:bl X≤262144):¬ LG X:=by rw [LG_bl];omega
theorem bl_mono {X Y:Nat}(h:X≤Y):bl X≤bl Y:=by
 by_cases h0:bl X=0
 · omega
 · have h1:=(bl_gt X (bl X-1)).1 (by omega)
   have:=(bl_gt Y (bl X-1)).2 (Nat.le_trans h1 h);omega
theorem bl_le {X k:Nat}(h:X<2^k):bl X≤k:=by
 by_cases h0:k<bl X
 · have:=(bl_gt X k).1 h0;omega
 · omega
theorem shift_half {X:Nat}(h:bl X≤262144):shiftS X (-1)=(X/2,0):=by
 unfold shiftS;rw [if_neg (notLG h)]
 by_cases h0:X=0
 · rw [if_pos h0,h0]
 · rw [if_neg h0,if_pos (by omega)];rfl
theorem half_bl {X k:Nat}(h:bl X≤k+1):X/2<2^k:=by
 have h1:=bl_lt X;have h2:2^bl X≤2^(k+1):=Nat.pow_le_pow_right (by omega) h
 rw [Nat.pow_succ] at h2;omega
theorem even_half {P Q:Nat}(hP:P%2=1) (hQ:Q%2=1) (bP:bl P≤262144) (bQ:bl Q≤262144):bl (P/2+Q/2)≤262144∧bl (P/2+Q/2+1)≤262144∧2*(P/2+Q/2+1)=P+Q:=by
 have h1:=half_bl (X:=P) (k:=262143) bP;have h2:=half_bl (X:=Q) (k:=262143) bQ;have key:∀ k:Nat,P/2<2^k→Q/2<2^k→P/2+Q/2+1<2^(k+1):=by intro k;rw [Nat.pow_succ];omega
 have h3:=key _ h1 h2;have h4:=bl_le h3;exact ⟨Nat.le_trans (bl_mono (by omega)) h4,h4,by omega⟩
theorem evenSum_any {w:World}{a b:Option Addr}{l c k d:Nat}{xs ys:List Nat}(h1:Arg w a l c xs) (h2:Arg w b k d ys) (hT:Tab w) (neg:Bool) (e:Int) (he0:-1048576≤e) (he1:e≤1048576)
 (P Q:Nat) (hP:val xs=P) (hQ:val ys=Q) (oP:P%2=1) (oQ:Q%2=1) (bP:bl P≤262144) (bQ:bl Q≤262144) :
 Calls Tryz.prog 138 #[.bool neg,.slice a l c,.slice b k d,.int .i64 e] w fun r w'=>DAns w.heap.size w' r (mkS neg (P+Q) e)∧Below w.heap.size w w':=by
 obtain ⟨b3,b4,e5⟩:=even_half oP oQ bP bQ;rw [←e5,mkS_double];obtain ⟨P2,hP2⟩:∃ x,P/2=x:=⟨_,rfl⟩;obtain ⟨Q2,hQ2⟩:∃ x,Q/2=x:=⟨_,rfl⟩;have l1:(ws P2).length≤8192:=by rw [←hP2];exact len8 (Nat.le_trans (bl_mono (Nat.div_le_self _ _)) bP)
 have l2:(ws Q2).length≤8192:=by rw [←hQ2];exact len8 (Nat.le_trans (bl_mono (Nat.div_le_self _ _)) bQ)
 have s1:=shift_half bP;have s2:=shift_half bQ;rw [hP2] at s1 b3 b4 ⊢;rw [hQ2] at s2 b3 b4 ⊢;obtain ⟨V,hV⟩:∃ x,P2+Q2=x:=⟨_,rfl⟩;rw [hV] at b3 b4 ⊢;obtain ⟨H1,hH1⟩:∃ x,V+1=x:=⟨_,rfl⟩;rw [hH1] at b4 ⊢;have l3:(ws V).length≤8192:=len8 b3;have l4:(ws H1).length≤8192:=len8 b4;have l5:(ws 1).length≤8192:=by rw [ws_one];simp
 have HX:=(qsd (ai h1 (ai h2 (ai hT (ai hP (ai hQ (ai s1 (ai s2 (ai hV (ai hH1 (ai b3 b4)))))))))));clear h1 h2 hT hP hQ oP oQ bP bQ e5 hP2 hQ2 s1 s2 hV hH1 b3 b4;unfold DAns;have hl:=mkS_len neg H1 (e+1);obtain ⟨o,ho⟩:∃ o,mkS neg H1 (e+1)=o:=⟨_,rfl⟩;rw [ho] at hl ⊢;obtain ⟨dn,hdn⟩:∃ d,dN o=d:=⟨_,rfl⟩;obtain ⟨X,hX⟩:∃ d,dX o=d:=⟨_,rfl⟩;obtain ⟨de,hde⟩:∃ d,dE o=d:=⟨_,rfl⟩;obtain ⟨er,her⟩:∃ d,erS o=d:=⟨_,rfl⟩;rw [hdn,hX,hde,her];rw [hX] at hl;have HS:=(qsd (ai ho (ai hdn (ai hX (ai hde her)))));clear ho hdn hX hde her;have S0:=qsd (show Below (w.alloc (.cells #[.bool false,.slice none 0 0,.int .i64 0] 77)).heap.size (w.alloc (.cells #[.bool false,.slice none 0 0,.int .i64 0] 77)) (w.alloc (.cells #[.bool false,.slice none 0 0,.int .i64 0] 77)) from Below.refl _ _)
 have B0:=qsd (show Below w.heap.size w (w.alloc (.cells #[.bool false,.slice none 0 0,.int .i64 0] 77)) from below_alloc w _)
 go_enter Tryz.func138,Tryz.ntmps138;obtain C:=S0.out;have BW:Below w.heap.size w (w.alloc (.cells #[.bool false,.slice none 0 0,.int .i64 0] 77)):=B0.out.trans (C.mono (by simp))
 have H:=hid (Shift_arg (V:=P2) (-1) (HX.out.1.below BW) (by rw [HX.out.2.2.2.1];exact HX.out.2.2.2.2.2.1) (by omega) (by omega))
 clear C BW
 go_wp2_with fail
 refine H.out.mono ?_;rintro r u1 ⟨v,rfl,hN,hb⟩;obtain ⟨a1,c1,rfl,_⟩:=hN.arg (by omega)
 obtain C:=S0.out;have hz1:=C.size;have S1:=(qsd (ai (C.trans (hb.mono C.size)) (hN.mono C.size)));clear C hb H hN;obtain ⟨C,N1⟩:=S1.out;have BW:Below w.heap.size w u1:=B0.out.trans (C.mono (by simp))
 have H:=hid (Shift_arg (V:=Q2) (-1) (HX.out.2.1.below BW) (by rw [HX.out.2.2.2.2.1];exact HX.out.2.2.2.2.2.2.1) (by omega) (by omega))
 clear C BW N1
 go_wp2_with fail
 refine H.out.mono ?_;rintro r u2 ⟨v,rfl,hN,hb⟩;obtain ⟨a2,c2,rfl,_⟩:=hN.arg (by omega)
 obtain ⟨C,N1⟩:=S1.out;have hz2:=C.size;have S2:=(qsd (ai (C.trans (hb.mono C.size)) (ai (N1.below hb) (hN.mono C.size))));clear C hb H hN N1;obtain ⟨C,N1,N2⟩:=S2.out;have BW:Below w.heap.size w u2:=B0.out.trans (C.mono (by simp))
 have H:=hid (Add_arg (V:=V) (N1.arg' (by omega)).2 (N2.arg' (by omega)).2 (by rw [val_ws,val_ws];exact addS_ok (notLG HX.out.2.2.2.2.2.2.2.2.2.1) HX.out.2.2.2.2.2.2.2.1))
 clear C BW N1 N2
 go_wp2_with fail
 refine H.out.mono ?_;rintro r u3 ⟨v,rfl,hN,hb⟩;obtain ⟨a3,c3,rfl,_⟩:=hN.arg (by omega)
 obtain ⟨C,N1,N2⟩:=S2.out;have hz3:=C.size;have S3:=(qsd (ai (C.trans (hb.mono C.size)) (ai (N1.below hb) (ai (N2.below hb) (hN.mono C.size)))));clear C hb H hN N1 N2;obtain ⟨C,N1,N2,N3⟩:=S3.out;have BW:Below w.heap.size w u3:=B0.out.trans (C.mono (by simp))
 have H:=hid (of_any 1 u3 (by omega))
 clear C BW N1 N2 N3
 go_wp2_with fail
 refine H.out.mono ?_;rintro r u4 ⟨v,rfl,hN,hb⟩;obtain ⟨a4,c4,rfl,_⟩:=hN.arg (by omega)
 obtain ⟨C,N1,N2,N3⟩:=S3.out;have hz4:=C.size;have S4:=(qsd (ai (C.trans (hb.mono C.size)) (ai (N1.below hb) (ai (N2.below hb) (ai (N3.below hb) (hN.mono C.size))))));clear C hb H hN N1 N2 N3;obtain ⟨C,N1,N2,N3,N4⟩:=S4.out;have BW:Below w.heap.size w u4:=B0.out.trans (C.mono (by simp))
 have H:=hid (Add_arg (V:=H1) (N3.arg' (by omega)).2 (N4.arg' (by omega)).2 (by rw [val_ws,val_ws];exact addS_ok (notLG HX.out.2.2.2.2.2.2.2.2.2.2) HX.out.2.2.2.2.2.2.2.2.1))
 clear C BW N1 N2 N3 N4
 go_wp2_with fail
 refine H.out.mono ?_;rintro r u5 ⟨v,rfl,hN,hb⟩;obtain ⟨a5,c5,rfl,_⟩:=hN.arg (by omega)
 obtain ⟨C,N1,N2,N3,N4⟩:=S4.out;have hz5:=C.size;have S5:=(qsd (ai (C.trans (hb.mono C.size)) (ai (N1.below hb) (ai (N2.below hb) (ai (N3.below hb) (ai (N4.below hb) (hN.mono C.size)))))));clear C hb H hN N1 N2 N3 N4;obtain ⟨C,N1,N2,N3,N4,N5⟩:=S5.out;have BW:Below w.heap.size w u5:=B0.out.trans (C.mono (by simp))
 have H0:=show Calls Tryz.prog 105 #[.bool neg,.slice a5 (ws H1).length c5,.int .i64 (e+1)] u5 fun r w'=>DAns u5.heap.size w' r (mkS neg H1 (e+1))∧Below u5.heap.size u5 w' from by have:=Make_any (N5.arg' (by omega)).2 (HX.out.2.2.1.belows BW) neg (e+1) (by omega) (by omega);rw [val_ws] at this;exact this
 unfold DAns at H0;rw [HS.out.1,HS.out.2.1,HS.out.2.2.1,HS.out.2.2.2.1,HS.out.2.2.2.2] at H0;have H:=hid H0;clear C BW H0 N1 N2 N3 N4 N5
 go_wp2_with fail
 refine H.out.mono ?_;rintro r uu ⟨⟨v,rfl,hN⟩,hb⟩;obtain ⟨aa,cc,rfl,_⟩:=hN.arg (by omega)
 obtain ⟨C,N1,N2,N3,N4,N5⟩:=S5.out;have hbb:=C.trans (hb.mono C.size);obtain ⟨hc,hf⟩:=bcell hbb;have HF:=qsd (Fin.of 1 B0.out (by simp) (hN.mono C.size) hbb)
 have hz:w.heap.size<uu.heap.size:=by have:=hbb.size;simp at this;omega
 clear C hb hN hbb H N1 N2 N3 N4 N5;go_wp2;exact bodyPost_ret (v:=.tuple #[.agg #[.bool dn,.slice aa (ws X).length cc,.int .i64 de],.int .i64 er]) (by simp [results,Tryz.results138,go_sem,hc]) rfl (Fin.dans (m:=w.heap.size+1) (by repeat (first | exact HF.out | refine Fin.alloc ?_ _ | refine Fin.set ?_ _ _ _ (by omega) (by omega))) (by omega))
theorem sum_odd {w:World}{a b:Option Addr}{l c k d:Nat}{xs ys:List Nat}(h1:Arg w a l c xs) (h2:Arg w b k d ys) (hT:Tab w) (neg:Bool) (e:Int) (he0:-1048576≤e) (he1:e≤1048576)
 (P Q:Nat) (hP:val xs=P) (hQ:val ys=Q) (oP:P%2=1) (oQ:Q%2=1) (bP:bl P≤262144) (bQ:bl Q≤262144) :
 Calls Tryz.prog 109 #[.bool neg,.slice a l c,.slice b k d,.int .i64 e] w fun r w'=>DAns w.heap.size w' r (mkS neg (P+Q) e)∧Below w.heap.size w w':=by
 have HX:=(qsd (ai h1 (ai h2 (ai hT (ai hP (ai hQ (ai oP (ai oQ (ai bP bQ)))))))));clear h1 h2 hT hP hQ oP oQ bP bQ;unfold DAns;have hl:=mkS_len neg (P+Q) e;obtain ⟨o,ho⟩:∃ o,mkS neg (P+Q) e=o:=⟨_,rfl⟩;rw [ho] at hl ⊢;obtain ⟨dn,hdn⟩:∃ d,dN o=d:=⟨_,rfl⟩;obtain ⟨X,hX⟩:∃ d,dX o=d:=⟨_,rfl⟩;obtain ⟨de,hde⟩:∃ d,dE o=d:=⟨_,rfl⟩;obtain ⟨er,her⟩:∃ d,erS o=d:=⟨_,rfl⟩;rw [hdn,hX,hde,her];rw [hX] at hl;have HS:=(qsd (ai ho (ai hdn (ai hX (ai hde her)))));clear ho hdn hX hde her;have S0:=qsd (show Below (w.alloc (.cells #[.bool false,.slice none 0 0,.int .i64 0] 77)).heap.size (w.alloc (.cells #[.bool false,.slice none 0 0,.int .i64 0] 77)) (w.alloc (.cells #[.bool false,.slice none 0 0,.int .i64 0] 77)) from Below.refl _ _)
 have B0:=qsd (show Below w.heap.size w (w.alloc (.cells #[.bool false,.slice none 0 0,.int .i64 0] 77)) from below_alloc w _)
 go_enter Tryz.func109,Tryz.ntmps109;obtain C:=S0.out;have BW:Below w.heap.size w (w.alloc (.cells #[.bool false,.slice none 0 0,.int .i64 0] 77)):=B0.out.trans (C.mono (by simp))
 have H:=hid (show Calls Tryz.prog 129 #[.slice a l c,.int .i64 0] (w.alloc (.cells #[.bool false,.slice none 0 0,.int .i64 0] 77)) fun r w'=>r=.returned (.bool true)∧w'=(w.alloc (.cells #[.bool false,.slice none 0 0,.int .i64 0] 77)) from by have A:=HX.out.1.below BW;have:=bit_any xs a l c _ 0 _ A.len A.wf A.rd (by omega);rw [Nat.pow_zero,Nat.div_one,HX.out.2.2.2.1,HX.out.2.2.2.2.2.1] at this;exact this)
 clear C BW
 go_wp2_with fail
 refine H.out.mono ?_;rintro r ww ⟨rfl,hw⟩;rw [hw];clear H hw ww;obtain C:=S0.out;have BW:Below w.heap.size w (w.alloc (.cells #[.bool false,.slice none 0 0,.int .i64 0] 77)):=B0.out.trans (C.mono (by simp))
 have H0:=evenSum_any (HX.out.1.below BW) (HX.out.2.1.below BW) (HX.out.2.2.1.belows BW) neg e he0 he1 P Q HX.out.2.2.2.1 HX.out.2.2.2.2.1 HX.out.2.2.2.2.2.1 HX.out.2.2.2.2.2.2.1 HX.out.2.2.2.2.2.2.2.1 HX.out.2.2.2.2.2.2.2.2;unfold DAns at H0;rw [HS.out.1,HS.out.2.1,HS.out.2.2.1,HS.out.2.2.2.1,HS.out.2.2.2.2] at H0;have H:=hid H0;clear C BW H0
 go_wp2_with fail
 refine H.out.mono ?_;rintro r uu ⟨⟨v,rfl,hN⟩,hb⟩;obtain ⟨aa,cc,rfl,_⟩:=hN.arg (by omega)
 obtain C:=S0.out;have hbb:=C.trans (hb.mono C.size);obtain ⟨hc,hf⟩:=bcell hbb;have HF:=qsd (Fin.of 1 B0.out (by simp) (hN.mono C.size) hbb)
 have hz:w.heap.size<uu.heap.size:=by have:=hbb.size;simp at this;omega
 clear C hb hN hbb H;go_wp2;exact bodyPost_ret (v:=.tuple #[.agg #[.bool dn,.slice aa (ws X).length cc,.int .i64 de],.int .i64 er]) (by simp [results,Tryz.results109,go_sem,hc]) rfl (Fin.dans (m:=w.heap.size+1) (by repeat (first | exact HF.out | refine Fin.alloc ?_ _ | refine Fin.set ?_ _ _ _ (by omega) (by omega))) (by omega))
theorem sum_even {w:World}{a b:Option Addr}{l c k d:Nat}{xs ys:List Nat}(h1:Arg w a l c xs) (h2:Arg w b k d ys) (hT:Tab w) (neg:Bool) (e:Int) (he0:-1048576≤e) (he1:e≤1048576)
 (P Q:Nat) (hP:val xs=P) (hQ:val ys=Q) (oP:P%2=0) (hs:bl (P+Q)≤262144) :
 Calls Tryz.prog 109 #[.bool neg,.slice a l c,.slice b k d,.int .i64 e] w fun r w'=>DAns w.heap.size w' r (mkS neg (P+Q) e)∧Below w.heap.size w w':=by
 obtain ⟨V,hV⟩:∃ x,P+Q=x:=⟨_,rfl⟩;rw [hV] at hs ⊢;have l1:=len8 hs;have HX:=(qsd (ai h1 (ai h2 (ai hT (ai hP (ai hQ (ai oP (ai hs hV))))))));clear h1 h2 hT hP hQ oP hs hV;unfold DAns;have hl:=mkS_len neg V e;obtain ⟨o,ho⟩:∃ o,mkS neg V e=o:=⟨_,rfl⟩;rw [ho] at hl ⊢;obtain ⟨dn,hdn⟩:∃ d,dN o=d:=⟨_,rfl⟩;obtain ⟨X,hX⟩:∃ d,dX o=d:=⟨_,rfl⟩;obtain ⟨de,hde⟩:∃ d,dE o=d:=⟨_,rfl⟩;obtain ⟨er,her⟩:∃ d,erS o=d:=⟨_,rfl⟩;rw [hdn,hX,hde,her];rw [hX] at hl;have HS:=(qsd (ai ho (ai hdn (ai hX (ai hde her)))));clear ho hdn hX hde her;have S0:=qsd (show Below (w.alloc (.cells #[.bool false,.slice none 0 0,.int .i64 0] 77)).heap.size (w.alloc (.cells #[.bool false,.slice none 0 0,.int .i64 0] 77)) (w.alloc (.cells #[.bool false,.slice none 0 0,.int .i64 0] 77)) from Below.refl _ _)
 have B0:=qsd (show Below w.heap.size w (w.alloc (.cells #[.bool false,.slice none 0 0,.int .i64 0] 77)) from below_alloc w _)
 go_enter Tryz.func109,Tryz.ntmps109;obtain C:=S0.out;have BW:Below w.heap.size w (w.alloc (.cells #[.bool false,.slice none 0 0,.int .i64 0] 77)):=B0.out.trans (C.mono (by simp))
 have H:=hid (show Calls Tryz.prog 129 #[.slice a l c,.int .i64 0] (w.alloc (.cells #[.bool false,.slice none 0 0,.int .i64 0] 77)) fun r w'=>r=.returned (.bool false)∧w'=(w.alloc (.cells #[.bool false,.slice none 0 0,.int .i64 0] 77)) from by have A:=HX.out.1.below BW;have:=bit_any xs a l c _ 0 _ A.len A.wf A.rd (by omega);rw [Nat.pow_zero,Nat.div_one,HX.out.2.2.2.1,HX.out.2.2.2.2.2.1] at this;exact this)
 clear C BW
 go_wp2_with fail
 refine H.out.mono ?_;rintro r ww ⟨rfl,hw⟩;rw [hw];clear H hw ww;obtain C:=S0.out;have BW:Below w.heap.size w (w.alloc (.cells #[.bool false,.slice none 0 0,.int .i64 0] 77)):=B0.out.trans (C.mono (by simp))
 have H:=hid (Add_arg (V:=V) (HX.out.1.below BW) (HX.out.2.1.below BW) (by rw [HX.out.2.2.2.1,HX.out.2.2.2.2.1];exact addS_ok (notLG HX.out.2.2.2.2.2.2.1) HX.out.2.2.2.2.2.2.2))
 clear C BW
 go_wp2_with fail
 refine H.out.mono ?_;rintro r u1 ⟨v,rfl,hN,hb⟩;obtain ⟨a1,c1,rfl,_⟩:=hN.arg (by omega)
 obtain C:=S0.out;have hz1:=C.size;have S1:=(qsd (ai (C.trans (hb.mono C.size)) (hN.mono C.size)));clear C hb H hN;obtain ⟨C,N1⟩:=S1.out;have BW:Below w.heap.size w u1:=B0.out.trans (C.mono (by simp))
 have H0:=show Calls Tryz.prog 105 #[.bool neg,.slice a1 (ws V).length c1,.int .i64 e] u1 fun r w'=>DAns u1.heap.size w' r (mkS neg V e)∧Below u1.heap.size u1 w' from by have:=Make_any (N1.arg' (by omega)).2 (HX.out.2.2.1.belows BW) neg e (by omega) (by omega);rw [val_ws] at this;exact this
 unfold DAns at H0;rw [HS.out.1,HS.out.2.1,HS.out.2.2.1,HS.out.2.2.2.1,HS.out.2.2.2.2] at H0;have H:=hid H0;clear C BW H0 N1
 go_wp2_with fail
 refine H.out.mono ?_;rintro r uu ⟨⟨v,rfl,hN⟩,hb⟩;obtain ⟨aa,cc,rfl,_⟩:=hN.arg (by omega)
 obtain ⟨C,N1⟩:=S1.out;have hbb:=C.trans (hb.mono C.size);obtain ⟨hc,hf⟩:=bcell hbb;have HF:=qsd (Fin.of 1 B0.out (by simp) (hN.mono C.size) hbb)
 have hz:w.heap.size<uu.heap.size:=by have:=hbb.size;simp at this;omega
 clear C hb hN hbb H N1;go_wp2;exact bodyPost_ret (v:=.tuple #[.agg #[.bool dn,.slice aa (ws X).length cc,.int .i64 de],.int .i64 er]) (by simp [results,Tryz.results109,go_sem,hc]) rfl (Fin.dans (m:=w.heap.size+1) (by repeat (first | exact HF.out | refine Fin.alloc ?_ _ | refine Fin.set ?_ _ _ _ (by omega) (by omega))) (by omega))
theorem wAdd_long {w:World}{a b:Option Addr}{n c m d:Nat}{xs ys:List Nat}(h1:Arg w a n c xs) (h2:Arg w b m d ys) (h:LG (val xs+val ys)) :
 Calls Tryz.prog 139 #[.slice a n c,.slice b m d] w fun r w'=>∃ v,r=.returned (.tuple #[v,.int .i64 2])∧Nt w.heap.size w' v 0∧Below w.heap.size w w' :=
 (Add_any xs ys a b n c m d w.heap.size w h1.len h2.len h1.cap h2.cap (by have:=h1.big;omega) (by have:=h2.big;omega) h1.wf h2.wf h1.rd h2.rd (Nat.le_refl _)).mono fun r w' ⟨⟨v,h3,h4⟩,h5⟩=>by
  have e:addS (val xs) (val ys)=(0,2):=by unfold addS;rw [if_pos h]
  rw [e] at h3 h4;exact ⟨v,h3,h4,h5⟩
theorem sum_long {w:World}{a b:Option Addr}{l c k d:Nat}{xs ys:List Nat}(h1:Arg w a l c xs) (h2:Arg w b k d ys) (hT:Tab w) (neg:Bool) (e:Int) (he0:-1048576≤e) (he1:e≤1048576)
 (P Q:Nat) (hP:val xs=P) (hQ:val ys=Q) (oP:P%2=0) (hs:262144<bl (P+Q)) :
 Calls Tryz.prog 109 #[.bool neg,.slice a l c,.slice b k d,.int .i64 e] w fun r w'=>DAns w.heap.size w' r none∧Below w.heap.size w w':=by
 have l0:(ws 0).length=0:=by rw [ws_zero];rfl
 have HX:=(qsd (ai h1 (ai h2 (ai hT (ai hP (ai hQ (ai oP hs)))))));clear h1 h2 hT hP hQ oP hs;have S0:=qsd (show Below (w.alloc (.cells #[.bool false,.slice none 0 0,.int .i64 0] 77)).heap.size (w.alloc (.cells #[.bool false,.slice none 0 0,.int .i64 0] 77)) (w.alloc (.cells #[.bool false,.slice none 0 0,.int .i64 0] 77)) from Below.refl _ _)
 have B0:=qsd (show Below w.heap.size w (w.alloc (.cells #[.bool false,.slice none 0 0,.int .i64 0] 77)) from below_alloc w _)
 go_enter Tryz.func109,Tryz.ntmps109;obtain C:=S0.out;have BW:Below w.heap.size w (w.alloc (.cells #[.bool false,.slice none 0 0,.int .i64 0] 77)):=B0.out.trans (C.mono (by simp))
 have H:=hid (show Calls Tryz.prog 129 #[.slice a l c,.int .i64 0] (w.alloc (.cells #[.bool false,.slice none 0 0,.int .i64 0] 77)) fun r w'=>r=.returned (.bool false)∧w'=(w.alloc (.cells #[.bool false,.slice none 0 0,.int .i64 0] 77)) from by have A:=HX.out.1.below BW;have:=bit_any xs a l c _ 0 _ A.len A.wf A.rd (by omega);rw [Nat.pow_zero,Nat.div_one,HX.out.2.2.2.1,HX.out.2.2.2.2.2.1] at this;exact this)
 clear C BW
 go_wp2_with fail
 refine H.out.mono ?_;rintro r ww ⟨rfl,hw⟩;rw [hw];clear H hw ww;obtain C:=S0.out;have BW:Below w.heap.size w (w.alloc (.cells #[.bool false,.slice none 0 0,.int .i64 0] 77)):=B0.out.trans (C.mono (by simp))
 have H:=hid (wAdd_long (HX.out.1.below BW) (HX.out.2.1.below BW) (by rw [HX.out.2.2.2.1,HX.out.2.2.2.2.1,LG_bl];exact HX.out.2.2.2.2.2.2))
 clear C BW
 go_wp2_with fail
 refine H.out.mono ?_;rintro r u1 ⟨v,rfl,hN,hb⟩;obtain ⟨a1,c1,rfl,_⟩:=hN.arg (by omega)
 obtain C:=S0.out;have hz1:=C.size;have S1:=(qsd (ai (C.trans (hb.mono C.size)) (hN.mono C.size)));clear C hb H hN;obtain ⟨C,N1⟩:=S1.out;obtain ⟨hc,hf⟩:=bcell C;have HF:=qsd (show Fin w.heap.size (w.heap.size+1) w u1 (.slice none 0 0) 0 from ⟨Nt.nil _ _,B0.out.trans (C.mono (by simp)),by have:=C.size;simp at this;omega⟩)
 have hz:w.heap.size<u1.heap.size:=by have:=C.size;simp at this;omega
 clear C N1;go_wp2;exact bodyPost_ret (v:=.tuple #[.agg #[.bool false,.slice none 0 0,.int .i64 0],.int .i64 2]) (by simp [results,Tryz.results109,go_sem,hc]) rfl (Fin.dans (m:=w.heap.size+1) (by repeat (first | exact HF.out | refine Fin.alloc ?_ _ | refine Fin.set ?_ _ _ _ (by omega) (by omega))) (by omega))
theorem sum_any {w:World}{a b:Option Addr}{l c k d:Nat}{xs ys:List Nat}(h1:Arg w a l c xs) (h2:Arg w b k d ys) (hT:Tab w) (neg:Bool) (e:Int) (he0:-1048576≤e) (he1:e≤1048576)
 (P Q:Nat) (hP:val xs=P) (hQ:val ys=Q) (oQ:Q%2=1) (bP:bl P≤262144) (bQ:bl Q≤262144) :
 Calls Tryz.prog 109 #[.bool neg,.slice a l c,.slice b k d,.int .i64 e] w fun r w'=>DAns w.heap.size w' r (mkS neg (P+Q) e)∧Below w.heap.size w w':=by
 rcases Nat.mod_two_eq_zero_or_one P with oP|oP
 · by_cases hs:bl (P+Q)≤262144
   · exact sum_even h1 h2 hT neg e he0 he1 P Q hP hQ oP hs
   · have e1:mkS neg (P+Q) e=none:=by rw [mkS_odd _ _ _ (by omega),if_pos (.inl (by omega))]
     rw [e1];exact sum_long h1 h2 hT neg e he0 he1 P Q hP hQ oP (by omega)
 · exact sum_odd h1 h2 hT neg e he0 he1 P Q hP hQ oP oQ bP bQ
theorem diff_low {w:World}{a b:Option Addr}{l c k d:Nat}{xs ys:List Nat}(h1:Arg w a l c xs) (h2:Arg w b k d ys) (hT:Tab w) (neg:Bool) (e:Int) (he0:-1048576≤e) (he1:e≤1048576)
 (P Q:Nat) (hP:val xs=P) (hQ:val ys=Q) (bP:bl P≤262144) (bQ:bl Q≤262144) (hlt:P<Q) :
 Calls Tryz.prog 110 #[.bool neg,.slice a l c,.slice b k d,.int .i64 e] w fun r w'=>DAns w.heap.size w' r (mkS (!neg) (Q-P) e)∧Below w.heap.size w w':=by
 obtain ⟨z,hz0⟩:∃ z,cmpI P Q=z:=⟨_,rfl⟩;have hzz:z=-1:=by rw [←hz0];exact cmpI_lt hlt
 obtain ⟨V,hV⟩:∃ x,Q-P=x:=⟨_,rfl⟩;have bV:bl V≤262144:=by rw [←hV];exact Nat.le_trans (bl_mono (Nat.sub_le _ _)) bQ
 rw [hV];have l1:=len8 bV;have hsub:V+P=Q:=by omega
 have HX:=(qsd (ai h1 (ai h2 (ai hT (ai hP (ai hQ (ai hz0 (ai hsub (ai bP bQ)))))))));subst hzz;clear h1 h2 hT hP hQ hz0 hsub bP bQ hlt hV bV;unfold DAns;have hl:=mkS_len (!neg) V e;obtain ⟨o,ho⟩:∃ o,mkS (!neg) V e=o:=⟨_,rfl⟩;rw [ho] at hl ⊢;obtain ⟨dn,hdn⟩:∃ d,dN o=d:=⟨_,rfl⟩;obtain ⟨X,hX⟩:∃ d,dX o=d:=⟨_,rfl⟩;obtain ⟨de,hde⟩:∃ d,dE o=d:=⟨_,rfl⟩;obtain ⟨er,her⟩:∃ d,erS o=d:=⟨_,rfl⟩;rw [hdn,hX,hde,her];rw [hX] at hl;have HS:=(qsd (ai ho (ai hdn (ai hX (ai hde her)))));clear ho hdn hX hde her;have S0:=qsd (show Below (w.alloc (.cells #[.bool false,.slice none 0 0,.int .i64 0] 77)).heap.size (w.alloc (.cells #[.bool false,.slice none 0 0,.int .i64 0] 77)) (w.alloc (.cells #[.bool false,.slice none 0 0,.int .i64 0] 77)) from Below.refl _ _)
 have B0:=qsd (show Below w.heap.size w (w.alloc (.cells #[.bool false,.slice none 0 0,.int .i64 0] 77)) from below_alloc w _)
 go_enter Tryz.func110,Tryz.ntmps110;obtain C:=S0.out;have BW:Below w.heap.size w (w.alloc (.cells #[.bool false,.slice none 0 0,.int .i64 0] 77)):=B0.out.trans (C.mono (by simp))
 have H:=hid (show Calls Tryz.prog 140 #[.slice a l c,.slice b k d] (w.alloc (.cells #[.bool false,.slice none 0 0,.int .i64 0] 77)) fun r w'=>r=.returned (.int .i64 (-1))∧Below (w.alloc (.cells #[.bool false,.slice none 0 0,.int .i64 0] 77)).heap.size (w.alloc (.cells #[.bool false,.slice none 0 0,.int .i64 0] 77)) w' from Cmp_arg (HX.out.1.below BW) (HX.out.2.1.below BW) (-1) (by rw [HX.out.2.2.2.1,HX.out.2.2.2.2.1];exact HX.out.2.2.2.2.2.1))
 clear C BW
 go_wp2_with fail
 refine H.out.mono ?_;rintro r u1 ⟨rfl,hb⟩;obtain C:=S0.out;have hz1:=C.size;have S1:=qsd (C.trans (hb.mono C.size));clear C hb H;obtain C:=S1.out;have BW:Below w.heap.size w u1:=B0.out.trans (C.mono (by simp))
 have H:=hid (Sub_arg (V:=V) (HX.out.2.1.below BW) (HX.out.1.below BW) (by rw [HX.out.2.2.2.2.1,HX.out.2.2.2.1];exact subS_ok (notLG HX.out.2.2.2.2.2.2.2.2) (notLG HX.out.2.2.2.2.2.2.2.1) HX.out.2.2.2.2.2.2.1))
 clear C BW
 go_wp2_with fail
 refine H.out.mono ?_;rintro r u2 ⟨v,rfl,hN,hb⟩;obtain ⟨a2,c2,rfl,_⟩:=hN.arg (by omega)
 obtain C:=S1.out;have hz2:=C.size;have S2:=(qsd (ai (C.trans (hb.mono C.size)) (hN.mono C.size)));clear C hb H hN;obtain ⟨C,N2⟩:=S2.out;have BW:Below w.heap.size w u2:=B0.out.trans (C.mono (by simp))
 have H0:=show Calls Tryz.prog 105 #[.bool (!neg),.slice a2 (ws V).length c2,.int .i64 e] u2 fun r w'=>DAns u2.heap.size w' r (mkS (!neg) V e)∧Below u2.heap.size u2 w' from by have:=Make_any (N2.arg' (by omega)).2 (HX.out.2.2.1.belows BW) (!neg) e (by omega) (by omega);rw [val_ws] at this;exact this
 unfold DAns at H0;rw [HS.out.1,HS.out.2.1,HS.out.2.2.1,HS.out.2.2.2.1,HS.out.2.2.2.2] at H0;have H:=hid H0;clear C BW H0 N2
 go_wp2_with fail
 refine H.out.mono ?_;rintro r uu ⟨⟨v,rfl,hN⟩,hb⟩;obtain ⟨aa,cc,rfl,_⟩:=hN.arg (by omega)
 obtain ⟨C,N2⟩:=S2.out;have hbb:=C.trans (hb.mono C.size);obtain ⟨hc,hf⟩:=bcell hbb;have HF:=qsd (Fin.of 1 B0.out (by simp) (hN.mono C.size) hbb)
 have hz:w.heap.size<uu.heap.size:=by have:=hbb.size;simp at this;omega
 clear C hb hN hbb H N2;go_wp2;exact bodyPost_ret (v:=.tuple #[.agg #[.bool dn,.slice aa (ws X).length cc,.int .i64 de],.int .i64 er]) (by simp [results,Tryz.results110,go_sem,hc]) rfl (Fin.dans (m:=w.heap.size+1) (by repeat (first | exact HF.out | refine Fin.alloc ?_ _ | refine Fin.set ?_ _ _ _ (by omega) (by omega))) (by omega))
theorem diff_high {w:World}{a b:Option Addr}{l c k d:Nat}{xs ys:List Nat}(h1:Arg w a l c xs) (h2:Arg w b k d ys) (hT:Tab w) (neg:Bool) (e:Int) (he0:-1048576≤e) (he1:e≤1048576)
 (P Q:Nat) (hP:val xs=P) (hQ:val ys=Q) (bP:bl P≤262144) (bQ:bl Q≤262144) (hlt:Q≤P) :
 Calls Tryz.prog 110 #[.bool neg,.slice a l c,.slice b k d,.int .i64 e] w fun r w'=>DAns w.heap.size w' r (mkS neg (P-Q) e)∧Below w.heap.size w w':=by
 obtain ⟨z,hz0⟩:∃ z,cmpI P Q=z:=⟨_,rfl⟩;have hzz:0≤z:=by rw [←hz0];exact cmpI_ge hlt
 obtain ⟨V,hV⟩:∃ x,P-Q=x:=⟨_,rfl⟩;have bV:bl V≤262144:=by rw [←hV];exact Nat.le_trans (bl_mono (Nat.sub_le _ _)) bP
 rw [hV];have l1:=len8 bV;have hsub:V+Q=P:=by omega
 have HX:=(qsd (ai h1 (ai h2 (ai hT (ai hP (ai hQ (ai hz0 (ai hsub (ai bP bQ)))))))));have hzf:decide (z<0)=false:=decide_eq_false (by omega)
 clear h1 h2 hT hP hQ hz0 hsub bP bQ hlt hV bV;unfold DAns;have hl:=mkS_len neg V e;obtain ⟨o,ho⟩:∃ o,mkS neg V e=o:=⟨_,rfl⟩;rw [ho] at hl ⊢;obtain ⟨dn,hdn⟩:∃ d,dN o=d:=⟨_,rfl⟩;obtain ⟨X,hX⟩:∃ d,dX o=d:=⟨_,rfl⟩;obtain ⟨de,hde⟩:∃ d,dE o=d:=⟨_,rfl⟩;obtain ⟨er,her⟩:∃ d,erS o=d:=⟨_,rfl⟩;rw [hdn,hX,hde,her];rw [hX] at hl;have HS:=(qsd (ai ho (ai hdn (ai hX (ai hde her)))));clear ho hdn hX hde her;have S0:=qsd (show Below (w.alloc (.cells #[.bool false,.slice none 0 0,.int .i64 0] 77)).heap.size (w.alloc (.cells #[.bool false,.slice none 0 0,.int .i64 0] 77)) (w.alloc (.cells #[.bool false,.slice none 0 0,.int .i64 0] 77)) from Below.refl _ _)
 have B0:=qsd (show Below w.heap.size w (w.alloc (.cells #[.bool false,.slice none 0 0,.int .i64 0] 77)) from below_alloc w _)
 go_enter Tryz.func110,Tryz.ntmps110;obtain C:=S0.out;have BW:Below w.heap.size w (w.alloc (.cells #[.bool false,.slice none 0 0,.int .i64 0] 77)):=B0.out.trans (C.mono (by simp))
 have H:=hid (show Calls Tryz.prog 140 #[.slice a l c,.slice b k d] (w.alloc (.cells #[.bool false,.slice none 0 0,.int .i64 0] 77)) fun r w'=>r=.returned (.int .i64 z)∧Below (w.alloc (.cells #[.bool false,.slice none 0 0,.int .i64 0] 77)).heap.size (w.alloc (.cells #[.bool false,.slice none 0 0,.int .i64 0] 77)) w' from Cmp_arg (HX.out.1.below BW) (HX.out.2.1.below BW) z (by rw [HX.out.2.2.2.1,HX.out.2.2.2.2.1];exact HX.out.2.2.2.2.2.1))
 clear C BW
 go_wp2_with fail
 refine H.out.mono ?_;rintro r u1 ⟨rfl,hb⟩;obtain C:=S0.out;have hz1:=C.size;have S1:=qsd (C.trans (hb.mono C.size));clear C hb H;obtain C:=S1.out;have BW:Below w.heap.size w u1:=B0.out.trans (C.mono (by simp))
 have H:=hid (Sub_arg (V:=V) (HX.out.1.below BW) (HX.out.2.1.below BW) (by rw [HX.out.2.2.2.1,HX.out.2.2.2.2.1];exact subS_ok (notLG HX.out.2.2.2.2.2.2.2.1) (notLG HX.out.2.2.2.2.2.2.2.2) HX.out.2.2.2.2.2.2.1))
 clear C BW
 go_wp2_with fail
 refine H.out.mono ?_;rintro r u2 ⟨v,rfl,hN,hb⟩;obtain ⟨a2,c2,rfl,_⟩:=hN.arg (by omega)
 obtain C:=S1.out;have hz2:=C.size;have S2:=(qsd (ai (C.trans (hb.mono C.size)) (hN.mono C.size)));clear C hb H hN;obtain ⟨C,N2⟩:=S2.out;have BW:Below w.heap.size w u2:=B0.out.trans (C.mono (by simp))
 have H0:=show Calls Tryz.prog 105 #[.bool neg,.slice a2 (ws V).length c2,.int .i64 e] u2 fun r w'=>DAns u2.heap.size w' r (mkS neg V e)∧Below u2.heap.size u2 w' from by have:=Make_any (N2.arg' (by omega)).2 (HX.out.2.2.1.belows BW) neg e (by omega) (by omega);rw [val_ws] at this;exact this
 unfold DAns at H0;rw [HS.out.1,HS.out.2.1,HS.out.2.2.1,HS.out.2.2.2.1,HS.out.2.2.2.2] at H0;have H:=hid H0;clear C BW H0 N2
 go_wp2_with fail
 refine H.out.mono ?_;rintro r uu ⟨⟨v,rfl,hN⟩,hb⟩;obtain ⟨aa,cc,rfl,_⟩:=hN.arg (by omega)
 obtain ⟨C,N2⟩:=S2.out;have hbb:=C.trans (hb.mono C.size);obtain ⟨hc,hf⟩:=bcell hbb;have HF:=qsd (Fin.of 1 B0.out (by simp) (hN.mono C.size) hbb)
 have hz:w.heap.size<uu.heap.size:=by have:=hbb.size;simp at this;omega
 clear C hb hN hbb H N2;go_wp2;exact bodyPost_ret (v:=.tuple #[.agg #[.bool dn,.slice aa (ws X).length cc,.int .i64 de],.int .i64 er]) (by simp [results,Tryz.results110,go_sem,hc]) rfl (Fin.dans (m:=w.heap.size+1) (by repeat (first | exact HF.out | refine Fin.alloc ?_ _ | refine Fin.set ?_ _ _ _ (by omega) (by omega))) (by omega))
end
section
open Go.RowKit
def Dk (w:World) (g:Nat) (n:Bool) (v:Value) (e:Int):Prop:=w.heap[g]?=some (.cells #[.bool n,v,.int .i64 e] 77 (0,0))
theorem Dk.lt {w:World}{g:Nat}{n:Bool}{v:Value}{e:Int}(h:Dk w g n v e):g<w.heap.size:=(Array.getElem?_eq_some_iff.1 h).1
theorem Dk.below {w w':World}{g:Nat}{n:Bool}{v:Value}{e:Int}(h:Dk w g n v e) (hb:Below w.heap.size w w'):Dk w' g n v e:=by
 unfold Dk;rw [hb.block g h.lt];exact h
theorem Dk.alloc {w:World}{g:Nat}{n:Bool}{v:Value}{e:Int}(h:Dk w g n v e) (o:Obj):Dk (w.alloc o) g n v e:=h.below (below_alloc w o)
theorem Dk.new (w:World) (n:Bool) (v:Value) (e:Int):Dk (w.alloc (.cells #[.bool n,v,.int .i64 e] 77)) w.heap.size n v e:=heap_alloc_new _ _
theorem Dk.facts {w:World}{g:Nat}{n:Bool}{v:Value}{e:Int}(h:Dk w g n v e) :
 w.cell? ⟨g,0,none⟩=some (.bool n)∧w.cell? ⟨g,1,none⟩=some v∧w.cell? ⟨g,2,none⟩=some (.int .i64 e)∧w.frozen? ⟨g,0,none⟩=false∧w.frozen? ⟨g,1,none⟩=false∧w.frozen? ⟨g,2,none⟩=false:=by
 unfold Dk at h;simp [World.cell?,World.frozen?,h]
abbrev st3 (w:World) (g:Nat) (x y z:Value):World:=((w.setCell ⟨g,0,none⟩ x).setCell ⟨g,1,none⟩ y).setCell ⟨g,2,none⟩ z
theorem st3_size (w:World) (g:Nat) (x y z:Value):(st3 w g x y z).heap.size=w.heap.size:=by simp [st3,World.setCell]
theorem Dk.set {w:World}{g:Nat}{n:Bool}{v:Value}{e:Int}(h:Dk w g n v e) (m:Bool) (u:Value) (f:Int):Dk (st3 w g (.bool m) u (.int .i64 f)) g m u f:=by
 unfold Dk at h ⊢;simp [st3,World.setCell,Array.getElem?_modify,h]
theorem Dk.other {w:World}{g:Nat}{n:Bool}{v:Value}{e:Int}(h:Dk w g n v e) (g':Nat) (hg:g≠g') (x y z:Value):Dk (st3 w g' x y z) g n v e:=by
 unfold Dk;rw [(set3_but g' w x y z).block g h.lt hg];exact h
theorem Fin.st3 {lo m:Nat}{w0 w:World}{v:Value}{X:Nat}(H:Fin lo m w0 w v X) (g:Nat) (x y z:Value) (h1:lo≤g) (h2:g<m):Fin lo m w0 (st3 w g x y z) v X:=((H.set g 0 x h1 h2).set g 1 y h1 h2).set g 2 z h1 h2
theorem Fin.below {lo m:Nat}{w0 w w':World}{v:Value}{X:Nat}(H:Fin lo m w0 w v X) (hb:Below w.heap.size w w'):Fin lo m w0 w' v X:=⟨H.nt.below hb,H.bel.trans (hb.mono H.size),Nat.le_trans H.size hb.size⟩
theorem Fin.drew {lo m:Nat}{w0 w:World}{v:Value}{X:Nat}(H:Fin lo m w0 w v X):Fin lo m w0 w.drew v X:=⟨H.nt,H.bel.drew,H.size⟩
theorem Fin.pair {lo m:Nat}{w0 w:World}{v v':Value}{X X':Nat}{n n':Bool}{e e':Int}{k:Value}(H:Fin lo m w0 w v X) (H':Fin lo m w0 w v' X') (h:lo≤m) :
 ∃ p q,Ending.returned (.tuple #[.agg #[.bool n,v,.int .i64 e],.agg #[.bool n',v',.int .i64 e'],k])=.returned (.tuple #[.agg #[.bool n,p,.int .i64 e],.agg #[.bool n',q,.int .i64 e'],k])∧Nt lo w p X∧Nt lo w q X'∧Below lo w0 w:=⟨v,v',rfl,H.nt.mono h,H'.nt.mono h,H.bel⟩
theorem forms_res (W:World) (g h:Nat) (n m:Bool) (v u:Value) (e f k:Int) (tmps:Array Value) (ht:tmps[4]?.getD undef=.pointer (some ⟨g,0,none⟩)) (hs:tmps[5]?.getD undef=.pointer (some ⟨h,0,none⟩)) (hk:tmps[6]?.getD undef=.int .i64 k) (D:Dk W g n v e) (E:Dk W h m u f) :
 (results Tryz.f107 tmps).run Tryz.prog W=.ok (.tuple #[.agg #[.bool n,v,.int .i64 e],.agg #[.bool m,u,.int .i64 f],.int .i64 k]) W:=by
 obtain ⟨x0,x1,x2,xf0,xf1,xf2⟩:=D.facts;obtain ⟨y0,y1,y2,yf0,yf1,yf2⟩:=E.facts;simp [results,Tryz.results107,ht,hs,hk,go_sem,x0,x1,x2,y0,y1,y2]
theorem forms_ok {w:World}{a b:Option Addr}{l c k d:Nat}{xs ys:List Nat}(h1:Arg w a l c xs) (h2:Arg w b k d ys) (hT:Tab w) (n m:Bool) (e f:Int) (he0:-9223372036854775808≤e) (he1:e≤9223372036854775807) (hf0:-9223372036854775808≤f) (hf1:f≤9223372036854775807)
 (n1 m1:Bool) (X Y:Nat) (e1 f1:Int) (hx:mkS n (val xs) e=some (n1,X,e1)) (hy:mkS m (val ys) f=some (m1,Y,f1)) :
 Calls Tryz.prog 107 #[.agg #[.bool n,.slice a l c,.int .i64 e],.agg #[.bool m,.slice b k d,.int .i64 f]] w fun r w' =>
  ∃ v u,r=.returned (.tuple #[.agg #[.bool n1,v,.int .i64 e1],.agg #[.bool m1,u,.int .i64 f1],.int .i64 0])∧Nt w.heap.size w' v X∧Nt w.heap.size w' u Y∧Below w.heap.size w w':=by
 obtain ⟨W1,hW1⟩:∃ W,W=(((w.alloc (.cells #[.bool n,.slice a l c,.int .i64 e] 77)).alloc (.cells #[.bool m,.slice b k d,.int .i64 f] 77)).alloc (.cells #[.bool false,.slice none 0 0,.int .i64 0] 77)).alloc (.cells #[.bool false,.slice none 0 0,.int .i64 0] 77):=⟨_,rfl⟩;have hB:Below w.heap.size w W1:=by rw [hW1];exact (((below_alloc w _).alloc (by simp) _).alloc (by simp;omega) _).alloc (by simp;omega) _
 have hz1:W1.heap.size=w.heap.size+4:=by rw [hW1];simp
 have D1:Dk W1 (w.heap.size+1) m (.slice b k d) f:=by rw [hW1];have:=((Dk.new (w.alloc (.cells #[.bool n,.slice a l c,.int .i64 e] 77)) m (.slice b k d) f).alloc (.cells #[.bool false,.slice none 0 0,.int .i64 0] 77)).alloc (.cells #[.bool false,.slice none 0 0,.int .i64 0] 77);simpa using this
 have D2:Dk W1 (w.heap.size+1+1) false (.slice none 0 0) 0:=by rw [hW1];have:=(Dk.new ((w.alloc (.cells #[.bool n,.slice a l c,.int .i64 e] 77)).alloc (.cells #[.bool m,.slice b k d,.int .i64 f] 77)) false (.slice none 0 0) 0).alloc (.cells #[.bool false,.slice none 0 0,.int .i64 0] 77);simpa using this
 have D3:Dk W1 (w.heap.size+1+1+1) false (.slice none 0 0) 0:=by rw [hW1];have:=Dk.new (((w.alloc (.cells #[.bool n,.slice a l c,.int .i64 e] 77)).alloc (.cells #[.bool m,.slice b k d,.int .i64 f] 77)).alloc (.cells #[.bool false,.slice none 0 0,.int .i64 0] 77)) false (.slice none 0 0) 0;simpa using this
 have HF1:=form_any (h1.below hB) (hT.belows hB) n e he0 he1;have HF2:Hid (∀ u,Below w.heap.size w u→Calls Tryz.prog 100 #[.agg #[.bool m,.slice b k d,.int .i64 f]] u fun r w'=>DAns u.heap.size w' r (mkS m (val ys) f)∧Below u.heap.size u w'):=fun u hu=>form_any (h2.below hu) (hT.belows hu) m f hf0 hf1
 have lX:(ws X).length≤8192:=by have:=mkS_len n (val xs) e;rw [hx] at this;exact this
 have lY:(ws Y).length≤8192:=by have:=mkS_len m (val ys) f;rw [hy] at this;exact this
 rw [hx] at HF1;rw [hy] at HF2;simp only [DAns,dN,dX,dE,erS,Option.isSome,Option.getD,if_true,Bool.false_eq_true,if_false] at HF1 HF2;have H1:=hid HF1;have SB:=(qsd (ai hB (ai hz1 (ai D1 (ai D2 D3)))));clear HF1 h1 h2 hT hx hy he0 he1 hf0 hf1 hB hz1 D1 D2 D3;go_enter Tryz.func107,Tryz.ntmps107
 go_wp2_with fail
 rw [←hW1];clear hW1;refine H1.out.mono ?_;rintro r u1 ⟨⟨v,rfl,hN⟩,hb⟩;obtain ⟨a1,c1,rfl,_⟩:=hN.arg (by omega)
 obtain ⟨hB,hz1,D1,D2,D3⟩:=SB.out;have E1:=D1.below hb;have E2:=D2.below hb;have E3:=D3.below hb;obtain ⟨p0,p1,p2,pf0,pf1,pf2⟩:=E1.facts;obtain ⟨q0,q1,q2,qf0,qf1,qf2⟩:=E2.facts;have F1:Fin w.heap.size (w.heap.size+4) w u1 (.slice a1 (ws X).length c1) X:=⟨by rw [←hz1];exact hN,hB.trans (hb.mono (by omega)),by have:=hb.size;omega⟩
 obtain ⟨U1,hU1⟩:∃ U,U=st3 u1 (w.heap.size+1+1) (.bool n1) (.slice a1 (ws X).length c1) (.int .i64 e1):=⟨_,rfl⟩;have G1:Fin w.heap.size (w.heap.size+4) w U1 (.slice a1 (ws X).length c1) X:=by rw [hU1];exact F1.st3 _ _ _ _ (by omega) (by omega)
 have I2:Dk U1 (w.heap.size+1+1) n1 (.slice a1 (ws X).length c1) e1:=by rw [hU1];exact E2.set _ _ _
 have I3:Dk U1 (w.heap.size+1+1+1) false (.slice none 0 0) 0:=by rw [hU1];exact E3.other _ (by omega) _ _ _
 have I1:Dk U1 (w.heap.size+1) m (.slice b k d) f:=by rw [hU1];exact E1.other _ (by omega) _ _ _
 have hsz1:U1.heap.size=u1.heap.size:=by rw [hU1];exact st3_size _ _ _ _ _
 have H2:=hid (HF2.out _ G1.bel);have S1:=(qsd (ai G1 (ai I2 I3)));obtain ⟨i0,i1,i2,if0,if1,if2⟩:=I1.facts;have hz4:w.heap.size+4≤U1.heap.size:=by rw [hsz1];have:=hb.size;omega
 clear hN hb F1 G1 H1 hB hz1 D1 D2 D3 E1 E2 E3 I2 I3 I1 SB hsz1;unfold st3 at hU1
 go_wp2_with fail
 rw [←hU1];clear hU1;refine H2.out.mono ?_;rintro r u2 ⟨⟨v,rfl,hN⟩,hb⟩;obtain ⟨a2,c2,rfl,_⟩:=hN.arg (by omega)
 obtain ⟨G1,I2,I3⟩:=S1.out;have J2:=I2.below hb;have J3:=I3.below hb;obtain ⟨U2,hU2⟩:∃ U,U=st3 u2 (w.heap.size+1+1+1) (.bool m1) (.slice a2 (ws Y).length c2) (.int .i64 f1):=⟨_,rfl⟩;have K2:Dk U2 (w.heap.size+1+1) n1 (.slice a1 (ws X).length c1) e1:=by rw [hU2];exact J2.other _ (by omega) _ _ _
 have K3:Dk U2 (w.heap.size+1+1+1) m1 (.slice a2 (ws Y).length c2) f1:=by rw [hU2];exact J3.set _ _ _
 have Q1:=qsd (show Fin w.heap.size (w.heap.size+4) w U2 (.slice a1 (ws X).length c1) X by rw [hU2];exact (G1.below hb).st3 _ _ _ _ (by omega) (by omega))
 have Q2:=qsd (show Fin w.heap.size (w.heap.size+4) w U2 (.slice a2 (ws Y).length c2) Y by rw [hU2];exact Fin.st3 ⟨hN.mono hz4,(G1.below hb).bel,(G1.below hb).size⟩ _ _ _ _ (by omega) (by omega))
 obtain ⟨s0,s1,s2,sf0,sf1,sf2⟩:=J3.facts;obtain ⟨x0,x1,x2,xf0,xf1,xf2⟩:=K2.facts;obtain ⟨y0,y1,y2,yf0,yf1,yf2⟩:=K3.facts;clear hN hb H2 S1 G1 I2 I3 J2 J3 K2 K3;unfold st3 at hU2;go_wp2;rw [←hU2];clear hU2 HF2
 go_region
 all_goals (
  go_wp2;refine bodyPost_ret (v:=.tuple #[.agg #[.bool n1,.slice a1 (ws X).length c1,.int .i64 e1],.agg #[.bool m1,.slice a2 (ws Y).length c2,.int .i64 f1],.int .i64 0]) (by simp [results,Tryz.results107,go_sem,x0,x1,x2,y0,y1,y2]) rfl ?_
  refine Fin.pair (m:=w.heap.size+4) ?_ ?_ (by omega)
  · repeat (with_reducible first | exact Q1.out | refine Fin.drew ?_ | refine Fin.alloc ?_ _ | refine Fin.set ?_ _ _ _ (by omega) (by omega))
  · repeat (with_reducible first | exact Q2.out | refine Fin.drew ?_ | refine Fin.alloc ?_ _ | refine Fin.set ?_ _ _ _ (by omega) (by omega)))
theorem forms_bad1 {w:World}{a b:Option Addr}{l c k d:Nat}{xs ys:List Nat}(h1:Arg w a l c xs) (h2:Arg w b k d ys) (hT:Tab w) (n m:Bool) (e f:Int) (he0:-9223372036854775808≤e) (he1:e≤9223372036854775807) (hf0:-9223372036854775808≤f) (hf1:f≤9223372036854775807)
 (hx:mkS n (val xs) e=none) :
 Calls Tryz.prog 107 #[.agg #[.bool n,.slice a l c,.int .i64 e],.agg #[.bool m,.slice b k d,.int .i64 f]] w fun r w' =>
  r=.returned (.tuple #[.agg #[.bool false,.slice none 0 0,.int .i64 0],.agg #[.bool false,.slice none 0 0,.int .i64 0],.int .i64 2])∧Below w.heap.size w w':=by
 obtain ⟨W1,hW1⟩:∃ W,W=(((w.alloc (.cells #[.bool n,.slice a l c,.int .i64 e] 77)).alloc (.cells #[.bool m,.slice b k d,.int .i64 f] 77)).alloc (.cells #[.bool false,.slice none 0 0,.int .i64 0] 77)).alloc (.cells #[.bool false,.slice none 0 0,.int .i64 0] 77):=⟨_,rfl⟩;have hB:Below w.heap.size w W1:=by rw [hW1];exact (((below_alloc w _).alloc (by simp) _).alloc (by simp;omega) _).alloc (by simp;omega) _
 have hz1:W1.heap.size=w.heap.size+4:=by rw [hW1];simp
 have D1:Dk W1 (w.heap.size+1) m (.slice b k d) f:=by rw [hW1];have:=((Dk.new (w.alloc (.cells #[.bool n,.slice a l c,.int .i64 e] 77)) m (.slice b k d) f).alloc (.cells #[.bool false,.slice none 0 0,.int .i64 0] 77)).alloc (.cells #[.bool false,.slice none 0 0,.int .i64 0] 77);simpa using this
 have D2:Dk W1 (w.heap.size+1+1) false (.slice none 0 0) 0:=by rw [hW1];have:=(Dk.new ((w.alloc (.cells #[.bool n,.slice a l c,.int .i64 e] 77)).alloc (.cells #[.bool m,.slice b k d,.int .i64 f] 77)) false (.slice none 0 0) 0).alloc (.cells #[.bool false,.slice none 0 0,.int .i64 0] 77);simpa using this
 have D3:Dk W1 (w.heap.size+1+1+1) false (.slice none 0 0) 0:=by rw [hW1];have:=Dk.new (((w.alloc (.cells #[.bool n,.slice a l c,.int .i64 e] 77)).alloc (.cells #[.bool m,.slice b k d,.int .i64 f] 77)).alloc (.cells #[.bool false,.slice none 0 0,.int .i64 0] 77)) false (.slice none 0 0) 0;simpa using this
 have HF1:=form_any (h1.below hB) (hT.belows hB) n e he0 he1;have l0:(ws 0).length=0:=by rw [ws_zero];rfl
 rw [hx] at HF1;simp only [DAns,dN,dX,dE,erS,Option.isSome,Option.getD,if_true,Bool.false_eq_true,if_false] at HF1;have H1:=hid HF1;have SB:=(qsd (ai hB (ai hz1 (ai D1 (ai D2 D3)))));clear HF1 h1 h2 hT hx he0 he1 hf0 hf1 hB hz1 D1 D2 D3;go_enter Tryz.func107,Tryz.ntmps107
 go_wp2_with fail
 rw [←hW1];clear hW1;refine H1.out.mono ?_;rintro r u1 ⟨⟨v,rfl,hN⟩,hb⟩;obtain ⟨a1,c1,rfl,_⟩:=hN.arg (by omega)
 obtain ⟨hB,hz1,D1,D2,D3⟩:=SB.out;have E2:=D2.below hb;have E3:=D3.below hb;obtain ⟨q0,q1,q2,qf0,qf1,qf2⟩:=E2.facts;obtain ⟨y0,y1,y2,yf0,yf1,yf2⟩:=E3.facts;have F1:=qsd (show Fin w.heap.size (w.heap.size+4) w u1 (.slice none 0 0) 0 from ⟨Nt.nil _ _,hB.trans (hb.mono (by omega)),by have:=hb.size;omega⟩)
 have SE:=(qsd (ai E2 E3));clear hN hb H1 hB hz1 D1 D2 D3 E2 E3 SB;go_wp2;obtain ⟨E2,E3⟩:=SE.out;refine bodyPost_ret (forms_res _ (w.heap.size+1+1) (w.heap.size+1+1+1) false false (.slice none 0 0) (.slice none 0 0) 0 0 2 _ rfl rfl rfl (((E2.set _ _ _).set _ _ _).other _ (by omega) _ _ _) (((E3.other _ (by omega) _ _ _).other _ (by omega) _ _ _).set _ _ _)) rfl ⟨rfl,?_⟩
 refine Fin.bel (m:=w.heap.size+4) (v:=.slice none 0 0) (X:=0) ?_
 repeat (with_reducible first | exact F1.out | refine Fin.drew ?_ | refine Fin.alloc ?_ _ | refine Fin.set ?_ _ _ _ (by omega) (by omega))
theorem forms_bad2 {w:World}{a b:Option Addr}{l c k d:Nat}{xs ys:List Nat}(h1:Arg w a l c xs) (h2:Arg w b k d ys) (hT:Tab w) (n m:Bool) (e f:Int) (he0:-9223372036854775808≤e) (he1:e≤9223372036854775807) (hf0:-9223372036854775808≤f) (hf1:f≤9223372036854775807)
 (n1:Bool) (X:Nat) (e1:Int) (hx:mkS n (val xs) e=some (n1,X,e1)) (hy:mkS m (val ys) f=none) :
 Calls Tryz.prog 107 #[.agg #[.bool n,.slice a l c,.int .i64 e],.agg #[.bool m,.slice b k d,.int .i64 f]] w fun r w' =>
  r=.returned (.tuple #[.agg #[.bool false,.slice none 0 0,.int .i64 0],.agg #[.bool false,.slice none 0 0,.int .i64 0],.int .i64 2])∧Below w.heap.size w w':=by
 obtain ⟨W1,hW1⟩:∃ W,W=(((w.alloc (.cells #[.bool n,.slice a l c,.int .i64 e] 77)).alloc (.cells #[.bool m,.slice b k d,.int .i64 f] 77)).alloc (.cells #[.bool false,.slice none 0 0,.int .i64 0] 77)).alloc (.cells #[.bool false,.slice none 0 0,.int .i64 0] 77):=⟨_,rfl⟩;have hB:Below w.heap.size w W1:=by rw [hW1];exact (((below_alloc w _).alloc (by simp) _).alloc (by simp;omega) _).alloc (by simp;omega) _
 have hz1:W1.heap.size=w.heap.size+4:=by rw [hW1];simp
 have D1:Dk W1 (w.heap.size+1) m (.slice b k d) f:=by rw [hW1];have:=((Dk.new (w.alloc (.cells #[.bool n,.slice a l c,.int .i64 e] 77)) m (.slice b k d) f).alloc (.cells #[.bool false,.slice none 0 0,.int .i64 0] 77)).alloc (.cells #[.bool false,.slice none 0 0,.int .i64 0] 77);simpa using this
 have D2:Dk W1 (w.heap.size+1+1) false (.slice none 0 0) 0:=by rw [hW1];have:=(Dk.new ((w.alloc (.cells #[.bool n,.slice a l c,.int .i64 e] 77)).alloc (.cells #[.bool m,.slice b k d,.int .i64 f] 77)) false (.slice none 0 0) 0).alloc (.cells #[.bool false,.slice none 0 0,.int .i64 0] 77);simpa using this
 have D3:Dk W1 (w.heap.size+1+1+1) false (.slice none 0 0) 0:=by rw [hW1];have:=Dk.new (((w.alloc (.cells #[.bool n,.slice a l c,.int .i64 e] 77)).alloc (.cells #[.bool m,.slice b k d,.int .i64 f] 77)).alloc (.cells #[.bool false,.slice none 0 0,.int .i64 0] 77)) false (.slice none 0 0) 0;simpa using this
 have HF1:=form_any (h1.below hB) (hT.belows hB) n e he0 he1;have HF2:Hid (∀ u,Below w.heap.size w u→Calls Tryz.prog 100 #[.agg #[.bool m,.slice b k d,.int .i64 f]] u fun r w'=>DAns u.heap.size w' r (mkS m (val ys) f)∧Below u.heap.size u w'):=fun u hu=>form_any (h2.below hu) (hT.belows hu) m f hf0 hf1
 have lX:(ws X).length≤8192:=by have:=mkS_len n (val xs) e;rw [hx] at this;exact this
 have l0:(ws 0).length=0:=by rw [ws_zero];rfl
 rw [hx] at HF1;rw [hy] at HF2;simp only [DAns,dN,dX,dE,erS,Option.isSome,Option.getD,if_true,Bool.false_eq_true,if_false] at HF1 HF2;have H1:=hid HF1;have SB:=(qsd (ai hB (ai hz1 (ai D1 (ai D2 D3)))));clear HF1 h1 h2 hT hx hy he0 he1 hf0 hf1 hB hz1 D1 D2 D3;go_enter Tryz.func107,Tryz.ntmps107
 go_wp2_with fail
 rw [←hW1];clear hW1;refine H1.out.mono ?_;rintro r u1 ⟨⟨v,rfl,hN⟩,hb⟩;obtain ⟨a1,c1,rfl,_⟩:=hN.arg (by omega)
 obtain ⟨hB,hz1,D1,D2,D3⟩:=SB.out;have E1:=D1.below hb;have E2:=D2.below hb;have E3:=D3.below hb;obtain ⟨p0,p1,p2,pf0,pf1,pf2⟩:=E1.facts;obtain ⟨q0,q1,q2,qf0,qf1,qf2⟩:=E2.facts;have F1:Fin w.heap.size (w.heap.size+4) w u1 (.slice a1 (ws X).length c1) X:=⟨by rw [←hz1];exact hN,hB.trans (hb.mono (by omega)),by have:=hb.size;omega⟩
 obtain ⟨U1,hU1⟩:∃ U,U=st3 u1 (w.heap.size+1+1) (.bool n1) (.slice a1 (ws X).length c1) (.int .i64 e1):=⟨_,rfl⟩;have G1:Fin w.heap.size (w.heap.size+4) w U1 (.slice a1 (ws X).length c1) X:=by rw [hU1];exact F1.st3 _ _ _ _ (by omega) (by omega)
 have I2:Dk U1 (w.heap.size+1+1) n1 (.slice a1 (ws X).length c1) e1:=by rw [hU1];exact E2.set _ _ _
 have I3:Dk U1 (w.heap.size+1+1+1) false (.slice none 0 0) 0:=by rw [hU1];exact E3.other _ (by omega) _ _ _
 have I1:Dk U1 (w.heap.size+1) m (.slice b k d) f:=by rw [hU1];exact E1.other _ (by omega) _ _ _
 have hsz1:U1.heap.size=u1.heap.size:=by rw [hU1];exact st3_size _ _ _ _ _
 have H2:=hid (HF2.out _ G1.bel);have S1:=(qsd (ai G1 (ai I2 I3)));obtain ⟨i0,i1,i2,if0,if1,if2⟩:=I1.facts;have hz4:w.heap.size+4≤U1.heap.size:=by rw [hsz1];have:=hb.size;omega
 clear hN hb F1 G1 H1 hB hz1 D1 D2 D3 E1 E2 E3 I2 I3 I1 SB hsz1;unfold st3 at hU1
 go_wp2_with fail
 rw [←hU1];clear hU1;refine H2.out.mono ?_;rintro r u2 ⟨⟨v,rfl,hN⟩,hb⟩;obtain ⟨a2,c2,rfl,_⟩:=hN.arg (by omega)
 obtain ⟨G1,I2,I3⟩:=S1.out;have J2:=I2.below hb;have J3:=I3.below hb;have Q1:=qsd (G1.below hb);obtain ⟨s0,s1,s2,sf0,sf1,sf2⟩:=J3.facts;obtain ⟨x0,x1,x2,xf0,xf1,xf2⟩:=J2.facts;have SE:=(qsd (ai J2 J3));clear hN hb H2 S1 G1 I2 I3 J2 J3;go_wp2;obtain ⟨E2,E3⟩:=SE.out;refine bodyPost_ret (forms_res _ (w.heap.size+1+1) (w.heap.size+1+1+1) false false (.slice none 0 0) (.slice none 0 0) 0 0 2 _ rfl rfl rfl (((E2.other _ (by omega) _ _ _).set _ _ _).other _ (by omega) _ _ _) (((E3.set _ _ _).other _ (by omega) _ _ _).set _ _ _)) rfl ⟨rfl,?_⟩
 refine Fin.bel (m:=w.heap.size+4) (v:=.slice a1 (ws X).length c1) (X:=X) ?_
 repeat (with_reducible first | exact Q1.out | refine Fin.drew ?_ | refine Fin.alloc ?_ _ | refine Fin.set ?_ _ _ _ (by omega) (by omega))
end
end Go.Proofs.YtihjfhpoiheomaaGreatDoor
