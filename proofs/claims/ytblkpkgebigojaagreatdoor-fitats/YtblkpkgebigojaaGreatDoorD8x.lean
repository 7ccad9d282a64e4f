import Derived.Test.YtblkpkgebigojaaGreatDoorS9x
import Derived.Deep.RegionWith
import Derived.BigQuiet
import Derived.Deep.RegionHeld3
import Derived.Test.YtblkpkgebigojaaGreatDoorW45x
set_option linter.unusedVariables false
set_option linter.unusedSimpArgs false
set_option maxHeartbeats 16000000
set_option maxRecDepth 20000
namespace Go.Proofs.YtblkpkgebigojaaGreatDoor
section
open Go.RowKit
attribute [local go_sem] B.eqParts B.fld0 B.fld1 B.fld2 B.fld3
def ofR (s:Bool) (e f:Nat):Option (Bool×Nat×Int):=if e=2047 then none else mkS s (if e=0 then f else f+4503599627370496) (if e=0 then -1074 else (e:Int)-1075)
def ofE (e:Nat):Int:=if e=2047 then 30 else 0
def OAns (lo:Nat) (w:World) (r:Ending) (o:Option (Bool×Nat×Int)) (er:Int):Prop :=
 ∃ v,r=.returned (.tuple #[.agg #[.bool (dN o),v,.int .i64 (dE o)],.int .i64 er])∧Nt lo w v (dX o)
theorem Zau (X:Nat) (h:X<9007199254740992):bl X≤53:=by
 by_cases h0:X=0
 · subst h0;rw [Zu];omega
 · have:=(Nat.pow_lt_pow_iff_right (a:=2) (by omega)).1 (Nat.lt_of_le_of_lt (Qi X h0) (show X<2^53 from h))
   omega
theorem Zi6 (s:Bool) (X:Nat) (x:Int) (hX:X<9007199254740992) (h0:-1100≤x) (h1:x≤1000):∃ d,mkS s X x=some d:=by
 unfold mkS
 by_cases h:X=0
 · rw [if_pos h];exact ⟨_,rfl⟩
 · rw [if_neg h]
   obtain ⟨m,_,_,hb⟩:=Qh X h;have:=Zau X hX;rw [if_neg (by omega)]
   exact ⟨_,rfl⟩
theorem Zp1 (s:Bool) (b:Nat) (F:Nat) (k x:Int) (w:World) (hT:Tab w) (hF:F<9007199254740992) (hx0:-1100≤x) (hx1:x≤1000)
 (HA:Hid (∀ u,Calls Tryz.prog 85 #[.float .f64 b] u fun r w'=>r=.returned (.float .f64 (b%9223372036854775808))∧w'=u))
 (HS:Hid (∀ u,Calls Tryz.prog 84 #[.float .f64 (b%9223372036854775808)] u fun r w'=>r=.returned (.agg #[.bool false,.int .i64 k,.int .i64 x,.int .u64 (F:Nat)])∧Below u.heap.size u w'))
 (H0:Hid (∀ u,Calls Tryz.prog 84 #[.float .f64 0] u fun r w'=>r=.returned (.agg #[.bool false,.int .i64 0,.int .i64 (-1074),.int .u64 0])∧Below u.heap.size u w'))
 (hlt:(FloatKind.f64.format.order b 0==some .lt)=s) (k0:(k==0)=false) (k3:(k==3)=false) (k4:(k==4)=false) :
 Calls Tryz.prog 51 #[.float .f64 b] w fun r w'=>DAns w.heap.size w' r (mkS s F x)∧Below w.heap.size w w':=by
 generalize hb2:b%9223372036854775808=b2 at *;clear hb2;have HO:Hid (∀ u,Calls Tryz.prog 87 #[.int .u64 (F:Nat)] u fun r w'=>∃ v,r=.returned v∧Nt u.heap.size w' v F∧Below u.heap.size u w'):=fun u=>Jd F u (by omega)
 have HM:Hid (∀ (u:World) (a:Option Addr) (c:Nat),Tab u→Arg u a (ws F).length c (ws F)→Calls Tryz.prog 86 #[.bool s,.slice a (ws F).length c,.int .i64 x] u fun r w'=>DAns u.heap.size w' r (mkS s F x)∧Below u.heap.size u w'):=by
  intro u a c hTu hA;have:=Z6 hA hTu s x (by omega) (by omega)
  rw [Zc] at this;exact this
 have hFl:(ws F).length≤100:=by have:=Qd F;have:=Zau F hF;omega
 have hl:=Ze s F x;obtain ⟨o,ho⟩:∃ o,mkS s F x=o:=⟨_,rfl⟩;rw [ho] at HM hl ⊢;unfold DAns at HM ⊢;obtain ⟨dn,hdn⟩:∃ d,dN o=d:=⟨_,rfl⟩;obtain ⟨X,hdx⟩:∃ d,dX o=d:=⟨_,rfl⟩;obtain ⟨de,hde⟩:∃ d,dE o=d:=⟨_,rfl⟩;obtain ⟨er,her⟩:∃ d,erS o=d:=⟨_,rfl⟩;rw [hdn,hdx,hde,her] at HM ⊢;rw [hdx] at hl;have HT:=qsd hT;clear ho hdn hdx hde her hT hF hx0 hx1;go_enter Tryz.func51,Tryz.ntmps51
 go_wp2_with fail
 refine (Calls.mono (HA.out _)) ?_;rintro r w1 ⟨rfl,rfl⟩
 go_wp2_with fail
 refine (Calls.mono (HS.out _)) ?_;rintro r w2 ⟨rfl,hb⟩;obtain ⟨hc,hf⟩:=bcell hb;have hz:w.heap.size<w2.heap.size:=by have:=hb.size;simp at this;omega
 have hbw:Below w.heap.size w w2:=((Below.refl _ _).alloc (Nat.le_refl _) _).trans (hb.mono (by simp))
 have SB:=qsd hbw;clear hb hbw;obtain ⟨W2,hW2⟩:∃ W,W=w2.alloc (.cells #[.bool false,.int .i64 k,.int .i64 x,.int .u64 (F:Nat)] 104):=⟨_,rfl⟩;have hbW:Below w.heap.size w W2:=by rw [hW2];exact SB.out.alloc (by omega) _
 have P:W2.heap[w2.heap.size]?=some (.cells #[.bool false,.int .i64 k,.int .i64 x,.int .u64 (F:Nat)] 104 (0,0)):=by rw [hW2,heap_alloc_new]
 have p0:W2.cell? ⟨w2.heap.size,0,none⟩=some (.bool false):=by simp [World.cell?,P]
 have p1:W2.cell? ⟨w2.heap.size,1,none⟩=some (.int .i64 k):=by simp [World.cell?,P]
 have p2:W2.cell? ⟨w2.heap.size,2,none⟩=some (.int .i64 x):=by simp [World.cell?,P]
 have p3:W2.cell? ⟨w2.heap.size,3,none⟩=some (.int .u64 (F:Nat)):=by simp [World.cell?,P]
 have r0:W2.cell? ⟨w.heap.size,0,none⟩=some (.bool false):=by rw [hW2];go_simp
 have r1:W2.cell? ⟨w.heap.size,1,none⟩=some (.slice none 0 0):=by rw [hW2];go_simp
 have r2:W2.cell? ⟨w.heap.size,2,none⟩=some (.int .i64 0):=by rw [hW2];go_simp
 have f0:W2.frozen? ⟨w.heap.size,0,none⟩=false:=by rw [hW2];go_simp
 have f1:W2.frozen? ⟨w.heap.size,1,none⟩=false:=by rw [hW2];go_simp
 have f2:W2.frozen? ⟨w.heap.size,2,none⟩=false:=by rw [hW2];go_simp
 have hz2:w2.heap.size<W2.heap.size:=by rw [hW2];simp
 have hz3:w.heap.size<W2.heap.size:=by omega
 have SW:=qsd hbW
 go_wp2_with fail
 rw [←hW2];clear hW2 hbW P hc hf SB
 go_region_with (go_at_call 84;refine (H0.out _).mono ?_;rintro r w3 ⟨rfl,hb3⟩;have hb4:Below W2.heap.size W2 w3:=(by first | exact hb3 | exact ((Below.refl _ W2).drew).trans (hb3.mono (Nat.le_refl _)));obtain ⟨hc,hf⟩:=bcell hb4;have S3:=qsd hb4;clear hb3 hb4)
 all_goals (
  go_wp2_with fail
  have hz4:w2.heap.size<w3.heap.size:=by have:=S3.out.size;omega
  have hz5:w.heap.size<w3.heap.size:=by have:=S3.out.size;omega
  go_region_with (first
   | (go_at_call 87
      refine (HO.out _).mono ?_;rintro r w4 ⟨v4,rfl,hN,hb⟩;obtain ⟨a4,c4,rfl,A4⟩:=hN.arg (by omega)
      have hb34:Below w3.heap.size w3 w4:=(by first | exact hb | exact ((Below.refl _ w3).drew).trans (hb.mono (Nat.le_refl _)))
      have T4:Tab w4:=(HT.out.belows SW.out).belows (S3.out.trans (hb34.mono S3.out.size));obtain ⟨hc4,hf4⟩:=bcell hb34;have hz6:w.heap.size<w4.heap.size:=by have:=hb34.size;omega
      have S4:=(qsd (ai hb34 (ai A4 T4)));clear hN hb hb34 A4 T4)
   | (go_at_call 86
      refine (HM.out _ a4 c4 (by first | exact S4.out.2.2 | exact S4.out.2.2) (by first | exact S4.out.2.1 | exact Arg.drew' S4.out.2.1)).mono ?_
      rintro r w5 ⟨⟨v5,rfl,hN⟩,hb⟩;obtain ⟨a5,c5,rfl,_⟩:=hN.arg (by omega)
      have hb45:Below w4.heap.size w4 w5:=(by first | exact hb | exact ((Below.refl _ w4).drew).trans (hb.mono (Nat.le_refl _)))
      obtain ⟨hc5,hf5⟩:=bcell hb45;have HF:=qsd (show Fin w.heap.size w4.heap.size w w5 (.slice a5 (ws X).length c5) X from ⟨hN,((SW.out.trans (S3.out.mono (by omega))).trans (S4.out.1.mono (by omega))).trans (hb45.mono (by omega)),by have:=hb45.size;omega⟩)
      clear hN hb hb45))
  all_goals (
   go_wp2;exact bodyPost_ret (v:=.tuple #[.agg #[.bool dn,.slice a5 (ws X).length c5,.int .i64 de],.int .i64 er]) (by simp [results,Tryz.results51,go_sem,hc5,hc4,hc,hz6,hz5,hz3,r0,r1,r2]) rfl (Fin.dans (m:=w4.heap.size) (by repeat (first | exact HF.out | refine Fin.alloc ?_ _ | refine Fin.set ?_ _ _ _ (by omega) (by omega))) (by omega))))
theorem Zk4 (b b2:Nat) (w:World)
 (HA:Hid (∀ u,Calls Tryz.prog 85 #[.float .f64 b] u fun r w'=>r=.returned (.float .f64 b2)∧w'=u))
 (HS:Hid (∀ u,Calls Tryz.prog 84 #[.float .f64 b2] u fun r w'=>r=.returned (.agg #[.bool false,.int .i64 0,.int .i64 (-1074),.int .u64 0])∧Below u.heap.size u w'))
 (H0:Hid (∀ u,Calls Tryz.prog 84 #[.float .f64 0] u fun r w'=>r=.returned (.agg #[.bool false,.int .i64 0,.int .i64 (-1074),.int .u64 0])∧Below u.heap.size u w')) :
 Calls Tryz.prog 51 #[.float .f64 b] w fun r w'=>r=.returned (.tuple #[.agg #[.bool false,.slice none 0 0,.int .i64 0],.int .i64 0])∧Below w.heap.size w w':=by
 go_enter Tryz.func51,Tryz.ntmps51
 go_wp2_with fail
 refine (Calls.mono (HA.out _)) ?_;rintro r w1 ⟨rfl,rfl⟩
 go_wp2_with fail
 refine (Calls.mono (HS.out _)) ?_;rintro r w2 ⟨rfl,hb⟩;obtain ⟨hc,hf⟩:=bcell hb;have hz:w.heap.size<w2.heap.size:=by have:=hb.size;simp at this;omega
 have hbw:Below w.heap.size w w2:=((Below.refl _ _).alloc (Nat.le_refl _) _).trans (hb.mono (by simp))
 have SB:=qsd hbw;clear hb hbw;obtain ⟨W2,hW2⟩:∃ W,W=w2.alloc (.cells #[.bool false,.int .i64 0,.int .i64 (-1074),.int .u64 0] 104):=⟨_,rfl⟩;have hbW:Below w.heap.size w W2:=by rw [hW2];exact SB.out.alloc (by omega) _
 have P:W2.heap[w2.heap.size]?=some (.cells #[.bool false,.int .i64 0,.int .i64 (-1074),.int .u64 0] 104 (0,0)):=by rw [hW2,heap_alloc_new]
 have p0:W2.cell? ⟨w2.heap.size,0,none⟩=some (.bool false):=by simp [World.cell?,P]
 have p1:W2.cell? ⟨w2.heap.size,1,none⟩=some (.int .i64 0):=by simp [World.cell?,P]
 have p2:W2.cell? ⟨w2.heap.size,2,none⟩=some (.int .i64 (-1074)):=by simp [World.cell?,P]
 have p3:W2.cell? ⟨w2.heap.size,3,none⟩=some (.int .u64 0):=by simp [World.cell?,P]
 have r0:W2.cell? ⟨w.heap.size,0,none⟩=some (.bool false):=by rw [hW2];go_simp
 have r1:W2.cell? ⟨w.heap.size,1,none⟩=some (.slice none 0 0):=by rw [hW2];go_simp
 have r2:W2.cell? ⟨w.heap.size,2,none⟩=some (.int .i64 0):=by rw [hW2];go_simp
 have f0:W2.frozen? ⟨w.heap.size,0,none⟩=false:=by rw [hW2];go_simp
 have f1:W2.frozen? ⟨w.heap.size,1,none⟩=false:=by rw [hW2];go_simp
 have f2:W2.frozen? ⟨w.heap.size,2,none⟩=false:=by rw [hW2];go_simp
 have hz2:w2.heap.size<W2.heap.size:=by rw [hW2];simp
 have hz3:w.heap.size<W2.heap.size:=by omega
 have SW:=qsd hbW
 go_wp2_with fail
 rw [←hW2];clear hW2 hbW P hc hf SB
 go_region_with (go_at_call 84;refine (H0.out _).mono ?_;rintro r w3 ⟨rfl,hb3⟩;have hb4:Below W2.heap.size W2 w3:=(by first | exact hb3 | exact ((Below.refl _ W2).drew).trans (hb3.mono (Nat.le_refl _)));obtain ⟨hc,hf⟩:=bcell hb4;have S3:=qsd hb4;clear hb3 hb4)
 all_goals (
  go_wp2;have hbf:=SW.out.trans (S3.out.mono (by omega))
  have hzf:w.heap.size≤w3.heap.size:=by have:=S3.out.size;omega
  exact bodyPost_ret (v:=.tuple #[.agg #[.bool false,.slice none 0 0,.int .i64 0],.int .i64 0]) (by simp [results,Tryz.results51,go_sem,hc,hz3,r0,r1,r2]) rfl ⟨rfl,Below.setC (Below.setC (Below.setC hbf _ _ _ (Nat.le_refl _) hzf) _ _ _ (Nat.le_refl _) (by simpa [World.setCell] using hzf)) _ _ _ (Nat.le_refl _) (by simpa [World.setCell] using hzf)⟩)
theorem Zp2 (b b2:Nat) (k:Int) (w:World) (hk:k=3∨k=4)
 (HA:Hid (∀ u,Calls Tryz.prog 85 #[.float .f64 b] u fun r w'=>r=.returned (.float .f64 b2)∧w'=u))
 (HS:Hid (∀ u,Calls Tryz.prog 84 #[.float .f64 b2] u fun r w'=>r=.returned (.agg #[.bool false,.int .i64 k,.int .i64 0,.int .u64 0])∧Below u.heap.size u w'))
 (H0:Hid (∀ u,Calls Tryz.prog 84 #[.float .f64 0] u fun r w'=>r=.returned (.agg #[.bool false,.int .i64 0,.int .i64 (-1074),.int .u64 0])∧Below u.heap.size u w')) :
 Calls Tryz.prog 51 #[.float .f64 b] w fun r w'=>r=.returned (.tuple #[.agg #[.bool false,.slice none 0 0,.int .i64 0],.int .i64 30])∧Below w.heap.size w w':=by
 have k0:(k==0)=false:=by rcases hk with rfl | rfl <;> rfl
 go_enter Tryz.func51,Tryz.ntmps51
 go_wp2_with fail
 refine (Calls.mono (HA.out _)) ?_;rintro r w1 ⟨rfl,rfl⟩
 go_wp2_with fail
 refine (Calls.mono (HS.out _)) ?_;rintro r w2 ⟨rfl,hb⟩;obtain ⟨hc,hf⟩:=bcell hb;have hz:w.heap.size<w2.heap.size:=by have:=hb.size;simp at this;omega
 have hbw:Below w.heap.size w w2:=((Below.refl _ _).alloc (Nat.le_refl _) _).trans (hb.mono (by simp))
 have SB:=qsd hbw;clear hb hbw;obtain ⟨W2,hW2⟩:∃ W,W=w2.alloc (.cells #[.bool false,.int .i64 k,.int .i64 0,.int .u64 0] 104):=⟨_,rfl⟩;have hbW:Below w.heap.size w W2:=by rw [hW2];exact SB.out.alloc (by omega) _
 have P:W2.heap[w2.heap.size]?=some (.cells #[.bool false,.int .i64 k,.int .i64 0,.int .u64 0] 104 (0,0)):=by rw [hW2,heap_alloc_new]
 have p0:W2.cell? ⟨w2.heap.size,0,none⟩=some (.bool false):=by simp [World.cell?,P]
 have p1:W2.cell? ⟨w2.heap.size,1,none⟩=some (.int .i64 k):=by simp [World.cell?,P]
 have p2:W2.cell? ⟨w2.heap.size,2,none⟩=some (.int .i64 0):=by simp [World.cell?,P]
 have p3:W2.cell? ⟨w2.heap.size,3,none⟩=some (.int .u64 0):=by simp [World.cell?,P]
 have r0:W2.cell? ⟨w.heap.size,0,none⟩=some (.bool false):=by rw [hW2];go_simp
 have r1:W2.cell? ⟨w.heap.size,1,none⟩=some (.slice none 0 0):=by rw [hW2];go_simp
 have r2:W2.cell? ⟨w.heap.size,2,none⟩=some (.int .i64 0):=by rw [hW2];go_simp
 have f0:W2.frozen? ⟨w.heap.size,0,none⟩=false:=by rw [hW2];go_simp
 have f1:W2.frozen? ⟨w.heap.size,1,none⟩=false:=by rw [hW2];go_simp
 have f2:W2.frozen? ⟨w.heap.size,2,none⟩=false:=by rw [hW2];go_simp
 have hz2:w2.heap.size<W2.heap.size:=by rw [hW2];simp
 have hz3:w.heap.size<W2.heap.size:=by omega
 have SW:=qsd hbW
 go_wp2_with fail
 rw [←hW2];clear hW2 hbW P hc hf SB
 go_region_with (go_at_call 84;refine (H0.out _).mono ?_;rintro r w3 ⟨rfl,hb3⟩;have hb4:Below W2.heap.size W2 w3:=(by first | exact hb3 | exact ((Below.refl _ W2).drew).trans (hb3.mono (Nat.le_refl _)));obtain ⟨hc,hf⟩:=bcell hb4;have S3:=qsd hb4;clear hb3 hb4)
 all_goals (
  have hbf:=qsd (SW.out.trans (S3.out.mono (by omega)))
  have hzf:w.heap.size≤w3.heap.size:=by have:=S3.out.size;omega
  rcases hk with rfl|rfl
  all_goals (
   go_wp2;exact bodyPost_ret (v:=.tuple #[.agg #[.bool false,.slice none 0 0,.int .i64 0],.int .i64 30]) (by simp [results,Tryz.results51,go_sem,hc,hz3,r0,r1,r2]) rfl ⟨rfl,Below.setC (Below.setC (Below.setC hbf.out _ _ _ (Nat.le_refl _) hzf) _ _ _ (Nat.le_refl _) (by simpa [World.setCell] using hzf)) _ _ _ (Nat.le_refl _) (by simpa [World.setCell] using hzf)⟩))
theorem Zsp (s:Bool) (e f:Nat) (he:e<2048) (hf:f<4503599627370496) (w:World) (hT:Tab w) :
 Calls Tryz.prog 51 #[.float .f64 (B.bw s e f)] w fun r w'=>OAns w.heap.size w' r (ofR s e f) (ofE e)∧Below w.heap.size w w':=by
 have HA:Hid (∀ u,Calls Tryz.prog 85 #[.float .f64 (B.bw s e f)] u fun r w'=>r=.returned (.float .f64 (B.bw false e f))∧w'=u):=fun u=>B.abs_any s e f he hf u
 have HS:∀ u,Calls Tryz.prog 84 #[.float .f64 (B.bw false e f)] u fun r w'=>r=.returned (.agg #[.bool (B.ng false e f),.int .i64 (B.cls e f),.int .i64 (B.xp e),.int .u64 (B.fr e f)])∧Below u.heap.size u w':=fun u=>B.Split_any false e f he hf u
 have H0:Hid (∀ u,Calls Tryz.prog 84 #[.float .f64 0] u fun r w'=>r=.returned (.agg #[.bool false,.int .i64 0,.int .i64 (-1074),.int .u64 0])∧Below u.heap.size u w'):=fun u=>B.Split_any false 0 0 (by omega) (by omega) u
 have hng:B.ng false e f=false:=by unfold B.ng;split <;> rfl
 rw [hng] at HS;unfold ofR ofE
 by_cases h7:e=2047
 · rw [if_pos h7,if_pos h7]
   have h2:B.xp e=0∧B.fr e f=0:=by unfold B.xp B.fr;rw [if_pos h7,if_pos h7];exact ⟨rfl,rfl⟩
   rw [h2.1,h2.2] at HS;have hk:B.cls e f=3∨B.cls e f=4:=by unfold B.cls;rw [if_pos h7];split <;> simp
   exact (Zp2 _ _ _ w hk HA (hid HS) H0).mono fun r w' ⟨h1,h3⟩=>⟨⟨_,h1,Nt.nil _ _⟩,h3⟩
 · rw [if_neg h7,if_neg h7]
   have hx:B.xp e=(if e=0 then -1074 else (e:Int)-1075):=by unfold B.xp;rw [if_neg h7]
   have hfr:B.fr e f=(((if e=0 then f else f+4503599627370496:Nat)):Int):=by unfold B.fr;rw [if_neg h7];split <;> simp
   rw [hx,hfr] at HS
   by_cases h0:e=0∧f=0
   · obtain ⟨rfl,rfl⟩:=h0
     rw [show B.cls 0 0=0 from rfl] at HS
     simp only [if_pos,Int.ofNat_zero] at HS;rw [if_pos rfl,Z4];exact (Zk4 _ _ w HA (hid HS) H0).mono fun r w' ⟨h1,h3⟩=>⟨⟨_,h1,Nt.nil _ _⟩,h3⟩
   · have hcl:B.cls e f=1∨B.cls e f=2:=by
      unfold B.cls;rw [if_neg h7]
      by_cases h1:e=0
      · rw [if_pos h1,if_neg (fun h=>h0 ⟨h1,h⟩)];simp
      · rw [if_neg h1];simp
     obtain ⟨F,hF⟩:∃ F:Nat,(if e=0 then f else f+4503599627370496:Nat)=F:=⟨_,rfl⟩
     obtain ⟨x,hxx⟩:∃ x:Int,(if e=0 then -1074 else (e:Int)-1075)=x:=⟨_,rfl⟩
     have hFb:F<9007199254740992:=by rw [←hF];split <;> omega
     have hxb:-1100≤x∧x≤1000:=by rw [←hxx];split <;> omega
     rw [hF,hxx] at HS ⊢;have ho:B.odd e f=false:=by unfold B.odd;simp [h7]
     have hz:(e==0&&f==0)=false:=by
      cases h1:(e==0&&f==0)
      · rfl
      · exact absurd (by simpa using h1) h0
     have hb2:B.bw false e f=B.bw s e f%9223372036854775808:=by
      have h1:=B.bw_mod s e f he hf;have h2:(B.bw false e f:Int)=(e:Int)*4503599627370496+f:=by unfold B.bw;simp
      omega
     rw [hb2] at HA HS;obtain ⟨d,hd⟩:=Zi6 s F x hFb hxb.1 hxb.2;have:=Zp1 s (B.bw s e f) F (B.cls e f) x w hT hFb hxb.1 hxb.2 HA (hid HS) H0 (B.lt_zero s e f he hf ho hz) (by rcases hcl with h | h <;> rw [h] <;> rfl) (by rcases hcl with h | h <;> rw [h] <;> rfl) (by rcases hcl with h | h <;> rw [h] <;> rfl)
     refine this.mono fun r w' ⟨⟨v,h1,h2⟩,h3⟩=>⟨⟨v,?_,h2⟩,h3⟩
     rw [h1,hd];rfl
end
section
open Go.RowKit
attribute [local go_sem] B.f64bits B.f64frombits
def num64 (k:Nat):Nat×Int:=if k/4503599627370496=0 then (k%4503599627370496,-1074) else (4503599627370496+k%4503599627370496,-1074+((k/4503599627370496:Nat):Int)-1)
theorem Zdb (K:Int) (V:Nat) (w:World) (e1:K/4503599627370496=0) (hK0:0≤K) (hK1:K≤9218868437227405312)
 (HO:Hid (∀ u,Calls Tryz.prog 83 #[.int .u64 (K%4503599627370496)] u fun r w'=>∃ v,r=.returned v∧Nt u.heap.size w' v V∧Below u.heap.size u w')) :
 Calls Tryz.prog 135 #[.agg #[.int .i64 53,.int .i64 (-1074),.int .u64 9218868437227405312],.int .u64 K] w fun r w'=>∃ v,r=.returned (.tuple #[v,.int .i64 (-1074)])∧Nt w.heap.size w' v V∧Below w.heap.size w w':=by
 obtain ⟨W1,hW1⟩:∃ W,W=w.alloc (.cells #[.int .i64 53,.int .i64 (-1074),.int .u64 9218868437227405312] 108):=⟨_,rfl⟩;have P:W1.heap[w.heap.size]?=some (.cells #[.int .i64 53,.int .i64 (-1074),.int .u64 9218868437227405312] 108 (0,0)):=by rw [hW1,heap_alloc_new]
 have p1:W1.cell? ⟨w.heap.size,1,none⟩=some (.int .i64 (-1074)):=by simp [World.cell?,P]
 have hz:w.heap.size<W1.heap.size:=by rw [hW1];simp
 have HB:=qsd (show Below w.heap.size w W1 by rw [hW1];exact Za w _)
 go_enter Tryz.func135,Tryz.ntmps135;go_wp2;rw [←hW1];clear hW1 P e1
 go_region_held3 (fun w'=>w'.cell? ⟨w.heap.size,1,none⟩=some (.int .i64 (-1074))) (go_keep) (first | (go_at_call 83;refine (HO.out _).mono ?_;rintro r w2 ⟨v,rfl,hN,hb⟩;have hb2:Below W1.heap.size W1 w2:=(by first | exact hb | exact ((Below.refl _ W1).drew).trans (hb.mono (Nat.le_refl _)));have p2:w2.cell? ⟨w.heap.size,1,none⟩=some (.int .i64 (-1074)):=(hb2.cell (p:=⟨w.heap.size,1,none⟩) hz).trans p1;have S2:=(qsd (ai hb2 hN));clear hb hb2 hN))
 all_goals (
  go_wp2
  go_simp
  go_ret2
  exact ⟨v,rfl,S2.out.2.mono (Nat.le_of_lt hz),HB.out.trans (S2.out.1.mono (Nat.le_of_lt hz))⟩)
theorem Zcb (K q f g x y:Int) (V:Nat) (w:World) (e1:K/4503599627370496=q) (e2:K%4503599627370496=f) (e3:IntKind.u64.wrap (4503599627370496+f)=g) (e4:IntKind.i64.wrap q=q) (e5:IntKind.i64.wrap (-1074+q)=x) (e6:IntKind.i64.wrap (x-1)=y) (hK0:0≤K) (hK1:K≤9218868437227405312) (hq0:(q==0)=false)
 (HO:Hid (∀ u,Calls Tryz.prog 83 #[.int .u64 g] u fun r w'=>∃ v,r=.returned v∧Nt u.heap.size w' v V∧Below u.heap.size u w')) :
 Calls Tryz.prog 135 #[.agg #[.int .i64 53,.int .i64 (-1074),.int .u64 9218868437227405312],.int .u64 K] w fun r w'=>∃ v,r=.returned (.tuple #[v,.int .i64 y])∧Nt w.heap.size w' v V∧Below w.heap.size w w':=by
 obtain ⟨W1,hW1⟩:∃ W,W=w.alloc (.cells #[.int .i64 53,.int .i64 (-1074),.int .u64 9218868437227405312] 108):=⟨_,rfl⟩;have P:W1.heap[w.heap.size]?=some (.cells #[.int .i64 53,.int .i64 (-1074),.int .u64 9218868437227405312] 108 (0,0)):=by rw [hW1,heap_alloc_new]
 have p1:W1.cell? ⟨w.heap.size,1,none⟩=some (.int .i64 (-1074)):=by simp [World.cell?,P]
 have hz:w.heap.size<W1.heap.size:=by rw [hW1];simp
 have HB:=qsd (show Below w.heap.size w W1 by rw [hW1];exact Za w _)
 go_enter Tryz.func135,Tryz.ntmps135;go_wp2;rw [←hW1]
 try simp only [e1,e2]
 clear hW1 P e1 e2 hK0 hK1
 go_region_held3 (fun w'=>w'.cell? ⟨w.heap.size,1,none⟩=some (.int .i64 (-1074))) (go_keep) (first | (go_at_call 83;refine (HO.out _).mono ?_;rintro r w2 ⟨v,rfl,hN,hb⟩;have hb2:Below W1.heap.size W1 w2:=(by first | exact hb | exact ((Below.refl _ W1).drew).trans (hb.mono (Nat.le_refl _)));have p2:w2.cell? ⟨w.heap.size,1,none⟩=some (.int .i64 (-1074)):=(hb2.cell (p:=⟨w.heap.size,1,none⟩) hz).trans p1;have S2:=(qsd (ai hb2 hN));clear hb hb2 hN))
 all_goals (
  go_wp2
  go_simp
  go_ret2
  exact ⟨v,rfl,S2.out.2.mono (Nat.le_of_lt hz),HB.out.trans (S2.out.1.mono (Nat.le_of_lt hz))⟩)
theorem Zdq (k:Nat) (hk:k≤9218868437227405312) (w:World) :
 Calls Tryz.prog 135 #[.agg #[.int .i64 53,.int .i64 (-1074),.int .u64 9218868437227405312],.int .u64 (k:Nat)] w fun r w'=>∃ v,r=.returned (.tuple #[v,.int .i64 (num64 k).2])∧Nt w.heap.size w' v (num64 k).1∧Below w.heap.size w w':=by
 unfold num64
 by_cases h0:k/4503599627370496=0
 · rw [if_pos h0]
   exact Zdb (k:Int) (k%4503599627370496) w (by omega) (by omega) (by omega) (hid fun u=>by simpa using Zca (k%4503599627370496) u (by omega))
 · rw [if_neg h0]
   have hw:∀ n:Int,0≤n→n<18446744073709551616→IntKind.u64.wrap n=n:=fun n h1 h2=>by simp [IntKind.wrap,IntKind.bits,IntKind.signed];omega
   have hv:∀ n:Int,-4000≤n→n<4000→IntKind.i64.wrap n=n:=fun n h1 h2=>by simp [IntKind.wrap,IntKind.bits,IntKind.signed];omega
   have e3:(4503599627370496:Int)+((k%4503599627370496:Nat):Int)=((4503599627370496+k%4503599627370496:Nat):Int):=by omega
   exact Zcb (k:Int) ((k/4503599627370496:Nat):Int) ((k%4503599627370496:Nat):Int) ((4503599627370496+k%4503599627370496:Nat):Int) (-1074+((k/4503599627370496:Nat):Int)) (-1074+((k/4503599627370496:Nat):Int)-1) (4503599627370496+k%4503599627370496) w (by omega) (by omega) (by rw [e3];exact hw _ (by omega) (by omega)) (hv _ (by omega) (by omega)) (hv _ (by omega) (by omega)) (hv _ (by omega) (by omega)) (by omega) (by omega) (beq_eq_false_iff_ne.2 (by omega)) (hid fun u=>Zca _ u (by omega))
theorem Zhn (e f:Nat) (hf:f<4503599627370496):num64 (e*4503599627370496+f)=(if e=0 then f else f+4503599627370496,if e=0 then -1074 else (e:Int)-1075):=by
 have h1:(e*4503599627370496+f)/4503599627370496=e:=by omega
 have h2:(e*4503599627370496+f)%4503599627370496=f:=by omega
 unfold num64;rw [h1,h2]
 by_cases h:e=0
 · rw [if_pos h,if_pos h,if_pos h]
 · rw [if_neg h,if_neg h,if_neg h]
   refine Prod.ext (by simp;omega) (by simp;omega)
theorem Zap (w:World):Calls Tryz.prog 91 #[] w fun r w'=>r=.returned (.agg #[.int .i64 53,.int .i64 (-1074),.int .u64 9218868437227405312])∧Below w.heap.size w w':=by
 go_enter Tryz.func91,Tryz.ntmps91;go_wp2;exact bodyPost_ret (v:=.agg #[.int .i64 53,.int .i64 (-1074),.int .u64 9218868437227405312]) (by simp [results,Tryz.results91,go_sem]) rfl ⟨rfl,by repeat (first | exact Below.refl _ _ | refine Below.alloc ?_ (by first | omega | simp) _ | refine Below.setC ?_ _ _ _ (by omega) (by simp))⟩
theorem Zho (neg:Bool) (k:Int) (w:World) (hk:9218868437227405312≤k) (hk2:k<9223372036854775808) :
 Calls Tryz.prog 92 #[.agg #[.int .i64 53,.int .i64 (-1074),.int .u64 9218868437227405312],.bool neg,.int .u64 k] w fun r w'=>r=.returned (.tuple #[.agg #[.bool false,.slice none 0 0,.int .i64 0],.bool false])∧Below w.heap.size w w':=by
 have HB:=qsd (show Below w.heap.size w ((w.alloc (.cells #[.int .i64 53,.int .i64 (-1074),.int .u64 9218868437227405312] 108)).alloc (.cells #[.bool false,.slice none 0 0,.int .i64 0] 62)) from (Za w _).alloc (by simp) _)
 go_enter Tryz.func92,Tryz.ntmps92;go_wp2;exact bodyPost_ret (v:=.tuple #[.agg #[.bool false,.slice none 0 0,.int .i64 0],.bool false]) (by simp [results,Tryz.results92,go_sem]) rfl ⟨rfl,HB.out⟩
theorem Zhp (neg:Bool) (k:Int) (F:Nat) (x:Int) (w:World) (hk:k<9218868437227405312) (hF:F<9007199254740992) (hx0:-1100≤x) (hx1:x≤1000)
 (HN0:Hid (∀ u,Calls Tryz.prog 135 #[.agg #[.int .i64 53,.int .i64 (-1074),.int .u64 9218868437227405312],.int .u64 k] u fun r w'=>∃ v,r=.returned (.tuple #[v,.int .i64 x])∧Nt u.heap.size w' v F∧Below u.heap.size u w')) :
 Calls Tryz.prog 92 #[.agg #[.int .i64 53,.int .i64 (-1074),.int .u64 9218868437227405312],.bool neg,.int .u64 k] w fun r w'=>FAns w.heap.size w' r (mkS neg F x)∧Below w.heap.size w w':=by
 have HB:=qsd (show Below w.heap.size w ((w.alloc (.cells #[.int .i64 53,.int .i64 (-1074),.int .u64 9218868437227405312] 108)).alloc (.cells #[.bool false,.slice none 0 0,.int .i64 0] 62)) from (Za w _).alloc (by simp) _)
 have HN:=hid (HN0.out ((w.alloc (.cells #[.int .i64 53,.int .i64 (-1074),.int .u64 9218868437227405312] 108)).alloc (.cells #[.bool false,.slice none 0 0,.int .i64 0] 62)));have hl:=Ze neg F x;have hFl:(ws F).length≤100:=by have:=Qd F;have:=Zau F hF;omega
 have HM:Hid (∀ (u:World) (a:Option Addr) (c:Nat),Arg u a (ws F).length c (ws F)→Calls Tryz.prog 82 #[.bool neg,.slice a (ws F).length c,.int .i64 x] u fun r w'=>FAns u.heap.size w' r (mkS neg F x)∧Below u.heap.size u w'):=by
  intro u a c hA;have:=J4 hA (by omega) neg x (by omega) (by omega)
  rw [Zc] at this;exact this
 obtain ⟨o,ho⟩:∃ o,mkS neg F x=o:=⟨_,rfl⟩;rw [ho] at HM hl ⊢;unfold FAns at HM ⊢;obtain ⟨dn,hdn⟩:∃ d,dN o=d:=⟨_,rfl⟩;obtain ⟨X,hdx⟩:∃ d,dX o=d:=⟨_,rfl⟩;obtain ⟨de,hde⟩:∃ d,dE o=d:=⟨_,rfl⟩;obtain ⟨er,her⟩:∃ d,o.isSome=d:=⟨_,rfl⟩;rw [hdn,hdx,hde,her] at HM ⊢;rw [hdx] at hl;clear ho hdn hdx hde her hF hx0 hx1 HN0;go_enter Tryz.func92,Tryz.ntmps92
 go_wp2_with fail
 refine HN.out.mono ?_;rintro r w2 ⟨v,rfl,hN,hb⟩;obtain ⟨a2,c2,rfl,A2⟩:=hN.arg (by omega)
 obtain ⟨hc,hf⟩:=bcell hb;have hz:w.heap.size+1<w2.heap.size:=by have:=hb.size;simp at this;omega
 have H2:=hid (HM.out w2 a2 c2 A2);have S2:=qsd (HB.out.trans (hb.mono (by simp;omega)))
 clear hN hb A2
 go_wp2_with fail
 refine H2.out.mono ?_;rintro r w3 ⟨⟨v3,rfl,hN⟩,hb⟩;obtain ⟨a3,c3,rfl,_⟩:=hN.arg (by omega)
 obtain ⟨hc3,hf3⟩:=bcell hb;have HF:=qsd (show Fin w.heap.size w2.heap.size w w3 (.slice a3 (ws X).length c3) X from ⟨hN,S2.out.trans (hb.mono (by omega)),by have:=hb.size;omega⟩)
 clear hN hb;go_wp2;exact bodyPost_ret (v:=.tuple #[.agg #[.bool dn,.slice a3 (ws X).length c3,.int .i64 de],.bool er]) (by simp [results,Tryz.results92,go_sem,hc,hc3,hz]) rfl (Fin.dans (m:=w2.heap.size) (by repeat (first | exact HF.out | refine Fin.alloc ?_ _ | refine Fin.set ?_ _ _ _ (by omega) (by omega))) (by omega))
theorem rBits_any (neg:Bool) (k:Nat) (w:World) (hk:k<9218868437227405312) :
 Calls Tryz.prog 92 #[.agg #[.int .i64 53,.int .i64 (-1074),.int .u64 9218868437227405312],.bool neg,.int .u64 (k:Nat)] w fun r w'=>FAns w.heap.size w' r (mkS neg (num64 k).1 (num64 k).2)∧Below w.heap.size w w':=by
 have hb1:(num64 k).1<9007199254740992∧-1100≤(num64 k).2∧(num64 k).2≤1000:=by unfold num64;split <;> simp <;> omega
 exact Zhp neg (k:Int) _ _ w (by omega) hb1.1 hb1.2.1 hb1.2.2 (hid fun u=>Zdq k (by omega) u)
end
section
open Go.RowKit
attribute [local go_sem] B.f64bits B.f64frombits
theorem Zgg (s:Bool) (b:Nat) (k:Int) (dn:Bool) (X:Nat) (de:Int) (er:Bool) (w:World) (hl:(ws X).length≤8192)
 (e1:((b:Int)/9223372036854775808==1)=s) (e2:IntKind.u64.wrap ((b:Int)*2)/2=k) (hX:er=false→dn=false∧X=0∧de=0)
 (hO:Hid (∀ u,Calls Tryz.prog 91 #[] u fun r w'=>r=.returned (.agg #[.int .i64 53,.int .i64 (-1074),.int .u64 9218868437227405312])∧Below u.heap.size u w'))
 (HW:Hid (∀ u,Calls Tryz.prog 92 #[.agg #[.int .i64 53,.int .i64 (-1074),.int .u64 9218868437227405312],.bool s,.int .u64 k] u fun r w'=>(∃ v,r=.returned (.tuple #[.agg #[.bool dn,v,.int .i64 de],.bool er])∧Nt u.heap.size w' v X)∧Below u.heap.size u w')) :
 Calls Tryz.prog 55 #[.float .f64 b] w fun r w'=>(∃ v,r=.returned (.tuple #[.agg #[.bool dn,v,.int .i64 de],.int .i64 (if er then 0 else 30)])∧Nt w.heap.size w' v X)∧Below w.heap.size w w':=by
 go_enter Tryz.func55,Tryz.ntmps55
 go_wp2_with fail
 refine (Calls.mono (hO.out _)) ?_;rintro r w1 ⟨rfl,hb1⟩;have hz:w.heap.size<w1.heap.size:=by have:=hb1.size;simp at this;omega
 have S1:=qsd ((Za w (.cells #[.bool false,.slice none 0 0,.int .i64 0] 62)).trans (hb1.mono (by simp)))
 obtain ⟨hc,hf⟩:=bcell hb1;clear hb1
 go_wp2_with fail
 try simp only [e1,e2]
 refine (Calls.mono (HW.out _)) ?_;rintro r w2 ⟨⟨v,rfl,hN⟩,hb2⟩;obtain ⟨a2,c2,rfl,_⟩:=hN.arg (by omega)
 obtain ⟨hc2,hf2⟩:=bcell hb2;have hz2:w.heap.size<w2.heap.size:=by have:=hb2.size;omega
 have HF:=qsd (show Fin w.heap.size w1.heap.size w w2 (.slice a2 (ws X).length c2) X from ⟨hN,S1.out.trans (hb2.mono (by omega)),by omega⟩)
 clear hN hb2 e1 e2
 cases er
 · obtain ⟨rfl,rfl,rfl⟩:=hX rfl
   clear hX;go_wp2;exact bodyPost_ret (v:=.tuple #[.agg #[.bool false,.slice none 0 0,.int .i64 0],.int .i64 30]) (by simp [results,Tryz.results55,go_sem,hc,hc2,hz,hz2]) rfl (Fin.dnil (m:=w1.heap.size) (v:=.slice a2 (ws 0).length c2) (X:=0) (by repeat (first | exact HF.out | refine Fin.alloc ?_ _ | refine Fin.set ?_ _ _ _ (by omega) (by omega))))
 · clear hX
   go_wp2;exact bodyPost_ret (v:=.tuple #[.agg #[.bool dn,.slice a2 (ws X).length c2,.int .i64 de],.int .i64 0]) (by simp [results,Tryz.results55,go_sem,hc,hc2,hz,hz2]) rfl (Fin.dans (m:=w1.heap.size) (by repeat (first | exact HF.out | refine Fin.alloc ?_ _ | refine Fin.set ?_ _ _ _ (by omega) (by omega))) (by omega))
theorem Znd (s:Bool) (e f:Nat) (he:e<2048) (hf:f<4503599627370496) (w:World) :
 Calls Tryz.prog 55 #[.float .f64 (B.bw s e f)] w fun r w'=>OAns w.heap.size w' r (ofR s e f) (ofE e)∧Below w.heap.size w w':=by
 have hbl:=B.bw_lt s e f he hf;have hb1:(B.bw s e f:Int)=(if s then 9223372036854775808 else 0)+((e*4503599627370496+f:Nat):Int):=by unfold B.bw;cases s <;> simp <;> omega
 obtain ⟨b,hb⟩:∃ b,B.bw s e f=b:=⟨_,rfl⟩;obtain ⟨k,hk⟩:∃ k,e*4503599627370496+f=k:=⟨_,rfl⟩;rw [hb,hk] at hb1;rw [hb] at hbl ⊢;have hk2:k<9223372036854775808:=by omega
 have e1:((b:Int)/9223372036854775808==1)=s:=by cases s <;> simp at hb1 ⊢ <;> omega
 have e2:IntKind.u64.wrap ((b:Int)*2)/2=(k:Int):=by
  simp [IntKind.wrap,IntKind.bits,IntKind.signed]
  cases s <;> simp at hb1 <;> omega
 unfold ofR ofE
 by_cases h7:e=2047
 · rw [if_pos h7,if_pos h7]
   exact Zgg s b (k:Int) false 0 0 false w (by rw [Zj];simp) e1 e2 (fun _=>⟨rfl,rfl,rfl⟩) (hid fun u=>Zap u)
    (hid fun u=>(Zho s (k:Int) u (by omega) (by omega)).mono fun r w' ⟨h1,h2⟩=>⟨⟨_,h1,Nt.nil _ _⟩,h2⟩)
 · rw [if_neg h7,if_neg h7]
   have hn:=Zhn e f hf;rw [hk] at hn;have hF:(if e=0 then f else f+4503599627370496)<9007199254740992:=by split <;> omega
   have hx0:(-1100:Int)≤(if e=0 then -1074 else (e:Int)-1075):=by split <;> omega
   have hx1:(if e=0 then -1074 else (e:Int)-1075)≤(1000:Int):=by split <;> omega
   obtain ⟨d,hd⟩:=Zi6 s _ _ hF hx0 hx1;have hl:=Ze s (if e=0 then f else f+4503599627370496) (if e=0 then -1074 else (e:Int)-1075)
   have hB:∀ u,_:=fun u=>rBits_any s k u (by omega)
   rw [hn] at hB;simp only [] at hB;rw [hd] at hB hl ⊢;exact Zgg s b (k:Int) _ _ _ true w hl e1 e2 (fun h=>by cases h) (hid fun u=>Zap u) (hid hB)
end
section
open Go.RowKit
theorem Zee (n:Int) (m:Nat) (X:Nat) (dn:Bool) (de:Int) (er:Int) (w:World) (h0:n<0) (h1:-9223372036854775808≤n) (hm:(ws m).length≤100) (hl:(ws X).length≤8192) (e1:IntKind.u64.wrap (-IntKind.u64.wrap n)=(m:Int))
 (HO:Hid (∀ u,Calls Tryz.prog 87 #[.int .u64 (m:Int)] u fun r w'=>∃ v,r=.returned v∧Nt u.heap.size w' v m∧Below u.heap.size u w'))
 (HM:Hid (∀ (u:World) (a:Option Addr) (c:Nat),Below w.heap.size w u→Arg u a (ws m).length c (ws m)→Calls Tryz.prog 86 #[.bool true,.slice a (ws m).length c,.int .i64 0] u fun r w'=>(∃ v,r=.returned (.tuple #[.agg #[.bool dn,v,.int .i64 de],.int .i64 er])∧Nt u.heap.size w' v X)∧Below u.heap.size u w')) :
 Calls Tryz.prog 74 #[.int .i64 n] w fun r w'=>(∃ v,r=.returned (.agg #[.bool dn,v,.int .i64 de])∧Nt w.heap.size w' v X)∧Below w.heap.size w w':=by
 go_enter Tryz.func74,Tryz.ntmps74
 go_wp2_with fail
 try rw [e1]
 refine (Calls.mono (HO.out _)) ?_;rintro r w1 ⟨v,rfl,hN,hb⟩;obtain ⟨a1,c1,rfl,A1⟩:=hN.arg (by omega)
 have hz:w.heap.size<w1.heap.size:=by have:=hb.size;simp at this;omega
 have hbw:Below w.heap.size w w1:=(Za w (.cells #[.bool false,.slice none 0 0,.int .i64 0] 62)).trans (hb.mono (by simp))
 have S1:=qsd hbw;have H2:=hid (HM.out w1 a1 c1 hbw A1);obtain ⟨hc,hf⟩:=bcell hb;clear hN hb A1 hbw
 go_wp2_with fail
 refine H2.out.mono ?_;rintro r w2 ⟨⟨v,rfl,hN⟩,hb2⟩;obtain ⟨a2,c2,rfl,_⟩:=hN.arg (by omega)
 obtain ⟨hc2,hf2⟩:=bcell hb2;have hz2:w.heap.size<w2.heap.size:=by have:=hb2.size;omega
 have HF:=qsd (show Fin w.heap.size w1.heap.size w w2 (.slice a2 (ws X).length c2) X from ⟨hN,S1.out.trans (hb2.mono (by omega)),by omega⟩)
 clear hN hb2;go_wp2;exact bodyPost_ret (v:=.agg #[.bool dn,.slice a2 (ws X).length c2,.int .i64 de]) (by simp [results,Tryz.results74,go_sem,hc,hc2,hz,hz2]) rfl (Fin.dval (m:=w1.heap.size) (by repeat (first | exact HF.out | refine Fin.alloc ?_ _ | refine Fin.set ?_ _ _ _ (by omega) (by omega))) (by omega))
theorem Zef (n:Int) (m:Nat) (X:Nat) (dn:Bool) (de:Int) (er:Int) (w:World) (h0:0≤n) (h1:n≤9223372036854775807) (hd:decide (n<0)=false) (hm:(ws m).length≤100) (hl:(ws X).length≤8192) (e1:IntKind.u64.wrap n=n)
 (HO:Hid (∀ u,Calls Tryz.prog 87 #[.int .u64 n] u fun r w'=>∃ v,r=.returned v∧Nt u.heap.size w' v m∧Below u.heap.size u w'))
 (HM:Hid (∀ (u:World) (a:Option Addr) (c:Nat),Below w.heap.size w u→Arg u a (ws m).length c (ws m)→Calls Tryz.prog 86 #[.bool false,.slice a (ws m).length c,.int .i64 0] u fun r w'=>(∃ v,r=.returned (.tuple #[.agg #[.bool dn,v,.int .i64 de],.int .i64 er])∧Nt u.heap.size w' v X)∧Below u.heap.size u w')) :
 Calls Tryz.prog 74 #[.int .i64 n] w fun r w'=>(∃ v,r=.returned (.agg #[.bool dn,v,.int .i64 de])∧Nt w.heap.size w' v X)∧Below w.heap.size w w':=by
 go_enter Tryz.func74,Tryz.ntmps74
 go_wp2_with fail
 try rw [e1]
 refine (Calls.mono (HO.out _)) ?_;rintro r w1 ⟨v,rfl,hN,hb⟩;obtain ⟨a1,c1,rfl,A1⟩:=hN.arg (by omega)
 have hz:w.heap.size<w1.heap.size:=by have:=hb.size;simp at this;omega
 have hbw:Below w.heap.size w w1:=(Za w (.cells #[.bool false,.slice none 0 0,.int .i64 0] 62)).trans (hb.mono (by simp))
 have S1:=qsd hbw;have H2:=hid (HM.out w1 a1 c1 hbw A1);obtain ⟨hc,hf⟩:=bcell hb;clear hN hb A1 hbw
 go_wp2_with fail
 refine H2.out.mono ?_;rintro r w2 ⟨⟨v,rfl,hN⟩,hb2⟩;obtain ⟨a2,c2,rfl,_⟩:=hN.arg (by omega)
 obtain ⟨hc2,hf2⟩:=bcell hb2;have hz2:w.heap.size<w2.heap.size:=by have:=hb2.size;omega
 have HF:=qsd (show Fin w.heap.size w1.heap.size w w2 (.slice a2 (ws X).length c2) X from ⟨hN,S1.out.trans (hb2.mono (by omega)),by omega⟩)
 clear hN hb2;go_wp2;exact bodyPost_ret (v:=.agg #[.bool dn,.slice a2 (ws X).length c2,.int .i64 de]) (by simp [results,Tryz.results74,go_sem,hc,hc2,hz,hz2]) rfl (Fin.dval (m:=w1.heap.size) (by repeat (first | exact HF.out | refine Fin.alloc ?_ _ | refine Fin.set ?_ _ _ _ (by omega) (by omega))) (by omega))
theorem Zdc (n:Int) (m:Nat) (X:Nat) (dn:Bool) (de:Int) (er:Bool) (w:World) (h0:n<0) (h1:-9223372036854775808≤n) (hm:(ws m).length≤100) (hl:(ws X).length≤8192) (e1:IntKind.u64.wrap (-IntKind.u64.wrap n)=(m:Int))
 (HO:Hid (∀ u,Calls Tryz.prog 83 #[.int .u64 (m:Int)] u fun r w'=>∃ v,r=.returned v∧Nt u.heap.size w' v m∧Below u.heap.size u w'))
 (HM:Hid (∀ (u:World) (a:Option Addr) (c:Nat),Below w.heap.size w u→Arg u a (ws m).length c (ws m)→Calls Tryz.prog 82 #[.bool true,.slice a (ws m).length c,.int .i64 0] u fun r w'=>(∃ v,r=.returned (.tuple #[.agg #[.bool dn,v,.int .i64 de],.bool er])∧Nt u.heap.size w' v X)∧Below u.heap.size u w')) :
 Calls Tryz.prog 50 #[.int .i64 n] w fun r w'=>(∃ v,r=.returned (.agg #[.bool dn,v,.int .i64 de])∧Nt w.heap.size w' v X)∧Below w.heap.size w w':=by
 go_enter Tryz.func50,Tryz.ntmps50
 go_wp2_with fail
 try rw [e1]
 refine (Calls.mono (HO.out _)) ?_;rintro r w1 ⟨v,rfl,hN,hb⟩;obtain ⟨a1,c1,rfl,A1⟩:=hN.arg (by omega)
 have hz:w.heap.size<w1.heap.size:=by have:=hb.size;simp at this;omega
 have hbw:Below w.heap.size w w1:=(Za w (.cells #[.bool false,.slice none 0 0,.int .i64 0] 62)).trans (hb.mono (by simp))
 have S1:=qsd hbw;have H2:=hid (HM.out w1 a1 c1 hbw A1);obtain ⟨hc,hf⟩:=bcell hb;clear hN hb A1 hbw
 go_wp2_with fail
 refine H2.out.mono ?_;rintro r w2 ⟨⟨v,rfl,hN⟩,hb2⟩;obtain ⟨a2,c2,rfl,_⟩:=hN.arg (by omega)
 obtain ⟨hc2,hf2⟩:=bcell hb2;have hz2:w.heap.size<w2.heap.size:=by have:=hb2.size;omega
 have HF:=qsd (show Fin w.heap.size w1.heap.size w w2 (.slice a2 (ws X).length c2) X from ⟨hN,S1.out.trans (hb2.mono (by omega)),by omega⟩)
 clear hN hb2;go_wp2;exact bodyPost_ret (v:=.agg #[.bool dn,.slice a2 (ws X).length c2,.int .i64 de]) (by simp [results,Tryz.results50,go_sem,hc,hc2,hz,hz2]) rfl (Fin.dval (m:=w1.heap.size) (by repeat (first | exact HF.out | refine Fin.alloc ?_ _ | refine Fin.set ?_ _ _ _ (by omega) (by omega))) (by omega))
theorem Zdd (n:Int) (m:Nat) (X:Nat) (dn:Bool) (de:Int) (er:Bool) (w:World) (h0:0≤n) (h1:n≤9223372036854775807) (hd:decide (n<0)=false) (hm:(ws m).length≤100) (hl:(ws X).length≤8192) (e1:IntKind.u64.wrap n=n)
 (HO:Hid (∀ u,Calls Tryz.prog 83 #[.int .u64 n] u fun r w'=>∃ v,r=.returned v∧Nt u.heap.size w' v m∧Below u.heap.size u w'))
 (HM:Hid (∀ (u:World) (a:Option Addr) (c:Nat),Below w.heap.size w u→Arg u a (ws m).length c (ws m)→Calls Tryz.prog 82 #[.bool false,.slice a (ws m).length c,.int .i64 0] u fun r w'=>(∃ v,r=.returned (.tuple #[.agg #[.bool dn,v,.int .i64 de],.bool er])∧Nt u.heap.size w' v X)∧Below u.heap.size u w')) :
 Calls Tryz.prog 50 #[.int .i64 n] w fun r w'=>(∃ v,r=.returned (.agg #[.bool dn,v,.int .i64 de])∧Nt w.heap.size w' v X)∧Below w.heap.size w w':=by
 go_enter Tryz.func50,Tryz.ntmps50
 go_wp2_with fail
 try rw [e1]
 refine (Calls.mono (HO.out _)) ?_;rintro r w1 ⟨v,rfl,hN,hb⟩;obtain ⟨a1,c1,rfl,A1⟩:=hN.arg (by omega)
 have hz:w.heap.size<w1.heap.size:=by have:=hb.size;simp at this;omega
 have hbw:Below w.heap.size w w1:=(Za w (.cells #[.bool false,.slice none 0 0,.int .i64 0] 62)).trans (hb.mono (by simp))
 have S1:=qsd hbw;have H2:=hid (HM.out w1 a1 c1 hbw A1);obtain ⟨hc,hf⟩:=bcell hb;clear hN hb A1 hbw
 go_wp2_with fail
 refine H2.out.mono ?_;rintro r w2 ⟨⟨v,rfl,hN⟩,hb2⟩;obtain ⟨a2,c2,rfl,_⟩:=hN.arg (by omega)
 obtain ⟨hc2,hf2⟩:=bcell hb2;have hz2:w.heap.size<w2.heap.size:=by have:=hb2.size;omega
 have HF:=qsd (show Fin w.heap.size w1.heap.size w w2 (.slice a2 (ws X).length c2) X from ⟨hN,S1.out.trans (hb2.mono (by omega)),by omega⟩)
 clear hN hb2;go_wp2;exact bodyPost_ret (v:=.agg #[.bool dn,.slice a2 (ws X).length c2,.int .i64 de]) (by simp [results,Tryz.results50,go_sem,hc,hc2,hz,hz2]) rfl (Fin.dval (m:=w1.heap.size) (by repeat (first | exact HF.out | refine Fin.alloc ?_ _ | refine Fin.set ?_ _ _ _ (by omega) (by omega))) (by omega))
theorem Zch (n:Int) (h0:-9223372036854775808≤n) (h1:n≤9223372036854775807):(ws n.natAbs).length≤100:=by
 have:=(Zf n.natAbs 2).2 (by rw [show pw 2=18446744073709551616 from rfl];omega)
 omega
theorem Zp3 (n:Int) (w:World) (hT:Tab w) (h0:-9223372036854775808≤n) (h1:n≤9223372036854775807) :
 Calls Tryz.prog 74 #[.int .i64 n] w fun r w'=>DVal w.heap.size w' r (mkS (decide (n<0)) n.natAbs 0)∧Below w.heap.size w w':=by
 have hl:=Zch n h0 h1
 have HM:∀ (s:Bool) (u:World) (a:Option Addr) (c:Nat),Below w.heap.size w u→Arg u a (ws n.natAbs).length c (ws n.natAbs)→Calls Tryz.prog 86 #[.bool s,.slice a (ws n.natAbs).length c,.int .i64 0] u fun r w'=>DAns u.heap.size w' r (mkS s n.natAbs 0)∧Below u.heap.size u w':=by
  intro s u a c hu hA;have:=Z6 hA (hT.belows hu) s 0 (by omega) (by omega)
  rw [Zc] at this;exact this
 by_cases hn:n<0
 · rw [decide_eq_true hn]
   exact Zee n n.natAbs _ _ _ _ w hn h0 hl (Ze _ _ _) (by simp [IntKind.wrap,IntKind.bits,IntKind.signed];omega) (hid fun u=>Jd _ u (by omega)) (hid (HM true))
 · rw [decide_eq_false hn]
   have e:((n.natAbs:Nat):Int)=n:=by omega
   exact Zef n n.natAbs _ _ _ _ w (by omega) h1 (decide_eq_false hn) hl (Ze _ _ _) (by simp [IntKind.wrap,IntKind.bits,IntKind.signed];omega) (hid fun u=>by have:=Jd n.natAbs u (by omega);rw [e] at this;exact this) (hid (HM false))
theorem Zne (n:Int) (w:World) (h0:-9223372036854775808≤n) (h1:n≤9223372036854775807) :
 Calls Tryz.prog 50 #[.int .i64 n] w fun r w'=>DVal w.heap.size w' r (mkS (decide (n<0)) n.natAbs 0)∧Below w.heap.size w w':=by
 have hl:=Zch n h0 h1
 have HM:∀ (s:Bool) (u:World) (a:Option Addr) (c:Nat),Below w.heap.size w u→Arg u a (ws n.natAbs).length c (ws n.natAbs)→Calls Tryz.prog 82 #[.bool s,.slice a (ws n.natAbs).length c,.int .i64 0] u fun r w'=>FAns u.heap.size w' r (mkS s n.natAbs 0)∧Below u.heap.size u w':=by
  intro s u a c hu hA;have:=J4 hA (by omega) s 0 (by omega) (by omega)
  rw [Zc] at this;exact this
 by_cases hn:n<0
 · rw [decide_eq_true hn]
   exact Zdc n n.natAbs _ _ _ _ w hn h0 hl (Ze _ _ _) (by simp [IntKind.wrap,IntKind.bits,IntKind.signed];omega) (hid fun u=>Zca _ u (by omega)) (hid (HM true))
 · rw [decide_eq_false hn]
   have e:((n.natAbs:Nat):Int)=n:=by omega
   exact Zdd n n.natAbs _ _ _ _ w (by omega) h1 (decide_eq_false hn) hl (Ze _ _ _) (by simp [IntKind.wrap,IntKind.bits,IntKind.signed];omega) (hid fun u=>by have:=Zca n.natAbs u (by omega);rw [e] at this;exact this) (hid (HM false))
theorem Nt.arg' {lo:Nat}{w:World}{a:Option Addr}{n c X:Nat}(h:Nt lo w (.slice a n c) X) (hs:(ws X).length≤35184372088832):n=(ws X).length∧Arg w a (ws X).length c (ws X):=by
 obtain ⟨a',c',e,A⟩:=h.arg hs
 cases e
 exact ⟨rfl,A⟩
theorem len8 {X:Nat}(h:bl X≤262144):(ws X).length≤8192:=by rw [Qd];omega
theorem notLG {X:Nat}(h:bl X≤262144):¬ LG X:=by rw [Js];omega
theorem Ja {X Y:Nat}(h:X≤Y):bl X≤bl Y:=by
 by_cases h0:bl X=0
 · omega
 · have h1:=(Zbx X (bl X-1)).1 (by omega)
   have:=(Zbx Y (bl X-1)).2 (Nat.le_trans h1 h);omega
theorem Zt2 {X k:Nat}(h:X<2^k):bl X≤k:=by
 by_cases h0:k<bl X
 · have:=(Zbx X k).1 h0;omega
 · omega
theorem Zci {X:Nat}(h:bl X≤262144):shiftS X (-1)=(X/2,0):=by
 unfold shiftS;rw [if_neg (notLG h)]
 by_cases h0:X=0
 · rw [if_pos h0,h0]
 · rw [if_neg h0,if_pos (by omega)];rfl
theorem Zi7 {X k:Nat}(h:bl X≤k+1):X/2<2^k:=by
 have h1:=Qo X;have h2:2^bl X≤2^(k+1):=Nat.pow_le_pow_right (by omega) h
 rw [Nat.pow_succ] at h2;omega
theorem Zk5 {P Q:Nat}(hP:P%2=1) (hQ:Q%2=1) (bP:bl P≤262144) (bQ:bl Q≤262144):bl (P/2+Q/2)≤262144∧bl (P/2+Q/2+1)≤262144∧2*(P/2+Q/2+1)=P+Q:=by
 have h1:=Zi7 (X:=P) (k:=262143) bP;have h2:=Zi7 (X:=Q) (k:=262143) bQ;have key:∀ k:Nat,P/2<2^k→Q/2<2^k→P/2+Q/2+1<2^(k+1):=by intro k;rw [Nat.pow_succ];omega
 have h3:=key _ h1 h2;have h4:=Zt2 h3;exact ⟨Nat.le_trans (Ja (by omega)) h4,h4,by omega⟩
theorem Zfl {w:World}{a b:Option Addr}{l c k d:Nat}{xs ys:List Nat}(h1:Arg w a l c xs) (h2:Arg w b k d ys) (hT:Tab w) (neg:Bool) (e:Int) (he0:-1048576≤e) (he1:e≤1048576)
 (P Q:Nat) (hP:val xs=P) (hQ:val ys=Q) (oP:P%2=1) (oQ:Q%2=1) (bP:bl P≤262144) (bQ:bl Q≤262144) :
 Calls Tryz.prog 176 #[.bool neg,.slice a l c,.slice b k d,.int .i64 e] w fun r w'=>DAns w.heap.size w' r (mkS neg (P+Q) e)∧Below w.heap.size w w':=by
 obtain ⟨b3,b4,e5⟩:=Zk5 oP oQ bP bQ;rw [←e5,Zij];obtain ⟨P2,hP2⟩:∃ x,P/2=x:=⟨_,rfl⟩;obtain ⟨Q2,hQ2⟩:∃ x,Q/2=x:=⟨_,rfl⟩;have l1:(ws P2).length≤8192:=by rw [←hP2];exact len8 (Nat.le_trans (Ja (Nat.div_le_self _ _)) bP)
 have l2:(ws Q2).length≤8192:=by rw [←hQ2];exact len8 (Nat.le_trans (Ja (Nat.div_le_self _ _)) bQ)
 have s1:=Zci bP;have s2:=Zci bQ;rw [hP2] at s1 b3 b4 ⊢;rw [hQ2] at s2 b3 b4 ⊢;obtain ⟨V,hV⟩:∃ x,P2+Q2=x:=⟨_,rfl⟩;rw [hV] at b3 b4 ⊢;obtain ⟨H1,hH1⟩:∃ x,V+1=x:=⟨_,rfl⟩;rw [hH1] at b4 ⊢;have l3:(ws V).length≤8192:=len8 b3;have l4:(ws H1).length≤8192:=len8 b4;have l5:(ws 1).length≤8192:=by rw [Ze9];simp
 have HX:=(qsd (ai h1 (ai h2 (ai hT (ai hP (ai hQ (ai s1 (ai s2 (ai hV (ai hH1 (ai b3 b4)))))))))));clear h1 h2 hT hP hQ oP oQ bP bQ e5 hP2 hQ2 s1 s2 hV hH1 b3 b4;unfold DAns;have hl:=Ze neg H1 (e+1);obtain ⟨o,ho⟩:∃ o,mkS neg H1 (e+1)=o:=⟨_,rfl⟩;rw [ho] at hl ⊢;obtain ⟨dn,hdn⟩:∃ d,dN o=d:=⟨_,rfl⟩;obtain ⟨X,hX⟩:∃ d,dX o=d:=⟨_,rfl⟩;obtain ⟨de,hde⟩:∃ d,dE o=d:=⟨_,rfl⟩;obtain ⟨er,her⟩:∃ d,erS o=d:=⟨_,rfl⟩;rw [hdn,hX,hde,her];rw [hX] at hl;have HS:=(qsd (ai ho (ai hdn (ai hX (ai hde her)))));clear ho hdn hX hde her;have S0:=qsd (show Below (w.alloc (.cells #[.bool false,.slice none 0 0,.int .i64 0] 62)).heap.size (w.alloc (.cells #[.bool false,.slice none 0 0,.int .i64 0] 62)) (w.alloc (.cells #[.bool false,.slice none 0 0,.int .i64 0] 62)) from Below.refl _ _)
 have B0:=qsd (show Below w.heap.size w (w.alloc (.cells #[.bool false,.slice none 0 0,.int .i64 0] 62)) from Za w _)
 go_enter Tryz.func176,Tryz.ntmps176;obtain C:=S0.out;have BW:Below w.heap.size w (w.alloc (.cells #[.bool false,.slice none 0 0,.int .i64 0] 62)):=B0.out.trans (C.mono (by simp))
 have H:=hid (Z5 (V:=P2) (-1) (HX.out.1.below BW) (by rw [HX.out.2.2.2.1];exact HX.out.2.2.2.2.2.1) (by omega) (by omega))
 clear C BW
 go_wp2_with fail
 refine H.out.mono ?_;rintro r u1 ⟨v,rfl,hN,hb⟩;obtain ⟨a1,c1,rfl,_⟩:=hN.arg (by omega)
 obtain C:=S0.out;have hz1:=C.size;have S1:=(qsd (ai (C.trans (hb.mono C.size)) (hN.mono C.size)));clear C hb H hN;obtain ⟨C,N1⟩:=S1.out;have BW:Below w.heap.size w u1:=B0.out.trans (C.mono (by simp))
 have H:=hid (Z5 (V:=Q2) (-1) (HX.out.2.1.below BW) (by rw [HX.out.2.2.2.2.1];exact HX.out.2.2.2.2.2.2.1) (by omega) (by omega))
 clear C BW N1
 go_wp2_with fail
 refine H.out.mono ?_;rintro r u2 ⟨v,rfl,hN,hb⟩;obtain ⟨a2,c2,rfl,_⟩:=hN.arg (by omega)
 obtain ⟨C,N1⟩:=S1.out;have hz2:=C.size;have S2:=(qsd (ai (C.trans (hb.mono C.size)) (ai (N1.below hb) (hN.mono C.size))));clear C hb H hN N1;obtain ⟨C,N1,N2⟩:=S2.out;have BW:Below w.heap.size w u2:=B0.out.trans (C.mono (by simp))
 have H:=hid (Zb6 (V:=V) (N1.arg' (by omega)).2 (N2.arg' (by omega)).2 (by rw [Zc,Zc];exact Zb8 (notLG HX.out.2.2.2.2.2.2.2.2.2.1) HX.out.2.2.2.2.2.2.2.1))
 clear C BW N1 N2
 go_wp2_with fail
 refine H.out.mono ?_;rintro r u3 ⟨v,rfl,hN,hb⟩;obtain ⟨a3,c3,rfl,_⟩:=hN.arg (by omega)
 obtain ⟨C,N1,N2⟩:=S2.out;have hz3:=C.size;have S3:=(qsd (ai (C.trans (hb.mono C.size)) (ai (N1.below hb) (ai (N2.below hb) (hN.mono C.size)))));clear C hb H hN N1 N2;obtain ⟨C,N1,N2,N3⟩:=S3.out;have BW:Below w.heap.size w u3:=B0.out.trans (C.mono (by simp))
 have H:=hid (Jd 1 u3 (by omega))
 clear C BW N1 N2 N3
 go_wp2_with fail
 refine H.out.mono ?_;rintro r u4 ⟨v,rfl,hN,hb⟩;obtain ⟨a4,c4,rfl,_⟩:=hN.arg (by omega)
 obtain ⟨C,N1,N2,N3⟩:=S3.out;have hz4:=C.size;have S4:=(qsd (ai (C.trans (hb.mono C.size)) (ai (N1.below hb) (ai (N2.below hb) (ai (N3.below hb) (hN.mono C.size))))));clear C hb H hN N1 N2 N3;obtain ⟨C,N1,N2,N3,N4⟩:=S4.out;have BW:Below w.heap.size w u4:=B0.out.trans (C.mono (by simp))
 have H:=hid (Zb6 (V:=H1) (N3.arg' (by omega)).2 (N4.arg' (by omega)).2 (by rw [Zc,Zc];exact Zb8 (notLG HX.out.2.2.2.2.2.2.2.2.2.2) HX.out.2.2.2.2.2.2.2.2.1))
 clear C BW N1 N2 N3 N4
 go_wp2_with fail
 refine H.out.mono ?_;rintro r u5 ⟨v,rfl,hN,hb⟩;obtain ⟨a5,c5,rfl,_⟩:=hN.arg (by omega)
 obtain ⟨C,N1,N2,N3,N4⟩:=S4.out;have hz5:=C.size;have S5:=(qsd (ai (C.trans (hb.mono C.size)) (ai (N1.below hb) (ai (N2.below hb) (ai (N3.below hb) (ai (N4.below hb) (hN.mono C.size)))))));clear C hb H hN N1 N2 N3 N4;obtain ⟨C,N1,N2,N3,N4,N5⟩:=S5.out;have BW:Below w.heap.size w u5:=B0.out.trans (C.mono (by simp))
 have H0:=show Calls Tryz.prog 86 #[.bool neg,.slice a5 (ws H1).length c5,.int .i64 (e+1)] u5 fun r w'=>DAns u5.heap.size w' r (mkS neg H1 (e+1))∧Below u5.heap.size u5 w' from by have:=Z6 (N5.arg' (by omega)).2 (HX.out.2.2.1.belows BW) neg (e+1) (by omega) (by omega);rw [Zc] at this;exact this
 unfold DAns at H0;rw [HS.out.1,HS.out.2.1,HS.out.2.2.1,HS.out.2.2.2.1,HS.out.2.2.2.2] at H0;have H:=hid H0;clear C BW H0 N1 N2 N3 N4 N5
 go_wp2_with fail
 refine H.out.mono ?_;rintro r uu ⟨⟨v,rfl,hN⟩,hb⟩;obtain ⟨aa,cc,rfl,_⟩:=hN.arg (by omega)
 obtain ⟨C,N1,N2,N3,N4,N5⟩:=S5.out;have hbb:=C.trans (hb.mono C.size);obtain ⟨hc,hf⟩:=bcell hbb;have HF:=qsd (Fin.of 1 B0.out (by simp) (hN.mono C.size) hbb)
 have hz:w.heap.size<uu.heap.size:=by have:=hbb.size;simp at this;omega
 clear C hb hN hbb H N1 N2 N3 N4 N5;go_wp2;exact bodyPost_ret (v:=.tuple #[.agg #[.bool dn,.slice aa (ws X).length cc,.int .i64 de],.int .i64 er]) (by simp [results,Tryz.results176,go_sem,hc]) rfl (Fin.dans (m:=w.heap.size+1) (by repeat (first | exact HF.out | refine Fin.alloc ?_ _ | refine Fin.set ?_ _ _ _ (by omega) (by omega))) (by omega))
theorem Zp4 {w:World}{a b:Option Addr}{l c k d:Nat}{xs ys:List Nat}(h1:Arg w a l c xs) (h2:Arg w b k d ys) (hT:Tab w) (neg:Bool) (e:Int) (he0:-1048576≤e) (he1:e≤1048576)
 (P Q:Nat) (hP:val xs=P) (hQ:val ys=Q) (oP:P%2=1) (oQ:Q%2=1) (bP:bl P≤262144) (bQ:bl Q≤262144) :
 Calls Tryz.prog 130 #[.bool neg,.slice a l c,.slice b k d,.int .i64 e] w fun r w'=>DAns w.heap.size w' r (mkS neg (P+Q) e)∧Below w.heap.size w w':=by
 have HX:=(qsd (ai h1 (ai h2 (ai hT (ai hP (ai hQ (ai oP (ai oQ (ai bP bQ)))))))));clear h1 h2 hT hP hQ oP oQ bP bQ;unfold DAns;have hl:=Ze neg (P+Q) e;obtain ⟨o,ho⟩:∃ o,mkS neg (P+Q) e=o:=⟨_,rfl⟩;rw [ho] at hl ⊢;obtain ⟨dn,hdn⟩:∃ d,dN o=d:=⟨_,rfl⟩;obtain ⟨X,hX⟩:∃ d,dX o=d:=⟨_,rfl⟩;obtain ⟨de,hde⟩:∃ d,dE o=d:=⟨_,rfl⟩;obtain ⟨er,her⟩:∃ d,erS o=d:=⟨_,rfl⟩;rw [hdn,hX,hde,her];rw [hX] at hl;have HS:=(qsd (ai ho (ai hdn (ai hX (ai hde her)))));clear ho hdn hX hde her;have S0:=qsd (show Below (w.alloc (.cells #[.bool false,.slice none 0 0,.int .i64 0] 62)).heap.size (w.alloc (.cells #[.bool false,.slice none 0 0,.int .i64 0] 62)) (w.alloc (.cells #[.bool false,.slice none 0 0,.int .i64 0] 62)) from Below.refl _ _)
 have B0:=qsd (show Below w.heap.size w (w.alloc (.cells #[.bool false,.slice none 0 0,.int .i64 0] 62)) from Za w _)
 go_enter Tryz.func130,Tryz.ntmps130;obtain C:=S0.out;have BW:Below w.heap.size w (w.alloc (.cells #[.bool false,.slice none 0 0,.int .i64 0] 62)):=B0.out.trans (C.mono (by simp))
 have H:=hid (show Calls Tryz.prog 175 #[.slice a l c,.int .i64 0] (w.alloc (.cells #[.bool false,.slice none 0 0,.int .i64 0] 62)) fun r w'=>r=.returned (.bool true)∧w'=(w.alloc (.cells #[.bool false,.slice none 0 0,.int .i64 0] 62)) from by have A:=HX.out.1.below BW;have:=Zb3 xs a l c _ 0 _ A.len A.wf A.rd (by omega);rw [Nat.pow_zero,Nat.div_one,HX.out.2.2.2.1,HX.out.2.2.2.2.2.1] at this;exact this)
 clear C BW
 go_wp2_with fail
 refine H.out.mono ?_;rintro r ww ⟨rfl,hw⟩;rw [hw];clear H hw ww;obtain C:=S0.out;have BW:Below w.heap.size w (w.alloc (.cells #[.bool false,.slice none 0 0,.int .i64 0] 62)):=B0.out.trans (C.mono (by simp))
 have H0:=Zfl (HX.out.1.below BW) (HX.out.2.1.below BW) (HX.out.2.2.1.belows BW) neg e he0 he1 P Q HX.out.2.2.2.1 HX.out.2.2.2.2.1 HX.out.2.2.2.2.2.1 HX.out.2.2.2.2.2.2.1 HX.out.2.2.2.2.2.2.2.1 HX.out.2.2.2.2.2.2.2.2;unfold DAns at H0;rw [HS.out.1,HS.out.2.1,HS.out.2.2.1,HS.out.2.2.2.1,HS.out.2.2.2.2] at H0;have H:=hid H0;clear C BW H0
 go_wp2_with fail
 refine H.out.mono ?_;rintro r uu ⟨⟨v,rfl,hN⟩,hb⟩;obtain ⟨aa,cc,rfl,_⟩:=hN.arg (by omega)
 obtain C:=S0.out;have hbb:=C.trans (hb.mono C.size);obtain ⟨hc,hf⟩:=bcell hbb;have HF:=qsd (Fin.of 1 B0.out (by simp) (hN.mono C.size) hbb)
 have hz:w.heap.size<uu.heap.size:=by have:=hbb.size;simp at this;omega
 clear C hb hN hbb H;go_wp2;exact bodyPost_ret (v:=.tuple #[.agg #[.bool dn,.slice aa (ws X).length cc,.int .i64 de],.int .i64 er]) (by simp [results,Tryz.results130,go_sem,hc]) rfl (Fin.dans (m:=w.heap.size+1) (by repeat (first | exact HF.out | refine Fin.alloc ?_ _ | refine Fin.set ?_ _ _ _ (by omega) (by omega))) (by omega))
theorem Znf {w:World}{a b:Option Addr}{l c k d:Nat}{xs ys:List Nat}(h1:Arg w a l c xs) (h2:Arg w b k d ys) (hT:Tab w) (neg:Bool) (e:Int) (he0:-1048576≤e) (he1:e≤1048576)
 (P Q:Nat) (hP:val xs=P) (hQ:val ys=Q) (oP:P%2=0) (hs:bl (P+Q)≤262144) :
 Calls Tryz.prog 130 #[.bool neg,.slice a l c,.slice b k d,.int .i64 e] w fun r w'=>DAns w.heap.size w' r (mkS neg (P+Q) e)∧Below w.heap.size w w':=by
 obtain ⟨V,hV⟩:∃ x,P+Q=x:=⟨_,rfl⟩;rw [hV] at hs ⊢;have l1:=len8 hs;have HX:=(qsd (ai h1 (ai h2 (ai hT (ai hP (ai hQ (ai oP (ai hs hV))))))));clear h1 h2 hT hP hQ oP hs hV;unfold DAns;have hl:=Ze neg V e;obtain ⟨o,ho⟩:∃ o,mkS neg V e=o:=⟨_,rfl⟩;rw [ho] at hl ⊢;obtain ⟨dn,hdn⟩:∃ d,dN o=d:=⟨_,rfl⟩;obtain ⟨X,hX⟩:∃ d,dX o=d:=⟨_,rfl⟩;obtain ⟨de,hde⟩:∃ d,dE o=d:=⟨_,rfl⟩;obtain ⟨er,her⟩:∃ d,erS o=d:=⟨_,rfl⟩;rw [hdn,hX,hde,her];rw [hX] at hl;have HS:=(qsd (ai ho (ai hdn (ai hX (ai hde her)))));clear ho hdn hX hde her;have S0:=qsd (show Below (w.alloc (.cells #[.bool false,.slice none 0 0,.int .i64 0] 62)).heap.size (w.alloc (.cells #[.bool false,.slice none 0 0,.int .i64 0] 62)) (w.alloc (.cells #[.bool false,.slice none 0 0,.int .i64 0] 62)) from Below.refl _ _)
 have B0:=qsd (show Below w.heap.size w (w.alloc (.cells #[.bool false,.slice none 0 0,.int .i64 0] 62)) from Za w _)
 go_enter Tryz.func130,Tryz.ntmps130;obtain C:=S0.out;have BW:Below w.heap.size w (w.alloc (.cells #[.bool false,.slice none 0 0,.int .i64 0] 62)):=B0.out.trans (C.mono (by simp))
 have H:=hid (show Calls Tryz.prog 175 #[.slice a l c,.int .i64 0] (w.alloc (.cells #[.bool false,.slice none 0 0,.int .i64 0] 62)) fun r w'=>r=.returned (.bool false)∧w'=(w.alloc (.cells #[.bool false,.slice none 0 0,.int .i64 0] 62)) from by have A:=HX.out.1.below BW;have:=Zb3 xs a l c _ 0 _ A.len A.wf A.rd (by omega);rw [Nat.pow_zero,Nat.div_one,HX.out.2.2.2.1,HX.out.2.2.2.2.2.1] at this;exact this)
 clear C BW
 go_wp2_with fail
 refine H.out.mono ?_;rintro r ww ⟨rfl,hw⟩;rw [hw];clear H hw ww;obtain C:=S0.out;have BW:Below w.heap.size w (w.alloc (.cells #[.bool false,.slice none 0 0,.int .i64 0] 62)):=B0.out.trans (C.mono (by simp))
 have H:=hid (Zb6 (V:=V) (HX.out.1.below BW) (HX.out.2.1.below BW) (by rw [HX.out.2.2.2.1,HX.out.2.2.2.2.1];exact Zb8 (notLG HX.out.2.2.2.2.2.2.1) HX.out.2.2.2.2.2.2.2))
 clear C BW
 go_wp2_with fail
 refine H.out.mono ?_;rintro r u1 ⟨v,rfl,hN,hb⟩;obtain ⟨a1,c1,rfl,_⟩:=hN.arg (by omega)
 obtain C:=S0.out;have hz1:=C.size;have S1:=(qsd (ai (C.trans (hb.mono C.size)) (hN.mono C.size)));clear C hb H hN;obtain ⟨C,N1⟩:=S1.out;have BW:Below w.heap.size w u1:=B0.out.trans (C.mono (by simp))
 have H0:=show Calls Tryz.prog 86 #[.bool neg,.slice a1 (ws V).length c1,.int .i64 e] u1 fun r w'=>DAns u1.heap.size w' r (mkS neg V e)∧Below u1.heap.size u1 w' from by have:=Z6 (N1.arg' (by omega)).2 (HX.out.2.2.1.belows BW) neg e (by omega) (by omega);rw [Zc] at this;exact this
 unfold DAns at H0;rw [HS.out.1,HS.out.2.1,HS.out.2.2.1,HS.out.2.2.2.1,HS.out.2.2.2.2] at H0;have H:=hid H0;clear C BW H0 N1
 go_wp2_with fail
 refine H.out.mono ?_;rintro r uu ⟨⟨v,rfl,hN⟩,hb⟩;obtain ⟨aa,cc,rfl,_⟩:=hN.arg (by omega)
 obtain ⟨C,N1⟩:=S1.out;have hbb:=C.trans (hb.mono C.size);obtain ⟨hc,hf⟩:=bcell hbb;have HF:=qsd (Fin.of 1 B0.out (by simp) (hN.mono C.size) hbb)
 have hz:w.heap.size<uu.heap.size:=by have:=hbb.size;simp at this;omega
 clear C hb hN hbb H N1;go_wp2;exact bodyPost_ret (v:=.tuple #[.agg #[.bool dn,.slice aa (ws X).length cc,.int .i64 de],.int .i64 er]) (by simp [results,Tryz.results130,go_sem,hc]) rfl (Fin.dans (m:=w.heap.size+1) (by repeat (first | exact HF.out | refine Fin.alloc ?_ _ | refine Fin.set ?_ _ _ _ (by omega) (by omega))) (by omega))
theorem Zk6 {w:World}{a b:Option Addr}{n c m d:Nat}{xs ys:List Nat}(h1:Arg w a n c xs) (h2:Arg w b m d ys) (h:LG (val xs+val ys)) :
 Calls Tryz.prog 177 #[.slice a n c,.slice b m d] w fun r w'=>∃ v,r=.returned (.tuple #[v,.int .i64 2])∧Nt w.heap.size w' v 0∧Below w.heap.size w w' :=
 (Zjr xs ys a b n c m d w.heap.size w h1.len h2.len h1.cap h2.cap (by have:=h1.big;omega) (by have:=h2.big;omega) h1.wf h2.wf h1.rd h2.rd (Nat.le_refl _)).mono fun r w' ⟨⟨v,h3,h4⟩,h5⟩=>by
  have e:addS (val xs) (val ys)=(0,2):=by unfold addS;rw [if_pos h]
  rw [e] at h3 h4;exact ⟨v,h3,h4,h5⟩
theorem Zng {w:World}{a b:Option Addr}{l c k d:Nat}{xs ys:List Nat}(h1:Arg w a l c xs) (h2:Arg w b k d ys) (hT:Tab w) (neg:Bool) (e:Int) (he0:-1048576≤e) (he1:e≤1048576)
 (P Q:Nat) (hP:val xs=P) (hQ:val ys=Q) (oP:P%2=0) (hs:262144<bl (P+Q)) :
 Calls Tryz.prog 130 #[.bool neg,.slice a l c,.slice b k d,.int .i64 e] w fun r w'=>DAns w.heap.size w' r none∧Below w.heap.size w w':=by
 have l0:(ws 0).length=0:=by rw [Zj];rfl
 have HX:=(qsd (ai h1 (ai h2 (ai hT (ai hP (ai hQ (ai oP hs)))))));clear h1 h2 hT hP hQ oP hs;have S0:=qsd (show Below (w.alloc (.cells #[.bool false,.slice none 0 0,.int .i64 0] 62)).heap.size (w.alloc (.cells #[.bool false,.slice none 0 0,.int .i64 0] 62)) (w.alloc (.cells #[.bool false,.slice none 0 0,.int .i64 0] 62)) from Below.refl _ _)
 have B0:=qsd (show Below w.heap.size w (w.alloc (.cells #[.bool false,.slice none 0 0,.int .i64 0] 62)) from Za w _)
 go_enter Tryz.func130,Tryz.ntmps130;obtain C:=S0.out;have BW:Below w.heap.size w (w.alloc (.cells #[.bool false,.slice none 0 0,.int .i64 0] 62)):=B0.out.trans (C.mono (by simp))
 have H:=hid (show Calls Tryz.prog 175 #[.slice a l c,.int .i64 0] (w.alloc (.cells #[.bool false,.slice none 0 0,.int .i64 0] 62)) fun r w'=>r=.returned (.bool false)∧w'=(w.alloc (.cells #[.bool false,.slice none 0 0,.int .i64 0] 62)) from by have A:=HX.out.1.below BW;have:=Zb3 xs a l c _ 0 _ A.len A.wf A.rd (by omega);rw [Nat.pow_zero,Nat.div_one,HX.out.2.2.2.1,HX.out.2.2.2.2.2.1] at this;exact this)
 clear C BW
 go_wp2_with fail
 refine H.out.mono ?_;rintro r ww ⟨rfl,hw⟩;rw [hw];clear H hw ww;obtain C:=S0.out;have BW:Below w.heap.size w (w.alloc (.cells #[.bool false,.slice none 0 0,.int .i64 0] 62)):=B0.out.trans (C.mono (by simp))
 have H:=hid (Zk6 (HX.out.1.below BW) (HX.out.2.1.below BW) (by rw [HX.out.2.2.2.1,HX.out.2.2.2.2.1,Js];exact HX.out.2.2.2.2.2.2))
 clear C BW
 go_wp2_with fail
 refine H.out.mono ?_;rintro r u1 ⟨v,rfl,hN,hb⟩;obtain ⟨a1,c1,rfl,_⟩:=hN.arg (by omega)
 obtain C:=S0.out;have hz1:=C.size;have S1:=(qsd (ai (C.trans (hb.mono C.size)) (hN.mono C.size)));clear C hb H hN;obtain ⟨C,N1⟩:=S1.out;obtain ⟨hc,hf⟩:=bcell C;have HF:=qsd (show Fin w.heap.size (w.heap.size+1) w u1 (.slice none 0 0) 0 from ⟨Nt.nil _ _,B0.out.trans (C.mono (by simp)),by have:=C.size;simp at this;omega⟩)
 have hz:w.heap.size<u1.heap.size:=by have:=C.size;simp at this;omega
 clear C N1;go_wp2;exact bodyPost_ret (v:=.tuple #[.agg #[.bool false,.slice none 0 0,.int .i64 0],.int .i64 2]) (by simp [results,Tryz.results130,go_sem,hc]) rfl (Fin.dans (m:=w.heap.size+1) (by repeat (first | exact HF.out | refine Fin.alloc ?_ _ | refine Fin.set ?_ _ _ _ (by omega) (by omega))) (by omega))
theorem Zp5 {w:World}{a b:Option Addr}{l c k d:Nat}{xs ys:List Nat}(h1:Arg w a l c xs) (h2:Arg w b k d ys) (hT:Tab w) (neg:Bool) (e:Int) (he0:-1048576≤e) (he1:e≤1048576)
 (P Q:Nat) (hP:val xs=P) (hQ:val ys=Q) (oQ:Q%2=1) (bP:bl P≤262144) (bQ:bl Q≤262144) :
 Calls Tryz.prog 130 #[.bool neg,.slice a l c,.slice b k d,.int .i64 e] w fun r w'=>DAns w.heap.size w' r (mkS neg (P+Q) e)∧Below w.heap.size w w':=by
 rcases Nat.mod_two_eq_zero_or_one P with oP|oP
 · by_cases hs:bl (P+Q)≤262144
   · exact Znf h1 h2 hT neg e he0 he1 P Q hP hQ oP hs
   · have e1:mkS neg (P+Q) e=none:=by rw [Zjy _ _ _ (by omega),if_pos (.inl (by omega))]
     rw [e1];exact Zng h1 h2 hT neg e he0 he1 P Q hP hQ oP (by omega)
 · exact Zp4 h1 h2 hT neg e he0 he1 P Q hP hQ oP oQ bP bQ
theorem Znh {w:World}{a b:Option Addr}{l c k d:Nat}{xs ys:List Nat}(h1:Arg w a l c xs) (h2:Arg w b k d ys) (hT:Tab w) (neg:Bool) (e:Int) (he0:-1048576≤e) (he1:e≤1048576)
 (P Q:Nat) (hP:val xs=P) (hQ:val ys=Q) (bP:bl P≤262144) (bQ:bl Q≤262144) (hlt:P<Q) :
 Calls Tryz.prog 131 #[.bool neg,.slice a l c,.slice b k d,.int .i64 e] w fun r w'=>DAns w.heap.size w' r (mkS (!neg) (Q-P) e)∧Below w.heap.size w w':=by
 obtain ⟨z,hz0⟩:∃ z,cmpI P Q=z:=⟨_,rfl⟩;have hzz:z=-1:=by rw [←hz0];exact Jb hlt
 obtain ⟨V,hV⟩:∃ x,Q-P=x:=⟨_,rfl⟩;have bV:bl V≤262144:=by rw [←hV];exact Nat.le_trans (Ja (Nat.sub_le _ _)) bQ
 rw [hV];have l1:=len8 bV;have hsub:V+P=Q:=by omega
 have HX:=(qsd (ai h1 (ai h2 (ai hT (ai hP (ai hQ (ai hz0 (ai hsub (ai bP bQ)))))))));subst hzz;clear h1 h2 hT hP hQ hz0 hsub bP bQ hlt hV bV;unfold DAns;have hl:=Ze (!neg) V e;obtain ⟨o,ho⟩:∃ o,mkS (!neg) V e=o:=⟨_,rfl⟩;rw [ho] at hl ⊢;obtain ⟨dn,hdn⟩:∃ d,dN o=d:=⟨_,rfl⟩;obtain ⟨X,hX⟩:∃ d,dX o=d:=⟨_,rfl⟩;obtain ⟨de,hde⟩:∃ d,dE o=d:=⟨_,rfl⟩;obtain ⟨er,her⟩:∃ d,erS o=d:=⟨_,rfl⟩;rw [hdn,hX,hde,her];rw [hX] at hl;have HS:=(qsd (ai ho (ai hdn (ai hX (ai hde her)))));clear ho hdn hX hde her;have S0:=qsd (show Below (w.alloc (.cells #[.bool false,.slice none 0 0,.int .i64 0] 62)).heap.size (w.alloc (.cells #[.bool false,.slice none 0 0,.int .i64 0] 62)) (w.alloc (.cells #[.bool false,.slice none 0 0,.int .i64 0] 62)) from Below.refl _ _)
 have B0:=qsd (show Below w.heap.size w (w.alloc (.cells #[.bool false,.slice none 0 0,.int .i64 0] 62)) from Za w _)
 go_enter Tryz.func131,Tryz.ntmps131;obtain C:=S0.out;have BW:Below w.heap.size w (w.alloc (.cells #[.bool false,.slice none 0 0,.int .i64 0] 62)):=B0.out.trans (C.mono (by simp))
 have H:=hid (show Calls Tryz.prog 178 #[.slice a l c,.slice b k d] (w.alloc (.cells #[.bool false,.slice none 0 0,.int .i64 0] 62)) fun r w'=>r=.returned (.int .i64 (-1))∧Below (w.alloc (.cells #[.bool false,.slice none 0 0,.int .i64 0] 62)).heap.size (w.alloc (.cells #[.bool false,.slice none 0 0,.int .i64 0] 62)) w' from Ze0 (HX.out.1.below BW) (HX.out.2.1.below BW) (-1) (by rw [HX.out.2.2.2.1,HX.out.2.2.2.2.1];exact HX.out.2.2.2.2.2.1))
 clear C BW
 go_wp2_with fail
 refine H.out.mono ?_;rintro r u1 ⟨rfl,hb⟩;obtain C:=S0.out;have hz1:=C.size;have S1:=qsd (C.trans (hb.mono C.size));clear C hb H;obtain C:=S1.out;have BW:Below w.heap.size w u1:=B0.out.trans (C.mono (by simp))
 have H:=hid (Zb7 (V:=V) (HX.out.2.1.below BW) (HX.out.1.below BW) (by rw [HX.out.2.2.2.2.1,HX.out.2.2.2.1];exact Zb9 (notLG HX.out.2.2.2.2.2.2.2.2) (notLG HX.out.2.2.2.2.2.2.2.1) HX.out.2.2.2.2.2.2.1))
 clear C BW
 go_wp2_with fail
 refine H.out.mono ?_;rintro r u2 ⟨v,rfl,hN,hb⟩;obtain ⟨a2,c2,rfl,_⟩:=hN.arg (by omega)
 obtain C:=S1.out;have hz2:=C.size;have S2:=(qsd (ai (C.trans (hb.mono C.size)) (hN.mono C.size)));clear C hb H hN;obtain ⟨C,N2⟩:=S2.out;have BW:Below w.heap.size w u2:=B0.out.trans (C.mono (by simp))
 have H0:=show Calls Tryz.prog 86 #[.bool (!neg),.slice a2 (ws V).length c2,.int .i64 e] u2 fun r w'=>DAns u2.heap.size w' r (mkS (!neg) V e)∧Below u2.heap.size u2 w' from by have:=Z6 (N2.arg' (by omega)).2 (HX.out.2.2.1.belows BW) (!neg) e (by omega) (by omega);rw [Zc] at this;exact this
 unfold DAns at H0;rw [HS.out.1,HS.out.2.1,HS.out.2.2.1,HS.out.2.2.2.1,HS.out.2.2.2.2] at H0;have H:=hid H0;clear C BW H0 N2
 go_wp2_with fail
 refine H.out.mono ?_;rintro r uu ⟨⟨v,rfl,hN⟩,hb⟩;obtain ⟨aa,cc,rfl,_⟩:=hN.arg (by omega)
 obtain ⟨C,N2⟩:=S2.out;have hbb:=C.trans (hb.mono C.size);obtain ⟨hc,hf⟩:=bcell hbb;have HF:=qsd (Fin.of 1 B0.out (by simp) (hN.mono C.size) hbb)
 have hz:w.heap.size<uu.heap.size:=by have:=hbb.size;simp at this;omega
 clear C hb hN hbb H N2;go_wp2;exact bodyPost_ret (v:=.tuple #[.agg #[.bool dn,.slice aa (ws X).length cc,.int .i64 de],.int .i64 er]) (by simp [results,Tryz.results131,go_sem,hc]) rfl (Fin.dans (m:=w.heap.size+1) (by repeat (first | exact HF.out | refine Fin.alloc ?_ _ | refine Fin.set ?_ _ _ _ (by omega) (by omega))) (by omega))
theorem Zk7 {w:World}{a b:Option Addr}{l c k d:Nat}{xs ys:List Nat}(h1:Arg w a l c xs) (h2:Arg w b k d ys) (hT:Tab w) (neg:Bool) (e:Int) (he0:-1048576≤e) (he1:e≤1048576)
 (P Q:Nat) (hP:val xs=P) (hQ:val ys=Q) (bP:bl P≤262144) (bQ:bl Q≤262144) (hlt:Q≤P) :
 Calls Tryz.prog 131 #[.bool neg,.slice a l c,.slice b k d,.int .i64 e] w fun r w'=>DAns w.heap.size w' r (mkS neg (P-Q) e)∧Below w.heap.size w w':=by
 obtain ⟨z,hz0⟩:∃ z,cmpI P Q=z:=⟨_,rfl⟩;have hzz:0≤z:=by rw [←hz0];exact Zjx hlt
 obtain ⟨V,hV⟩:∃ x,P-Q=x:=⟨_,rfl⟩;have bV:bl V≤262144:=by rw [←hV];exact Nat.le_trans (Ja (Nat.sub_le _ _)) bP
 rw [hV];have l1:=len8 bV;have hsub:V+Q=P:=by omega
 have HX:=(qsd (ai h1 (ai h2 (ai hT (ai hP (ai hQ (ai hz0 (ai hsub (ai bP bQ)))))))));have hzf:decide (z<0)=false:=decide_eq_false (by omega)
 clear h1 h2 hT hP hQ hz0 hsub bP bQ hlt hV bV;unfold DAns;have hl:=Ze neg V e;obtain ⟨o,ho⟩:∃ o,mkS neg V e=o:=⟨_,rfl⟩;rw [ho] at hl ⊢;obtain ⟨dn,hdn⟩:∃ d,dN o=d:=⟨_,rfl⟩;obtain ⟨X,hX⟩:∃ d,dX o=d:=⟨_,rfl⟩;obtain ⟨de,hde⟩:∃ d,dE o=d:=⟨_,rfl⟩;obtain ⟨er,her⟩:∃ d,erS o=d:=⟨_,rfl⟩;rw [hdn,hX,hde,her];rw [hX] at hl;have HS:=(qsd (ai ho (ai hdn (ai hX (ai hde her)))));clear ho hdn hX hde her;have S0:=qsd (show Below (w.alloc (.cells #[.bool false,.slice none 0 0,.int .i64 0] 62)).heap.size (w.alloc (.cells #[.bool false,.slice none 0 0,.int .i64 0] 62)) (w.alloc (.cells #[.bool false,.slice none 0 0,.int .i64 0] 62)) from Below.refl _ _)
 have B0:=qsd (show Below w.heap.size w (w.alloc (.cells #[.bool false,.slice none 0 0,.int .i64 0] 62)) from Za w _)
 go_enter Tryz.func131,Tryz.ntmps131;obtain C:=S0.out;have BW:Below w.heap.size w (w.alloc (.cells #[.bool false,.slice none 0 0,.int .i64 0] 62)):=B0.out.trans (C.mono (by simp))
 have H:=hid (show Calls Tryz.prog 178 #[.slice a l c,.slice b k d] (w.alloc (.cells #[.bool false,.slice none 0 0,.int .i64 0] 62)) fun r w'=>r=.returned (.int .i64 z)∧Below (w.alloc (.cells #[.bool false,.slice none 0 0,.int .i64 0] 62)).heap.size (w.alloc (.cells #[.bool false,.slice none 0 0,.int .i64 0] 62)) w' from Ze0 (HX.out.1.below BW) (HX.out.2.1.below BW) z (by rw [HX.out.2.2.2.1,HX.out.2.2.2.2.1];exact HX.out.2.2.2.2.2.1))
 clear C BW
 go_wp2_with fail
 refine H.out.mono ?_;rintro r u1 ⟨rfl,hb⟩;obtain C:=S0.out;have hz1:=C.size;have S1:=qsd (C.trans (hb.mono C.size));clear C hb H;obtain C:=S1.out;have BW:Below w.heap.size w u1:=B0.out.trans (C.mono (by simp))
 have H:=hid (Zb7 (V:=V) (HX.out.1.below BW) (HX.out.2.1.below BW) (by rw [HX.out.2.2.2.1,HX.out.2.2.2.2.1];exact Zb9 (notLG HX.out.2.2.2.2.2.2.2.1) (notLG HX.out.2.2.2.2.2.2.2.2) HX.out.2.2.2.2.2.2.1))
 clear C BW
 go_wp2_with fail
 refine H.out.mono ?_;rintro r u2 ⟨v,rfl,hN,hb⟩;obtain ⟨a2,c2,rfl,_⟩:=hN.arg (by omega)
 obtain C:=S1.out;have hz2:=C.size;have S2:=(qsd (ai (C.trans (hb.mono C.size)) (hN.mono C.size)));clear C hb H hN;obtain ⟨C,N2⟩:=S2.out;have BW:Below w.heap.size w u2:=B0.out.trans (C.mono (by simp))
 have H0:=show Calls Tryz.prog 86 #[.bool neg,.slice a2 (ws V).length c2,.int .i64 e] u2 fun r w'=>DAns u2.heap.size w' r (mkS neg V e)∧Below u2.heap.size u2 w' from by have:=Z6 (N2.arg' (by omega)).2 (HX.out.2.2.1.belows BW) neg e (by omega) (by omega);rw [Zc] at this;exact this
 unfold DAns at H0;rw [HS.out.1,HS.out.2.1,HS.out.2.2.1,HS.out.2.2.2.1,HS.out.2.2.2.2] at H0;have H:=hid H0;clear C BW H0 N2
 go_wp2_with fail
 refine H.out.mono ?_;rintro r uu ⟨⟨v,rfl,hN⟩,hb⟩;obtain ⟨aa,cc,rfl,_⟩:=hN.arg (by omega)
 obtain ⟨C,N2⟩:=S2.out;have hbb:=C.trans (hb.mono C.size);obtain ⟨hc,hf⟩:=bcell hbb;have HF:=qsd (Fin.of 1 B0.out (by simp) (hN.mono C.size) hbb)
 have hz:w.heap.size<uu.heap.size:=by have:=hbb.size;simp at this;omega
 clear C hb hN hbb H N2;go_wp2;exact bodyPost_ret (v:=.tuple #[.agg #[.bool dn,.slice aa (ws X).length cc,.int .i64 de],.int .i64 er]) (by simp [results,Tryz.results131,go_sem,hc]) rfl (Fin.dans (m:=w.heap.size+1) (by repeat (first | exact HF.out | refine Fin.alloc ?_ _ | refine Fin.set ?_ _ _ _ (by omega) (by omega))) (by omega))
end
end Go.Proofs.YtblkpkgebigojaaGreatDoor
