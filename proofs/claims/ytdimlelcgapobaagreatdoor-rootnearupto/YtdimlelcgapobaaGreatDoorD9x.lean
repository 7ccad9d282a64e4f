import Derived.Test.YtdimlelcgapobaaGreatDoorD1x
import Derived.Deep.RegionHeld3
import Derived.Test.YtdimlelcgapobaaGreatDoorW34x
import Derived.BigQuiet
import Derived.Test.YtdimlelcgapobaaGreatDoorM1x
set_option linter.unusedVariables false
set_option linter.unusedSimpArgs false
set_option maxHeartbeats 16000000
set_option maxRecDepth 20000
namespace Go.Proofs.YtdimlelcgapobaaGreatDoor
section
open Go.RowKit
attribute [local go_sem] B.f64bits B.f64frombits
def num64 (k:Nat):Nat×Int:=if k/4503599627370496=0 then (k%4503599627370496,-1074) else (4503599627370496+k%4503599627370496,-1074+((k/4503599627370496:Nat):Int)-1)
theorem rNumber64_low (K:Int) (V:Nat) (w:World) (e1:K/4503599627370496=0) (hK0:0≤K) (hK1:K≤9218868437227405312)
 (HO:Hid (∀ u,Calls Tryz.prog 76 #[.int .u64 (K%4503599627370496)] u fun r w'=>∃ v,r=.returned v∧Nt u.heap.size w' v V∧Below u.heap.size u w')) :
 Calls Tryz.prog 130 #[.agg #[.int .i64 53,.int .i64 (-1074),.int .u64 9218868437227405312],.int .u64 K] w fun r w'=>∃ v,r=.returned (.tuple #[v,.int .i64 (-1074)])∧Nt w.heap.size w' v V∧Below w.heap.size w w':=by
 obtain ⟨W1,hW1⟩:∃ W,W=w.alloc (.cells #[.int .i64 53,.int .i64 (-1074),.int .u64 9218868437227405312] 73):=⟨_,rfl⟩;have P:W1.heap[w.heap.size]?=some (.cells #[.int .i64 53,.int .i64 (-1074),.int .u64 9218868437227405312] 73 (0,0)):=by rw [hW1,heap_alloc_new]
 have p1:W1.cell? ⟨w.heap.size,1,none⟩=some (.int .i64 (-1074)):=by simp [World.cell?,P]
 have hz:w.heap.size<W1.heap.size:=by rw [hW1];simp
 have HB:=sd (show Below w.heap.size w W1 by rw [hW1];exact below_alloc w _)
 go_enter Tryz.func130,Tryz.ntmps130;go_wp2;rw [←hW1];clear hW1 P e1
 go_region_held3 (fun w'=>w'.cell? ⟨w.heap.size,1,none⟩=some (.int .i64 (-1074))) (go_keep) (first | (go_at_call 76;refine (HO.out _).mono ?_;rintro r w2 ⟨v,rfl,hN,hb⟩;have hb2:Below W1.heap.size W1 w2:=(by first | exact hb | exact ((Below.refl _ W1).drew).trans (hb.mono (Nat.le_refl _)));have p2:w2.cell? ⟨w.heap.size,1,none⟩=some (.int .i64 (-1074)):=(hb2.cell (p:=⟨w.heap.size,1,none⟩) hz).trans p1;have S2:=(sd (ai hb2 hN));clear hb hb2 hN))
 all_goals (
  go_wp2
  go_simp
  go_ret2
  exact ⟨v,rfl,S2.out.2.mono (Nat.le_of_lt hz),HB.out.trans (S2.out.1.mono (Nat.le_of_lt hz))⟩)
theorem rNumber64_high (K q f g x y:Int) (V:Nat) (w:World) (e1:K/4503599627370496=q) (e2:K%4503599627370496=f) (e3:IntKind.u64.wrap (4503599627370496+f)=g) (e4:IntKind.i64.wrap q=q) (e5:IntKind.i64.wrap (-1074+q)=x) (e6:IntKind.i64.wrap (x-1)=y) (hK0:0≤K) (hK1:K≤9218868437227405312) (hq0:(q==0)=false)
 (HO:Hid (∀ u,Calls Tryz.prog 76 #[.int .u64 g] u fun r w'=>∃ v,r=.returned v∧Nt u.heap.size w' v V∧Below u.heap.size u w')) :
 Calls Tryz.prog 130 #[.agg #[.int .i64 53,.int .i64 (-1074),.int .u64 9218868437227405312],.int .u64 K] w fun r w'=>∃ v,r=.returned (.tuple #[v,.int .i64 y])∧Nt w.heap.size w' v V∧Below w.heap.size w w':=by
 obtain ⟨W1,hW1⟩:∃ W,W=w.alloc (.cells #[.int .i64 53,.int .i64 (-1074),.int .u64 9218868437227405312] 73):=⟨_,rfl⟩;have P:W1.heap[w.heap.size]?=some (.cells #[.int .i64 53,.int .i64 (-1074),.int .u64 9218868437227405312] 73 (0,0)):=by rw [hW1,heap_alloc_new]
 have p1:W1.cell? ⟨w.heap.size,1,none⟩=some (.int .i64 (-1074)):=by simp [World.cell?,P]
 have hz:w.heap.size<W1.heap.size:=by rw [hW1];simp
 have HB:=sd (show Below w.heap.size w W1 by rw [hW1];exact below_alloc w _)
 go_enter Tryz.func130,Tryz.ntmps130;go_wp2;rw [←hW1]
 try simp only [e1,e2]
 clear hW1 P e1 e2 hK0 hK1
 go_region_held3 (fun w'=>w'.cell? ⟨w.heap.size,1,none⟩=some (.int .i64 (-1074))) (go_keep) (first | (go_at_call 76;refine (HO.out _).mono ?_;rintro r w2 ⟨v,rfl,hN,hb⟩;have hb2:Below W1.heap.size W1 w2:=(by first | exact hb | exact ((Below.refl _ W1).drew).trans (hb.mono (Nat.le_refl _)));have p2:w2.cell? ⟨w.heap.size,1,none⟩=some (.int .i64 (-1074)):=(hb2.cell (p:=⟨w.heap.size,1,none⟩) hz).trans p1;have S2:=(sd (ai hb2 hN));clear hb hb2 hN))
 all_goals (
  go_wp2
  go_simp
  go_ret2
  exact ⟨v,rfl,S2.out.2.mono (Nat.le_of_lt hz),HB.out.trans (S2.out.1.mono (Nat.le_of_lt hz))⟩)
theorem rNumber64 (k:Nat) (hk:k≤9218868437227405312) (w:World) :
 Calls Tryz.prog 130 #[.agg #[.int .i64 53,.int .i64 (-1074),.int .u64 9218868437227405312],.int .u64 (k:Nat)] w fun r w'=>∃ v,r=.returned (.tuple #[v,.int .i64 (num64 k).2])∧Nt w.heap.size w' v (num64 k).1∧Below w.heap.size w w':=by
 unfold num64
 by_cases h0:k/4503599627370496=0
 · rw [if_pos h0]
   exact rNumber64_low (k:Int) (k%4503599627370496) w (by omega) (by omega) (by omega) (hid fun u=>by simpa using rOf_any (k%4503599627370496) u (by omega))
 · rw [if_neg h0]
   have hw:∀ n:Int,0≤n→n<18446744073709551616→IntKind.u64.wrap n=n:=fun n h1 h2=>by simp [IntKind.wrap,IntKind.bits,IntKind.signed];omega
   have hv:∀ n:Int,-4000≤n→n<4000→IntKind.i64.wrap n=n:=fun n h1 h2=>by simp [IntKind.wrap,IntKind.bits,IntKind.signed];omega
   have e3:(4503599627370496:Int)+((k%4503599627370496:Nat):Int)=((4503599627370496+k%4503599627370496:Nat):Int):=by omega
   exact rNumber64_high (k:Int) ((k/4503599627370496:Nat):Int) ((k%4503599627370496:Nat):Int) ((4503599627370496+k%4503599627370496:Nat):Int) (-1074+((k/4503599627370496:Nat):Int)) (-1074+((k/4503599627370496:Nat):Int)-1) (4503599627370496+k%4503599627370496) w (by omega) (by omega) (by rw [e3];exact hw _ (by omega) (by omega)) (hv _ (by omega) (by omega)) (hv _ (by omega) (by omega)) (hv _ (by omega) (by omega)) (by omega) (by omega) (beq_eq_false_iff_ne.2 (by omega)) (hid fun u=>rOf_any _ u (by omega))
theorem num64_bits (e f:Nat) (hf:f<4503599627370496):num64 (e*4503599627370496+f)=(if e=0 then f else f+4503599627370496,if e=0 then -1074 else (e:Int)-1075):=by
 have h1:(e*4503599627370496+f)/4503599627370496=e:=by omega
 have h2:(e*4503599627370496+f)%4503599627370496=f:=by omega
 unfold num64;rw [h1,h2]
 by_cases h:e=0
 · rw [if_pos h,if_pos h,if_pos h]
 · rw [if_neg h,if_neg h,if_neg h]
   refine Prod.ext (by simp;omega) (by simp;omega)
theorem of64_any (w:World):Calls Tryz.prog 50 #[] w fun r w'=>r=.returned (.agg #[.int .i64 53,.int .i64 (-1074),.int .u64 9218868437227405312])∧Below w.heap.size w w':=by
 go_enter Tryz.func50,Tryz.ntmps50;go_wp2;exact bodyPost_ret (v:=.agg #[.int .i64 53,.int .i64 (-1074),.int .u64 9218868437227405312]) (by simp [results,Tryz.results50,go_sem]) rfl ⟨rfl,by repeat (first | exact Below.refl _ _ | refine Below.alloc ?_ (by first | omega | simp) _ | refine Below.setC ?_ _ _ _ (by omega) (by simp))⟩
theorem rBits_wild (neg:Bool) (k:Int) (w:World) (hk:9218868437227405312≤k) (hk2:k<9223372036854775808) :
 Calls Tryz.prog 105 #[.agg #[.int .i64 53,.int .i64 (-1074),.int .u64 9218868437227405312],.bool neg,.int .u64 k] w fun r w'=>r=.returned (.tuple #[.agg #[.bool false,.slice none 0 0,.int .i64 0],.bool false])∧Below w.heap.size w w':=by
 have HB:=sd (show Below w.heap.size w ((w.alloc (.cells #[.int .i64 53,.int .i64 (-1074),.int .u64 9218868437227405312] 73)).alloc (.cells #[.bool false,.slice none 0 0,.int .i64 0] 27)) from (below_alloc w _).alloc (by simp) _)
 go_enter Tryz.func105,Tryz.ntmps105;go_wp2;exact bodyPost_ret (v:=.tuple #[.agg #[.bool false,.slice none 0 0,.int .i64 0],.bool false]) (by simp [results,Tryz.results105,go_sem]) rfl ⟨rfl,HB.out⟩
theorem rBits_core (neg:Bool) (k:Int) (F:Nat) (x:Int) (w:World) (hk:k<9218868437227405312) (hF:F<9007199254740992) (hx0:-1100≤x) (hx1:x≤1000)
 (HN0:Hid (∀ u,Calls Tryz.prog 130 #[.agg #[.int .i64 53,.int .i64 (-1074),.int .u64 9218868437227405312],.int .u64 k] u fun r w'=>∃ v,r=.returned (.tuple #[v,.int .i64 x])∧Nt u.heap.size w' v F∧Below u.heap.size u w')) :
 Calls Tryz.prog 105 #[.agg #[.int .i64 53,.int .i64 (-1074),.int .u64 9218868437227405312],.bool neg,.int .u64 k] w fun r w'=>FAns w.heap.size w' r (mkS neg F x)∧Below w.heap.size w w':=by
 have HB:=sd (show Below w.heap.size w ((w.alloc (.cells #[.int .i64 53,.int .i64 (-1074),.int .u64 9218868437227405312] 73)).alloc (.cells #[.bool false,.slice none 0 0,.int .i64 0] 27)) from (below_alloc w _).alloc (by simp) _)
 have HN:=hid (HN0.out ((w.alloc (.cells #[.int .i64 53,.int .i64 (-1074),.int .u64 9218868437227405312] 73)).alloc (.cells #[.bool false,.slice none 0 0,.int .i64 0] 27)));have hl:=mkS_len neg F x;have hFl:(ws F).length≤100:=by have:=ws_len_bl F;have:=bl_le53 F hF;omega
 have HM:Hid (∀ (u:World) (a:Option Addr) (c:Nat),Arg u a (ws F).length c (ws F)→Calls Tryz.prog 75 #[.bool neg,.slice a (ws F).length c,.int .i64 x] u fun r w'=>FAns u.heap.size w' r (mkS neg F x)∧Below u.heap.size u w'):=by
  intro u a c hA;have:=rForm_any hA (by omega) neg x (by omega) (by omega)
  rw [val_ws] at this;exact this
 obtain ⟨o,ho⟩:∃ o,mkS neg F x=o:=⟨_,rfl⟩;rw [ho] at HM hl ⊢;unfold FAns at HM ⊢;obtain ⟨dn,hdn⟩:∃ d,dN o=d:=⟨_,rfl⟩;obtain ⟨X,hdx⟩:∃ d,dX o=d:=⟨_,rfl⟩;obtain ⟨de,hde⟩:∃ d,dE o=d:=⟨_,rfl⟩;obtain ⟨er,her⟩:∃ d,o.isSome=d:=⟨_,rfl⟩;rw [hdn,hdx,hde,her] at HM ⊢;rw [hdx] at hl;clear ho hdn hdx hde her hF hx0 hx1 HN0;go_enter Tryz.func105,Tryz.ntmps105
 go_wp2_with fail
 refine HN.out.mono ?_;rintro r w2 ⟨v,rfl,hN,hb⟩;obtain ⟨a2,c2,rfl,A2⟩:=hN.arg (by omega)
 obtain ⟨hc,hf⟩:=bcell hb;have hz:w.heap.size+1<w2.heap.size:=by have:=hb.size;simp at this;omega
 have H2:=hid (HM.out w2 a2 c2 A2);have S2:=sd (HB.out.trans (hb.mono (by simp;omega)))
 clear hN hb A2
 go_wp2_with fail
 refine H2.out.mono ?_;rintro r w3 ⟨⟨v3,rfl,hN⟩,hb⟩;obtain ⟨a3,c3,rfl,_⟩:=hN.arg (by omega)
 obtain ⟨hc3,hf3⟩:=bcell hb;have HF:=sd (show Fin w.heap.size w2.heap.size w w3 (.slice a3 (ws X).length c3) X from ⟨hN,S2.out.trans (hb.mono (by omega)),by have:=hb.size;omega⟩)
 clear hN hb;go_wp2;exact bodyPost_ret (v:=.tuple #[.agg #[.bool dn,.slice a3 (ws X).length c3,.int .i64 de],.bool er]) (by simp [results,Tryz.results105,go_sem,hc,hc3,hz]) rfl (Fin.dans (m:=w2.heap.size) (by repeat (first | exact HF.out | refine Fin.alloc ?_ _ | refine Fin.set ?_ _ _ _ (by omega) (by omega))) (by omega))
theorem rBits_any (neg:Bool) (k:Nat) (w:World) (hk:k<9218868437227405312) :
 Calls Tryz.prog 105 #[.agg #[.int .i64 53,.int .i64 (-1074),.int .u64 9218868437227405312],.bool neg,.int .u64 (k:Nat)] w fun r w'=>FAns w.heap.size w' r (mkS neg (num64 k).1 (num64 k).2)∧Below w.heap.size w w':=by
 have hb1:(num64 k).1<9007199254740992∧-1100≤(num64 k).2∧(num64 k).2≤1000:=by unfold num64;split <;> simp <;> omega
 exact rBits_core neg (k:Int) _ _ w (by omega) hb1.1 hb1.2.1 hb1.2.2 (hid fun u=>rNumber64 k (by omega) u)
end
section
open Go.RowKit
attribute [local go_sem] B.f64bits B.f64frombits
theorem rOf_core (s:Bool) (b:Nat) (k:Int) (dn:Bool) (X:Nat) (de:Int) (er:Bool) (w:World) (hl:(ws X).length≤8192)
 (e1:((b:Int)/9223372036854775808==1)=s) (e2:IntKind.u64.wrap ((b:Int)*2)/2=k) (hX:er=false→dn=false∧X=0∧de=0)
 (hO:Hid (∀ u,Calls Tryz.prog 50 #[] u fun r w'=>r=.returned (.agg #[.int .i64 53,.int .i64 (-1074),.int .u64 9218868437227405312])∧Below u.heap.size u w'))
 (HW:Hid (∀ u,Calls Tryz.prog 105 #[.agg #[.int .i64 53,.int .i64 (-1074),.int .u64 9218868437227405312],.bool s,.int .u64 k] u fun r w'=>(∃ v,r=.returned (.tuple #[.agg #[.bool dn,v,.int .i64 de],.bool er])∧Nt u.heap.size w' v X)∧Below u.heap.size u w')) :
 Calls Tryz.prog 73 #[.float .f64 b] w fun r w'=>(∃ v,r=.returned (.tuple #[.agg #[.bool dn,v,.int .i64 de],.int .i64 (if er then 0 else 30)])∧Nt w.heap.size w' v X)∧Below w.heap.size w w':=by
 go_enter Tryz.func73,Tryz.ntmps73
 go_wp2_with fail
 refine (Calls.mono (hO.out _)) ?_;rintro r w1 ⟨rfl,hb1⟩;have hz:w.heap.size<w1.heap.size:=by have:=hb1.size;simp at this;omega
 have S1:=sd ((below_alloc w (.cells #[.bool false,.slice none 0 0,.int .i64 0] 27)).trans (hb1.mono (by simp)))
 obtain ⟨hc,hf⟩:=bcell hb1;clear hb1
 go_wp2_with fail
 try simp only [e1,e2]
 refine (Calls.mono (HW.out _)) ?_;rintro r w2 ⟨⟨v,rfl,hN⟩,hb2⟩;obtain ⟨a2,c2,rfl,_⟩:=hN.arg (by omega)
 obtain ⟨hc2,hf2⟩:=bcell hb2;have hz2:w.heap.size<w2.heap.size:=by have:=hb2.size;omega
 have HF:=sd (show Fin w.heap.size w1.heap.size w w2 (.slice a2 (ws X).length c2) X from ⟨hN,S1.out.trans (hb2.mono (by omega)),by omega⟩)
 clear hN hb2 e1 e2
 cases er
 · obtain ⟨rfl,rfl,rfl⟩:=hX rfl
   clear hX;go_wp2;exact bodyPost_ret (v:=.tuple #[.agg #[.bool false,.slice none 0 0,.int .i64 0],.int .i64 30]) (by simp [results,Tryz.results73,go_sem,hc,hc2,hz,hz2]) rfl (Fin.dnil (m:=w1.heap.size) (v:=.slice a2 (ws 0).length c2) (X:=0) (by repeat (first | exact HF.out | refine Fin.alloc ?_ _ | refine Fin.set ?_ _ _ _ (by omega) (by omega))))
 · clear hX
   go_wp2;exact bodyPost_ret (v:=.tuple #[.agg #[.bool dn,.slice a2 (ws X).length c2,.int .i64 de],.int .i64 0]) (by simp [results,Tryz.results73,go_sem,hc,hc2,hz,hz2]) rfl (Fin.dans (m:=w1.heap.size) (by repeat (first | exact HF.out | refine Fin.alloc ?_ _ | refine Fin.set ?_ _ _ _ (by omega) (by omega))) (by omega))
theorem rOf3_any (s:Bool) (e f:Nat) (he:e<2048) (hf:f<4503599627370496) (w:World) :
 Calls Tryz.prog 73 #[.float .f64 (B.bw s e f)] w fun r w'=>OAns w.heap.size w' r (ofR s e f) (ofE e)∧Below w.heap.size w w':=by
 have hbl:=B.bw_lt s e f he hf;have hb1:(B.bw s e f:Int)=(if s then 9223372036854775808 else 0)+((e*4503599627370496+f:Nat):Int):=by unfold B.bw;cases s <;> simp <;> omega
 obtain ⟨b,hb⟩:∃ b,B.bw s e f=b:=⟨_,rfl⟩;obtain ⟨k,hk⟩:∃ k,e*4503599627370496+f=k:=⟨_,rfl⟩;rw [hb,hk] at hb1;rw [hb] at hbl ⊢;have hk2:k<9223372036854775808:=by omega
 have e1:((b:Int)/9223372036854775808==1)=s:=by cases s <;> simp at hb1 ⊢ <;> omega
 have e2:IntKind.u64.wrap ((b:Int)*2)/2=(k:Int):=by
  simp [IntKind.wrap,IntKind.bits,IntKind.signed]
  cases s <;> simp at hb1 <;> omega
 unfold ofR ofE
 by_cases h7:e=2047
 · rw [if_pos h7,if_pos h7]
   exact rOf_core s b (k:Int) false 0 0 false w (by rw [ws_zero];simp) e1 e2 (fun _=>⟨rfl,rfl,rfl⟩) (hid fun u=>of64_any u)
    (hid fun u=>(rBits_wild s (k:Int) u (by omega) (by omega)).mono fun r w' ⟨h1,h2⟩=>⟨⟨_,h1,Nt.nil _ _⟩,h2⟩)
 · rw [if_neg h7,if_neg h7]
   have hn:=num64_bits e f hf;rw [hk] at hn;have hF:(if e=0 then f else f+4503599627370496)<9007199254740992:=by split <;> omega
   have hx0:(-1100:Int)≤(if e=0 then -1074 else (e:Int)-1075):=by split <;> omega
   have hx1:(if e=0 then -1074 else (e:Int)-1075)≤(1000:Int):=by split <;> omega
   obtain ⟨d,hd⟩:=of_some s _ _ hF hx0 hx1;have hl:=mkS_len s (if e=0 then f else f+4503599627370496) (if e=0 then -1074 else (e:Int)-1075)
   have hB:∀ u,_:=fun u=>rBits_any s k u (by omega)
   rw [hn] at hB;simp only [] at hB;rw [hd] at hB hl ⊢;exact rOf_core s b (k:Int) _ _ _ true w hl e1 e2 (fun h=>by cases h) (hid fun u=>of64_any u) (hid hB)
end
section
open Go.RowKit
theorem rInt_core_neg (n:Int) (m:Nat) (X:Nat) (dn:Bool) (de:Int) (er:Bool) (w:World) (h0:n<0) (h1:-9223372036854775808≤n) (hm:(ws m).length≤100) (hl:(ws X).length≤8192) (e1:IntKind.u64.wrap (-IntKind.u64.wrap n)=(m:Int))
 (HO:Hid (∀ u,Calls Tryz.prog 76 #[.int .u64 (m:Int)] u fun r w'=>∃ v,r=.returned v∧Nt u.heap.size w' v m∧Below u.heap.size u w'))
 (HM:Hid (∀ (u:World) (a:Option Addr) (c:Nat),Below w.heap.size w u→Arg u a (ws m).length c (ws m)→Calls Tryz.prog 75 #[.bool true,.slice a (ws m).length c,.int .i64 0] u fun r w'=>(∃ v,r=.returned (.tuple #[.agg #[.bool dn,v,.int .i64 de],.bool er])∧Nt u.heap.size w' v X)∧Below u.heap.size u w')) :
 Calls Tryz.prog 40 #[.int .i64 n] w fun r w'=>(∃ v,r=.returned (.agg #[.bool dn,v,.int .i64 de])∧Nt w.heap.size w' v X)∧Below w.heap.size w w':=by
 go_enter Tryz.func40,Tryz.ntmps40
 go_wp2_with fail
 try rw [e1]
 refine (Calls.mono (HO.out _)) ?_;rintro r w1 ⟨v,rfl,hN,hb⟩;obtain ⟨a1,c1,rfl,A1⟩:=hN.arg (by omega)
 have hz:w.heap.size<w1.heap.size:=by have:=hb.size;simp at this;omega
 have hbw:Below w.heap.size w w1:=(below_alloc w (.cells #[.bool false,.slice none 0 0,.int .i64 0] 27)).trans (hb.mono (by simp))
 have S1:=sd hbw;have H2:=hid (HM.out w1 a1 c1 hbw A1);obtain ⟨hc,hf⟩:=bcell hb;clear hN hb A1 hbw
 go_wp2_with fail
 refine H2.out.mono ?_;rintro r w2 ⟨⟨v,rfl,hN⟩,hb2⟩;obtain ⟨a2,c2,rfl,_⟩:=hN.arg (by omega)
 obtain ⟨hc2,hf2⟩:=bcell hb2;have hz2:w.heap.size<w2.heap.size:=by have:=hb2.size;omega
 have HF:=sd (show Fin w.heap.size w1.heap.size w w2 (.slice a2 (ws X).length c2) X from ⟨hN,S1.out.trans (hb2.mono (by omega)),by omega⟩)
 clear hN hb2;go_wp2;exact bodyPost_ret (v:=.agg #[.bool dn,.slice a2 (ws X).length c2,.int .i64 de]) (by simp [results,Tryz.results40,go_sem,hc,hc2,hz,hz2]) rfl (Fin.dval (m:=w1.heap.size) (by repeat (first | exact HF.out | refine Fin.alloc ?_ _ | refine Fin.set ?_ _ _ _ (by omega) (by omega))) (by omega))
theorem rInt_core_pos (n:Int) (m:Nat) (X:Nat) (dn:Bool) (de:Int) (er:Bool) (w:World) (h0:0≤n) (h1:n≤9223372036854775807) (hd:decide (n<0)=false) (hm:(ws m).length≤100) (hl:(ws X).length≤8192) (e1:IntKind.u64.wrap n=n)
 (HO:Hid (∀ u,Calls Tryz.prog 76 #[.int .u64 n] u fun r w'=>∃ v,r=.returned v∧Nt u.heap.size w' v m∧Below u.heap.size u w'))
 (HM:Hid (∀ (u:World) (a:Option Addr) (c:Nat),Below w.heap.size w u→Arg u a (ws m).length c (ws m)→Calls Tryz.prog 75 #[.bool false,.slice a (ws m).length c,.int .i64 0] u fun r w'=>(∃ v,r=.returned (.tuple #[.agg #[.bool dn,v,.int .i64 de],.bool er])∧Nt u.heap.size w' v X)∧Below u.heap.size u w')) :
 Calls Tryz.prog 40 #[.int .i64 n] w fun r w'=>(∃ v,r=.returned (.agg #[.bool dn,v,.int .i64 de])∧Nt w.heap.size w' v X)∧Below w.heap.size w w':=by
 go_enter Tryz.func40,Tryz.ntmps40
 go_wp2_with fail
 try rw [e1]
 refine (Calls.mono (HO.out _)) ?_;rintro r w1 ⟨v,rfl,hN,hb⟩;obtain ⟨a1,c1,rfl,A1⟩:=hN.arg (by omega)
 have hz:w.heap.size<w1.heap.size:=by have:=hb.size;simp at this;omega
 have hbw:Below w.heap.size w w1:=(below_alloc w (.cells #[.bool false,.slice none 0 0,.int .i64 0] 27)).trans (hb.mono (by simp))
 have S1:=sd hbw;have H2:=hid (HM.out w1 a1 c1 hbw A1);obtain ⟨hc,hf⟩:=bcell hb;clear hN hb A1 hbw
 go_wp2_with fail
 refine H2.out.mono ?_;rintro r w2 ⟨⟨v,rfl,hN⟩,hb2⟩;obtain ⟨a2,c2,rfl,_⟩:=hN.arg (by omega)
 obtain ⟨hc2,hf2⟩:=bcell hb2;have hz2:w.heap.size<w2.heap.size:=by have:=hb2.size;omega
 have HF:=sd (show Fin w.heap.size w1.heap.size w w2 (.slice a2 (ws X).length c2) X from ⟨hN,S1.out.trans (hb2.mono (by omega)),by omega⟩)
 clear hN hb2;go_wp2;exact bodyPost_ret (v:=.agg #[.bool dn,.slice a2 (ws X).length c2,.int .i64 de]) (by simp [results,Tryz.results40,go_sem,hc,hc2,hz,hz2]) rfl (Fin.dval (m:=w1.heap.size) (by repeat (first | exact HF.out | refine Fin.alloc ?_ _ | refine Fin.set ?_ _ _ _ (by omega) (by omega))) (by omega))
theorem natAbs_len (n:Int) (h0:-9223372036854775808≤n) (h1:n≤9223372036854775807):(ws n.natAbs).length≤100:=by
 have:=(ws_len_le n.natAbs 2).2 (by rw [show pw 2=18446744073709551616 from rfl];omega)
 omega
theorem rInt_any (n:Int) (w:World) (h0:-9223372036854775808≤n) (h1:n≤9223372036854775807) :
 Calls Tryz.prog 40 #[.int .i64 n] w fun r w'=>DVal w.heap.size w' r (mkS (decide (n<0)) n.natAbs 0)∧Below w.heap.size w w':=by
 have hl:=natAbs_len n h0 h1
 have HM:∀ (s:Bool) (u:World) (a:Option Addr) (c:Nat),Below w.heap.size w u→Arg u a (ws n.natAbs).length c (ws n.natAbs)→Calls Tryz.prog 75 #[.bool s,.slice a (ws n.natAbs).length c,.int .i64 0] u fun r w'=>FAns u.heap.size w' r (mkS s n.natAbs 0)∧Below u.heap.size u w':=by
  intro s u a c hu hA;have:=rForm_any hA (by omega) s 0 (by omega) (by omega)
  rw [val_ws] at this;exact this
 by_cases hn:n<0
 · rw [decide_eq_true hn]
   exact rInt_core_neg n n.natAbs _ _ _ _ w hn h0 hl (mkS_len _ _ _) (by simp [IntKind.wrap,IntKind.bits,IntKind.signed];omega) (hid fun u=>rOf_any _ u (by omega)) (hid (HM true))
 · rw [decide_eq_false hn]
   have e:((n.natAbs:Nat):Int)=n:=by omega
   exact rInt_core_pos n n.natAbs _ _ _ _ w (by omega) h1 (decide_eq_false hn) hl (mkS_len _ _ _) (by simp [IntKind.wrap,IntKind.bits,IntKind.signed];omega) (hid fun u=>by have:=rOf_any n.natAbs u (by omega);rw [e] at this;exact this) (hid (HM false))
end
section
open Go.RowKit
theorem rSame3_any (n:Bool) (e:Int) (xs:List Nat) (ao bo:Option Addr) (l ca cb:Nat) (w:World) (hn:l=xs.length) (hbig:l≤70368744177664) (hR:Rd w.heap.size w ao xs) (hS:Rd w.heap.size w bo xs) :
 Calls Tryz.prog 70 #[.agg #[.bool n,.slice ao l ca,.int .i64 e],.agg #[.bool n,.slice bo l cb,.int .i64 e]] w fun r w'=>r=.returned (.bool true)∧Below w.heap.size w w':=by
 obtain ⟨W1,hW1⟩:∃ W,W=(w.alloc (.cells #[.bool n,.slice ao l ca,.int .i64 e] 27)).alloc (.cells #[.bool n,.slice bo l cb,.int .i64 e] 27):=⟨_,rfl⟩;have hb1:Below w.heap.size w W1:=by rw [hW1];exact (below_alloc w _).alloc (by simp) _
 have PA:W1.heap[w.heap.size]?=some (.cells #[.bool n,.slice ao l ca,.int .i64 e] 27 (0,0)):=by rw [hW1,Below.heap_alloc _ _ _ (by simp),heap_alloc_new]
 have PB:W1.heap[w.heap.size+1]?=some (.cells #[.bool n,.slice bo l cb,.int .i64 e] 27 (0,0)):=by
  have h5:=heap_alloc_new (w.alloc (.cells #[.bool n,.slice ao l ca,.int .i64 e] 27)) (.cells #[.bool n,.slice bo l cb,.int .i64 e] 27);rw [hW1];simpa using h5
 have hz1:W1.heap.size=w.heap.size+2:=by rw [hW1];simp
 have q1:W1.cell? ⟨w.heap.size,1,none⟩=some (.slice ao l ca):=by simp [World.cell?,PA]
 have q2:W1.cell? ⟨w.heap.size+1,1,none⟩=some (.slice bo l cb):=by simp [World.cell?,PB]
 have HR:=(sd (ai (hR.below hb1) (ai (hS.below hb1) (ai hn (ai hb1 (ai q1 (ai q2 hz1)))))));clear hR hS hn hb1 PA PB hz1 q1 q2;go_enter Tryz.func70,Tryz.ntmps70;go_wp2;rw [←hW1];clear hW1
 go_loopg [5] l (fun gk i wr=>∃ k:Nat,gk+k=l∧i=.int .i64 (k:Nat)∧Hid (Below W1.heap.size W1 wr))
 case atStart=>exact ⟨0,by omega,rfl,Below.refl _ _⟩
 case round =>
  obtain ⟨k,hgk,rfl,HB⟩:=hrel;obtain ⟨hR,hS,hn,hb1,q1,q2,hz1⟩:=HR.out;have p1:wr.cell? ⟨w.heap.size,1,none⟩=some (.slice ao l ca):=(HB.out.cell (p:=⟨w.heap.size,1,none⟩) (by simp;omega)).trans q1
  have p2:wr.cell? ⟨w.heap.size+1,1,none⟩=some (.slice bo l cb):=(HB.out.cell (p:=⟨w.heap.size+1,1,none⟩) (by simp;omega)).trans q2
  clear hb1 q1 q2 hz1
  by_cases hk:k<l
  · obtain ⟨b,off,hB1,rfl,hc1⟩:=hR (by intro e;subst e;simp at hn;omega)
    obtain ⟨b2,off2,hB2,rfl,hc2⟩:=hS (by intro e;subst e;simp at hn;omega)
    have g1:wr.cell? ⟨b,off+k,none⟩=some (.int .u32 ((xs.getD k 0:Nat):Int)) :=
     (HB.out.cell (p:=⟨b,off+k,none⟩) (World.block_lt_of_cell? W1 ⟨b,off+k,none⟩ (hc1 k (by omega)))).trans (hc1 k (by omega))
    have g2:wr.cell? ⟨b2,off2+k,none⟩=some (.int .u32 ((xs.getD k 0:Nat):Int)) :=
     (HB.out.cell (p:=⟨b2,off2+k,none⟩) (World.block_lt_of_cell? W1 ⟨b2,off2+k,none⟩ (hc2 k (by omega)))).trans (hc2 k (by omega))
    obtain ⟨x,hxx⟩:∃ x:Nat,xs.getD k 0=x:=⟨_,rfl⟩;rw [hxx] at g1 g2;clear hR hS hn hc1 hc2 hxx hB1 hB2;go_wp2
    go_quiet (fail)
    go_wp2
    go_roundg (gk-1)
    case measure=>omega
    case rel=>exact ⟨k+1,by omega,by go_num,Below.drewN' HB.out _⟩
  · obtain rfl:k=l:=by omega
    clear hR hS hn;go_wp2;go_ret;obtain ⟨hR,hS,hn,hb1,q1,q2,hz1⟩:=HR.out;exact ⟨rfl,hb1.trans (HB.out.mono (by omega))⟩
end
section
open Go.RowKit
theorem Nt.arg' {lo:Nat}{w:World}{a:Option Addr}{n c X:Nat}(h:Nt lo w (.slice a n c) X) (hs:(ws X).length≤35184372088832):n=(ws X).length∧Arg w a (ws X).length c (ws X):=by
 obtain ⟨a',c',e,A⟩:=h.arg hs
 cases e
 exact ⟨rfl,A⟩
end
section
open Go.RowKit
theorem Len_arg {w:World}{a:Option Addr}{n c:Nat}{xs:List Nat}{k:Nat}(h1:Arg w a n c xs) (e:bl (val xs)=k) :
 Calls Tryz.prog 82 #[.slice a n c] w fun r w'=>r=.returned (.int .i64 (k:Nat))∧Below w.heap.size w w':=by
 subst e;exact (len_any xs a n c w.heap.size w h1.len h1.cap (by have:=h1.big;omega) h1.wf h1.rd).mono fun r w' ⟨h,e⟩=>⟨h,by rw [e];exact Below.refl _ _⟩
theorem shiftS_up {X V:Nat}{k:Nat}(hX:¬ LG X) (hb:X=0∨bl X+k≤262144) (e:X*2^k=V):shiftS X (k:Int)=(V,0):=by
 unfold shiftS;rw [if_neg hX]
 by_cases h0:X=0
 · rw [if_pos h0,←e,h0,Nat.zero_mul]
 · rw [if_neg h0,if_neg (by omega),if_neg (by omega)]
   simp [e]
theorem shiftS_dn {X V:Nat}{k:Nat}(hX:¬ LG X) (e:X/2^k=V):shiftS X (-(k:Int))=(V,0):=by
 unfold shiftS;rw [if_neg hX]
 by_cases h0:X=0
 · rw [if_pos h0,←e,h0,Nat.zero_div]
 · rw [if_neg h0]
   by_cases hk:k=0
   · subst hk
     rw [if_neg (by simp),if_neg (by have:=mt (LG_bl X).2 hX;omega)]
     simp at e;simp [e]
   · rw [if_pos (by omega)]
     simp [e]
theorem divS_ok {X Y:Nat}(h1:¬ LG X) (h2:¬ LG Y) (h:Y≠0) {V U:Nat}(e1:X/Y=V) (e2:X%Y=U):divS X Y=(V,U,0):=by
 unfold divS;rw [if_neg (by simp [h1,h2]),if_neg h,e1,e2]
theorem cmpLow_any {w:World}{a b q h:Option Addr}{ca cb cq ch:Nat}(W0 Lf Y H cut Bk Lo Tk' Hs:Nat) (z:Int) (AW:Arg w a (ws W0).length ca (ws W0)) (AL:Arg w b (ws Lf).length cb (ws Lf)) (AY:Arg w q (ws Y).length cq (ws Y)) (AH:Arg w h (ws H).length ch (ws H))
 (hc:cut≤4611686018427387904) (e1:shiftS H (cut:Int)=(Bk,0)) (e2:subS Y Bk=(Lo,0)) (e3:mulS W0 Lo=(Tk',0)) (e4:shiftS Lf (cut:Int)=(Hs,0)) (e5:cmpI Hs Tk'=z)
 (l1:(ws Bk).length≤8192) (l2:(ws Lo).length≤8192) (l3:(ws Tk').length≤8192) (l4:(ws Hs).length≤8192) :
 Calls Tryz.prog 112 #[.slice a (ws W0).length ca,.slice b (ws Lf).length cb,.slice q (ws Y).length cq,.slice h (ws H).length ch,.int .i64 (cut:Nat)] w fun r w'=>r=.returned (.int .i64 z)∧Below w.heap.size w w':=by
 rw [←val_ws H] at e1;rw [←val_ws Y,←val_ws Bk] at e2;rw [←val_ws W0,←val_ws Lo] at e3;rw [←val_ws Lf] at e4;rw [←val_ws Hs,←val_ws Tk'] at e5;have E:=(sd (ai e1 (ai e2 (ai e3 (ai e4 e5)))));clear e1 e2 e3 e4 e5;have hbel:=Below.refl w.heap.size w;have S0:=(sd (ai hbel (ai AW (ai AL (ai AY AH)))));clear hbel;clear AW AL AY AH;go_enter Tryz.func112,Tryz.ntmps112;obtain ⟨bel,AW,AL,AY,AH⟩:=S0.out;have HC:=hid (Shift_arg (cut:Int) AH E.out.1 (by omega) (by omega))
 clear bel AW AL AY AH
 go_wp2_with fail
 refine HC.out.mono ?_;rintro r u1 ⟨v,rfl,hN,hb⟩;obtain ⟨a1,c1,rfl,_⟩:=hN.arg (by omega)
 clear HC;obtain ⟨bel,AW,AL,AY,AH⟩:=S0.out;have hbn:=bel.trans (hb.mono bel.size);have S1:=sd (ai hbn (ai (AW.below hb) (ai (AL.below hb) (ai (AY.below hb) (ai (AH.below hb) (hN.mono bel.size))))));clear bel AW AL AY AH;clear hb hbn S0;clear hN;obtain ⟨bel,AW,AL,AY,AH,NB⟩:=S1.out;have HC:=hid (Sub_arg AY (NB.arg' (by omega)).2 E.out.2.1)
 clear bel AW AL AY AH NB
 go_wp2_with fail
 refine HC.out.mono ?_;rintro r u2 ⟨v,rfl,hN,hb⟩;obtain ⟨a2,c2,rfl,_⟩:=hN.arg (by omega)
 clear HC;obtain ⟨bel,AW,AL,AY,AH,NB⟩:=S1.out;have hbn:=bel.trans (hb.mono bel.size);have S2:=sd (ai hbn (ai (AW.below hb) (ai (AL.below hb) (ai (AY.below hb) (ai (AH.below hb) (ai (NB.below hb) (hN.mono bel.size)))))));clear bel AW AL AY AH NB;clear hb hbn S1;clear hN;obtain ⟨bel,AW,AL,AY,AH,NB,NL⟩:=S2.out;have HC:=hid (Mul_arg AW (NL.arg' (by omega)).2 E.out.2.2.1)
 clear bel AW AL AY AH NB NL
 go_wp2_with fail
 refine HC.out.mono ?_;rintro r u3 ⟨v,rfl,hN,hb⟩;obtain ⟨a3,c3,rfl,_⟩:=hN.arg (by omega)
 clear HC;obtain ⟨bel,AW,AL,AY,AH,NB,NL⟩:=S2.out;have hbn:=bel.trans (hb.mono bel.size);have S3:=sd (ai hbn (ai (AW.below hb) (ai (AL.below hb) (ai (AY.below hb) (ai (AH.below hb) (ai (NB.below hb) (ai (NL.below hb) (hN.mono bel.size))))))));clear bel AW AL AY AH NB NL;clear hb hbn S2;clear hN;obtain ⟨bel,AW,AL,AY,AH,NB,NL,NT⟩:=S3.out;have HC:=hid (Shift_arg (cut:Int) AL E.out.2.2.2.1 (by omega) (by omega))
 clear bel AW AL AY AH NB NL NT
 go_wp2_with fail
 refine HC.out.mono ?_;rintro r u4 ⟨v,rfl,hN,hb⟩;obtain ⟨a4,c4,rfl,_⟩:=hN.arg (by omega)
 clear HC;obtain ⟨bel,AW,AL,AY,AH,NB,NL,NT⟩:=S3.out;have hbn:=bel.trans (hb.mono bel.size);have S4:=sd (ai hbn (ai (AW.below hb) (ai (AL.below hb) (ai (AY.below hb) (ai (AH.below hb) (ai (NB.below hb) (ai (NL.below hb) (ai (NT.below hb) (hN.mono bel.size)))))))));clear bel AW AL AY AH NB NL NT;clear hb hbn S3;clear hN;obtain ⟨bel,AW,AL,AY,AH,NB,NL,NT,NS⟩:=S4.out;have HC:=hid (Cmp_arg (NS.arg' (by omega)).2 (NT.arg' (by omega)).2 z E.out.2.2.2.2)
 clear bel AW AL AY AH NB NL NT NS
 go_wp2_with fail
 refine HC.out.mono ?_;rintro r u5 ⟨rfl,hb⟩;clear HC;obtain ⟨bel,AW,AL,AY,AH,NB,NL,NT,NS⟩:=S4.out;have hbn:=bel.trans (hb.mono bel.size);have S5:=sd (ai hbn (ai (AW.below hb) (ai (AL.below hb) (ai (AY.below hb) (ai (AH.below hb) (ai (NB.below hb) (ai (NL.below hb) (ai (NT.below hb) (NS.below hb)))))))));clear bel AW AL AY AH NB NL NT NS;clear hb hbn S4;have hbW:=hid S5.out.1;clear S5 E;go_wp2;go_ret;exact ⟨rfl,hbW.out⟩
end
section
open Go.RowKit
theorem len8 {X:Nat}(h:bl X≤262144):(ws X).length≤8192:=by rw [ws_len_bl];omega
theorem notLG {X:Nat}(h:bl X≤262144):¬ LG X:=by rw [LG_bl];omega
theorem bl_mono {X Y:Nat}(h:X≤Y):bl X≤bl Y:=by
 by_cases h0:bl X=0
 · omega
 · have h1:=(bl_gt X (bl X-1)).1 (by omega)
   have:=(bl_gt Y (bl X-1)).2 (Nat.le_trans h1 h);omega
theorem bl_le {X k:Nat}(h:X<2^k):bl X≤k:=by
 by_cases h0:k<bl X
 · have:=(bl_gt X k).1 h0;omega
 · omega
theorem shift_half {X:Nat}(h:bl X≤262144):shiftS X (-1)=(X/2,0):=by
 unfold shiftS;rw [if_neg (notLG h)]
 by_cases h0:X=0
 · rw [if_pos h0,h0]
 · rw [if_neg h0,if_pos (by omega)];rfl
theorem half_bl {X k:Nat}(h:bl X≤k+1):X/2<2^k:=by
 have h1:=bl_lt X;have h2:2^bl X≤2^(k+1):=Nat.pow_le_pow_right (by omega) h
 rw [Nat.pow_succ] at h2;omega
theorem even_half {P Q:Nat}(hP:P%2=1) (hQ:Q%2=1) (bP:bl P≤262144) (bQ:bl Q≤262144):bl (P/2+Q/2)≤262144∧bl (P/2+Q/2+1)≤262144∧2*(P/2+Q/2+1)=P+Q:=by
 have h1:=half_bl (X:=P) (k:=262143) bP;have h2:=half_bl (X:=Q) (k:=262143) bQ;have key:∀ k:Nat,P/2<2^k→Q/2<2^k→P/2+Q/2+1<2^(k+1):=by intro k;rw [Nat.pow_succ];omega
 have h3:=key _ h1 h2;have h4:=bl_le h3;exact ⟨Nat.le_trans (bl_mono (by omega)) h4,h4,by omega⟩
theorem evenSum_any {w:World}{a b:Option Addr}{l c k d:Nat}{xs ys:List Nat}(h1:Arg w a l c xs) (h2:Arg w b k d ys) (hT:Tab w) (neg:Bool) (e:Int) (he0:-1048576≤e) (he1:e≤1048576)
 (P Q:Nat) (hP:val xs=P) (hQ:val ys=Q) (oP:P%2=1) (oQ:Q%2=1) (bP:bl P≤262144) (bQ:bl Q≤262144) :
 Calls Tryz.prog 137 #[.bool neg,.slice a l c,.slice b k d,.int .i64 e] w fun r w'=>DAns w.heap.size w' r (mkS neg (P+Q) e)∧Below w.heap.size w w':=by
 obtain ⟨b3,b4,e5⟩:=even_half oP oQ bP bQ;rw [←e5,mkS_double];obtain ⟨P2,hP2⟩:∃ x,P/2=x:=⟨_,rfl⟩;obtain ⟨Q2,hQ2⟩:∃ x,Q/2=x:=⟨_,rfl⟩;have l1:(ws P2).length≤8192:=by rw [←hP2];exact len8 (Nat.le_trans (bl_mono (Nat.div_le_self _ _)) bP)
 have l2:(ws Q2).length≤8192:=by rw [←hQ2];exact len8 (Nat.le_trans (bl_mono (Nat.div_le_self _ _)) bQ)
 have s1:=shift_half bP;have s2:=shift_half bQ;rw [hP2] at s1 b3 b4 ⊢;rw [hQ2] at s2 b3 b4 ⊢;obtain ⟨V,hV⟩:∃ x,P2+Q2=x:=⟨_,rfl⟩;rw [hV] at b3 b4 ⊢;obtain ⟨H1,hH1⟩:∃ x,V+1=x:=⟨_,rfl⟩;rw [hH1] at b4 ⊢;have l3:(ws V).length≤8192:=len8 b3;have l4:(ws H1).length≤8192:=len8 b4;have l5:(ws 1).length≤8192:=by rw [ws_one];simp
 have HX:=(sd (ai h1 (ai h2 (ai hT (ai hP (ai hQ (ai s1 (ai s2 (ai hV (ai hH1 (ai b3 b4)))))))))));clear h1 h2 hT hP hQ oP oQ bP bQ e5 hP2 hQ2 s1 s2 hV hH1 b3 b4;unfold DAns;have hl:=mkS_len neg H1 (e+1);obtain ⟨o,ho⟩:∃ o,mkS neg H1 (e+1)=o:=⟨_,rfl⟩;rw [ho] at hl ⊢;obtain ⟨dn,hdn⟩:∃ d,dN o=d:=⟨_,rfl⟩;obtain ⟨X,hX⟩:∃ d,dX o=d:=⟨_,rfl⟩;obtain ⟨de,hde⟩:∃ d,dE o=d:=⟨_,rfl⟩;obtain ⟨er,her⟩:∃ d,erS o=d:=⟨_,rfl⟩;rw [hdn,hX,hde,her];rw [hX] at hl;have HS:=(sd (ai ho (ai hdn (ai hX (ai hde her)))));clear ho hdn hX hde her;have S0:=sd (show Below (w.alloc (.cells #[.bool false,.slice none 0 0,.int .i64 0] 27)).heap.size (w.alloc (.cells #[.bool false,.slice none 0 0,.int .i64 0] 27)) (w.alloc (.cells #[.bool false,.slice none 0 0,.int .i64 0] 27)) from Below.refl _ _)
 have B0:=sd (show Below w.heap.size w (w.alloc (.cells #[.bool false,.slice none 0 0,.int .i64 0] 27)) from below_alloc w _)
 go_enter Tryz.func137,Tryz.ntmps137;obtain C:=S0.out;have BW:Below w.heap.size w (w.alloc (.cells #[.bool false,.slice none 0 0,.int .i64 0] 27)):=B0.out.trans (C.mono (by simp))
 have H:=hid (Shift_arg (V:=P2) (-1) (HX.out.1.below BW) (by rw [HX.out.2.2.2.1];exact HX.out.2.2.2.2.2.1) (by omega) (by omega))
 clear C BW
 go_wp2_with fail
 refine H.out.mono ?_;rintro r u1 ⟨v,rfl,hN,hb⟩;obtain ⟨a1,c1,rfl,_⟩:=hN.arg (by omega)
 obtain C:=S0.out;have hz1:=C.size;have S1:=(sd (ai (C.trans (hb.mono C.size)) (hN.mono C.size)));clear C hb H hN;obtain ⟨C,N1⟩:=S1.out;have BW:Below w.heap.size w u1:=B0.out.trans (C.mono (by simp))
 have H:=hid (Shift_arg (V:=Q2) (-1) (HX.out.2.1.below BW) (by rw [HX.out.2.2.2.2.1];exact HX.out.2.2.2.2.2.2.1) (by omega) (by omega))
 clear C BW N1
 go_wp2_with fail
 refine H.out.mono ?_;rintro r u2 ⟨v,rfl,hN,hb⟩;obtain ⟨a2,c2,rfl,_⟩:=hN.arg (by omega)
 obtain ⟨C,N1⟩:=S1.out;have hz2:=C.size;have S2:=(sd (ai (C.trans (hb.mono C.size)) (ai (N1.below hb) (hN.mono C.size))));clear C hb H hN N1;obtain ⟨C,N1,N2⟩:=S2.out;have BW:Below w.heap.size w u2:=B0.out.trans (C.mono (by simp))
 have H:=hid (Add_arg (V:=V) (N1.arg' (by omega)).2 (N2.arg' (by omega)).2 (by rw [val_ws,val_ws];exact addS_ok (notLG HX.out.2.2.2.2.2.2.2.2.2.1) HX.out.2.2.2.2.2.2.2.1))
 clear C BW N1 N2
 go_wp2_with fail
 refine H.out.mono ?_;rintro r u3 ⟨v,rfl,hN,hb⟩;obtain ⟨a3,c3,rfl,_⟩:=hN.arg (by omega)
 obtain ⟨C,N1,N2⟩:=S2.out;have hz3:=C.size;have S3:=(sd (ai (C.trans (hb.mono C.size)) (ai (N1.below hb) (ai (N2.below hb) (hN.mono C.size)))));clear C hb H hN N1 N2;obtain ⟨C,N1,N2,N3⟩:=S3.out;have BW:Below w.heap.size w u3:=B0.out.trans (C.mono (by simp))
 have H:=hid (of_any 1 u3 (by omega))
 clear C BW N1 N2 N3
 go_wp2_with fail
 refine H.out.mono ?_;rintro r u4 ⟨v,rfl,hN,hb⟩;obtain ⟨a4,c4,rfl,_⟩:=hN.arg (by omega)
 obtain ⟨C,N1,N2,N3⟩:=S3.out;have hz4:=C.size;have S4:=(sd (ai (C.trans (hb.mono C.size)) (ai (N1.below hb) (ai (N2.below hb) (ai (N3.below hb) (hN.mono C.size))))));clear C hb H hN N1 N2 N3;obtain ⟨C,N1,N2,N3,N4⟩:=S4.out;have BW:Below w.heap.size w u4:=B0.out.trans (C.mono (by simp))
 have H:=hid (Add_arg (V:=H1) (N3.arg' (by omega)).2 (N4.arg' (by omega)).2 (by rw [val_ws,val_ws];exact addS_ok (notLG HX.out.2.2.2.2.2.2.2.2.2.2) HX.out.2.2.2.2.2.2.2.2.1))
 clear C BW N1 N2 N3 N4
 go_wp2_with fail
 refine H.out.mono ?_;rintro r u5 ⟨v,rfl,hN,hb⟩;obtain ⟨a5,c5,rfl,_⟩:=hN.arg (by omega)
 obtain ⟨C,N1,N2,N3,N4⟩:=S4.out;have hz5:=C.size;have S5:=(sd (ai (C.trans (hb.mono C.size)) (ai (N1.below hb) (ai (N2.below hb) (ai (N3.below hb) (ai (N4.below hb) (hN.mono C.size)))))));clear C hb H hN N1 N2 N3 N4;obtain ⟨C,N1,N2,N3,N4,N5⟩:=S5.out;have BW:Below w.heap.size w u5:=B0.out.trans (C.mono (by simp))
 have H0:=show Calls Tryz.prog 110 #[.bool neg,.slice a5 (ws H1).length c5,.int .i64 (e+1)] u5 fun r w'=>DAns u5.heap.size w' r (mkS neg H1 (e+1))∧Below u5.heap.size u5 w' from by have:=Make_any (N5.arg' (by omega)).2 (HX.out.2.2.1.belows BW) neg (e+1) (by omega) (by omega);rw [val_ws] at this;exact this
 unfold DAns at H0;rw [HS.out.1,HS.out.2.1,HS.out.2.2.1,HS.out.2.2.2.1,HS.out.2.2.2.2] at H0;have H:=hid H0;clear C BW H0 N1 N2 N3 N4 N5
 go_wp2_with fail
 refine H.out.mono ?_;rintro r uu ⟨⟨v,rfl,hN⟩,hb⟩;obtain ⟨aa,cc,rfl,_⟩:=hN.arg (by omega)
 obtain ⟨C,N1,N2,N3,N4,N5⟩:=S5.out;have hbb:=C.trans (hb.mono C.size);obtain ⟨hc,hf⟩:=bcell hbb;have HF:=sd (Fin.of 1 B0.out (by simp) (hN.mono C.size) hbb)
 have hz:w.heap.size<uu.heap.size:=by have:=hbb.size;simp at this;omega
 clear C hb hN hbb H N1 N2 N3 N4 N5;go_wp2;exact bodyPost_ret (v:=.tuple #[.agg #[.bool dn,.slice aa (ws X).length cc,.int .i64 de],.int .i64 er]) (by simp [results,Tryz.results137,go_sem,hc]) rfl (Fin.dans (m:=w.heap.size+1) (by repeat (first | exact HF.out | refine Fin.alloc ?_ _ | refine Fin.set ?_ _ _ _ (by omega) (by omega))) (by omega))
theorem sum_odd {w:World}{a b:Option Addr}{l c k d:Nat}{xs ys:List Nat}(h1:Arg w a l c xs) (h2:Arg w b k d ys) (hT:Tab w) (neg:Bool) (e:Int) (he0:-1048576≤e) (he1:e≤1048576)
 (P Q:Nat) (hP:val xs=P) (hQ:val ys=Q) (oP:P%2=1) (oQ:Q%2=1) (bP:bl P≤262144) (bQ:bl Q≤262144) :
 Calls Tryz.prog 90 #[.bool neg,.slice a l c,.slice b k d,.int .i64 e] w fun r w'=>DAns w.heap.size w' r (mkS neg (P+Q) e)∧Below w.heap.size w w':=by
 have HX:=(sd (ai h1 (ai h2 (ai hT (ai hP (ai hQ (ai oP (ai oQ (ai bP bQ)))))))));clear h1 h2 hT hP hQ oP oQ bP bQ;unfold DAns;have hl:=mkS_len neg (P+Q) e;obtain ⟨o,ho⟩:∃ o,mkS neg (P+Q) e=o:=⟨_,rfl⟩;rw [ho] at hl ⊢;obtain ⟨dn,hdn⟩:∃ d,dN o=d:=⟨_,rfl⟩;obtain ⟨X,hX⟩:∃ d,dX o=d:=⟨_,rfl⟩;obtain ⟨de,hde⟩:∃ d,dE o=d:=⟨_,rfl⟩;obtain ⟨er,her⟩:∃ d,erS o=d:=⟨_,rfl⟩;rw [hdn,hX,hde,her];rw [hX] at hl;have HS:=(sd (ai ho (ai hdn (ai hX (ai hde her)))));clear ho hdn hX hde her;have S0:=sd (show Below (w.alloc (.cells #[.bool false,.slice none 0 0,.int .i64 0] 27)).heap.size (w.alloc (.cells #[.bool false,.slice none 0 0,.int .i64 0] 27)) (w.alloc (.cells #[.bool false,.slice none 0 0,.int .i64 0] 27)) from Below.refl _ _)
 have B0:=sd (show Below w.heap.size w (w.alloc (.cells #[.bool false,.slice none 0 0,.int .i64 0] 27)) from below_alloc w _)
 go_enter Tryz.func90,Tryz.ntmps90;obtain C:=S0.out;have BW:Below w.heap.size w (w.alloc (.cells #[.bool false,.slice none 0 0,.int .i64 0] 27)):=B0.out.trans (C.mono (by simp))
 have H:=hid (show Calls Tryz.prog 118 #[.slice a l c,.int .i64 0] (w.alloc (.cells #[.bool false,.slice none 0 0,.int .i64 0] 27)) fun r w'=>r=.returned (.bool true)∧w'=(w.alloc (.cells #[.bool false,.slice none 0 0,.int .i64 0] 27)) from by have A:=HX.out.1.below BW;have:=bit_any xs a l c _ 0 _ A.len A.wf A.rd (by omega);rw [Nat.pow_zero,Nat.div_one,HX.out.2.2.2.1,HX.out.2.2.2.2.2.1] at this;exact this)
 clear C BW
 go_wp2_with fail
 refine H.out.mono ?_;rintro r ww ⟨rfl,hw⟩;rw [hw];clear H hw ww;obtain C:=S0.out;have BW:Below w.heap.size w (w.alloc (.cells #[.bool false,.slice none 0 0,.int .i64 0] 27)):=B0.out.trans (C.mono (by simp))
 have H0:=evenSum_any (HX.out.1.below BW) (HX.out.2.1.below BW) (HX.out.2.2.1.belows BW) neg e he0 he1 P Q HX.out.2.2.2.1 HX.out.2.2.2.2.1 HX.out.2.2.2.2.2.1 HX.out.2.2.2.2.2.2.1 HX.out.2.2.2.2.2.2.2.1 HX.out.2.2.2.2.2.2.2.2;unfold DAns at H0;rw [HS.out.1,HS.out.2.1,HS.out.2.2.1,HS.out.2.2.2.1,HS.out.2.2.2.2] at H0;have H:=hid H0;clear C BW H0
 go_wp2_with fail
 refine H.out.mono ?_;rintro r uu ⟨⟨v,rfl,hN⟩,hb⟩;obtain ⟨aa,cc,rfl,_⟩:=hN.arg (by omega)
 obtain C:=S0.out;have hbb:=C.trans (hb.mono C.size);obtain ⟨hc,hf⟩:=bcell hbb;have HF:=sd (Fin.of 1 B0.out (by simp) (hN.mono C.size) hbb)
 have hz:w.heap.size<uu.heap.size:=by have:=hbb.size;simp at this;omega
 clear C hb hN hbb H;go_wp2;exact bodyPost_ret (v:=.tuple #[.agg #[.bool dn,.slice aa (ws X).length cc,.int .i64 de],.int .i64 er]) (by simp [results,Tryz.results90,go_sem,hc]) rfl (Fin.dans (m:=w.heap.size+1) (by repeat (first | exact HF.out | refine Fin.alloc ?_ _ | refine Fin.set ?_ _ _ _ (by omega) (by omega))) (by omega))
theorem sum_even {w:World}{a b:Option Addr}{l c k d:Nat}{xs ys:List Nat}(h1:Arg w a l c xs) (h2:Arg w b k d ys) (hT:Tab w) (neg:Bool) (e:Int) (he0:-1048576≤e) (he1:e≤1048576)
 (P Q:Nat) (hP:val xs=P) (hQ:val ys=Q) (oP:P%2=0) (hs:bl (P+Q)≤262144) :
 Calls Tryz.prog 90 #[.bool neg,.slice a l c,.slice b k d,.int .i64 e] w fun r w'=>DAns w.heap.size w' r (mkS neg (P+Q) e)∧Below w.heap.size w w':=by
 obtain ⟨V,hV⟩:∃ x,P+Q=x:=⟨_,rfl⟩;rw [hV] at hs ⊢;have l1:=len8 hs;have HX:=(sd (ai h1 (ai h2 (ai hT (ai hP (ai hQ (ai oP (ai hs hV))))))));clear h1 h2 hT hP hQ oP hs hV;unfold DAns;have hl:=mkS_len neg V e;obtain ⟨o,ho⟩:∃ o,mkS neg V e=o:=⟨_,rfl⟩;rw [ho] at hl ⊢;obtain ⟨dn,hdn⟩:∃ d,dN o=d:=⟨_,rfl⟩;obtain ⟨X,hX⟩:∃ d,dX o=d:=⟨_,rfl⟩;obtain ⟨de,hde⟩:∃ d,dE o=d:=⟨_,rfl⟩;obtain ⟨er,her⟩:∃ d,erS o=d:=⟨_,rfl⟩;rw [hdn,hX,hde,her];rw [hX] at hl;have HS:=(sd (ai ho (ai hdn (ai hX (ai hde her)))));clear ho hdn hX hde her;have S0:=sd (show Below (w.alloc (.cells #[.bool false,.slice none 0 0,.int .i64 0] 27)).heap.size (w.alloc (.cells #[.bool false,.slice none 0 0,.int .i64 0] 27)) (w.alloc (.cells #[.bool false,.slice none 0 0,.int .i64 0] 27)) from Below.refl _ _)
 have B0:=sd (show Below w.heap.size w (w.alloc (.cells #[.bool false,.slice none 0 0,.int .i64 0] 27)) from below_alloc w _)
 go_enter Tryz.func90,Tryz.ntmps90;obtain C:=S0.out;have BW:Below w.heap.size w (w.alloc (.cells #[.bool false,.slice none 0 0,.int .i64 0] 27)):=B0.out.trans (C.mono (by simp))
 have H:=hid (show Calls Tryz.prog 118 #[.slice a l c,.int .i64 0] (w.alloc (.cells #[.bool false,.slice none 0 0,.int .i64 0] 27)) fun r w'=>r=.returned (.bool false)∧w'=(w.alloc (.cells #[.bool false,.slice none 0 0,.int .i64 0] 27)) from by have A:=HX.out.1.below BW;have:=bit_any xs a l c _ 0 _ A.len A.wf A.rd (by omega);rw [Nat.pow_zero,Nat.div_one,HX.out.2.2.2.1,HX.out.2.2.2.2.2.1] at this;exact this)
 clear C BW
 go_wp2_with fail
 refine H.out.mono ?_;rintro r ww ⟨rfl,hw⟩;rw [hw];clear H hw ww;obtain C:=S0.out;have BW:Below w.heap.size w (w.alloc (.cells #[.bool false,.slice none 0 0,.int .i64 0] 27)):=B0.out.trans (C.mono (by simp))
 have H:=hid (Add_arg (V:=V) (HX.out.1.below BW) (HX.out.2.1.below BW) (by rw [HX.out.2.2.2.1,HX.out.2.2.2.2.1];exact addS_ok (notLG HX.out.2.2.2.2.2.2.1) HX.out.2.2.2.2.2.2.2))
 clear C BW
 go_wp2_with fail
 refine H.out.mono ?_;rintro r u1 ⟨v,rfl,hN,hb⟩;obtain ⟨a1,c1,rfl,_⟩:=hN.arg (by omega)
 obtain C:=S0.out;have hz1:=C.size;have S1:=(sd (ai (C.trans (hb.mono C.size)) (hN.mono C.size)));clear C hb H hN;obtain ⟨C,N1⟩:=S1.out;have BW:Below w.heap.size w u1:=B0.out.trans (C.mono (by simp))
 have H0:=show Calls Tryz.prog 110 #[.bool neg,.slice a1 (ws V).length c1,.int .i64 e] u1 fun r w'=>DAns u1.heap.size w' r (mkS neg V e)∧Below u1.heap.size u1 w' from by have:=Make_any (N1.arg' (by omega)).2 (HX.out.2.2.1.belows BW) neg e (by omega) (by omega);rw [val_ws] at this;exact this
 unfold DAns at H0;rw [HS.out.1,HS.out.2.1,HS.out.2.2.1,HS.out.2.2.2.1,HS.out.2.2.2.2] at H0;have H:=hid H0;clear C BW H0 N1
 go_wp2_with fail
 refine H.out.mono ?_;rintro r uu ⟨⟨v,rfl,hN⟩,hb⟩;obtain ⟨aa,cc,rfl,_⟩:=hN.arg (by omega)
 obtain ⟨C,N1⟩:=S1.out;have hbb:=C.trans (hb.mono C.size);obtain ⟨hc,hf⟩:=bcell hbb;have HF:=sd (Fin.of 1 B0.out (by simp) (hN.mono C.size) hbb)
 have hz:w.heap.size<uu.heap.size:=by have:=hbb.size;simp at this;omega
 clear C hb hN hbb H N1;go_wp2;exact bodyPost_ret (v:=.tuple #[.agg #[.bool dn,.slice aa (ws X).length cc,.int .i64 de],.int .i64 er]) (by simp [results,Tryz.results90,go_sem,hc]) rfl (Fin.dans (m:=w.heap.size+1) (by repeat (first | exact HF.out | refine Fin.alloc ?_ _ | refine Fin.set ?_ _ _ _ (by omega) (by omega))) (by omega))
theorem wAdd_long {w:World}{a b:Option Addr}{n c m d:Nat}{xs ys:List Nat}(h1:Arg w a n c xs) (h2:Arg w b m d ys) (h:LG (val xs+val ys)) :
 Calls Tryz.prog 108 #[.slice a n c,.slice b m d] w fun r w'=>∃ v,r=.returned (.tuple #[v,.int .i64 2])∧Nt w.heap.size w' v 0∧Below w.heap.size w w' :=
 (Add_any xs ys a b n c m d w.heap.size w h1.len h2.len h1.cap h2.cap (by have:=h1.big;omega) (by have:=h2.big;omega) h1.wf h2.wf h1.rd h2.rd (Nat.le_refl _)).mono fun r w' ⟨⟨v,h3,h4⟩,h5⟩=>by
  have e:addS (val xs) (val ys)=(0,2):=by unfold addS;rw [if_pos h]
  rw [e] at h3 h4;exact ⟨v,h3,h4,h5⟩
theorem sum_long {w:World}{a b:Option Addr}{l c k d:Nat}{xs ys:List Nat}(h1:Arg w a l c xs) (h2:Arg w b k d ys) (hT:Tab w) (neg:Bool) (e:Int) (he0:-1048576≤e) (he1:e≤1048576)
 (P Q:Nat) (hP:val xs=P) (hQ:val ys=Q) (oP:P%2=0) (hs:262144<bl (P+Q)) :
 Calls Tryz.prog 90 #[.bool neg,.slice a l c,.slice b k d,.int .i64 e] w fun r w'=>DAns w.heap.size w' r none∧Below w.heap.size w w':=by
 have l0:(ws 0).length=0:=by rw [ws_zero];rfl
 have HX:=(sd (ai h1 (ai h2 (ai hT (ai hP (ai hQ (ai oP hs)))))));clear h1 h2 hT hP hQ oP hs;have S0:=sd (show Below (w.alloc (.cells #[.bool false,.slice none 0 0,.int .i64 0] 27)).heap.size (w.alloc (.cells #[.bool false,.slice none 0 0,.int .i64 0] 27)) (w.alloc (.cells #[.bool false,.slice none 0 0,.int .i64 0] 27)) from Below.refl _ _)
 have B0:=sd (show Below w.heap.size w (w.alloc (.cells #[.bool false,.slice none 0 0,.int .i64 0] 27)) from below_alloc w _)
 go_enter Tryz.func90,Tryz.ntmps90;obtain C:=S0.out;have BW:Below w.heap.size w (w.alloc (.cells #[.bool false,.slice none 0 0,.int .i64 0] 27)):=B0.out.trans (C.mono (by simp))
 have H:=hid (show Calls Tryz.prog 118 #[.slice a l c,.int .i64 0] (w.alloc (.cells #[.bool false,.slice none 0 0,.int .i64 0] 27)) fun r w'=>r=.returned (.bool false)∧w'=(w.alloc (.cells #[.bool false,.slice none 0 0,.int .i64 0] 27)) from by have A:=HX.out.1.below BW;have:=bit_any xs a l c _ 0 _ A.len A.wf A.rd (by omega);rw [Nat.pow_zero,Nat.div_one,HX.out.2.2.2.1,HX.out.2.2.2.2.2.1] at this;exact this)
 clear C BW
 go_wp2_with fail
 refine H.out.mono ?_;rintro r ww ⟨rfl,hw⟩;rw [hw];clear H hw ww;obtain C:=S0.out;have BW:Below w.heap.size w (w.alloc (.cells #[.bool false,.slice none 0 0,.int .i64 0] 27)):=B0.out.trans (C.mono (by simp))
 have H:=hid (wAdd_long (HX.out.1.below BW) (HX.out.2.1.below BW) (by rw [HX.out.2.2.2.1,HX.out.2.2.2.2.1,LG_bl];exact HX.out.2.2.2.2.2.2))
 clear C BW
 go_wp2_with fail
 refine H.out.mono ?_;rintro r u1 ⟨v,rfl,hN,hb⟩;obtain ⟨a1,c1,rfl,_⟩:=hN.arg (by omega)
 obtain C:=S0.out;have hz1:=C.size;have S1:=(sd (ai (C.trans (hb.mono C.size)) (hN.mono C.size)));clear C hb H hN;obtain ⟨C,N1⟩:=S1.out;obtain ⟨hc,hf⟩:=bcell C;have HF:=sd (show Fin w.heap.size (w.heap.size+1) w u1 (.slice none 0 0) 0 from ⟨Nt.nil _ _,B0.out.trans (C.mono (by simp)),by have:=C.size;simp at this;omega⟩)
 have hz:w.heap.size<u1.heap.size:=by have:=C.size;simp at this;omega
 clear C N1;go_wp2;exact bodyPost_ret (v:=.tuple #[.agg #[.bool false,.slice none 0 0,.int .i64 0],.int .i64 2]) (by simp [results,Tryz.results90,go_sem,hc]) rfl (Fin.dans (m:=w.heap.size+1) (by repeat (first | exact HF.out | refine Fin.alloc ?_ _ | refine Fin.set ?_ _ _ _ (by omega) (by omega))) (by omega))
theorem sum_any {w:World}{a b:Option Addr}{l c k d:Nat}{xs ys:List Nat}(h1:Arg w a l c xs) (h2:Arg w b k d ys) (hT:Tab w) (neg:Bool) (e:Int) (he0:-1048576≤e) (he1:e≤1048576)
 (P Q:Nat) (hP:val xs=P) (hQ:val ys=Q) (oQ:Q%2=1) (bP:bl P≤262144) (bQ:bl Q≤262144) :
 Calls Tryz.prog 90 #[.bool neg,.slice a l c,.slice b k d,.int .i64 e] w fun r w'=>DAns w.heap.size w' r (mkS neg (P+Q) e)∧Below w.heap.size w w':=by
 rcases Nat.mod_two_eq_zero_or_one P with oP|oP
 · by_cases hs:bl (P+Q)≤262144
   · exact sum_even h1 h2 hT neg e he0 he1 P Q hP hQ oP hs
   · have e1:mkS neg (P+Q) e=none:=by rw [mkS_odd _ _ _ (by omega),if_pos (.inl (by omega))]
     rw [e1];exact sum_long h1 h2 hT neg e he0 he1 P Q hP hQ oP (by omega)
 · exact sum_odd h1 h2 hT neg e he0 he1 P Q hP hQ oP oQ bP bQ
theorem diff_low {w:World}{a b:Option Addr}{l c k d:Nat}{xs ys:List Nat}(h1:Arg w a l c xs) (h2:Arg w b k d ys) (hT:Tab w) (neg:Bool) (e:Int) (he0:-1048576≤e) (he1:e≤1048576)
 (P Q:Nat) (hP:val xs=P) (hQ:val ys=Q) (bP:bl P≤262144) (bQ:bl Q≤262144) (hlt:P<Q) :
 Calls Tryz.prog 91 #[.bool neg,.slice a l c,.slice b k d,.int .i64 e] w fun r w'=>DAns w.heap.size w' r (mkS (!neg) (Q-P) e)∧Below w.heap.size w w':=by
 obtain ⟨z,hz0⟩:∃ z,cmpI P Q=z:=⟨_,rfl⟩;have hzz:z=-1:=by rw [←hz0];exact cmpI_lt hlt
 obtain ⟨V,hV⟩:∃ x,Q-P=x:=⟨_,rfl⟩;have bV:bl V≤262144:=by rw [←hV];exact Nat.le_trans (bl_mono (Nat.sub_le _ _)) bQ
 rw [hV];have l1:=len8 bV;have hsub:V+P=Q:=by omega
 have HX:=(sd (ai h1 (ai h2 (ai hT (ai hP (ai hQ (ai hz0 (ai hsub (ai bP bQ)))))))));subst hzz;clear h1 h2 hT hP hQ hz0 hsub bP bQ hlt hV bV;unfold DAns;have hl:=mkS_len (!neg) V e;obtain ⟨o,ho⟩:∃ o,mkS (!neg) V e=o:=⟨_,rfl⟩;rw [ho] at hl ⊢;obtain ⟨dn,hdn⟩:∃ d,dN o=d:=⟨_,rfl⟩;obtain ⟨X,hX⟩:∃ d,dX o=d:=⟨_,rfl⟩;obtain ⟨de,hde⟩:∃ d,dE o=d:=⟨_,rfl⟩;obtain ⟨er,her⟩:∃ d,erS o=d:=⟨_,rfl⟩;rw [hdn,hX,hde,her];rw [hX] at hl;have HS:=(sd (ai ho (ai hdn (ai hX (ai hde her)))));clear ho hdn hX hde her;have S0:=sd (show Below (w.alloc (.cells #[.bool false,.slice none 0 0,.int .i64 0] 27)).heap.size (w.alloc (.cells #[.bool false,.slice none 0 0,.int .i64 0] 27)) (w.alloc (.cells #[.bool false,.slice none 0 0,.int .i64 0] 27)) from Below.refl _ _)
 have B0:=sd (show Below w.heap.size w (w.alloc (.cells #[.bool false,.slice none 0 0,.int .i64 0] 27)) from below_alloc w _)
 go_enter Tryz.func91,Tryz.ntmps91;obtain C:=S0.out;have BW:Below w.heap.size w (w.alloc (.cells #[.bool false,.slice none 0 0,.int .i64 0] 27)):=B0.out.trans (C.mono (by simp))
 have H:=hid (show Calls Tryz.prog 122 #[.slice a l c,.slice b k d] (w.alloc (.cells #[.bool false,.slice none 0 0,.int .i64 0] 27)) fun r w'=>r=.returned (.int .i64 (-1))∧Below (w.alloc (.cells #[.bool false,.slice none 0 0,.int .i64 0] 27)).heap.size (w.alloc (.cells #[.bool false,.slice none 0 0,.int .i64 0] 27)) w' from Cmp_arg (HX.out.1.below BW) (HX.out.2.1.below BW) (-1) (by rw [HX.out.2.2.2.1,HX.out.2.2.2.2.1];exact HX.out.2.2.2.2.2.1))
 clear C BW
 go_wp2_with fail
 refine H.out.mono ?_;rintro r u1 ⟨rfl,hb⟩;obtain C:=S0.out;have hz1:=C.size;have S1:=sd (C.trans (hb.mono C.size));clear C hb H;obtain C:=S1.out;have BW:Below w.heap.size w u1:=B0.out.trans (C.mono (by simp))
 have H:=hid (Sub_arg (V:=V) (HX.out.2.1.below BW) (HX.out.1.below BW) (by rw [HX.out.2.2.2.2.1,HX.out.2.2.2.1];exact subS_ok (notLG HX.out.2.2.2.2.2.2.2.2) (notLG HX.out.2.2.2.2.2.2.2.1) HX.out.2.2.2.2.2.2.1))
 clear C BW
 go_wp2_with fail
 refine H.out.mono ?_;rintro r u2 ⟨v,rfl,hN,hb⟩;obtain ⟨a2,c2,rfl,_⟩:=hN.arg (by omega)
 obtain C:=S1.out;have hz2:=C.size;have S2:=(sd (ai (C.trans (hb.mono C.size)) (hN.mono C.size)));clear C hb H hN;obtain ⟨C,N2⟩:=S2.out;have BW:Below w.heap.size w u2:=B0.out.trans (C.mono (by simp))
 have H0:=show Calls Tryz.prog 110 #[.bool (!neg),.slice a2 (ws V).length c2,.int .i64 e] u2 fun r w'=>DAns u2.heap.size w' r (mkS (!neg) V e)∧Below u2.heap.size u2 w' from by have:=Make_any (N2.arg' (by omega)).2 (HX.out.2.2.1.belows BW) (!neg) e (by omega) (by omega);rw [val_ws] at this;exact this
 unfold DAns at H0;rw [HS.out.1,HS.out.2.1,HS.out.2.2.1,HS.out.2.2.2.1,HS.out.2.2.2.2] at H0;have H:=hid H0;clear C BW H0 N2
 go_wp2_with fail
 refine H.out.mono ?_;rintro r uu ⟨⟨v,rfl,hN⟩,hb⟩;obtain ⟨aa,cc,rfl,_⟩:=hN.arg (by omega)
 obtain ⟨C,N2⟩:=S2.out;have hbb:=C.trans (hb.mono C.size);obtain ⟨hc,hf⟩:=bcell hbb;have HF:=sd (Fin.of 1 B0.out (by simp) (hN.mono C.size) hbb)
 have hz:w.heap.size<uu.heap.size:=by have:=hbb.size;simp at this;omega
 clear C hb hN hbb H N2;go_wp2;exact bodyPost_ret (v:=.tuple #[.agg #[.bool dn,.slice aa (ws X).length cc,.int .i64 de],.int .i64 er]) (by simp [results,Tryz.results91,go_sem,hc]) rfl (Fin.dans (m:=w.heap.size+1) (by repeat (first | exact HF.out | refine Fin.alloc ?_ _ | refine Fin.set ?_ _ _ _ (by omega) (by omega))) (by omega))
theorem diff_high {w:World}{a b:Option Addr}{l c k d:Nat}{xs ys:List Nat}(h1:Arg w a l c xs) (h2:Arg w b k d ys) (hT:Tab w) (neg:Bool) (e:Int) (he0:-1048576≤e) (he1:e≤1048576)
 (P Q:Nat) (hP:val xs=P) (hQ:val ys=Q) (bP:bl P≤262144) (bQ:bl Q≤262144) (hlt:Q≤P) :
 Calls Tryz.prog 91 #[.bool neg,.slice a l c,.slice b k d,.int .i64 e] w fun r w'=>DAns w.heap.size w' r (mkS neg (P-Q) e)∧Below w.heap.size w w':=by
 obtain ⟨z,hz0⟩:∃ z,cmpI P Q=z:=⟨_,rfl⟩;have hzz:0≤z:=by rw [←hz0];exact cmpI_ge hlt
 obtain ⟨V,hV⟩:∃ x,P-Q=x:=⟨_,rfl⟩;have bV:bl V≤262144:=by rw [←hV];exact Nat.le_trans (bl_mono (Nat.sub_le _ _)) bP
 rw [hV];have l1:=len8 bV;have hsub:V+Q=P:=by omega
 have HX:=(sd (ai h1 (ai h2 (ai hT (ai hP (ai hQ (ai hz0 (ai hsub (ai bP bQ)))))))));have hzf:decide (z<0)=false:=decide_eq_false (by omega)
 clear h1 h2 hT hP hQ hz0 hsub bP bQ hlt hV bV;unfold DAns;have hl:=mkS_len neg V e;obtain ⟨o,ho⟩:∃ o,mkS neg V e=o:=⟨_,rfl⟩;rw [ho] at hl ⊢;obtain ⟨dn,hdn⟩:∃ d,dN o=d:=⟨_,rfl⟩;obtain ⟨X,hX⟩:∃ d,dX o=d:=⟨_,rfl⟩;obtain ⟨de,hde⟩:∃ d,dE o=d:=⟨_,rfl⟩;obtain ⟨er,her⟩:∃ d,erS o=d:=⟨_,rfl⟩;rw [hdn,hX,hde,her];rw [hX] at hl;have HS:=(sd (ai ho (ai hdn (ai hX (ai hde her)))));clear ho hdn hX hde her;have S0:=sd (show Below (w.alloc (.cells #[.bool false,.slice none 0 0,.int .i64 0] 27)).heap.size (w.alloc (.cells #[.bool false,.slice none 0 0,.int .i64 0] 27)) (w.alloc (.cells #[.bool false,.slice none 0 0,.int .i64 0] 27)) from Below.refl _ _)
 have B0:=sd (show Below w.heap.size w (w.alloc (.cells #[.bool false,.slice none 0 0,.int .i64 0] 27)) from below_alloc w _)
 go_enter Tryz.func91,Tryz.ntmps91;obtain C:=S0.out;have BW:Below w.heap.size w (w.alloc (.cells #[.bool false,.slice none 0 0,.int .i64 0] 27)):=B0.out.trans (C.mono (by simp))
 have H:=hid (show Calls Tryz.prog 122 #[.slice a l c,.slice b k d] (w.alloc (.cells #[.bool false,.slice none 0 0,.int .i64 0] 27)) fun r w'=>r=.returned (.int .i64 z)∧Below (w.alloc (.cells #[.bool false,.slice none 0 0,.int .i64 0] 27)).heap.size (w.alloc (.cells #[.bool false,.slice none 0 0,.int .i64 0] 27)) w' from Cmp_arg (HX.out.1.below BW) (HX.out.2.1.below BW) z (by rw [HX.out.2.2.2.1,HX.out.2.2.2.2.1];exact HX.out.2.2.2.2.2.1))
 clear C BW
 go_wp2_with fail
 refine H.out.mono ?_;rintro r u1 ⟨rfl,hb⟩;obtain C:=S0.out;have hz1:=C.size;have S1:=sd (C.trans (hb.mono C.size));clear C hb H;obtain C:=S1.out;have BW:Below w.heap.size w u1:=B0.out.trans (C.mono (by simp))
 have H:=hid (Sub_arg (V:=V) (HX.out.1.below BW) (HX.out.2.1.below BW) (by rw [HX.out.2.2.2.1,HX.out.2.2.2.2.1];exact subS_ok (notLG HX.out.2.2.2.2.2.2.2.1) (notLG HX.out.2.2.2.2.2.2.2.2) HX.out.2.2.2.2.2.2.1))
 clear C BW
 go_wp2_with fail
 refine H.out.mono ?_;rintro r u2 ⟨v,rfl,hN,hb⟩;obtain ⟨a2,c2,rfl,_⟩:=hN.arg (by omega)
 obtain C:=S1.out;have hz2:=C.size;have S2:=(sd (ai (C.trans (hb.mono C.size)) (hN.mono C.size)));clear C hb H hN;obtain ⟨C,N2⟩:=S2.out;have BW:Below w.heap.size w u2:=B0.out.trans (C.mono (by simp))
 have H0:=show Calls Tryz.prog 110 #[.bool neg,.slice a2 (ws V).length c2,.int .i64 e] u2 fun r w'=>DAns u2.heap.size w' r (mkS neg V e)∧Below u2.heap.size u2 w' from by have:=Make_any (N2.arg' (by omega)).2 (HX.out.2.2.1.belows BW) neg e (by omega) (by omega);rw [val_ws] at this;exact this
 unfold DAns at H0;rw [HS.out.1,HS.out.2.1,HS.out.2.2.1,HS.out.2.2.2.1,HS.out.2.2.2.2] at H0;have H:=hid H0;clear C BW H0 N2
 go_wp2_with fail
 refine H.out.mono ?_;rintro r uu ⟨⟨v,rfl,hN⟩,hb⟩;obtain ⟨aa,cc,rfl,_⟩:=hN.arg (by omega)
 obtain ⟨C,N2⟩:=S2.out;have hbb:=C.trans (hb.mono C.size);obtain ⟨hc,hf⟩:=bcell hbb;have HF:=sd (Fin.of 1 B0.out (by simp) (hN.mono C.size) hbb)
 have hz:w.heap.size<uu.heap.size:=by have:=hbb.size;simp at this;omega
 clear C hb hN hbb H N2;go_wp2;exact bodyPost_ret (v:=.tuple #[.agg #[.bool dn,.slice aa (ws X).length cc,.int .i64 de],.int .i64 er]) (by simp [results,Tryz.results91,go_sem,hc]) rfl (Fin.dans (m:=w.heap.size+1) (by repeat (first | exact HF.out | refine Fin.alloc ?_ _ | refine Fin.set ?_ _ _ _ (by omega) (by omega))) (by omega))
end
section
open Go.RowKit
def Dk (w:World) (g:Nat) (n:Bool) (v:Value) (e:Int):Prop:=w.heap[g]?=some (.cells #[.bool n,v,.int .i64 e] 27 (0,0))
theorem Dk.lt {w:World}{g:Nat}{n:Bool}{v:Value}{e:Int}(h:Dk w g n v e):g<w.heap.size:=(Array.getElem?_eq_some_iff.1 h).1
theorem Dk.below {w w':World}{g:Nat}{n:Bool}{v:Value}{e:Int}(h:Dk w g n v e) (hb:Below w.heap.size w w'):Dk w' g n v e:=by
 unfold Dk;rw [hb.block g h.lt];exact h
theorem Dk.alloc {w:World}{g:Nat}{n:Bool}{v:Value}{e:Int}(h:Dk w g n v e) (o:Obj):Dk (w.alloc o) g n v e:=h.below (below_alloc w o)
theorem Dk.new (w:World) (n:Bool) (v:Value) (e:Int):Dk (w.alloc (.cells #[.bool n,v,.int .i64 e] 27)) w.heap.size n v e:=heap_alloc_new _ _
theorem Dk.facts {w:World}{g:Nat}{n:Bool}{v:Value}{e:Int}(h:Dk w g n v e) :
 w.cell? ⟨g,0,none⟩=some (.bool n)∧w.cell? ⟨g,1,none⟩=some v∧w.cell? ⟨g,2,none⟩=some (.int .i64 e)∧w.frozen? ⟨g,0,none⟩=false∧w.frozen? ⟨g,1,none⟩=false∧w.frozen? ⟨g,2,none⟩=false:=by
 unfold Dk at h;simp [World.cell?,World.frozen?,h]
abbrev st3 (w:World) (g:Nat) (x y z:Value):World:=((w.setCell ⟨g,0,none⟩ x).setCell ⟨g,1,none⟩ y).setCell ⟨g,2,none⟩ z
theorem st3_size (w:World) (g:Nat) (x y z:Value):(st3 w g x y z).heap.size=w.heap.size:=by simp [st3,World.setCell]
theorem Dk.set {w:World}{g:Nat}{n:Bool}{v:Value}{e:Int}(h:Dk w g n v e) (m:Bool) (u:Value) (f:Int):Dk (st3 w g (.bool m) u (.int .i64 f)) g m u f:=by
 unfold Dk at h ⊢;simp [st3,World.setCell,Array.getElem?_modify,h]
theorem Dk.other {w:World}{g:Nat}{n:Bool}{v:Value}{e:Int}(h:Dk w g n v e) (g':Nat) (hg:g≠g') (x y z:Value):Dk (st3 w g' x y z) g n v e:=by
 unfold Dk;rw [(set3_but g' w x y z).block g h.lt hg];exact h
theorem Fin.st3 {lo m:Nat}{w0 w:World}{v:Value}{X:Nat}(H:Fin lo m w0 w v X) (g:Nat) (x y z:Value) (h1:lo≤g) (h2:g<m):Fin lo m w0 (st3 w g x y z) v X:=((H.set g 0 x h1 h2).set g 1 y h1 h2).set g 2 z h1 h2
theorem Fin.below {lo m:Nat}{w0 w w':World}{v:Value}{X:Nat}(H:Fin lo m w0 w v X) (hb:Below w.heap.size w w'):Fin lo m w0 w' v X:=⟨H.nt.below hb,H.bel.trans (hb.mono H.size),Nat.le_trans H.size hb.size⟩
theorem Fin.drew {lo m:Nat}{w0 w:World}{v:Value}{X:Nat}(H:Fin lo m w0 w v X):Fin lo m w0 w.drew v X:=⟨H.nt,H.bel.drew,H.size⟩
theorem Fin.pair {lo m:Nat}{w0 w:World}{v v':Value}{X X':Nat}{n n':Bool}{e e':Int}{k:Value}(H:Fin lo m w0 w v X) (H':Fin lo m w0 w v' X') (h:lo≤m) :
 ∃ p q,Ending.returned (.tuple #[.agg #[.bool n,v,.int .i64 e],.agg #[.bool n',v',.int .i64 e'],k])=.returned (.tuple #[.agg #[.bool n,p,.int .i64 e],.agg #[.bool n',q,.int .i64 e'],k])∧Nt lo w p X∧Nt lo w q X'∧Below lo w0 w:=⟨v,v',rfl,H.nt.mono h,H'.nt.mono h,H.bel⟩
theorem forms_res (W:World) (g h:Nat) (n m:Bool) (v u:Value) (e f k:Int) (tmps:Array Value) (ht:tmps[4]?.getD undef=.pointer (some ⟨g,0,none⟩)) (hs:tmps[5]?.getD undef=.pointer (some ⟨h,0,none⟩)) (hk:tmps[6]?.getD undef=.int .i64 k) (D:Dk W g n v e) (E:Dk W h m u f) :
 (results Tryz.f88 tmps).run Tryz.prog W=.ok (.tuple #[.agg #[.bool n,v,.int .i64 e],.agg #[.bool m,u,.int .i64 f],.int .i64 k]) W:=by
 obtain ⟨x0,x1,x2,xf0,xf1,xf2⟩:=D.facts;obtain ⟨y0,y1,y2,yf0,yf1,yf2⟩:=E.facts;simp [results,Tryz.results88,ht,hs,hk,go_sem,x0,x1,x2,y0,y1,y2]
theorem forms_ok {w:World}{a b:Option Addr}{l c k d:Nat}{xs ys:List Nat}(h1:Arg w a l c xs) (h2:Arg w b k d ys) (hT:Tab w) (n m:Bool) (e f:Int) (he0:-9223372036854775808≤e) (he1:e≤9223372036854775807) (hf0:-9223372036854775808≤f) (hf1:f≤9223372036854775807)
 (n1 m1:Bool) (X Y:Nat) (e1 f1:Int) (hx:mkS n (val xs) e=some (n1,X,e1)) (hy:mkS m (val ys) f=some (m1,Y,f1)) :
 Calls Tryz.prog 88 #[.agg #[.bool n,.slice a l c,.int .i64 e],.agg #[.bool m,.slice b k d,.int .i64 f]] w fun r w' =>
  ∃ v u,r=.returned (.tuple #[.agg #[.bool n1,v,.int .i64 e1],.agg #[.bool m1,u,.int .i64 f1],.int .i64 0])∧Nt w.heap.size w' v X∧Nt w.heap.size w' u Y∧Below w.heap.size w w':=by
 obtain ⟨W1,hW1⟩:∃ W,W=(((w.alloc (.cells #[.bool n,.slice a l c,.int .i64 e] 27)).alloc (.cells #[.bool m,.slice b k d,.int .i64 f] 27)).alloc (.cells #[.bool false,.slice none 0 0,.int .i64 0] 27)).alloc (.cells #[.bool false,.slice none 0 0,.int .i64 0] 27):=⟨_,rfl⟩;have hB:Below w.heap.size w W1:=by rw [hW1];exact (((below_alloc w _).alloc (by simp) _).alloc (by simp;omega) _).alloc (by simp;omega) _
 have hz1:W1.heap.size=w.heap.size+4:=by rw [hW1];simp
 have D1:Dk W1 (w.heap.size+1) m (.slice b k d) f:=by rw [hW1];have:=((Dk.new (w.alloc (.cells #[.bool n,.slice a l c,.int .i64 e] 27)) m (.slice b k d) f).alloc (.cells #[.bool false,.slice none 0 0,.int .i64 0] 27)).alloc (.cells #[.bool false,.slice none 0 0,.int .i64 0] 27);simpa using this
 have D2:Dk W1 (w.heap.size+1+1) false (.slice none 0 0) 0:=by rw [hW1];have:=(Dk.new ((w.alloc (.cells #[.bool n,.slice a l c,.int .i64 e] 27)).alloc (.cells #[.bool m,.slice b k d,.int .i64 f] 27)) false (.slice none 0 0) 0).alloc (.cells #[.bool false,.slice none 0 0,.int .i64 0] 27);simpa using this
 have D3:Dk W1 (w.heap.size+1+1+1) false (.slice none 0 0) 0:=by rw [hW1];have:=Dk.new (((w.alloc (.cells #[.bool n,.slice a l c,.int .i64 e] 27)).alloc (.cells #[.bool m,.slice b k d,.int .i64 f] 27)).alloc (.cells #[.bool false,.slice none 0 0,.int .i64 0] 27)) false (.slice none 0 0) 0;simpa using this
 have HF1:=form_any (h1.below hB) (hT.belows hB) n e he0 he1;have HF2:Hid (∀ u,Below w.heap.size w u→Calls Tryz.prog 94 #[.agg #[.bool m,.slice b k d,.int .i64 f]] u fun r w'=>DAns u.heap.size w' r (mkS m (val ys) f)∧Below u.heap.size u w'):=fun u hu=>form_any (h2.below hu) (hT.belows hu) m f hf0 hf1
 have lX:(ws X).length≤8192:=by have:=mkS_len n (val xs) e;rw [hx] at this;exact this
 have lY:(ws Y).length≤8192:=by have:=mkS_len m (val ys) f;rw [hy] at this;exact this
 rw [hx] at HF1;rw [hy] at HF2;simp only [DAns,dN,dX,dE,erS,Option.isSome,Option.getD,if_true,Bool.false_eq_true,if_false] at HF1 HF2;have H1:=hid HF1;have SB:=(sd (ai hB (ai hz1 (ai D1 (ai D2 D3)))));clear HF1 h1 h2 hT hx hy he0 he1 hf0 hf1 hB hz1 D1 D2 D3;go_enter Tryz.func88,Tryz.ntmps88
 go_wp2_with fail
 rw [←hW1];clear hW1;refine H1.out.mono ?_;rintro r u1 ⟨⟨v,rfl,hN⟩,hb⟩;obtain ⟨a1,c1,rfl,_⟩:=hN.arg (by omega)
 obtain ⟨hB,hz1,D1,D2,D3⟩:=SB.out;have E1:=D1.below hb;have E2:=D2.below hb;have E3:=D3.below hb;obtain ⟨p0,p1,p2,pf0,pf1,pf2⟩:=E1.facts;obtain ⟨q0,q1,q2,qf0,qf1,qf2⟩:=E2.facts;have F1:Fin w.heap.size (w.heap.size+4) w u1 (.slice a1 (ws X).length c1) X:=⟨by rw [←hz1];exact hN,hB.trans (hb.mono (by omega)),by have:=hb.size;omega⟩
 obtain ⟨U1,hU1⟩:∃ U,U=st3 u1 (w.heap.size+1+1) (.bool n1) (.slice a1 (ws X).length c1) (.int .i64 e1):=⟨_,rfl⟩;have G1:Fin w.heap.size (w.heap.size+4) w U1 (.slice a1 (ws X).length c1) X:=by rw [hU1];exact F1.st3 _ _ _ _ (by omega) (by omega)
 have I2:Dk U1 (w.heap.size+1+1) n1 (.slice a1 (ws X).length c1) e1:=by rw [hU1];exact E2.set _ _ _
 have I3:Dk U1 (w.heap.size+1+1+1) false (.slice none 0 0) 0:=by rw [hU1];exact E3.other _ (by omega) _ _ _
 have I1:Dk U1 (w.heap.size+1) m (.slice b k d) f:=by rw [hU1];exact E1.other _ (by omega) _ _ _
 have hsz1:U1.heap.size=u1.heap.size:=by rw [hU1];exact st3_size _ _ _ _ _
 have H2:=hid (HF2.out _ G1.bel);have S1:=(sd (ai G1 (ai I2 I3)));obtain ⟨i0,i1,i2,if0,if1,if2⟩:=I1.facts;have hz4:w.heap.size+4≤U1.heap.size:=by rw [hsz1];have:=hb.size;omega
 clear hN hb F1 G1 H1 hB hz1 D1 D2 D3 E1 E2 E3 I2 I3 I1 SB hsz1;unfold st3 at hU1
 go_wp2_with fail
 rw [←hU1];clear hU1;refine H2.out.mono ?_;rintro r u2 ⟨⟨v,rfl,hN⟩,hb⟩;obtain ⟨a2,c2,rfl,_⟩:=hN.arg (by omega)
 obtain ⟨G1,I2,I3⟩:=S1.out;have J2:=I2.below hb;have J3:=I3.below hb;obtain ⟨U2,hU2⟩:∃ U,U=st3 u2 (w.heap.size+1+1+1) (.bool m1) (.slice a2 (ws Y).length c2) (.int .i64 f1):=⟨_,rfl⟩;have K2:Dk U2 (w.heap.size+1+1) n1 (.slice a1 (ws X).length c1) e1:=by rw [hU2];exact J2.other _ (by omega) _ _ _
 have K3:Dk U2 (w.heap.size+1+1+1) m1 (.slice a2 (ws Y).length c2) f1:=by rw [hU2];exact J3.set _ _ _
 have Q1:=sd (show Fin w.heap.size (w.heap.size+4) w U2 (.slice a1 (ws X).length c1) X by rw [hU2];exact (G1.below hb).st3 _ _ _ _ (by omega) (by omega))
 have Q2:=sd (show Fin w.heap.size (w.heap.size+4) w U2 (.slice a2 (ws Y).length c2) Y by rw [hU2];exact Fin.st3 ⟨hN.mono hz4,(G1.below hb).bel,(G1.below hb).size⟩ _ _ _ _ (by omega) (by omega))
 obtain ⟨s0,s1,s2,sf0,sf1,sf2⟩:=J3.facts;obtain ⟨x0,x1,x2,xf0,xf1,xf2⟩:=K2.facts;obtain ⟨y0,y1,y2,yf0,yf1,yf2⟩:=K3.facts;clear hN hb H2 S1 G1 I2 I3 J2 J3 K2 K3;unfold st3 at hU2;go_wp2;rw [←hU2];clear hU2 HF2
 go_region
 all_goals (
  go_wp2;refine bodyPost_ret (v:=.tuple #[.agg #[.bool n1,.slice a1 (ws X).length c1,.int .i64 e1],.agg #[.bool m1,.slice a2 (ws Y).length c2,.int .i64 f1],.int .i64 0]) (by simp [results,Tryz.results88,go_sem,x0,x1,x2,y0,y1,y2]) rfl ?_
  refine Fin.pair (m:=w.heap.size+4) ?_ ?_ (by omega)
  · repeat (with_reducible first | exact Q1.out | refine Fin.drew ?_ | refine Fin.alloc ?_ _ | refine Fin.set ?_ _ _ _ (by omega) (by omega))
  · repeat (with_reducible first | exact Q2.out | refine Fin.drew ?_ | refine Fin.alloc ?_ _ | refine Fin.set ?_ _ _ _ (by omega) (by omega)))
theorem forms_bad1 {w:World}{a b:Option Addr}{l c k d:Nat}{xs ys:List Nat}(h1:Arg w a l c xs) (h2:Arg w b k d ys) (hT:Tab w) (n m:Bool) (e f:Int) (he0:-9223372036854775808≤e) (he1:e≤9223372036854775807) (hf0:-9223372036854775808≤f) (hf1:f≤9223372036854775807)
 (hx:mkS n (val xs) e=none) :
 Calls Tryz.prog 88 #[.agg #[.bool n,.slice a l c,.int .i64 e],.agg #[.bool m,.slice b k d,.int .i64 f]] w fun r w' =>
  r=.returned (.tuple #[.agg #[.bool false,.slice none 0 0,.int .i64 0],.agg #[.bool false,.slice none 0 0,.int .i64 0],.int .i64 2])∧Below w.heap.size w w':=by
 obtain ⟨W1,hW1⟩:∃ W,W=(((w.alloc (.cells #[.bool n,.slice a l c,.int .i64 e] 27)).alloc (.cells #[.bool m,.slice b k d,.int .i64 f] 27)).alloc (.cells #[.bool false,.slice none 0 0,.int .i64 0] 27)).alloc (.cells #[.bool false,.slice none 0 0,.int .i64 0] 27):=⟨_,rfl⟩;have hB:Below w.heap.size w W1:=by rw [hW1];exact (((below_alloc w _).alloc (by simp) _).alloc (by simp;omega) _).alloc (by simp;omega) _
 have hz1:W1.heap.size=w.heap.size+4:=by rw [hW1];simp
 have D1:Dk W1 (w.heap.size+1) m (.slice b k d) f:=by rw [hW1];have:=((Dk.new (w.alloc (.cells #[.bool n,.slice a l c,.int .i64 e] 27)) m (.slice b k d) f).alloc (.cells #[.bool false,.slice none 0 0,.int .i64 0] 27)).alloc (.cells #[.bool false,.slice none 0 0,.int .i64 0] 27);simpa using this
 have D2:Dk W1 (w.heap.size+1+1) false (.slice none 0 0) 0:=by rw [hW1];have:=(Dk.new ((w.alloc (.cells #[.bool n,.slice a l c,.int .i64 e] 27)).alloc (.cells #[.bool m,.slice b k d,.int .i64 f] 27)) false (.slice none 0 0) 0).alloc (.cells #[.bool false,.slice none 0 0,.int .i64 0] 27);simpa using this
 have D3:Dk W1 (w.heap.size+1+1+1) false (.slice none 0 0) 0:=by rw [hW1];have:=Dk.new (((w.alloc (.cells #[.bool n,.slice a l c,.int .i64 e] 27)).alloc (.cells #[.bool m,.slice b k d,.int .i64 f] 27)).alloc (.cells #[.bool false,.slice none 0 0,.int .i64 0] 27)) false (.slice none 0 0) 0;simpa using this
 have HF1:=form_any (h1.below hB) (hT.belows hB) n e he0 he1;have l0:(ws 0).length=0:=by rw [ws_zero];rfl
 rw [hx] at HF1;simp only [DAns,dN,dX,dE,erS,Option.isSome,Option.getD,if_true,Bool.false_eq_true,if_false] at HF1;have H1:=hid HF1;have SB:=(sd (ai hB (ai hz1 (ai D1 (ai D2 D3)))));clear HF1 h1 h2 hT hx he0 he1 hf0 hf1 hB hz1 D1 D2 D3;go_enter Tryz.func88,Tryz.ntmps88
 go_wp2_with fail
 rw [←hW1];clear hW1;refine H1.out.mono ?_;rintro r u1 ⟨⟨v,rfl,hN⟩,hb⟩;obtain ⟨a1,c1,rfl,_⟩:=hN.arg (by omega)
 obtain ⟨hB,hz1,D1,D2,D3⟩:=SB.out;have E2:=D2.below hb;have E3:=D3.below hb;obtain ⟨q0,q1,q2,qf0,qf1,qf2⟩:=E2.facts;obtain ⟨y0,y1,y2,yf0,yf1,yf2⟩:=E3.facts;have F1:=sd (show Fin w.heap.size (w.heap.size+4) w u1 (.slice none 0 0) 0 from ⟨Nt.nil _ _,hB.trans (hb.mono (by omega)),by have:=hb.size;omega⟩)
 have SE:=(sd (ai E2 E3));clear hN hb H1 hB hz1 D1 D2 D3 E2 E3 SB;go_wp2;obtain ⟨E2,E3⟩:=SE.out;refine bodyPost_ret (forms_res _ (w.heap.size+1+1) (w.heap.size+1+1+1) false false (.slice none 0 0) (.slice none 0 0) 0 0 2 _ rfl rfl rfl (((E2.set _ _ _).set _ _ _).other _ (by omega) _ _ _) (((E3.other _ (by omega) _ _ _).other _ (by omega) _ _ _).set _ _ _)) rfl ⟨rfl,?_⟩
 refine Fin.bel (m:=w.heap.size+4) (v:=.slice none 0 0) (X:=0) ?_
 repeat (with_reducible first | exact F1.out | refine Fin.drew ?_ | refine Fin.alloc ?_ _ | refine Fin.set ?_ _ _ _ (by omega) (by omega))
theorem forms_bad2 {w:World}{a b:Option Addr}{l c k d:Nat}{xs ys:List Nat}(h1:Arg w a l c xs) (h2:Arg w b k d ys) (hT:Tab w) (n m:Bool) (e f:Int) (he0:-9223372036854775808≤e) (he1:e≤9223372036854775807) (hf0:-9223372036854775808≤f) (hf1:f≤9223372036854775807)
 (n1:Bool) (X:Nat) (e1:Int) (hx:mkS n (val xs) e=some (n1,X,e1)) (hy:mkS m (val ys) f=none) :
 Calls Tryz.prog 88 #[.agg #[.bool n,.slice a l c,.int .i64 e],.agg #[.bool m,.slice b k d,.int .i64 f]] w fun r w' =>
  r=.returned (.tuple #[.agg #[.bool false,.slice none 0 0,.int .i64 0],.agg #[.bool false,.slice none 0 0,.int .i64 0],.int .i64 2])∧Below w.heap.size w w':=by
 obtain ⟨W1,hW1⟩:∃ W,W=(((w.alloc (.cells #[.bool n,.slice a l c,.int .i64 e] 27)).alloc (.cells #[.bool m,.slice b k d,.int .i64 f] 27)).alloc (.cells #[.bool false,.slice none 0 0,.int .i64 0] 27)).alloc (.cells #[.bool false,.slice none 0 0,.int .i64 0] 27):=⟨_,rfl⟩;have hB:Below w.heap.size w W1:=by rw [hW1];exact (((below_alloc w _).alloc (by simp) _).alloc (by simp;omega) _).alloc (by simp;omega) _
 have hz1:W1.heap.size=w.heap.size+4:=by rw [hW1];simp
 have D1:Dk W1 (w.heap.size+1) m (.slice b k d) f:=by rw [hW1];have:=((Dk.new (w.alloc (.cells #[.bool n,.slice a l c,.int .i64 e] 27)) m (.slice b k d) f).alloc (.cells #[.bool false,.slice none 0 0,.int .i64 0] 27)).alloc (.cells #[.bool false,.slice none 0 0,.int .i64 0] 27);simpa using this
 have D2:Dk W1 (w.heap.size+1+1) false (.slice none 0 0) 0:=by rw [hW1];have:=(Dk.new ((w.alloc (.cells #[.bool n,.slice a l c,.int .i64 e] 27)).alloc (.cells #[.bool m,.slice b k d,.int .i64 f] 27)) false (.slice none 0 0) 0).alloc (.cells #[.bool false,.slice none 0 0,.int .i64 0] 27);simpa using this
 have D3:Dk W1 (w.heap.size+1+1+1) false (.slice none 0 0) 0:=by rw [hW1];have:=Dk.new (((w.alloc (.cells #[.bool n,.slice a l c,.int .i64 e] 27)).alloc (.cells #[.bool m,.slice b k d,.int .i64 f] 27)).alloc (.cells #[.bool false,.slice none 0 0,.int .i64 0] 27)) false (.slice none 0 0) 0;simpa using this
 have HF1:=form_any (h1.below hB) (hT.belows hB) n e he0 he1;have HF2:Hid (∀ u,Below w.heap.size w u→Calls Tryz.prog 94 #[.agg #[.bool m,.slice b k d,.int .i64 f]] u fun r w'=>DAns u.heap.size w' r (mkS m (val ys) f)∧Below u.heap.size u w'):=fun u hu=>form_any (h2.below hu) (hT.belows hu) m f hf0 hf1
 have lX:(ws X).length≤8192:=by have:=mkS_len n (val xs) e;rw [hx] at this;exact this
 have l0:(ws 0).length=0:=by rw [ws_zero];rfl
 rw [hx] at HF1;rw [hy] at HF2;simp only [DAns,dN,dX,dE,erS,Option.isSome,Option.getD,if_true,Bool.false_eq_true,if_false] at HF1 HF2;have H1:=hid HF1;have SB:=(sd (ai hB (ai hz1 (ai D1 (ai D2 D3)))));clear HF1 h1 h2 hT hx hy he0 he1 hf0 hf1 hB hz1 D1 D2 D3;go_enter Tryz.func88,Tryz.ntmps88
 go_wp2_with fail
 rw [←hW1];clear hW1;refine H1.out.mono ?_;rintro r u1 ⟨⟨v,rfl,hN⟩,hb⟩;obtain ⟨a1,c1,rfl,_⟩:=hN.arg (by omega)
 obtain ⟨hB,hz1,D1,D2,D3⟩:=SB.out;have E1:=D1.below hb;have E2:=D2.below hb;have E3:=D3.below hb;obtain ⟨p0,p1,p2,pf0,pf1,pf2⟩:=E1.facts;obtain ⟨q0,q1,q2,qf0,qf1,qf2⟩:=E2.facts;have F1:Fin w.heap.size (w.heap.size+4) w u1 (.slice a1 (ws X).length c1) X:=⟨by rw [←hz1];exact hN,hB.trans (hb.mono (by omega)),by have:=hb.size;omega⟩
 obtain ⟨U1,hU1⟩:∃ U,U=st3 u1 (w.heap.size+1+1) (.bool n1) (.slice a1 (ws X).length c1) (.int .i64 e1):=⟨_,rfl⟩;have G1:Fin w.heap.size (w.heap.size+4) w U1 (.slice a1 (ws X).length c1) X:=by rw [hU1];exact F1.st3 _ _ _ _ (by omega) (by omega)
 have I2:Dk U1 (w.heap.size+1+1) n1 (.slice a1 (ws X).length c1) e1:=by rw [hU1];exact E2.set _ _ _
 have I3:Dk U1 (w.heap.size+1+1+1) false (.slice none 0 0) 0:=by rw [hU1];exact E3.other _ (by omega) _ _ _
 have I1:Dk U1 (w.heap.size+1) m (.slice b k d) f:=by rw [hU1];exact E1.other _ (by omega) _ _ _
 have hsz1:U1.heap.size=u1.heap.size:=by rw [hU1];exact st3_size _ _ _ _ _
 have H2:=hid (HF2.out _ G1.bel);have S1:=(sd (ai G1 (ai I2 I3)));obtain ⟨i0,i1,i2,if0,if1,if2⟩:=I1.facts;have hz4:w.heap.size+4≤U1.heap.size:=by rw [hsz1];have:=hb.size;omega
 clear hN hb F1 G1 H1 hB hz1 D1 D2 D3 E1 E2 E3 I2 I3 I1 SB hsz1;unfold st3 at hU1
 go_wp2_with fail
 rw [←hU1];clear hU1;refine H2.out.mono ?_;rintro r u2 ⟨⟨v,rfl,hN⟩,hb⟩;obtain ⟨a2,c2,rfl,_⟩:=hN.arg (by omega)
 obtain ⟨G1,I2,I3⟩:=S1.out;have J2:=I2.below hb;have J3:=I3.below hb;have Q1:=sd (G1.below hb);obtain ⟨s0,s1,s2,sf0,sf1,sf2⟩:=J3.facts;obtain ⟨x0,x1,x2,xf0,xf1,xf2⟩:=J2.facts;have SE:=(sd (ai J2 J3));clear hN hb H2 S1 G1 I2 I3 J2 J3;go_wp2;obtain ⟨E2,E3⟩:=SE.out;refine bodyPost_ret (forms_res _ (w.heap.size+1+1) (w.heap.size+1+1+1) false false (.slice none 0 0) (.slice none 0 0) 0 0 2 _ rfl rfl rfl (((E2.other _ (by omega) _ _ _).set _ _ _).other _ (by omega) _ _ _) (((E3.set _ _ _).other _ (by omega) _ _ _).set _ _ _)) rfl ⟨rfl,?_⟩
 refine Fin.bel (m:=w.heap.size+4) (v:=.slice a1 (ws X).length c1) (X:=X) ?_
 repeat (with_reducible first | exact Q1.out | refine Fin.drew ?_ | refine Fin.alloc ?_ _ | refine Fin.set ?_ _ _ _ (by omega) (by omega))
end
section
open Go.RowKit
def Tk (w:World) (g T:Nat) (x y z:Value):Prop:=w.heap[g]?=some (.cells #[x,y,z] T (0,0))
theorem Tk.lt {w:World}{g T:Nat}{x y z:Value}(h:Tk w g T x y z):g<w.heap.size:=(Array.getElem?_eq_some_iff.1 h).1
theorem Tk.below {w w':World}{g T:Nat}{x y z:Value}(h:Tk w g T x y z) (hb:Below w.heap.size w w'):Tk w' g T x y z:=by
 unfold Tk;rw [hb.block g h.lt];exact h
theorem Tk.alloc {w:World}{g T:Nat}{x y z:Value}(h:Tk w g T x y z) (o:Obj):Tk (w.alloc o) g T x y z:=h.below (below_alloc w o)
theorem Tk.new (w:World) (T:Nat) (x y z:Value):Tk (w.alloc (.cells #[x,y,z] T)) w.heap.size T x y z:=heap_alloc_new _ _
theorem Tk.facts {w:World}{g T:Nat}{x y z:Value}(h:Tk w g T x y z) :
 w.cell? ⟨g,0,none⟩=some x∧w.cell? ⟨g,1,none⟩=some y∧w.cell? ⟨g,2,none⟩=some z∧w.frozen? ⟨g,0,none⟩=false∧w.frozen? ⟨g,1,none⟩=false∧w.frozen? ⟨g,2,none⟩=false:=by
 unfold Tk at h;simp [World.cell?,World.frozen?,h]
theorem Tk.set {w:World}{g T:Nat}{x y z:Value}(h:Tk w g T x y z) (a b c:Value):Tk (st3 w g a b c) g T a b c:=by
 unfold Tk at h ⊢;simp [st3,World.setCell,Array.getElem?_modify,h]
theorem Tk.but {w w':World}{g g' T:Nat}{x y z:Value}(h:Tk w g T x y z) (hb:But g' w w') (hg:g≠g'):Tk w' g T x y z:=by
 unfold Tk;rw [hb.block g h.lt hg];exact h
theorem Dk.tk {w:World}{g:Nat}{n:Bool}{v:Value}{e:Int}(h:Dk w g n v e):Tk w g 27 (.bool n) v (.int .i64 e):=h
def Rq (w:World) (g:Nat) (n:Bool) (v:Value) (e:Int) (m:Bool) (u:Value) (f:Int):Prop:=w.heap[g]?=some (.cells #[.bool n,v,.int .i64 e,.bool m,u,.int .i64 f] 30 (0,0))
theorem Rq.lt {w:World}{g:Nat}{n:Bool}{v:Value}{e:Int}{m:Bool}{u:Value}{f:Int}(h:Rq w g n v e m u f):g<w.heap.size:=(Array.getElem?_eq_some_iff.1 h).1
theorem Rq.below {w w':World}{g:Nat}{n:Bool}{v:Value}{e:Int}{m:Bool}{u:Value}{f:Int}(h:Rq w g n v e m u f) (hb:Below w.heap.size w w'):Rq w' g n v e m u f:=by
 unfold Rq;rw [hb.block g h.lt];exact h
theorem Rq.alloc {w:World}{g:Nat}{n:Bool}{v:Value}{e:Int}{m:Bool}{u:Value}{f:Int}(h:Rq w g n v e m u f) (o:Obj):Rq (w.alloc o) g n v e m u f:=h.below (below_alloc w o)
theorem Rq.new (w:World) (n:Bool) (v:Value) (e:Int) (m:Bool) (u:Value) (f:Int):Rq (w.alloc (.cells #[.bool n,v,.int .i64 e,.bool m,u,.int .i64 f] 30)) w.heap.size n v e m u f:=heap_alloc_new _ _
theorem Rq.facts {w:World}{g:Nat}{n:Bool}{v:Value}{e:Int}{m:Bool}{u:Value}{f:Int}(h:Rq w g n v e m u f) :
 w.cell? ⟨g,0,none⟩=some (.bool n)∧w.cell? ⟨g,1,none⟩=some v∧w.cell? ⟨g,2,none⟩=some (.int .i64 e)∧w.cell? ⟨g,3,none⟩=some (.bool m)∧w.cell? ⟨g,4,none⟩=some u∧w.cell? ⟨g,5,none⟩=some (.int .i64 f):=by
 unfold Rq at h;simp [World.cell?,h]
theorem Rq.frz {w:World}{g:Nat}{n:Bool}{v:Value}{e:Int}{m:Bool}{u:Value}{f:Int}(h:Rq w g n v e m u f) :
 w.frozen? ⟨g,0,none⟩=false∧w.frozen? ⟨g,1,none⟩=false∧w.frozen? ⟨g,2,none⟩=false∧w.frozen? ⟨g,3,none⟩=false∧w.frozen? ⟨g,4,none⟩=false∧w.frozen? ⟨g,5,none⟩=false:=by
 unfold Rq at h;simp [World.frozen?,h]
abbrev st6 (w:World) (g:Nat) (a b c d e f:Value):World:=(((((w.setCell ⟨g,0,none⟩ a).setCell ⟨g,1,none⟩ b).setCell ⟨g,2,none⟩ c).setCell ⟨g,3,none⟩ d).setCell ⟨g,4,none⟩ e).setCell ⟨g,5,none⟩ f
theorem st6_but (g:Nat) (w:World) (a b c d e f:Value):But g w (st6 w g a b c d e f):=((((((But.refl g w).set _ _).set _ _).set _ _).set _ _).set _ _).set _ _
theorem st6_size (w:World) (g:Nat) (a b c d e f:Value):(st6 w g a b c d e f).heap.size=w.heap.size:=by simp [st6,World.setCell]
theorem Rq.set {w:World}{g:Nat}{n:Bool}{v:Value}{e:Int}{m:Bool}{u:Value}{f:Int}(h:Rq w g n v e m u f) (n':Bool) (v':Value) (e':Int) (m':Bool) (u':Value) (f':Int) :
 Rq (st6 w g (.bool n') v' (.int .i64 e') (.bool m') u' (.int .i64 f')) g n' v' e' m' u' f':=by
 unfold Rq at h ⊢;simp [st6,World.setCell,Array.getElem?_modify,h]
theorem Rq.but {w w':World}{g g':Nat}{n:Bool}{v:Value}{e:Int}{m:Bool}{u:Value}{f:Int}(h:Rq w g n v e m u f) (hb:But g' w w') (hg:g≠g'):Rq w' g n v e m u f:=by
 unfold Rq;rw [hb.block g h.lt hg];exact h
theorem Nt.off {lo:Nat}{w w':World}{v:Value}{X g:Nat}(h:Nt lo w v X) (hb:But g w w') (hg:v.ownBlock≠Option.some g):Nt lo w' v X:=by
 refine ⟨h.1,?_⟩
 rcases h.2 with hn|⟨g',cap,cur,rfl,hlo,hg',rest⟩
 · exact .inl hn
 · refine .inr ⟨g',cap,cur,rfl,hlo,?_,rest⟩
   rw [hb.block g' (Array.getElem?_eq_some_iff.1 hg').1 (by intro e;subst e;exact hg (by simp [Value.ownBlock]))];exact hg'
theorem Nt.notin {lo:Nat}{w:World}{v:Value}{X g T:Nat}{C:Array Value}{fz:Nat×Nat}(h:Nt lo w v X) (hT:T≠23) (hg:w.heap[g]?=Option.some (.cells C T fz)):v.ownBlock≠Option.some g:=by
 intro e
 rcases h.2 with ⟨rfl,_⟩|⟨g',cap,cur,rfl,_,h2,_⟩
 · simp [Value.ownBlock] at e
 · simp [Value.ownBlock] at e
   subst e;rw [hg] at h2;simp at h2;exact hT h2.2.1
theorem Nt.st3k {lo:Nat}{w:World}{v:Value}{X g T:Nat}{x y z:Value}(h:Nt lo w v X) (D:Tk w g T x y z) (hT:T≠23) (a b c:Value):Nt lo (st3 w g a b c) v X:=h.off (set3_but g w a b c) (h.notin hT D)
theorem Nt.st6k {lo:Nat}{w:World}{v:Value}{X g:Nat}{n:Bool}{p:Value}{e:Int}{m:Bool}{u:Value}{f:Int}(h:Nt lo w v X) (D:Rq w g n p e m u f) (a b c d q r:Value):Nt lo (st6 w g a b c d q r) v X:=h.off (st6_but g w a b c d q r) (h.notin (by decide) D)
theorem below_st3 {B g:Nat}{a w:World}(h:Below B a w) (hB:B≤w.heap.size) (hg:B≤g) (x y z:Value):Below B a (st3 w g x y z):=But.below h (set3_but g w x y z) hB hg
theorem below_st6 {B g:Nat}{a w:World}(h:Below B a w) (hB:B≤w.heap.size) (hg:B≤g) (x y z p q r:Value):Below B a (st6 w g x y z p q r):=But.below h (st6_but g w x y z p q r) hB hg
def Ap (v u:Value):Prop:=∀ g,v.ownBlock=some g→u.ownBlock≠some g
theorem Nt.blk {lo:Nat}{w:World}{v:Value}{X g:Nat}(h:Nt lo w v X) (hg:v.ownBlock=Option.some g):lo≤g∧g<w.heap.size:=by
 rcases h.2 with ⟨rfl,_⟩|⟨g',cap,cur,rfl,h1,h2,_⟩
 · simp [Value.ownBlock] at hg
 · simp [Value.ownBlock] at hg
   subst hg;exact ⟨h1,(Array.getElem?_eq_some_iff.1 h2).1⟩
theorem Nt.ap {lo:Nat}{w w':World}{v u:Value}{X Y:Nat}(h:Nt lo w v X) (k:Nt w.heap.size w' u Y):Ap v u:=by
 intro g hg hu;have:=(h.blk hg).2;have:=(k.blk hu).1;omega
theorem Ap.nil (u:Value) (l c:Nat):Ap (.slice none l c) u:=by intro g hg;simp [Value.ownBlock] at hg
def RAns (lo:Nat) (w:World) (r:Ending) (o p:Option (Bool×Nat×Int)) (er:Int):Prop :=
 ∃ v u,r=.returned (.tuple #[.agg #[.bool (dN o),v,.int .i64 (dE o),.bool (dN p),u,.int .i64 (dE p)],.int .i64 er])∧Nt lo w v (dX o)∧Nt lo w u (dX p)∧Ap v u
theorem ws0:(ws 0).length=0:=by rw [ws_zero];rfl
end
end Go.Proofs.YtdimlelcgapobaaGreatDoor
