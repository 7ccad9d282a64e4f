import Derived.Test.YtnpchhjhoadehaaGreatDoorS9x
import Derived.Test.YtnpchhjhoadehaaGreatDoorW26x
import Derived.Test.YtnpchhjhoadehaaGreatDoorM1x
import Derived.Deep.RegionWith
import Derived.Test.YtnpchhjhoadehaaGreatDoorD21x
import Derived.Test.YtnpchhjhoadehaaGreatDoorD16x
import Derived.Test.YtnpchhjhoadehaaGreatDoorJ11x
set_option linter.unusedVariables false
set_option linter.unusedSimpArgs false
set_option maxHeartbeats 16000000
set_option maxRecDepth 20000
namespace Go.Proofs.YtnpchhjhoadehaaGreatDoor
namespace J
end J
section
open Go.RowKit
theorem neg7_val (N:Nat) (V:Int) (h:(N:Int)=V%(PB:Int)) (h0:-(HB:Int)<V) (h1:V<(HB:Int)):neg7 N=decide (V<0)∧mag7 N=V.natAbs:=by
 have e:=PB_HB;have hp:=HB_pos;unfold mag7 neg7
 by_cases hv:0≤V
 · rw [Int.emod_eq_of_lt hv (by omega)] at h
   rw [decide_eq_false (by omega),decide_eq_false (by omega)]
   refine ⟨rfl,?_⟩;rw [if_neg (by decide)]
   omega
 · have h2:V%(PB:Int)=V+PB:=by
    rw [←Int.add_emod_right,Int.emod_eq_of_lt (by omega) (by omega)]
   rw [h2] at h;rw [decide_eq_true (by omega),decide_eq_true (by omega)]
   refine ⟨rfl,?_⟩;rw [if_pos rfl];omega
def exV (V:Int):Option (Bool×Nat×Int):=mkS (decide (V<0)) V.natAbs (-2148)
theorem _root_.Nat.le.ne7 {a b c:Nat}(h:a≤b) (e:a=c+1):b≠c:=by omega
theorem Nt.lo7 {lo k:Nat}{w:World}{v:Value}{X:Nat}(h:Nt lo w v X) (hk:k≤lo):k≤lo:=hk
theorem Tryz.row_dyad:∃ d:TypeDesc,Tryz.prog.underlying 77=some d∧d.isRow=true:=by
 have h:(Tryz.prog.underlying 77).any (·.isRow)=true:=by kernel_rfl
 obtain ⟨d,h1,h2⟩:=(Option.any_eq_true _ _).1 h;exact ⟨d,h1,h2⟩
theorem Tryz.size_dyad:(Tryz.prog.info? 77).map (·.size)=some 3:=by kernel_rfl
theorem row_result {fn:Func}{p:Tmp}{ty:TypeId}(h:fn.results=#[.cell p ty]) (tmps:Array Value) (w:World) (g:Nat) (cs:List Value)
 (hp:tmps.getD p undef=.pointer (some ⟨g,0,none⟩)) (hg:Bl w g ty cs) (hdr:∃ d:TypeDesc,Tryz.prog.underlying ty=some d∧d.isRow=true) (hi:(Tryz.prog.info? ty).map (·.size)=some cs.toArray.size) :
 (results fn tmps).run Tryz.prog w=.ok (.agg cs.toArray) w:=by
 obtain ⟨d,h1,h2⟩:=hdr
 cases d <;> first
  | exact results_cell_row (P:=Tryz.prog) h tmps w g ty _ _ _ hp hg h1 rfl hi
  | exact absurd h2 (by simp [TypeDesc.isRow])
theorem exact_close {w base:World}{tmps:Array Value}{o:Option (Bool×Nat×Int)}{v x y z:Value}{lo:Nat}(h2:tmps.getD 2 undef=.pointer (some ⟨w.heap.size,0,none⟩))
 (hZ:Bl base w.heap.size 77 [x,y,z]) (hbw:Below w.heap.size w base) (hN:Nt lo base v (dX o)) (hlo:w.heap.size<lo) :
 bodyPost Tryz.prog Tryz.f41 (fun r w'=>∃ v,r=.returned (.agg #[.bool (dN o),v,.int .i64 (dE o)])∧Nt w.heap.size w' v (dX o)∧Below w.heap.size w w') .ret ⟨tmps,[]⟩
  (((base.setCell ⟨w.heap.size,0,none⟩ (.bool (dN o))).setCell ⟨w.heap.size,1,none⟩ v).setCell ⟨w.heap.size,2,none⟩ (.int .i64 (dE o))):=by
 have q:Bl (((base.setCell ⟨w.heap.size,0,none⟩ (.bool (dN o))).setCell ⟨w.heap.size,1,none⟩ v).setCell ⟨w.heap.size,2,none⟩ (.int .i64 (dE o))) w.heap.size 77 [.bool (dN o),v,.int .i64 (dE o)]:=((hZ.set 0 _).set 1 _).set 2 _;have hbut:But w.heap.size base (((base.setCell ⟨w.heap.size,0,none⟩ (.bool (dN o))).setCell ⟨w.heap.size,1,none⟩ v).setCell ⟨w.heap.size,2,none⟩ (.int .i64 (dE o))):=(((But.refl _ _).set 0 _).set 1 _).set 2 _;refine bodyPost_ret (v:=.agg #[.bool (dN o),v,.int .i64 (dE o)]) (row_result Tryz.results41 _ _ w.heap.size [.bool (dN o),v,.int .i64 (dE o)] h2 q Tryz.row_dyad (by rw [Tryz.size_dyad];rfl)) rfl ?_
 exact ⟨v,rfl,(hN.but7 hbut hlo).mono (by omega),But.below hbw hbut hbw.size (Nat.le_refl _)⟩
theorem exact_close2 {w base:World}{tmps:Array Value}{o:Option (Bool×Nat×Int)}{v x y z:Value}{lo:Nat}{ob:Obj}(h2:tmps.getD 2 undef=.pointer (some ⟨w.heap.size,0,none⟩))
 (hZ:Bl base w.heap.size 77 [x,y,z]) (hbw:Below w.heap.size w base) (hN:Nt lo base v (dX o)) (hlo:w.heap.size<lo) :
 bodyPost Tryz.prog Tryz.f41 (fun r w'=>∃ v,r=.returned (.agg #[.bool (dN o),v,.int .i64 (dE o)])∧Nt w.heap.size w' v (dX o)∧Below w.heap.size w w') .ret ⟨tmps,[]⟩
  ((((base.setCell ⟨w.heap.size,0,none⟩ (.bool (dN o))).setCell ⟨w.heap.size,1,none⟩ v).setCell ⟨w.heap.size,2,none⟩ (.int .i64 (dE o))).alloc ob):=by
 have q:Bl (((base.setCell ⟨w.heap.size,0,none⟩ (.bool (dN o))).setCell ⟨w.heap.size,1,none⟩ v).setCell ⟨w.heap.size,2,none⟩ (.int .i64 (dE o))) w.heap.size 77 [.bool (dN o),v,.int .i64 (dE o)]:=((hZ.set 0 _).set 1 _).set 2 _;have hbut:But w.heap.size base (((base.setCell ⟨w.heap.size,0,none⟩ (.bool (dN o))).setCell ⟨w.heap.size,1,none⟩ v).setCell ⟨w.heap.size,2,none⟩ (.int .i64 (dE o))):=(((But.refl _ _).set 0 _).set 1 _).set 2 _;have hW:=But.below hbw hbut hbw.size (Nat.le_refl _);refine bodyPost_ret (v:=.agg #[.bool (dN o),v,.int .i64 (dE o)]) (row_result Tryz.results41 _ _ w.heap.size [.bool (dN o),v,.int .i64 (dE o)] h2 (q.alloc ob) Tryz.row_dyad (by rw [Tryz.size_dyad];rfl)) rfl ?_
 exact ⟨v,rfl,((hN.but7 hbut hlo).mono (by omega)).below (bel_alloc _ _),hW.trans ((bel_alloc _ _).mono hW.size)⟩
theorem Exact7 (g:Nat) (V:Int) (s:Sp) (w:World) (hA:Acc7 w g V s) (hT:Tab w):Calls Tryz.prog 41 #[.pointer (some ⟨g,0,none⟩)] w fun r w' =>
 ∃ v,r=.returned (.agg #[.bool (dN (exV V)),v,.int .i64 (dE (exV V))])∧Nt w.heap.size w' v (dX (exV V))∧Below w.heap.size w w':=by
 obtain ⟨o,ho⟩:∃ o,o=exV V:=⟨_,rfl⟩;rw [←ho];obtain ⟨L,a1,a2,a3,a4,a5,a6⟩:=hA;have hnm:=neg7_val (val L) V a3 a4 a5;have HA:=qsd (ai a1 (ai a2 (ai a6.hd (ai hT (ai ho hnm)))));have hlt:=a6.lt;clear a1 a2 a3 a4 a5 a6 hT ho hnm;have HLT:=qsd hlt;clear hlt;obtain ⟨W1,hW1⟩:∃ W,W=w.alloc (.cells #[.bool false,.slice none 0 0,.int .i64 0] 77):=⟨_,rfl⟩
 have H1:Aside (Below w.heap.size w W1∧Bl W1 w.heap.size 77 [.bool false,.slice none 0 0,.int .i64 0]∧W1.heap.size=w.heap.size+1):=by
  subst hW1;exact ⟨bel_alloc _ _,Bl.new _ 77 [_,_,_],by simp⟩
 go_enter Tryz.func41,Tryz.ntmps41;go_wp2;rw [←hW1];clear hW1;have BB:Aside (Below W1.heap.size W1 W1.drew):=(Below.refl _ _).drew;have HH:Aside (∀ W:World,Below W1.heap.size W1 W→Hd W g L):=fun W h=>(HA.out.2.2.1.below H1.out.1 HLT.out (Nat.le_refl _)).below h (Nat.lt_of_lt_of_le HLT.out H1.out.1.size) (Nat.le_refl _)
 have HTT:Aside (∀ W:World,Below W1.heap.size W1 W→Tab W):=fun W h=>(HA.out.2.2.2.1.belows H1.out.1).belows h
 go_region_with (first
  | (go_at_call 70
     with_reducible refine (below_any g L _ HA.out.1 HA.out.2.1 (HH.out _ (by first | exact BB.out | exact BB.out.trans ((bel_alloc _ _).mono BB.out.size) | exact (bel_alloc _ _).drew))).mono ?_
     rintro r u ⟨rfl,rfl⟩)
  | (go_at_call 71
     with_reducible refine (size7_any L g _ HA.out.1 HA.out.2.1 (HH.out _ (by first | exact BB.out | exact BB.out.trans ((bel_alloc _ _).mono BB.out.size) | exact (bel_alloc _ _).drew))).mono ?_
     rintro r u ⟨b,cap,M,rfl,hM,hMv,hb⟩;have hu:Below W1.heap.size W1 u:=by first | exact BB.out.trans (hb.mono BB.out.size) | exact (BB.out.trans ((bel_alloc _ _).mono BB.out.size)).trans (hb.mono (by have:=BB.out.size;simp;omega)) | exact ((bel_alloc _ _).drew).trans (hb.mono (by simp))
     try have DZ:=qsd (ai (DZ.out.1.below hb DZ.out.1.lt) DZ.out.2)
     try have DZ:=qsd (ai ((Bl.new _ 77 [Value.bool false,Value.slice none 0 0,Value.int .i64 0]).below hb (by simp)) BB.out.size)
     try have DZ:=qsd (ai ((Bl.new W1 77 [Value.bool false,Value.slice none 0 0,Value.int .i64 0]).drew.below hb (by simp)) (Nat.le_refl W1.heap.size))
     have BB:=qsd hu;have HM:=qsd (ai hM (show mkS (neg7 (val L)) (val M) (-2148)=o by rw [HA.out.2.2.2.2.1,hMv,HA.out.2.2.2.2.2.1,HA.out.2.2.2.2.2.2];rfl))
     clear hM hMv hb hu)
  | (go_at_call 69
     with_reducible refine (Make_any (by first | exact HM.out.1 | exact HM.out.1.below (bel_alloc _ _)) (HTT.out _ (by first | exact BB.out | exact BB.out.trans ((bel_alloc _ _).mono BB.out.size) | exact (bel_alloc _ _).drew)) (neg7 (val L)) (-2148) (by decide) (by decide)).mono ?_
     rintro r u ⟨hD,hb⟩;rw [HM.out.2] at hD;obtain ⟨v,rfl,hN⟩:=hD
     try have DL:=qsd DZ.out.1.lt
     have hu:Below W1.heap.size W1 u:=by first | exact BB.out.trans (hb.mono BB.out.size) | exact (BB.out.trans ((bel_alloc _ _).mono BB.out.size)).trans (hb.mono (by have:=BB.out.size;simp;omega)) | exact ((bel_alloc _ _).drew).trans (hb.mono (by simp))
     try have DZ:=qsd (ai (DZ.out.1.below hb DZ.out.1.lt) DZ.out.2)
     try have DZ:=qsd (ai ((Bl.new _ 77 [Value.bool false,Value.slice none 0 0,Value.int .i64 0]).below hb (by simp)) BB.out.size)
     try have DZ:=qsd (ai ((Bl.new W1 77 [Value.bool false,Value.slice none 0 0,Value.int .i64 0]).drew.below hb (by simp)) (Nat.le_refl W1.heap.size))
     have hN2:=ai hN (hN.lo7 (k:=W1.heap.size) (by first | exact BB.out.size | (have:=BB.out.size;simp;omega)))
     obtain ⟨a,c,rfl,_⟩:=hN.arg (by
      refine Nat.le_trans ((ws_len_le _ 133).2 ?_) (by decide)
      have e:=HM.out.2;have hm:=val_lt M HM.out.1.wf;rw [←HM.out.1.len] at hm;rw [←e];refine Nat.lt_of_le_of_lt ?_ hm;unfold mkS dX
      split
      · exact Nat.zero_le _
      · split
        · exact Nat.zero_le _
        · exact Nat.div_le_self _ _)
     have HN:=qsd (ai hN2 hu);have Z:=qsd (H1.out.2.1.below hu (by have:=H1.out.2.2;omega))
     have z0:=Z.out.cell 0 _ rfl;have z1:=Z.out.cell 1 _ rfl;have z2:=Z.out.cell 2 _ rfl;have g0:=Z.out.frozen 0;have g1:=Z.out.frozen 1;have g2:=Z.out.frozen 2
     try have d0:=DZ.out.1.cell 0 _ rfl
     try have d1:=DZ.out.1.cell 1 _ rfl
     try have d2:=DZ.out.1.cell 2 _ rfl
     try have e0:=DZ.out.1.frozen 0
     try have e1:=DZ.out.1.frozen 1
     try have e2:=DZ.out.1.frozen 2
     have hlu:w.heap.size<u.heap.size:=Z.out.lt
     try have nx:=DZ.out.2.ne7 H1.out.2.2
     try have ny:=nx.symm
     clear hN hN2 hb hu))
 all_goals (
  clear HM HA HH HTT BB;go_wp2;have hW:Below w.heap.size w u:=H1.out.1.trans (HN.out.2.mono H1.out.1.size);have hlo:=HN.out.1.2;have hl1:=H1.out.2.2
  first
   | (with_reducible refine exact_close2 (x:=.bool false) (y:=.slice none 0 0) (z:=.int .i64 0) ?_ Z.out hW HN.out.1.1 (by omega)
      rfl)
   | (with_reducible refine exact_close (x:=.bool false) (y:=.slice none 0 0) (z:=.int .i64 0) ?_ (Bl.but Z.out ((((But.refl _ _).set 0 _).set 1 _).set 2 _) ny) (But.below hW ((((But.refl _ _).set 0 _).set 1 _).set 2 _) hW.size (by have:=DZ.out.2;omega)) (HN.out.1.1.but7 ((((But.refl _ _).set 0 _).set 1 _).set 2 _) (by first | exact DL.out | (simp;done) | (simp;omega))) (by omega)
      rfl))
end
section
open Go.RowKit
open Go.Proofs.YtnpchhjhoadehaaGreatDoor.B (f64bits f64frombits bw)
attribute [local go_sem] f64bits f64frombits
def kn (a:Int):Bool:=decide (0≤a)&&decide (a≤2)
def may (a b:Int):Bool:=kn a&&kn b
def ct (a:Int):Bool:=decide (0≤a)&&decide (a≤1099511627776)
theorem known_any (a:Int) (w:World):Calls Tryz.prog 36 #[.int .i64 a] w fun r w'=>r=.returned (.bool (kn a))∧w'=w:=by
 unfold kn
 by_cases h:0≤a
 · have hd:decide (0≤a)=true:=decide_eq_true h
   rw [hd];go_enter Tryz.func36,Tryz.ntmps36;go_wp2;go_ret;exact ⟨by first | rfl | simp,rfl⟩
 · have hd:decide (0≤a)=false:=decide_eq_false h
   rw [hd];go_enter Tryz.func36,Tryz.ntmps36;go_wp2;go_ret;exact ⟨by first | rfl | simp,rfl⟩
theorem countable_any (a:Int) (w:World):Calls Tryz.prog 116 #[.int .i64 a] w fun r w'=>r=.returned (.bool (ct a))∧w'=w:=by
 unfold ct
 by_cases h:0≤a
 · have hd:decide (0≤a)=true:=decide_eq_true h
   rw [hd];go_enter Tryz.func116,Tryz.ntmps116;go_wp2;go_ret;exact ⟨by first | rfl | simp,rfl⟩
 · have hd:decide (0≤a)=false:=decide_eq_false h
   rw [hd];go_enter Tryz.func116,Tryz.ntmps116;go_wp2;go_ret;exact ⟨by first | rfl | simp,rfl⟩
theorem May_any (a b:Int) (w:World):Calls Tryz.prog 17 #[.agg #[.int .i64 a,.int .i64 b]] w fun r w'=>r=.returned (.bool (may a b))∧Below w.heap.size w w':=by
 unfold may
 rcases ha:kn a with _|_
 · have H:=hid (fun w=>ha ▸ known_any a w)
   clear ha;go_enter Tryz.func17,Tryz.ntmps17
   go_wp2_with fail
   refine (H.out _).mono ?_;rintro r w1 ⟨rfl,rfl⟩;go_wp2;go_ret;exact ⟨rfl,(Below.refl _ _).alloc (Nat.le_refl _) _⟩
 · have H:=hid (fun w=>ha ▸ known_any a w)
   have H2:=hid (fun w=>known_any b w)
   obtain ⟨kb,hkb⟩:∃ k,kn b=k:=⟨_,rfl⟩;rw [hkb] at H2 ⊢;clear ha hkb;go_enter Tryz.func17,Tryz.ntmps17
   go_wp2_with fail
   refine (H.out _).mono ?_;rintro r w1 ⟨rfl,rfl⟩
   go_wp2_with fail
   refine (H2.out _).mono ?_;rintro r w1 ⟨rfl,rfl⟩;go_wp2;go_ret;exact ⟨by first | rfl | simp,(Below.refl _ _).alloc (Nat.le_refl _) _⟩
theorem mInf_up (w:World):Calls Tryz.prog 57 #[.int .i64 1] w fun r w'=>r=.returned (.float .f64 9218868437227405312)∧w'=w:=by
 go_enter Tryz.func57,Tryz.ntmps57;go_wp2;go_ret;exact ⟨rfl,rfl⟩
theorem mInf_down (w:World):Calls Tryz.prog 57 #[.int .i64 (-1)] w fun r w'=>r=.returned (.float .f64 18442240474082181120)∧w'=w:=by
 go_enter Tryz.func57,Tryz.ntmps57;go_wp2;go_ret;exact ⟨rfl,rfl⟩
theorem minus_any (w:World):Calls Tryz.prog 56 #[.float .f64 0,.float .f64 13830554455654793216] w fun r w'=>r=.returned (.float .f64 9223372036854775808)∧w'=w:=by
 have h1:bits .andNot .u64 0 9223372036854775808=0:=by decide +kernel
 have h2:bits .and .u64 13830554455654793216 9223372036854775808=9223372036854775808:=by decide +kernel
 have h3:bits .or .u64 0 9223372036854775808=9223372036854775808:=by decide +kernel
 go_enter Tryz.func56,Tryz.ntmps56;go_wp2;go_ret;exact ⟨rfl,rfl⟩
open Go.RowKit
open Go.Proofs.YtnpchhjhoadehaaGreatDoor.B (f64bits f64frombits bw bcell)
attribute [local go_sem] f64bits f64frombits
def snd (n u d m p a:Int):Bool:=ct n&&ct u&&ct d&&(ct m&&ct p&&ct a)&&decide (n+u+d+m+p≤a)
theorem ct_true {n:Int}(h:ct n=true):0≤n∧n≤1099511627776:=by unfold ct at h;simpa using h
theorem ct_five {n u d m p:Int}(i:Nat) (hi:i<5) (h:ct ([n,u,d,m,p].getD i 0)=false) (a:Int):snd n u d m p a=false:=by
 unfold snd;obtain rfl|rfl|rfl|rfl|rfl:i=0∨i=1∨i=2∨i=3∨i=4:=by omega
 all_goals (simp at h;simp [h])
def ps (L:List Int) (i:Nat):Int:=(L.take i).sum
theorem ps_succ (L:List Int) (i:Nat) (h:i<L.length):ps L (i+1)=ps L i+L.getD i 0:=by
 unfold ps;rw [List.take_succ_eq_append_getElem h,List.sum_append,List.getD_eq_getElem?_getD,List.getElem?_eq_getElem h];simp
theorem sound_any (n u d m p a:Int) (w:World):Calls Tryz.prog 88 #[.agg #[.int .i64 n,.int .i64 u,.int .i64 d,.int .i64 m,.int .i64 p,.int .i64 a]] w fun r w'=>r=.returned (.bool (snd n u d m p a))∧Below w.heap.size w w':=by
 obtain ⟨L,hL⟩:∃ L:List Int,L=[n,u,d,m,p]:=⟨_,rfl⟩;have hlen:L.length=5:=by rw [hL];rfl
 have HL:=(qsd (ai hL hlen));obtain ⟨W,hW⟩:∃ W,W=(w.alloc (.cells #[.int .i64 n,.int .i64 u,.int .i64 d,.int .i64 m,.int .i64 p,.int .i64 a] 64)).alloc (.cells #[.int .i64 n,.int .i64 u,.int .i64 d,.int .i64 m,.int .i64 p] 161):=⟨_,rfl⟩
 have hcell:∀ i,i<5→W.cell? ⟨w.heap.size+1,i,none⟩=some (.int .i64 (L.getD i 0)):=by
  intro i hi;have h1:=heap_alloc_new (w.alloc (.cells #[.int .i64 n,.int .i64 u,.int .i64 d,.int .i64 m,.int .i64 p,.int .i64 a] 64)) (.cells #[.int .i64 n,.int .i64 u,.int .i64 d,.int .i64 m,.int .i64 p] 161);rw [←hW] at h1;simp only [World.size_alloc] at h1;subst hL;simp only [World.cell?,h1];obtain rfl|rfl|rfl|rfl|rfl:i=0∨i=1∨i=2∨i=3∨i=4:=by omega
  all_goals simp
 have ha5:W.cell? ⟨w.heap.size,5,none⟩=some (.int .i64 a):=by rw [hW];simp [go_sem]
 have hbel:Below w.heap.size w W:=by rw [hW];exact ((Below.refl _ _).alloc (Nat.le_refl _) _).alloc (by simp) _
 have HC:=(qsd (ai hcell (ai hbel (ai hW ha5))));clear hL hlen hcell hbel hW ha5;have HA:=hid (countable_any a);go_enter Tryz.func88,Tryz.ntmps88;go_wp2
 go_loopg [4,17] 5 (fun gk sv iv wr=>∃ i:Nat,gk+i=5∧sv=.int .i64 (ps L i)∧iv=.int .i64 (i:Nat)∧wr=W∧Aside (∀ j,j<i→ct (L.getD j 0)=true)∧0≤ps L i∧ps L i≤(i:Int)*1099511627776)
 case atStart=>exact ⟨0,rfl,rfl,rfl,by rw [HC.out.2.2.1],fun j hj=>absurd hj (by omega),by simp [ps],by simp [ps]⟩
 case round =>
  obtain ⟨i,hi,rfl,rfl,rfl,HT,hp0,hp1⟩:=hrel;obtain ⟨hcell,hbel,hW,ha5⟩:=HC.out
  by_cases hi5:i=5
  · obtain rfl:gk=0:=by omega
    subst hi5
    have hs:snd n u d m p a=(ct a&&decide (ps L 5≤a)):=by
     have h0:=HT.out 0 (by omega)
     have h1:=HT.out 1 (by omega)
     have h2:=HT.out 2 (by omega)
     have h3:=HT.out 3 (by omega)
     have h4:=HT.out 4 (by omega)
     have e:=HL.out.1;subst e;have e2:ps [n,u,d,m,p] 5=n+u+d+m+p:=by simp [ps];omega
     rw [e2];simp at h0 h1 h2 h3 h4;unfold snd;rw [h0,h1,h2,h3,h4];simp
    obtain ⟨q,hq⟩:∃ q,ps L 5=q:=⟨_,rfl⟩;rw [hq] at hp0 hp1 hs ⊢;have HS:=qsd hs;clear hcell hW hs hq
    rcases ha:ct a with _|_
    · rw [ha] at HA HS
      clear ha
      go_wp2_with fail
      refine (HA.out _).mono ?_;rintro r w1 ⟨rfl,rfl⟩;go_wp2;go_ret;exact ⟨by rw [HS.out];first | rfl | simp,hbel⟩
    · rw [ha] at HA HS
      clear ha
      go_wp2_with fail
      refine (HA.out _).mono ?_;rintro r w1 ⟨rfl,rfl⟩;go_wp2;go_ret;exact ⟨by rw [HS.out];first | rfl | simp,hbel⟩
  · have hil:i<5:=by omega
    have hci:=hcell i hil;have HK:=hid (countable_any (L.getD i 0));have hps:=ps_succ L i (by rw [HL.out.2];exact hil)
    obtain ⟨x,hx⟩:∃ x,L.getD i 0=x:=⟨_,rfl⟩;rw [hx] at hci HK hps
    rcases hc:ct x with _|_
    · rw [hc] at HK
      have HS:Aside (snd n u d m p a=false):=by
       have h1:=hc;rw [←hx,HL.out.1] at h1;exact ct_five i hil h1 a
      have HB:=qsd hbel;clear hcell hbel hW ha5 hps hx hc hi5 HC HL
      go_wp2_with fail
      refine (HK.out _).mono ?_;rintro r w1 ⟨rfl,rfl⟩;go_wp2;go_ret;exact ⟨by rw [HS.out];rfl,HB.out⟩
    · rw [hc] at HK
      have hb:=ct_true hc;obtain ⟨q,hq⟩:∃ q,ps L i=q:=⟨_,rfl⟩;obtain ⟨q2,hq2⟩:∃ q,ps L (i+1)=q:=⟨_,rfl⟩;rw [hq,hq2] at hps;rw [hq] at hp0 hp1 ⊢;have hq3:q+x=q2:=hps.symm
      have hq4:0≤q2∧q2≤((i:Int)+1)*1099511627776:=by
       have:((i:Int)+1)*1099511627776=(i:Int)*1099511627776+1099511627776:=by omega
       omega
      have hq5:q2≤9223372036854775807:=by omega
      have hq6:-9223372036854775808≤q2:=by omega
      have HR:=(qsd (ai hq2 (ai hq4 (ai hx (ai hc hq3)))));clear hcell hbel hW ha5 hps hx hc hi5 HC hq2 hq hp0 hp1 hb hq4
      go_wp2_with fail
      refine (HK.out _).mono ?_;rintro r w1 ⟨rfl,rfl⟩;go_wp2
      go_roundg (5-(i+1))
      case measure=>omega
      case rel =>
       obtain ⟨hq2,hq4,hx,hc,hq3⟩:=HR.out;refine ⟨i+1,by omega,?_,by first | go_num | (congr 1;omega),rfl,?_,by rw [hq2];exact hq4.1,by rw [hq2];have:=hq4.2;push_cast;exact this⟩
       · first | (rw [hq2];done) | (rw [hq2,←hq3];done)
       · intro j hj
         by_cases hji:j=i
         · subst hji;rw [hx];exact hc
         · exact HT.out j (by omega)
def vd (ok:Bool) (n u d a b:Int):Nat×Bool :=
 if ok=false then (0,false) else if 0<n∧a=0 then (9221120237041090560,true) else if ¬ b=0 then (0,false)
 else if 0<u∧0<d then (9221120237041090560,true) else if 0<u then (9218868437227405312,true) else if 0<d then (18442240474082181120,true) else (0,false)
def nt (ok:Bool) (n u d m p a mode:Int):Nat :=
 if ok=false then 0 else if a-n-u-d=0 then 0 else if m=a-n-u-d then 9223372036854775808 else if p=a-n-u-d then 0 else if mode=3 then 9223372036854775808 else 0
theorem snd_bd {n u d m p a:Int}(h:snd n u d m p a=true):(0≤n∧n≤1099511627776)∧(0≤u∧u≤1099511627776)∧(0≤d∧d≤1099511627776)∧(0≤a∧a≤1099511627776):=by
 unfold snd at h;simp only [Bool.and_eq_true] at h;exact ⟨ct_true h.1.1.1.1,ct_true h.1.1.1.2,ct_true h.1.1.2,ct_true h.1.2.2⟩
end
section
open Go.RowKit
open Go.Proofs.YtnpchhjhoadehaaGreatDoor.B (f64bits f64frombits bw bcell)
attribute [local go_sem] f64bits f64frombits
theorem Verdict_any (n u d m p l a b:Int) (w:World):Calls Tryz.prog 66 #[.agg #[.int .i64 n,.int .i64 u,.int .i64 d,.int .i64 m,.int .i64 p,.int .i64 l],.agg #[.int .i64 a,.int .i64 b]] w fun r w'=>r=.returned (.tuple #[.float .f64 (vd (snd n u d m p l&&may a b) n u d a b).1,.bool (vd (snd n u d m p l&&may a b) n u d a b).2])∧Below w.heap.size w w':=by
 have HS:=hid (sound_any n u d m p l);have HM:=hid (May_any a b);have HN:=hid (B.nan_any);have HU:=hid (mInf_up);have HD:=hid (mInf_down)
 rcases hs:snd n u d m p l with _|_
 · rw [hs] at HS
   rw [Bool.false_and];have hv:vd false n u d a b=(0,false):=by unfold vd;rw [if_pos rfl]
   rw [hv];clear hs hv;go_enter Tryz.func66,Tryz.ntmps66
   go_wp2_with fail
   refine (HS.out _).mono ?_;rintro r w1 ⟨rfl,hb1⟩;have hz1:=hb1.size;simp at hz1;obtain ⟨hc1,hf1⟩:=bcell hb1;have B1:=qsd hb1;clear hb1;go_wp2
   go_ret2
   exact ⟨by first | rfl | simp,(((Below.refl _ w).alloc (Nat.le_refl _) _).alloc (by simp) _).trans (B1.out.mono (by simp;omega))⟩
 rcases hm:may a b with _|_
 · rw [hs] at HS
   rw [hm] at HM;have hv:vd (true&&false) n u d a b=(0,false):=if_pos rfl;rw [hv];clear hs hm hv;go_enter Tryz.func66,Tryz.ntmps66
   go_wp2_with fail
   refine (HS.out _).mono ?_;rintro r w1 ⟨rfl,hb1⟩;have hz1:=hb1.size;simp at hz1;obtain ⟨hc1,hf1⟩:=bcell hb1;have B1:=qsd hb1;clear hb1
   go_wp2_with fail
   refine (HM.out _).mono ?_;rintro r w2 ⟨rfl,hb2⟩;have hz2:=hb2.size;obtain ⟨hc2,hf2⟩:=bcell hb2;have hc3:∀ b o,b<w.heap.size+1+1→w2.cell? ⟨b,o,none⟩=w1.cell? ⟨b,o,none⟩:=fun b o h=>hc2 b o (by omega)
   have B2:=qsd hb2;clear hb2 hc2 hf2;go_wp2
   go_ret2
   exact ⟨by first | rfl | simp,((((Below.refl _ w).alloc (Nat.le_refl _) _).alloc (by simp) _).trans (B1.out.mono (by simp;omega))).trans (B2.out.mono (by omega))⟩
 rw [hs] at HS;rw [hm] at HM;rw [Bool.true_and];clear hs hm
 have way1:0<n→a=0→Calls Tryz.prog 66 #[.agg #[.int .i64 n,.int .i64 u,.int .i64 d,.int .i64 m,.int .i64 p,.int .i64 l],.agg #[.int .i64 a,.int .i64 b]] w fun r w'=>r=.returned (.tuple #[.float .f64 (vd true n u d a b).1,.bool (vd true n u d a b).2])∧Below w.heap.size w w':=by
  intro p1 p2;have hv:vd true n u d a b=(9221120237041090560,true):=by unfold vd;rw [if_neg (by decide),if_pos ⟨p1,p2⟩]
  rw [hv];clear hv;have q1:0<n:=p1;have q2:a=0:=p2;subst q2;go_enter Tryz.func66,Tryz.ntmps66
  go_wp2_with fail
  refine (HS.out _).mono ?_;rintro r w1 ⟨rfl,hb1⟩;have hz1:=hb1.size;simp at hz1;obtain ⟨hc1,hf1⟩:=bcell hb1;have B1:=qsd hb1;clear hb1
  go_wp2_with fail
  refine (HM.out _).mono ?_;rintro r w2 ⟨rfl,hb2⟩;have hz2:=hb2.size;obtain ⟨hc2,hf2⟩:=bcell hb2;have hc3:∀ b o,b<w.heap.size+1+1→w2.cell? ⟨b,o,none⟩=w1.cell? ⟨b,o,none⟩:=fun b o h=>hc2 b o (by omega)
  have B2:=qsd hb2;clear hb2 hc2 hf2
  go_wp2_with fail
  refine (HN.out _).mono ?_;rintro r w3 ⟨rfl,rfl⟩;go_wp2
  go_ret2
  exact ⟨by first | rfl | simp,((((Below.refl _ w).alloc (Nat.le_refl _) _).alloc (by simp) _).trans (B1.out.mono (by simp;omega))).trans (B2.out.mono (by omega))⟩
 have way2:0<n→¬ (a=0)→¬ (b=0)→Calls Tryz.prog 66 #[.agg #[.int .i64 n,.int .i64 u,.int .i64 d,.int .i64 m,.int .i64 p,.int .i64 l],.agg #[.int .i64 a,.int .i64 b]] w fun r w'=>r=.returned (.tuple #[.float .f64 (vd true n u d a b).1,.bool (vd true n u d a b).2])∧Below w.heap.size w w':=by
  intro p1 p2 p3;have hv:vd true n u d a b=(0,false):=by unfold vd;rw [if_neg (by decide),if_neg (fun h=>p2 h.2),if_pos p3]
  rw [hv];clear hv;have q1:0<n:=p1;have q2:(a==0)=false:=by rw [beq_eq_false_iff_ne];exact p2
  have q3:(b==0)=false:=by rw [beq_eq_false_iff_ne];exact p3
  go_enter Tryz.func66,Tryz.ntmps66
  go_wp2_with fail
  refine (HS.out _).mono ?_;rintro r w1 ⟨rfl,hb1⟩;have hz1:=hb1.size;simp at hz1;obtain ⟨hc1,hf1⟩:=bcell hb1;have B1:=qsd hb1;clear hb1
  go_wp2_with fail
  refine (HM.out _).mono ?_;rintro r w2 ⟨rfl,hb2⟩;have hz2:=hb2.size;obtain ⟨hc2,hf2⟩:=bcell hb2;have hc3:∀ b o,b<w.heap.size+1+1→w2.cell? ⟨b,o,none⟩=w1.cell? ⟨b,o,none⟩:=fun b o h=>hc2 b o (by omega)
  have B2:=qsd hb2;clear hb2 hc2 hf2;go_wp2
  go_ret2
  exact ⟨by first | rfl | simp,((((Below.refl _ w).alloc (Nat.le_refl _) _).alloc (by simp) _).trans (B1.out.mono (by simp;omega))).trans (B2.out.mono (by omega))⟩
 have way3:0<n→¬ (a=0)→b=0→0<u→0<d→Calls Tryz.prog 66 #[.agg #[.int .i64 n,.int .i64 u,.int .i64 d,.int .i64 m,.int .i64 p,.int .i64 l],.agg #[.int .i64 a,.int .i64 b]] w fun r w'=>r=.returned (.tuple #[.float .f64 (vd true n u d a b).1,.bool (vd true n u d a b).2])∧Below w.heap.size w w':=by
  intro p1 p2 p3 p4 p5;have hv:vd true n u d a b=(9221120237041090560,true):=by unfold vd;rw [if_neg (by decide),if_neg (fun h=>p2 h.2),if_neg (not_not_intro p3),if_pos ⟨p4,p5⟩]
  rw [hv];clear hv;have q1:0<n:=p1;have q2:(a==0)=false:=by rw [beq_eq_false_iff_ne];exact p2
  have q3:b=0:=p3;have q4:0<u:=p4;have q5:0<d:=p5;subst q3;go_enter Tryz.func66,Tryz.ntmps66
  go_wp2_with fail
  refine (HS.out _).mono ?_;rintro r w1 ⟨rfl,hb1⟩;have hz1:=hb1.size;simp at hz1;obtain ⟨hc1,hf1⟩:=bcell hb1;have B1:=qsd hb1;clear hb1
  go_wp2_with fail
  refine (HM.out _).mono ?_;rintro r w2 ⟨rfl,hb2⟩;have hz2:=hb2.size;obtain ⟨hc2,hf2⟩:=bcell hb2;have hc3:∀ b o,b<w.heap.size+1+1→w2.cell? ⟨b,o,none⟩=w1.cell? ⟨b,o,none⟩:=fun b o h=>hc2 b o (by omega)
  have B2:=qsd hb2;clear hb2 hc2 hf2
  go_wp2_with fail
  refine (HN.out _).mono ?_;rintro r w3 ⟨rfl,rfl⟩;go_wp2
  go_ret2
  exact ⟨by first | rfl | simp,((((Below.refl _ w).alloc (Nat.le_refl _) _).alloc (by simp) _).trans (B1.out.mono (by simp;omega))).trans (B2.out.mono (by omega))⟩
 have way4:0<n→¬ (a=0)→b=0→0<u→¬ (0<d)→Calls Tryz.prog 66 #[.agg #[.int .i64 n,.int .i64 u,.int .i64 d,.int .i64 m,.int .i64 p,.int .i64 l],.agg #[.int .i64 a,.int .i64 b]] w fun r w'=>r=.returned (.tuple #[.float .f64 (vd true n u d a b).1,.bool (vd true n u d a b).2])∧Below w.heap.size w w':=by
  intro p1 p2 p3 p4 p5;have hv:vd true n u d a b=(9218868437227405312,true):=by unfold vd;rw [if_neg (by decide),if_neg (fun h=>p2 h.2),if_neg (not_not_intro p3),if_neg (fun h=>p5 h.2),if_pos p4]
  rw [hv];clear hv;have q1:0<n:=p1;have q2:(a==0)=false:=by rw [beq_eq_false_iff_ne];exact p2
  have q3:b=0:=p3;have q4:0<u:=p4;have q5:decide (0<d)=false:=decide_eq_false p5;subst q3;go_enter Tryz.func66,Tryz.ntmps66
  go_wp2_with fail
  refine (HS.out _).mono ?_;rintro r w1 ⟨rfl,hb1⟩;have hz1:=hb1.size;simp at hz1;obtain ⟨hc1,hf1⟩:=bcell hb1;have B1:=qsd hb1;clear hb1
  go_wp2_with fail
  refine (HM.out _).mono ?_;rintro r w2 ⟨rfl,hb2⟩;have hz2:=hb2.size;obtain ⟨hc2,hf2⟩:=bcell hb2;have hc3:∀ b o,b<w.heap.size+1+1→w2.cell? ⟨b,o,none⟩=w1.cell? ⟨b,o,none⟩:=fun b o h=>hc2 b o (by omega)
  have B2:=qsd hb2;clear hb2 hc2 hf2
  go_wp2_with fail
  refine (HU.out _).mono ?_;rintro r w3 ⟨rfl,rfl⟩;go_wp2
  go_ret2
  exact ⟨by first | rfl | simp,((((Below.refl _ w).alloc (Nat.le_refl _) _).alloc (by simp) _).trans (B1.out.mono (by simp;omega))).trans (B2.out.mono (by omega))⟩
 have way5:0<n→¬ (a=0)→b=0→¬ (0<u)→0<d→Calls Tryz.prog 66 #[.agg #[.int .i64 n,.int .i64 u,.int .i64 d,.int .i64 m,.int .i64 p,.int .i64 l],.agg #[.int .i64 a,.int .i64 b]] w fun r w'=>r=.returned (.tuple #[.float .f64 (vd true n u d a b).1,.bool (vd true n u d a b).2])∧Below w.heap.size w w':=by
  intro p1 p2 p3 p4 p5;have hv:vd true n u d a b=(18442240474082181120,true):=by unfold vd;rw [if_neg (by decide),if_neg (fun h=>p2 h.2),if_neg (not_not_intro p3),if_neg (fun h=>p4 h.1),if_neg p4,if_pos p5]
  rw [hv];clear hv;have q1:0<n:=p1;have q2:(a==0)=false:=by rw [beq_eq_false_iff_ne];exact p2
  have q3:b=0:=p3;have q4:decide (0<u)=false:=decide_eq_false p4;have q5:0<d:=p5;subst q3;go_enter Tryz.func66,Tryz.ntmps66
  go_wp2_with fail
  refine (HS.out _).mono ?_;rintro r w1 ⟨rfl,hb1⟩;have hz1:=hb1.size;simp at hz1;obtain ⟨hc1,hf1⟩:=bcell hb1;have B1:=qsd hb1;clear hb1
  go_wp2_with fail
  refine (HM.out _).mono ?_;rintro r w2 ⟨rfl,hb2⟩;have hz2:=hb2.size;obtain ⟨hc2,hf2⟩:=bcell hb2;have hc3:∀ b o,b<w.heap.size+1+1→w2.cell? ⟨b,o,none⟩=w1.cell? ⟨b,o,none⟩:=fun b o h=>hc2 b o (by omega)
  have B2:=qsd hb2;clear hb2 hc2 hf2
  go_wp2_with fail
  refine (HD.out _).mono ?_;rintro r w3 ⟨rfl,rfl⟩;go_wp2
  go_ret2
  exact ⟨by first | rfl | simp,((((Below.refl _ w).alloc (Nat.le_refl _) _).alloc (by simp) _).trans (B1.out.mono (by simp;omega))).trans (B2.out.mono (by omega))⟩
 have way6:0<n→¬ (a=0)→b=0→¬ (0<u)→¬ (0<d)→Calls Tryz.prog 66 #[.agg #[.int .i64 n,.int .i64 u,.int .i64 d,.int .i64 m,.int .i64 p,.int .i64 l],.agg #[.int .i64 a,.int .i64 b]] w fun r w'=>r=.returned (.tuple #[.float .f64 (vd true n u d a b).1,.bool (vd true n u d a b).2])∧Below w.heap.size w w':=by
  intro p1 p2 p3 p4 p5;have hv:vd true n u d a b=(0,false):=by unfold vd;rw [if_neg (by decide),if_neg (fun h=>p2 h.2),if_neg (not_not_intro p3),if_neg (fun h=>p4 h.1),if_neg p4,if_neg p5]
  rw [hv];clear hv;have q1:0<n:=p1;have q2:(a==0)=false:=by rw [beq_eq_false_iff_ne];exact p2
  have q3:b=0:=p3;have q4:decide (0<u)=false:=decide_eq_false p4;have q5:decide (0<d)=false:=decide_eq_false p5;subst q3;go_enter Tryz.func66,Tryz.ntmps66
  go_wp2_with fail
  refine (HS.out _).mono ?_;rintro r w1 ⟨rfl,hb1⟩;have hz1:=hb1.size;simp at hz1;obtain ⟨hc1,hf1⟩:=bcell hb1;have B1:=qsd hb1;clear hb1
  go_wp2_with fail
  refine (HM.out _).mono ?_;rintro r w2 ⟨rfl,hb2⟩;have hz2:=hb2.size;obtain ⟨hc2,hf2⟩:=bcell hb2;have hc3:∀ b o,b<w.heap.size+1+1→w2.cell? ⟨b,o,none⟩=w1.cell? ⟨b,o,none⟩:=fun b o h=>hc2 b o (by omega)
  have B2:=qsd hb2;clear hb2 hc2 hf2;go_wp2
  go_ret2
  exact ⟨by first | rfl | simp,((((Below.refl _ w).alloc (Nat.le_refl _) _).alloc (by simp) _).trans (B1.out.mono (by simp;omega))).trans (B2.out.mono (by omega))⟩
 have way7:¬ (0<n)→¬ (b=0)→Calls Tryz.prog 66 #[.agg #[.int .i64 n,.int .i64 u,.int .i64 d,.int .i64 m,.int .i64 p,.int .i64 l],.agg #[.int .i64 a,.int .i64 b]] w fun r w'=>r=.returned (.tuple #[.float .f64 (vd true n u d a b).1,.bool (vd true n u d a b).2])∧Below w.heap.size w w':=by
  intro p1 p3;have hv:vd true n u d a b=(0,false):=by unfold vd;rw [if_neg (by decide),if_neg (fun h=>p1 h.1),if_pos p3]
  rw [hv];clear hv;have q1:decide (0<n)=false:=decide_eq_false p1;have q3:(b==0)=false:=by rw [beq_eq_false_iff_ne];exact p3
  go_enter Tryz.func66,Tryz.ntmps66
  go_wp2_with fail
  refine (HS.out _).mono ?_;rintro r w1 ⟨rfl,hb1⟩;have hz1:=hb1.size;simp at hz1;obtain ⟨hc1,hf1⟩:=bcell hb1;have B1:=qsd hb1;clear hb1
  go_wp2_with fail
  refine (HM.out _).mono ?_;rintro r w2 ⟨rfl,hb2⟩;have hz2:=hb2.size;obtain ⟨hc2,hf2⟩:=bcell hb2;have hc3:∀ b o,b<w.heap.size+1+1→w2.cell? ⟨b,o,none⟩=w1.cell? ⟨b,o,none⟩:=fun b o h=>hc2 b o (by omega)
  have B2:=qsd hb2;clear hb2 hc2 hf2;go_wp2
  go_ret2
  exact ⟨by first | rfl | simp,((((Below.refl _ w).alloc (Nat.le_refl _) _).alloc (by simp) _).trans (B1.out.mono (by simp;omega))).trans (B2.out.mono (by omega))⟩
 have way8:¬ (0<n)→b=0→0<u→0<d→Calls Tryz.prog 66 #[.agg #[.int .i64 n,.int .i64 u,.int .i64 d,.int .i64 m,.int .i64 p,.int .i64 l],.agg #[.int .i64 a,.int .i64 b]] w fun r w'=>r=.returned (.tuple #[.float .f64 (vd true n u d a b).1,.bool (vd true n u d a b).2])∧Below w.heap.size w w':=by
  intro p1 p3 p4 p5;have hv:vd true n u d a b=(9221120237041090560,true):=by unfold vd;rw [if_neg (by decide),if_neg (fun h=>p1 h.1),if_neg (not_not_intro p3),if_pos ⟨p4,p5⟩]
  rw [hv];clear hv;have q1:decide (0<n)=false:=decide_eq_false p1;have q3:b=0:=p3;have q4:0<u:=p4;have q5:0<d:=p5;subst q3;go_enter Tryz.func66,Tryz.ntmps66
  go_wp2_with fail
  refine (HS.out _).mono ?_;rintro r w1 ⟨rfl,hb1⟩;have hz1:=hb1.size;simp at hz1;obtain ⟨hc1,hf1⟩:=bcell hb1;have B1:=qsd hb1;clear hb1
  go_wp2_with fail
  refine (HM.out _).mono ?_;rintro r w2 ⟨rfl,hb2⟩;have hz2:=hb2.size;obtain ⟨hc2,hf2⟩:=bcell hb2;have hc3:∀ b o,b<w.heap.size+1+1→w2.cell? ⟨b,o,none⟩=w1.cell? ⟨b,o,none⟩:=fun b o h=>hc2 b o (by omega)
  have B2:=qsd hb2;clear hb2 hc2 hf2
  go_wp2_with fail
  refine (HN.out _).mono ?_;rintro r w3 ⟨rfl,rfl⟩;go_wp2
  go_ret2
  exact ⟨by first | rfl | simp,((((Below.refl _ w).alloc (Nat.le_refl _) _).alloc (by simp) _).trans (B1.out.mono (by simp;omega))).trans (B2.out.mono (by omega))⟩
 have way9:¬ (0<n)→b=0→0<u→¬ (0<d)→Calls Tryz.prog 66 #[.agg #[.int .i64 n,.int .i64 u,.int .i64 d,.int .i64 m,.int .i64 p,.int .i64 l],.agg #[.int .i64 a,.int .i64 b]] w fun r w'=>r=.returned (.tuple #[.float .f64 (vd true n u d a b).1,.bool (vd true n u d a b).2])∧Below w.heap.size w w':=by
  intro p1 p3 p4 p5;have hv:vd true n u d a b=(9218868437227405312,true):=by unfold vd;rw [if_neg (by decide),if_neg (fun h=>p1 h.1),if_neg (not_not_intro p3),if_neg (fun h=>p5 h.2),if_pos p4]
  rw [hv];clear hv;have q1:decide (0<n)=false:=decide_eq_false p1;have q3:b=0:=p3;have q4:0<u:=p4;have q5:decide (0<d)=false:=decide_eq_false p5;subst q3;go_enter Tryz.func66,Tryz.ntmps66
  go_wp2_with fail
  refine (HS.out _).mono ?_;rintro r w1 ⟨rfl,hb1⟩;have hz1:=hb1.size;simp at hz1;obtain ⟨hc1,hf1⟩:=bcell hb1;have B1:=qsd hb1;clear hb1
  go_wp2_with fail
  refine (HM.out _).mono ?_;rintro r w2 ⟨rfl,hb2⟩;have hz2:=hb2.size;obtain ⟨hc2,hf2⟩:=bcell hb2;have hc3:∀ b o,b<w.heap.size+1+1→w2.cell? ⟨b,o,none⟩=w1.cell? ⟨b,o,none⟩:=fun b o h=>hc2 b o (by omega)
  have B2:=qsd hb2;clear hb2 hc2 hf2
  go_wp2_with fail
  refine (HU.out _).mono ?_;rintro r w3 ⟨rfl,rfl⟩;go_wp2
  go_ret2
  exact ⟨by first | rfl | simp,((((Below.refl _ w).alloc (Nat.le_refl _) _).alloc (by simp) _).trans (B1.out.mono (by simp;omega))).trans (B2.out.mono (by omega))⟩
 have way10:¬ (0<n)→b=0→¬ (0<u)→0<d→Calls Tryz.prog 66 #[.agg #[.int .i64 n,.int .i64 u,.int .i64 d,.int .i64 m,.int .i64 p,.int .i64 l],.agg #[.int .i64 a,.int .i64 b]] w fun r w'=>r=.returned (.tuple #[.float .f64 (vd true n u d a b).1,.bool (vd true n u d a b).2])∧Below w.heap.size w w':=by
  intro p1 p3 p4 p5;have hv:vd true n u d a b=(18442240474082181120,true):=by unfold vd;rw [if_neg (by decide),if_neg (fun h=>p1 h.1),if_neg (not_not_intro p3),if_neg (fun h=>p4 h.1),if_neg p4,if_pos p5]
  rw [hv];clear hv;have q1:decide (0<n)=false:=decide_eq_false p1;have q3:b=0:=p3;have q4:decide (0<u)=false:=decide_eq_false p4;have q5:0<d:=p5;subst q3;go_enter Tryz.func66,Tryz.ntmps66
  go_wp2_with fail
  refine (HS.out _).mono ?_;rintro r w1 ⟨rfl,hb1⟩;have hz1:=hb1.size;simp at hz1;obtain ⟨hc1,hf1⟩:=bcell hb1;have B1:=qsd hb1;clear hb1
  go_wp2_with fail
  refine (HM.out _).mono ?_;rintro r w2 ⟨rfl,hb2⟩;have hz2:=hb2.size;obtain ⟨hc2,hf2⟩:=bcell hb2;have hc3:∀ b o,b<w.heap.size+1+1→w2.cell? ⟨b,o,none⟩=w1.cell? ⟨b,o,none⟩:=fun b o h=>hc2 b o (by omega)
  have B2:=qsd hb2;clear hb2 hc2 hf2
  go_wp2_with fail
  refine (HD.out _).mono ?_;rintro r w3 ⟨rfl,rfl⟩;go_wp2
  go_ret2
  exact ⟨by first | rfl | simp,((((Below.refl _ w).alloc (Nat.le_refl _) _).alloc (by simp) _).trans (B1.out.mono (by simp;omega))).trans (B2.out.mono (by omega))⟩
 have way11:¬ (0<n)→b=0→¬ (0<u)→¬ (0<d)→Calls Tryz.prog 66 #[.agg #[.int .i64 n,.int .i64 u,.int .i64 d,.int .i64 m,.int .i64 p,.int .i64 l],.agg #[.int .i64 a,.int .i64 b]] w fun r w'=>r=.returned (.tuple #[.float .f64 (vd true n u d a b).1,.bool (vd true n u d a b).2])∧Below w.heap.size w w':=by
  intro p1 p3 p4 p5;have hv:vd true n u d a b=(0,false):=by unfold vd;rw [if_neg (by decide),if_neg (fun h=>p1 h.1),if_neg (not_not_intro p3),if_neg (fun h=>p4 h.1),if_neg p4,if_neg p5]
  rw [hv];clear hv;have q1:decide (0<n)=false:=decide_eq_false p1;have q3:b=0:=p3;have q4:decide (0<u)=false:=decide_eq_false p4;have q5:decide (0<d)=false:=decide_eq_false p5;subst q3;go_enter Tryz.func66,Tryz.ntmps66
  go_wp2_with fail
  refine (HS.out _).mono ?_;rintro r w1 ⟨rfl,hb1⟩;have hz1:=hb1.size;simp at hz1;obtain ⟨hc1,hf1⟩:=bcell hb1;have B1:=qsd hb1;clear hb1
  go_wp2_with fail
  refine (HM.out _).mono ?_;rintro r w2 ⟨rfl,hb2⟩;have hz2:=hb2.size;obtain ⟨hc2,hf2⟩:=bcell hb2;have hc3:∀ b o,b<w.heap.size+1+1→w2.cell? ⟨b,o,none⟩=w1.cell? ⟨b,o,none⟩:=fun b o h=>hc2 b o (by omega)
  have B2:=qsd hb2;clear hb2 hc2 hf2;go_wp2
  go_ret2
  exact ⟨by first | rfl | simp,((((Below.refl _ w).alloc (Nat.le_refl _) _).alloc (by simp) _).trans (B1.out.mono (by simp;omega))).trans (B2.out.mono (by omega))⟩
 by_cases p1:0<n
 · by_cases p2:a=0
   · exact way1 p1 p2
   · by_cases p3:b=0
     · by_cases p4:0<u <;> by_cases p5:0<d
       · exact way3 p1 p2 p3 p4 p5
       · exact way4 p1 p2 p3 p4 p5
       · exact way5 p1 p2 p3 p4 p5
       · exact way6 p1 p2 p3 p4 p5
     · exact way2 p1 p2 p3
 · by_cases p3:b=0
   · by_cases p4:0<u <;> by_cases p5:0<d
     · exact way8 p1 p3 p4 p5
     · exact way9 p1 p3 p4 p5
     · exact way10 p1 p3 p4 p5
     · exact way11 p1 p3 p4 p5
   · exact way7 p1 p3
end
section
open Go.RowKit
open Go.Proofs.YtnpchhjhoadehaaGreatDoor.B (f64bits f64frombits bw bcell)
attribute [local go_sem] f64bits f64frombits
theorem Nought_any (n u d m p l mode:Int) (w:World):Calls Tryz.prog 67 #[.agg #[.int .i64 n,.int .i64 u,.int .i64 d,.int .i64 m,.int .i64 p,.int .i64 l],.int .i64 mode] w fun r w'=>r=.returned (.float .f64 (nt (snd n u d m p l) n u d m p l mode))∧Below w.heap.size w w':=by
 have HS:=hid (sound_any n u d m p l);have HM:=hid (minus_any)
 rcases hs:snd n u d m p l with _|_
 · rw [hs] at HS
   have hv:nt false n u d m p l mode=0:=if_pos rfl;rw [hv];clear hs hv;go_enter Tryz.func67,Tryz.ntmps67
   go_wp2_with fail
   refine (HS.out _).mono ?_;rintro r w1 ⟨rfl,hb1⟩;have hz1:=hb1.size;simp at hz1;obtain ⟨hc1,hf1⟩:=bcell hb1;have B1:=qsd hb1;clear hb1;go_wp2;go_ret;exact ⟨by first | rfl | simp,((Below.refl _ w).alloc (Nat.le_refl _) _).trans (B1.out.mono (by simp))⟩
 have bd:=snd_bd hs;rw [hs] at HS;obtain ⟨f,hf⟩:∃ f,l-n-u-d=f:=⟨_,rfl⟩;have hfb:-9223372036854775808≤f∧f≤9223372036854775807:=by omega
 have hb1:0≤n∧n≤1099511627776:=bd.1;have hb2:0≤u∧u≤1099511627776:=bd.2.1;have hb3:0≤d∧d≤1099511627776:=bd.2.2.1;have hb4:0≤l∧l≤1099511627776:=bd.2.2.2;unfold nt;rw [if_neg (by decide),hf]
 clear hs bd
 by_cases p1:f=0
 · rw [if_pos p1]
   have q1:(f==0)=true:=by rw [beq_iff_eq];exact p1
   clear p1;go_enter Tryz.func67,Tryz.ntmps67
   go_wp2_with fail
   refine (HS.out _).mono ?_;rintro r w1 ⟨rfl,hb1⟩;have hz1:=hb1.size;simp at hz1;obtain ⟨hc1,hf1⟩:=bcell hb1;have B1:=qsd hb1;clear hb1
   go_wp2_with fail
   refine (HM.out _).mono ?_;rintro r w3 ⟨rfl,rfl⟩;go_wp2;go_ret;exact ⟨by first | rfl | simp,((Below.refl _ w).alloc (Nat.le_refl _) _).trans (B1.out.mono (by simp))⟩
 rw [if_neg p1];have q1:(f==0)=false:=by rw [beq_eq_false_iff_ne];exact p1
 clear p1
 by_cases p2:m=f
 · rw [if_pos p2]
   have q2:(m==f)=true:=by rw [beq_iff_eq];exact p2
   clear p2;go_enter Tryz.func67,Tryz.ntmps67
   go_wp2_with fail
   refine (HS.out _).mono ?_;rintro r w1 ⟨rfl,hb1⟩;have hz1:=hb1.size;simp at hz1;obtain ⟨hc1,hf1⟩:=bcell hb1;have B1:=qsd hb1;clear hb1
   go_wp2_with fail
   refine (HM.out _).mono ?_;rintro r w3 ⟨rfl,rfl⟩;go_wp2;go_ret;exact ⟨by first | rfl | simp,((Below.refl _ w).alloc (Nat.le_refl _) _).trans (B1.out.mono (by simp))⟩
 rw [if_neg p2];have q2:(m==f)=false:=by rw [beq_eq_false_iff_ne];exact p2
 clear p2
 by_cases p3:p=f
 · rw [if_pos p3]
   have q3:(p==f)=true:=by rw [beq_iff_eq];exact p3
   clear p3;go_enter Tryz.func67,Tryz.ntmps67
   go_wp2_with fail
   refine (HS.out _).mono ?_;rintro r w1 ⟨rfl,hb1⟩;have hz1:=hb1.size;simp at hz1;obtain ⟨hc1,hf1⟩:=bcell hb1;have B1:=qsd hb1;clear hb1
   go_wp2_with fail
   refine (HM.out _).mono ?_;rintro r w3 ⟨rfl,rfl⟩;go_wp2;go_ret;exact ⟨by first | rfl | simp,((Below.refl _ w).alloc (Nat.le_refl _) _).trans (B1.out.mono (by simp))⟩
 rw [if_neg p3];have q3:(p==f)=false:=by rw [beq_eq_false_iff_ne];exact p3
 clear p3
 by_cases p4:mode=3
 · rw [if_pos p4]
   subst p4;go_enter Tryz.func67,Tryz.ntmps67
   go_wp2_with fail
   refine (HS.out _).mono ?_;rintro r w1 ⟨rfl,hb1⟩;have hz1:=hb1.size;simp at hz1;obtain ⟨hc1,hf1⟩:=bcell hb1;have B1:=qsd hb1;clear hb1
   go_wp2_with fail
   refine (HM.out _).mono ?_;rintro r w3 ⟨rfl,rfl⟩;go_wp2;go_ret;exact ⟨by first | rfl | simp,((Below.refl _ w).alloc (Nat.le_refl _) _).trans (B1.out.mono (by simp))⟩
 · rw [if_neg p4]
   have q4:(mode==3)=false:=by rw [beq_eq_false_iff_ne];exact p4
   clear p4;go_enter Tryz.func67,Tryz.ntmps67
   go_wp2_with fail
   refine (HS.out _).mono ?_;rintro r w1 ⟨rfl,hb1⟩;have hz1:=hb1.size;simp at hz1;obtain ⟨hc1,hf1⟩:=bcell hb1;have B1:=qsd hb1;clear hb1
   go_wp2_with fail
   refine (HM.out _).mono ?_;rintro r w3 ⟨rfl,rfl⟩;go_wp2;go_ret;exact ⟨by first | rfl | simp,((Below.refl _ w).alloc (Nat.le_refl _) _).trans (B1.out.mono (by simp))⟩
end
section
open Go.RowKit
def ahd (V:Int) (s:Sp) (mode a b:Int):Nat×Bool×Int :=
 if (vd (snd s.n s.u s.d s.m s.p s.a&&may a b) s.n s.u s.d a b).2 then ((vd (snd s.n s.u s.d s.m s.p s.a&&may a b) s.n s.u s.d a b).1,true,0)
 else if V=0 then (nt (snd s.n s.u s.d s.m s.p s.a) s.n s.u s.d s.m s.p s.a mode,true,0) else (0,false,0)
theorem zero_words (L:List Nat) (V:Int) (hl:L.length=133) (hL:Wf L) (hv:(val L:Int)=V%(PB:Int)) (h0:-(HB:Int)<V) (h1:V<(HB:Int)):decide (L=List.replicate 133 0)=decide (V=0):=by
 rw [decide_eq_decide];have e:=PB_HB
 constructor
 · intro h
   rw [h,val_zeros] at hv;have h2:=Int.emod_emod_of_dvd V (Int.dvd_refl (PB:Int));have h3:(PB:Int) ∣ V:=Int.dvd_of_emod_eq_zero (by simpa using hv.symm)
   obtain ⟨k,hk⟩:=h3
   by_cases hk0:k=0
   · rw [hk,hk0];simp
   · have hp:=HB_pos
     have:(PB:Int)≤V∨V≤-(PB:Int):=by
      rcases Int.lt_or_gt_of_ne hk0 with h|h
      · right
        have:(PB:Int)*k≤(PB:Int)*(-1):=Int.mul_le_mul_of_nonneg_left (by omega) (by omega)
        omega
      · left
        have:(PB:Int)*1≤(PB:Int)*k:=Int.mul_le_mul_of_nonneg_left (by omega) (by omega)
        omega
     omega
 · rintro rfl
   refine val_inj (by simp [hl]) hL (Wf.zeros 133) ?_
   rw [val_zeros];simpa using hv
theorem ahead7 (g:Nat) (V:Int) (s:Sp) (mode a b:Int) (w:World) (hA:Acc7 w g V s) (hs:s.ok) (hm0:0≤mode) (hm1:mode≤4) (hab:may a b=true) (ha:a≠2) (hb:b≠2) :
 Calls Tryz.prog 39 #[.pointer (some ⟨g,0,none⟩),.int .i64 mode,.agg #[.int .i64 a,.int .i64 b]] w fun r w'=>r=.returned (.tuple #[.float .f64 (ahd V s mode a b).1,.bool (ahd V s mode a b).2.1,.int .i64 (ahd V s mode a b).2.2])∧Below w.heap.size w w':=by
 obtain ⟨⟨X,tl,er⟩,hX⟩:∃ X,X=ahd V s mode a b:=⟨_,rfl⟩;rw [←hX];simp only;obtain ⟨L,a1,a2,a3,a4,a5,a6⟩:=hA;have hz:=zero_words L V a1 a2 a3 a4 a5;obtain ⟨n,u,d,m,p,l⟩:=s;have HM:=hid (fun u:World=>May_any a b u)
 rw [hab] at HM;have HV:=hid (fun w:World=>Verdict_any n u d m p l a b w)
 have HN:=hid (fun w:World=>Nought_any n u d m p l mode w)
 obtain ⟨⟨vx,vt⟩,hvd⟩:∃ v,v=vd (snd n u d m p l&&may a b) n u d a b:=⟨_,rfl⟩;obtain ⟨nx,hnt⟩:∃ v,v=nt (snd n u d m p l) n u d m p l mode:=⟨_,rfl⟩;rw [←hvd] at HV;rw [←hnt] at HN;simp only at HV;simp only [ahd] at hX;rw [←hvd,←hnt] at hX;simp only at hX;have HX:=qsd hX;have HA:=qsd (ai a1 (ai a6 hz));have hlt:=a6.lt;have hne:g≠w.heap.size:=Nat.ne_of_lt hlt;have hne1:g≠w.heap.size+1:=by omega
 have c0:=a6.cell a1 0 _ rfl;have c1:=a6.cell a1 1 _ rfl;have c2:=a6.cell a1 2 _ rfl;have c3:=a6.cell a1 3 _ rfl;have c4:=a6.cell a1 4 _ rfl;have c5:=a6.cell a1 5 _ rfl;obtain ⟨h0,h1,h2,h3,h4,h5⟩:=hs;have ha':(a==2)=false:=by simpa using ha
 have hb':(b==2)=false:=by simpa using hb
 have b0:decide (mode<0)=false:=by simp;omega
 have b1:decide (4<mode)=false:=by simp;omega
 clear a1 a2 a3 a4 a5 a6 hX hvd hnt hab ha hb hz;go_enter Tryz.func39,Tryz.ntmps39
 go_wp2_with fail
 refine (HM.out _).mono ?_;rintro r w1 ⟨rfl,hb1⟩;have hz1:w.heap.size+1<w1.heap.size:=by have:=hb1.size;simp at this;omega
 have B1:=qsd hb1
 have P1:Aside (Bl w1 w.heap.size 25 [.int .i64 a,.int .i64 b]∧Bl w1 (w.heap.size+1) 64 [.int .i64 n,.int .i64 u,.int .i64 d,.int .i64 m,.int .i64 p,.int .i64 l]∧Below w.heap.size w w1∧Ac w1 g L ⟨n,u,d,m,p,l⟩):=by
  have e0:=(bel_alloc w (Obj.cells #[.int .i64 a,.int .i64 b] 25)).trans ((bel_alloc (w.alloc (Obj.cells #[.int .i64 a,.int .i64 b] 25)) (Obj.cells #[.int .i64 n,.int .i64 u,.int .i64 d,.int .i64 m,.int .i64 p,.int .i64 l] 64)).mono (by simp))
  have e1:=e0.trans (hb1.mono e0.size);exact ⟨(((Bl.new w 25 [_,_]).alloc _).below hb1 (by simp;omega)),((Bl.new' (w.alloc _) 64 _ [_,_,_,_,_,_] (by simp)).below hb1 (by simp)),e1,HA.out.2.1.below e1 HA.out.2.1.lt⟩
 clear hb1 c0 c1 c2 c3 c4 c5;have q0:=P1.out.1.cell 0 _ rfl;have q1:=P1.out.1.cell 1 _ rfl;have s0:=P1.out.2.1.cell 0 _ rfl;have s1:=P1.out.2.1.cell 1 _ rfl;have s2:=P1.out.2.1.cell 2 _ rfl;have s3:=P1.out.2.1.cell 3 _ rfl;have s4:=P1.out.2.1.cell 4 _ rfl;have s5:=P1.out.2.1.cell 5 _ rfl
 by_cases hn:0<n <;> by_cases hu:0<u+d
 all_goals (
  go_wp2_with fail
  refine (HV.out _).mono ?_;rintro r w2 ⟨rfl,hb2⟩
  have P2:Aside (Bl w2 (w.heap.size+1) 64 [.int .i64 n,.int .i64 u,.int .i64 d,.int .i64 m,.int .i64 p,.int .i64 l]∧Below w.heap.size w w2∧Ac w2 g L ⟨n,u,d,m,p,l⟩) :=
   ⟨P1.out.2.1.below hb2 P1.out.2.1.lt,P1.out.2.2.1.trans (hb2.mono P1.out.2.2.1.size),P1.out.2.2.2.below hb2 P1.out.2.2.2.lt⟩
  clear hb2 q0 q1 s0 s1 s2 s3 s4 s5 hn hu
  cases vt
  · have s0:=P2.out.1.cell 0 _ rfl
    have s1:=P2.out.1.cell 1 _ rfl;have s2:=P2.out.1.cell 2 _ rfl;have s3:=P2.out.1.cell 3 _ rfl;have s4:=P2.out.1.cell 4 _ rfl;have s5:=P2.out.1.cell 5 _ rfl
    go_wp2_with (first | (with_reducible refine wpList_load_mid (P:=Tryz.prog) rfl 62 (.tmp 57) rfl g 0 rfl (L.map U) _ P2.out.2.2.range Tryz.desc_words rfl (by simp [Tryz.size_words,HA.out.1]) ?_))
    rw [Tryz.nought_words,eq_words L _ w2 HA.out.1 (by simp),HA.out.2.2]
    generalize (List.replicate 133 0).map U=zz
    by_cases hV:V=0
    · rw [decide_eq_true hV]
      simp only [Result.andThen_ok,Oper.upon];have HX2:=qsd (show (X,tl,er)=(nx,true,0) by rw [HX.out,if_neg (by decide),if_pos hV])
      clear hV
      go_wp2_with fail
      refine (HN.out _).mono ?_;rintro r w3 ⟨rfl,hb3⟩;have B3:=qsd hb3;clear hb3;go_wp2;refine bodyPost_ret (v:=.tuple #[.float .f64 nx,.bool true,.int .i64 0]) (by simp [results,Tryz.results39,go_sem]) rfl ?_
      have e:=HX2.out
      cases e
      exact ⟨rfl,P2.out.2.1.trans (B3.out.mono P2.out.2.1.size)⟩
    · rw [decide_eq_false hV]
      simp only [Result.andThen_ok,Oper.upon];have HX2:=qsd (show (X,tl,er)=(0,false,0) by rw [HX.out,if_neg (by decide),if_neg hV])
      clear hV;go_wp2;refine bodyPost_ret (v:=.tuple #[.float .f64 0,.bool false,.int .i64 0]) (by simp [results,Tryz.results39,go_sem]) rfl ?_
      have e:=HX2.out
      cases e
      exact ⟨rfl,P2.out.2.1⟩
  · go_wp2
    refine bodyPost_ret (v:=.tuple #[.float .f64 vx,.bool true,.int .i64 0]) (by simp [results,Tryz.results39,go_sem]) rfl ?_
    have e:=HX.out;rw [if_pos trivial] at e
    cases e
    exact ⟨rfl,P2.out.2.1⟩)
end
section
open Go.RowKit
def rd7 (V:Int) (s:Sp) (mode a b:Int):Nat×Int :=
 if (ahd V s mode a b).2.1 then ((ahd V s mode a b).1,0) else rndS (mkS (dN (exV V)) (dX (exV V)) (dE (exV V))) mode
theorem ahd_er (V:Int) (s:Sp) (mode a b:Int):(ahd V s mode a b).2.2=0:=by
 unfold ahd
 split
 · rfl
 · split <;> rfl
theorem dX_small {V:Int}(h0:-(HB:Int)<V) (h1:V<(HB:Int)):(ws (dX (exV V))).length≤133:=by
 refine (ws_len_le _ 133).2 ?_;have e:pw 133=PB:=by unfold PB;rfl
 rw [e];have hp:=PB_HB;have hq:=HB_pos;refine Nat.lt_of_le_of_lt (m:=V.natAbs) ?_ (by omega)
 unfold exV mkS dX
 split
 · exact Nat.zero_le _
 · split
   · exact Nat.zero_le _
   · exact Nat.div_le_self _ _
theorem dE_small (V:Int):-9223372036854775808≤dE (exV V)∧dE (exV V)≤9223372036854775807:=by
 unfold exV mkS dE
 split
 · simp
 · split
   · simp
   · next h=>simp only [Option.getD_some];omega
theorem Round7 (g:Nat) (V:Int) (s:Sp) (mode a b:Int) (w:World) (hA:Acc7 w g V s) (hs:s.ok) (hT:Tab w) (hm0:0≤mode) (hm1:mode≤4) (hab:may a b=true) (ha:a≠2) (hb:b≠2) :
 Calls Tryz.prog 20 #[.pointer (some ⟨g,0,none⟩),.int .i64 mode,.agg #[.int .i64 a,.int .i64 b]] w fun r w'=>r=.returned (.tuple #[.float .f64 (rd7 V s mode a b).1,.int .i64 (rd7 V s mode a b).2])∧Below w.heap.size w w':=by
 obtain ⟨⟨X,er⟩,hX⟩:∃ X,X=rd7 V s mode a b:=⟨_,rfl⟩;rw [←hX];simp only;have hb0:=bel_alloc w (Obj.cells #[.int .i64 a,.int .i64 b] 25);have HH:=hid (ahead7 g V s mode a b _ (hA.bel hb0) hs hm0 hm1 hab ha hb);have her:=ahd_er V s mode a b;unfold rd7 at hX;obtain ⟨⟨ax,at',ae⟩,hAh⟩:∃ Y,Y=ahd V s mode a b:=⟨_,rfl⟩;rw [←hAh] at HH her hX;simp only at HH her hX;subst her;have HX:=qsd hX;have HA:=qsd (ai hA (ai hT hb0));clear hA hT hb0 hX hAh hs hab ha hb;go_enter Tryz.func20,Tryz.ntmps20
 go_wp2_with fail
 refine HH.out.mono ?_;rintro r w1 ⟨rfl,hb1⟩;have B1:=qsd (HA.out.2.2.trans (hb1.mono HA.out.2.2.size));clear hb1
 cases at'
 · go_wp2_with fail
   refine (Exact7 g V s w1 (HA.out.1.bel B1.out) (HA.out.2.1.belows B1.out)).mono ?_;rintro r w2 ⟨v,rfl,hN,hb2⟩;obtain ⟨L,_,_,_,h0,h1,_⟩:=HA.out.1;obtain ⟨ad,c,rfl,AV⟩:=hN.arg (Nat.le_trans (dX_small h0 h1) (by decide))
   have HR:=hid (Round_any AV (HA.out.2.1.belows (B1.out.trans (hb2.mono B1.out.size))) (dN (exV V)) (dE (exV V)) mode (dE_small V).1 (dE_small V).2);rw [val_ws] at HR;have HX2:=HX.out;rw [if_neg (by decide)] at HX2
   rw [←HX2] at HR;simp only at HR;have B2:=qsd (B1.out.trans (hb2.mono B1.out.size));clear hN hb2 AV h0 h1 HX2
   go_wp2_with fail
   refine HR.out.mono ?_;rintro r w3 ⟨rfl,hb3⟩;have B3:=qsd hb3;clear hb3;go_wp2;refine bodyPost_ret (v:=.tuple #[.float .f64 X,.int .i64 er]) (by simp [results,Tryz.results20,go_sem]) rfl ?_
   exact ⟨rfl,B2.out.trans (B3.out.mono B2.out.size)⟩
 · go_wp2
   have HX2:=HX.out;rw [if_pos trivial] at HX2
   cases HX2
   refine bodyPost_ret (v:=.tuple #[.float .f64 X,.int .i64 0]) (by simp [results,Tryz.results20,go_sem]) rfl ?_
   exact ⟨rfl,B1.out⟩
end
section
open Go.RowKit
theorem Tryz.zero_acc:Tryz.zeroCells66=((List.replicate 133 0).map U++Sp.cells ⟨0,0,0,0,0,0⟩).toArray:=by kernel_rfl
theorem zero_acc7 {w:World}{g:Nat}(h:Bl w g 66 ((List.replicate 133 0).map U++Sp.cells ⟨0,0,0,0,0,0⟩)):Acc7 w g 0 ⟨0,0,0,0,0,0⟩ :=
 ⟨List.replicate 133 0,by simp,Wf.zeros 133,by rw [val_zeros];simp,by have:=HB_pos;omega,by have:=HB_pos;omega,h⟩
theorem New7 (w:World):Calls Tryz.prog 18 #[] w fun r w'=>r=.returned (.pointer (some ⟨w.heap.size,0,none⟩))∧Acc7 w' w.heap.size 0 ⟨0,0,0,0,0,0⟩∧Below w.heap.size w w':=by
 go_enter Tryz.func18,Tryz.ntmps18;go_wp2;go_ret;refine ⟨rfl,?_,bel_alloc _ _⟩;rw [Tryz.zero_acc];exact zero_acc7 (Bl.new _ _ _)
end
section
open Go.RowKit
open Go.Proofs.YtnpchhjhoadehaaGreatDoor.B (bw)
theorem pK_one:pK 4607182418800017408 4607182418800017408=0:=by decide
theorem pT_pow (x:Nat) (ng:Bool) (j k:Nat) (h:pK x 4607182418800017408=0) (hf:frW x=2^52) (hn:(!ngW x==ngW 4607182418800017408)=ng) (hj:(xpW x+xpW 4607182418800017408+2148).toNat=j) (hk:k=104+j):pT x 4607182418800017408=sgn7 ng (2^k):=by
 unfold pT;rw [pv7_yes h,hf,show frW 4607182418800017408=2^52 by decide,hn,hj,hk,←Nat.pow_add,←Nat.pow_add]
theorem pT_one (k:Nat) (hk:k=2148):pT 4607182418800017408 4607182418800017408=((2^k:Nat):Int):=by
 obtain ⟨j,hj⟩:∃ j,j=2044:=⟨_,rfl⟩;rw [pT_pow 4607182418800017408 false j k pK_one (by decide) (by decide) (by rw [hj];decide) (by omega)]
 rfl
theorem bl_double7 (X:Nat) (h:X≠0):bl (2*X)=bl X+1:=by
 have:=bl_mul_pow 1 X h;rw [Nat.pow_one] at this;omega
theorem lo_double7 (X:Nat) (h:X≠0):lo (2*X)=lo X+1:=by
 obtain ⟨m,hm⟩:=lo_form X h;obtain ⟨k,hk⟩:∃ k,lo X=k:=⟨_,rfl⟩;rw [hk] at hm ⊢;have e:2*X=2^(k+1)*(2*m+1):=by rw [hm,Nat.pow_succ];grind
 rw [e];exact lo_eq (k+1) m
theorem mkS_double7 (n:Bool) (X:Nat) (e:Int):mkS n (2*X) e=mkS n X (e+1):=by
 unfold mkS
 by_cases h:X=0
 · subst h;simp
 · rw [if_neg (by omega),if_neg h,lo_double7 X h,bl_double7 X h]
   have e1:2*X/2^(lo X+1)=X/2^lo X:=by
    rw [Nat.pow_succ,Nat.mul_comm (2^lo X) 2,Nat.mul_div_mul_left _ _ (by omega)]
   rw [e1];have e2:(262144<bl X+1-(lo X+1)∨1048576-((lo X+1:Nat):Int)<e∨e < -1048576-((lo X+1:Nat):Int))↔(262144<bl X-lo X∨1048576-(lo X:Int)<e+1∨e+1 < -1048576-(lo X:Int)):=by omega
   by_cases h2:262144<bl X-lo X∨1048576-(lo X:Int)<e+1∨e+1 < -1048576-(lo X:Int)
   · rw [if_pos h2,if_pos (e2.2 h2)]
   · rw [if_neg h2,if_neg (fun h3=>h2 (e2.1 h3))]
     congr 3
     omega
theorem mkS_pow7 (n:Bool) (k:Nat):∀ e:Int,mkS n (2^k) e=mkS n 1 (e+k):=by
 induction k with
 | zero=>intro e;simp
 | succ k ih=>intro e;rw [Nat.pow_succ,Nat.mul_comm,mkS_double7,ih];congr 1;omega
end
section
open Go.RowKit
def QB:Nat:=HB/4398046511104
theorem QB_HB:HB=4398046511104*QB:=by
 obtain ⟨k,hk⟩:∃ k,k=4238:=⟨_,rfl⟩;obtain ⟨j,hj⟩:∃ j,j=4196:=⟨_,rfl⟩;unfold QB;rw [HB_two k hk,show k=42+j by omega,Nat.pow_add]
 have e:(2:Nat)^42=4398046511104:=by decide
 rw [e,Nat.mul_div_cancel_left _ (by decide)]
theorem QB_pos:0<QB:=by have:=QB_HB;have:=HB_pos;omega
theorem pT_small (x y:Nat) (hx:x<18446744073709551616) (hy:y<18446744073709551616):-(QB:Int)≤pT x y∧pT x y≤(QB:Int):=by
 have hp:=QB_pos
 have e2:∃ j,j=4196∧QB=2^j:=by
  obtain ⟨k,hk⟩:∃ k,k=4238:=⟨_,rfl⟩;obtain ⟨j,hj⟩:∃ j,j=4196:=⟨_,rfl⟩;refine ⟨j,hj,?_⟩;unfold QB;rw [HB_two k hk,show k=42+j by omega,Nat.pow_add]
  have e:(2:Nat)^42=4398046511104:=by decide
  rw [e,Nat.mul_div_cancel_left _ (by decide)]
 obtain ⟨j,hj,hq⟩:=e2;unfold pT pv7
 split
 · have f1:=fr_bound (eW x) (fW x) (bw_parts x hx).2.2
   have f2:=fr_bound (eW y) (fW y) (bw_parts y hy).2.2;have x1:=xp_bound (eW x) (bw_parts x hx).2.1;have x2:=xp_bound (eW y) (bw_parts y hy).2.1
   have h1:frW x*frW y<2^106:=by
    have:frW x*frW y≤9007199254740991*9007199254740991:=Nat.mul_le_mul (by unfold frW;omega) (by unfold frW;omega)
    exact Nat.lt_of_le_of_lt this (by decide)
   have h3:frW x*frW y*2^(xpW x+xpW y+2148).toNat<QB:=by
    rw [hq];refine Nat.lt_of_lt_of_le (Nat.mul_lt_mul_of_pos_right h1 (Nat.two_pow_pos _)) ?_;rw [←Nat.pow_add];exact Nat.pow_le_pow_right (by decide) (by unfold xpW;omega)
   have:=sgn_bound (!ngW x==ngW y) _ _ h3;omega
 · constructor <;> omega
def Sp.pos (s:Sp):Prop:=0≤s.n∧0≤s.u∧0≤s.d∧0≤s.m∧0≤s.p∧s.n+s.u+s.d+s.m+s.p≤s.a
theorem Sp.pos.cnt {s:Sp}(h:s.pos) (k:Nat) (hk:k≤5):(s.cnt k 1).pos:=by
 obtain ⟨h0,h1,h2,h3,h4,h5⟩:=h;have hc:k=0∨k=1∨k=2∨k=3∨k=4∨k=5:=by omega
 rcases hc with rfl|rfl|rfl|rfl|rfl|rfl <;> (unfold Sp.pos Sp.cnt;simp;omega)
theorem Sp.pos.ok {s:Sp}(h:s.pos) (ha:s.a≤4398046511104):s.ok:=by
 obtain ⟨h0,h1,h2,h3,h4,h5⟩:=h;unfold Sp.ok;omega
theorem cnt_a (s:Sp) (k:Nat) (c:Int):(s.cnt k c).a=s.a+c:=rfl
theorem put_ok (V:Int) (s:Sp) (k:Nat) (T:Int) (h0:-(HB:Int)<V+T) (h1:V+T<(HB:Int)) (ha:s.a<1099511627776):putS V s k T=(0,V+T,s.cnt k 1):=by
 unfold putS step7;rw [if_neg (by omega),if_pos ⟨h0,h1⟩]
end
section
open Go.RowKit
def vS (l:List Nat):Int:=l.foldl (fun v x=>v+pT x 4607182418800017408) 0
def sS (l:List Nat):Sp:=l.foldl (fun s x=>s.cnt (pK x 4607182418800017408) 1) ⟨0,0,0,0,0,0⟩
theorem take_snoc10 (l:List Nat) (k:Nat) (h:k<l.length):l.take (k+1)=l.take k++[l.getD k 0]:=by
 rw [List.take_succ_eq_append_getElem h,List.getD_eq_getElem?_getD,List.getElem?_eq_getElem h];rfl
theorem vS_take (l:List Nat) (k:Nat) (h:k<l.length):vS (l.take (k+1))=vS (l.take k)+pT (l.getD k 0) 4607182418800017408:=by
 rw [take_snoc10 l k h];simp [vS,List.foldl_append]
theorem sS_take (l:List Nat) (k:Nat) (h:k<l.length):sS (l.take (k+1))=(sS (l.take k)).cnt (pK (l.getD k 0) 4607182418800017408) 1:=by
 rw [take_snoc10 l k h];simp [sS,List.foldl_append]
theorem vS_bound (l:List Nat) (hl:W64 l):∀ k,k≤l.length→-((k*QB:Nat):Int)≤vS (l.take k)∧vS (l.take k)≤((k*QB:Nat):Int)
 | 0,_=>by simp [vS]
 | k+1,h=>by
   obtain ⟨h1,h2⟩:=vS_bound l hl k (by omega)
   have h3:=pT_small (l.getD k 0) 4607182418800017408 (hl.get k) (by decide)
   rw [vS_take l k h];have e:((k+1)*QB:Nat)=k*QB+QB:=by rw [Nat.add_mul,Nat.one_mul]
   omega
theorem sS_pos (l:List Nat):∀ k,k≤l.length→(sS (l.take k)).pos∧(sS (l.take k)).a=k
 | 0,_=>⟨by rw [List.take_zero];unfold Sp.pos sS;decide,rfl⟩
 | k+1,h=>by
   obtain ⟨h1,h2⟩:=sS_pos l k (by omega)
   rw [sS_take l k h];refine ⟨h1.cnt _ (pk_le _ _ _),?_⟩;rw [cnt_a,h2];omega
theorem exact_core (xs:List Nat) (a:Option Addr) (n c:Nat) (mode pa pb:Int) (X:Nat) (er:Int) (w:World) (hn:n=xs.length) (hF:Fs w.heap.size w a xs) (hW:W64 xs) (hT:Tab w) (hm0:0≤mode) (hm1:mode≤4) (hab:may pa pb=true) (hl:n≤65536)
 (HR:Hid (∀ (g:Nat) (u:World),Acc7 u g (vS xs) (sS xs)→(sS xs).ok→Tab u→Calls Tryz.prog 20 #[.pointer (some ⟨g,0,none⟩),.int .i64 mode,.agg #[.int .i64 pa,.int .i64 pb]] u fun r w'=>r=.returned (.tuple #[.float .f64 X,.int .i64 er])∧Below u.heap.size u w')) :
 Calls Tryz.prog 7 #[.slice a n c,.int .i64 mode,.agg #[.int .i64 pa,.int .i64 pb]] w fun r w'=>r=.returned (.tuple #[.float .f64 X,.int .i64 er])∧Below w.heap.size w w':=by
 have HM:=hid (fun u:World=>May_any pa pb u)
 rw [hab] at HM;have HX:=qsd (ai hn (ai hF (ai hW (ai hT hl))));have b0:decide (mode<0)=false:=by simp;omega
 have b1:decide (4<mode)=false:=by simp;omega
 have b2:decide ((65536:Int)<(n:Int))=false:=by simp;omega
 have b3:decide (65536<n)=false:=by simp;omega
 clear hn hF hW hT hm0 hm1 hab hl;go_enter Tryz.func7,Tryz.ntmps7
 go_wp2_with fail
 refine (HM.out _).mono ?_;rintro r w1 ⟨rfl,hb1⟩
 have P1:Aside (Bl w1 w.heap.size 25 [.int .i64 pa,.int .i64 pb]∧Below w.heap.size w w1∧w.heap.size<w1.heap.size):=by
  have e0:=bel_alloc w (Obj.cells #[.int .i64 pa,.int .i64 pb] 25);exact ⟨(Bl.new w 25 [_,_]).below hb1 (by simp),e0.trans (hb1.mono (by simp)),by have:=hb1.size;simp at this;omega⟩
 clear hb1 HM
 go_wp2_with fail
 refine (New7 w1).mono ?_;rintro r w2 ⟨rfl,hA,hb2⟩;obtain ⟨g,hg⟩:∃ g,g=w1.heap.size:=⟨_,rfl⟩;rw [←hg] at hA ⊢
 have P2:Aside (Bl w2 w.heap.size 25 [.int .i64 pa,.int .i64 pb]∧Below w.heap.size w w2∧w.heap.size<g∧Acc7 w2 g 0 ⟨0,0,0,0,0,0⟩) :=
  ⟨P1.out.1.below hb2 P1.out.2.2,P1.out.2.1.trans (hb2.mono P1.out.2.1.size),by rw [hg];exact P1.out.2.2,hA⟩
 clear hb2 hA hg P1;go_wp2
 go_loopg [30] n (fun gk i wr=>∃ k:Nat,gk+k=n∧i=.int .i64 (k:Nat)∧Aside (Acc7 wr g (vS (xs.take k)) (sS (xs.take k))∧Bl wr w.heap.size 25 [.int .i64 pa,.int .i64 pb]∧Below w.heap.size w wr))
 case atStart=>exact ⟨0,by omega,by simp,by simpa [vS,sS] using P2.out.2.2.2,P2.out.1,P2.out.2.1⟩
 case round =>
  obtain ⟨k,hgk,rfl,HA⟩:=hrel
  by_cases hk:k<n
  · obtain ⟨b,off,rfl,hc⟩:=HX.out.2.1.at HA.out.2.2 k (by rw [←HX.out.1];exact hk)
    obtain ⟨x,hx⟩:∃ x,x=xs.getD k 0:=⟨_,rfl⟩;rw [←hx] at hc
    have C:Hid (Calls Tryz.prog 19 #[.pointer (some ⟨g,0,none⟩),.float .f64 x] wr (Did g wr (0,vS (xs.take (k+1)),sS (xs.take (k+1))))):=by
     have hk2:k<xs.length:=by rw [←HX.out.1];exact hk
     obtain ⟨p1,p2⟩:=sS_pos xs k (by omega)
     obtain ⟨v1,v2⟩:=vS_bound xs HX.out.2.2.1 k (by omega)
     have hx64:x<18446744073709551616:=by rw [hx];exact HX.out.2.2.1.get k
     have hsm:=pT_small x 4607182418800017408 hx64 (by decide)
     have hl:=HX.out.2.2.2.2;have hkq:k*QB≤65536*QB:=Nat.mul_le_mul_right _ (by omega)
     have hQ:=QB_HB;have hqp:=QB_pos;have C:=Add7 g (vS (xs.take k)) (sS (xs.take k)) x wr HA.out.1 (p1.ok (by omega)) hx64
     rw [put_ok _ _ _ _ (by omega) (by omega) (by omega)] at C
     rw [vS_take xs k hk2,sS_take xs k hk2,←hx];exact C
    have hkb:k<4611686018427387904:=by have:=HX.out.2.2.2.2;omega
    clear hx
    go_wp2_with fail
    refine (C.out).mono ?_;rintro r w3 ⟨rfl,hA3,hbut⟩;have H3:=qsd (ai hA3 (ai (HA.out.2.1.but hbut (by have:=P2.out.2.2.1;omega)) (But.below HA.out.2.2 hbut HA.out.2.2.size (by have:=P2.out.2.2.1;omega))))
    clear hA3 hbut C;go_wp2
    go_roundg (gk-1)
    case measure=>omega
    case rel=>exact ⟨k+1,by omega,by first | rfl | simp,H3.out⟩
  · have hd:decide ((k:Int)<n)=false:=by simp;omega
    have q0:=HA.out.2.1.cell 0 _ rfl;have q1:=HA.out.2.1.cell 1 _ rfl
    have C:Hid (Calls Tryz.prog 20 #[.pointer (some ⟨g,0,none⟩),.int .i64 mode,.agg #[.int .i64 pa,.int .i64 pb]] wr fun r w'=>r=.returned (.tuple #[.float .f64 X,.int .i64 er])∧Below wr.heap.size wr w'):=by
     have e:xs.take k=xs:=by rw [List.take_of_length_le];rw [←HX.out.1];omega
     have hA:=HA.out.1;obtain ⟨p1,p2⟩:=sS_pos xs k (by rw [←HX.out.1];omega)
     rw [e] at hA p1 p2;have hl:=HX.out.2.2.2.2;exact HR.out g wr hA (p1.ok (by omega)) (HX.out.2.2.2.1.belows HA.out.2.2)
    clear HR
    go_wp2_with fail
    refine (C.out).mono ?_;rintro r w3 ⟨rfl,hb3⟩;have B3:=qsd (HA.out.2.2.trans (hb3.mono HA.out.2.2.size));clear hb3 C;go_wp2
    go_ret2
    exact ⟨rfl,B3.out⟩
theorem Exact10 (xs:List Nat) (a:Option Addr) (n c:Nat) (mode pa pb:Int) (w:World) (hn:n=xs.length) (hF:Fs w.heap.size w a xs) (hW:W64 xs) (hT:Tab w) (hm0:0≤mode) (hm1:mode≤4) (hab:may pa pb=true) (hl:n≤65536) (ha:pa≠2) (hb:pb≠2) :
 Calls Tryz.prog 7 #[.slice a n c,.int .i64 mode,.agg #[.int .i64 pa,.int .i64 pb]] w fun r w'=>r=.returned (.tuple #[.float .f64 (rd7 (vS xs) (sS xs) mode pa pb).1,.int .i64 (rd7 (vS xs) (sS xs) mode pa pb).2])∧Below w.heap.size w w' :=
 exact_core xs a n c mode pa pb _ _ w hn hF hW hT hm0 hm1 hab hl (hid fun g u hA hs hT=>Round7 g (vS xs) (sS xs) mode pa pb u hA hs hT hm0 hm1 hab ha hb)
end
section
open Go.RowKit J

def Is (z v:Nat):Prop:=z<18446744073709551616∧nrm z=v
theorem Is.self {x:Nat}(h:x<18446744073709551616):Is x (nrm x):=⟨h,rfl⟩
theorem Is.pl {x y a b z:Nat}(hx:Is x a) (hy:Is y b) (hz:Gives .add x y z):Is z (plF a b):=by
 obtain ⟨h1,rfl⟩:=hx;obtain ⟨h2,rfl⟩:=hy;obtain ⟨h3,h4⟩:=gives_nrm (.inl rfl) hz;exact ⟨h4,h3.trans (add_nrm h1 h2).symm⟩
theorem Is.mi {x y a b z:Nat}(hx:Is x a) (hy:Is y b) (hz:Gives .sub x y z):Is z (miF a b):=by
 obtain ⟨h1,rfl⟩:=hx;obtain ⟨h2,rfl⟩:=hy;obtain ⟨h3,h4⟩:=gives_nrm (.inr (.inl rfl)) hz;exact ⟨h4,h3.trans (sub_nrm h1 h2).symm⟩
theorem plus10 {x y a b:Nat}(hx:Is x a) (hy:Is y b) (w:World):Calls Tryz.prog 59 #[.float .f64 x,.float .f64 y] w fun r w'=>∃ z,r=.returned (.float .f64 z)∧Is z (plF a b)∧Below w.heap.size w w':=by
 have HZ:Aside (∀ z,Gives .add x y z→Is z (plF a b)):=fun z hz=>hx.pl hy hz
 clear hx hy;go_enter Tryz.func59,Tryz.ntmps59
 cases h:floatBits .add .f64 x y with
 | some z =>
   have d:=run_float_arith (P:=Tryz.prog) w .add 28 .f64 x y z h
   go_wp2_with (simp only [d])
   exact bodyPost_ret (v:=.float .f64 z) (by simp [results,Tryz.results59,go_sem]) rfl ⟨z,rfl,HZ.out z (.inl h),Below.refl _ _⟩
 | none =>
   obtain ⟨z,hz,d⟩:=run_float_none (P:=Tryz.prog) w .add 28 x y (.inl rfl) h
   go_wp2_with (simp only [d])
   exact bodyPost_ret (v:=.float .f64 z) (by simp [results,Tryz.results59,go_sem]) rfl ⟨z,rfl,HZ.out z (.inr ⟨h,hz⟩),(Below.refl _ _).drew⟩
theorem minus10 {x y a b:Nat}(hx:Is x a) (hy:Is y b) (w:World):Calls Tryz.prog 61 #[.float .f64 x,.float .f64 y] w fun r w'=>∃ z,r=.returned (.float .f64 z)∧Is z (miF a b)∧Below w.heap.size w w':=by
 have HZ:Aside (∀ z,Gives .sub x y z→Is z (miF a b)):=fun z hz=>hx.mi hy hz
 clear hx hy;go_enter Tryz.func61,Tryz.ntmps61
 cases h:floatBits .sub .f64 x y with
 | some z =>
   have d:=run_float_arith (P:=Tryz.prog) w .sub 28 .f64 x y z h
   go_wp2_with (simp only [d])
   exact bodyPost_ret (v:=.float .f64 z) (by simp [results,Tryz.results61,go_sem]) rfl ⟨z,rfl,HZ.out z (.inl h),Below.refl _ _⟩
 | none =>
   obtain ⟨z,hz,d⟩:=run_float_none (P:=Tryz.prog) w .sub 28 x y (.inr (.inl rfl)) h
   go_wp2_with (simp only [d])
   exact bodyPost_ret (v:=.float .f64 z) (by simp [results,Tryz.results61,go_sem]) rfl ⟨z,rfl,HZ.out z (.inr ⟨h,hz⟩),(Below.refl _ _).drew⟩
theorem told10 {x a:Nat}(hx:Is x a) (w:World):Calls Tryz.prog 31 #[.float .f64 x] w fun r w'=>r=.returned (.float .f64 a)∧w'=w:=by
 obtain ⟨s,e,f,he,hf,h1,h2⟩:=bwz x hx.1;have h3:=B.order_self s e f he hf;rw [←h1,h2] at h3;have h4:=hx.2;unfold nrm at h4;have HN:=hid (fun u:World=>B.nan_any u)
 clear h1 h2 he hf hx
 cases hn:nanW x
 · rw [hn] at h3 h4
   rw [if_neg (by decide)] at h4
   subst h4;go_enter Tryz.func31,Tryz.ntmps31;go_wp2;go_ret;exact ⟨rfl,rfl⟩
 · rw [hn] at h3 h4
   rw [if_pos rfl] at h4;subst h4;go_enter Tryz.func31,Tryz.ntmps31
   go_wp2_with fail
   refine (HN.out _).mono ?_;rintro r w1 ⟨rfl,rfl⟩;go_wp2;exact bodyPost_ret (v:=.float .f64 oddW) (by simp [results,Tryz.results31,go_sem,oddW]) rfl ⟨rfl,rfl⟩
theorem running10 (xs:List Nat) (a:Option Addr) (n c:Nat) (w:World) (hn:n=xs.length) (hF:Fs w.heap.size w a xs) (hW:W64 xs) (hc:n≤c) (hm:n≤4611686018427387904) :
 Calls Tryz.prog 32 #[.slice a n c] w fun r w'=>∃ z,r=.returned (.float .f64 z)∧Is z (runF xs)∧Below w.heap.size w w':=by
 by_cases h0:n=0
 · have e:xs=[]:=List.eq_nil_of_length_eq_zero (by omega)
   subst h0 e;clear hF hW hn;go_enter Tryz.func32,Tryz.ntmps32;go_wp2;exact bodyPost_ret (v:=.float .f64 0) (by simp [results,Tryz.results32,go_sem]) rfl ⟨0,rfl,⟨by decide,by decide⟩,Below.refl _ _⟩
 · have hne:xs≠[]:=by intro e;subst e;simp at hn;omega
   obtain ⟨b,off,hlt,rfl,hcl⟩:=hF hne;have hc0:=hcl 0 (by omega)
   rw [Nat.add_zero] at hc0;have HR:Aside (Fs w.heap.size w (some ⟨b,off,none⟩) xs∧W64 xs∧n=xs.length):=⟨hF,hW,hn⟩;have hz0:((n:Int)==0)=false:=by simp;omega
   have hz1:decide ((0:Int)<n)=true:=by simp;omega
   obtain ⟨x0,hx0⟩:∃ x0,x0=xs.getD 0 0:=⟨_,rfl⟩;rw [←hx0] at hc0;have HX:=qsd (show Is x0 (runF (xs.take 1)) by rw [runF_one xs (by omega),←hx0];exact Is.self (by rw [hx0];exact hW.get 0))
   have hnc:c=1∨c≠1:=by omega
   clear hF hW hn hcl hne hlt hx0;have hcc:(c=1∧n=1)∨c≠1:=by omega
   clear hnc
   rcases hcc with ⟨hc1,hn1⟩|hc1
   · subst hc1 hn1
     have HK:=qsd (show xs.take 1=xs by rw [List.take_of_length_le];rw [←HR.out.2.2];omega)
     go_enter Tryz.func32,Tryz.ntmps32;go_wp2
     go_loopg [15,3] 1 (fun gk i s wr=>i=.int .i64 0∧s=.float .f64 x0∧wr=w)
     case atStart=>exact ⟨by simp,rfl,rfl⟩
     case round =>
      obtain ⟨rfl,rfl,rfl⟩:=hrel;go_wp2;refine bodyPost_ret (v:=.float .f64 x0) (by simp [results,Tryz.results32,go_sem]) rfl ?_
      have e:=HX.out;rw [HK.out] at e;exact ⟨x0,rfl,e,Below.refl _ _⟩
   · go_enter Tryz.func32,Tryz.ntmps32
     go_wp2
     go_loopg [15,3] n (fun gk i s wr=>∃ (k z:Nat),gk+k=n∧i=.int .i64 (k:Nat)∧s=.float .f64 z∧Aside (Is z (runF (xs.take (k+1)))∧Below w.heap.size w wr))
     case atStart=>exact ⟨0,x0,by omega,by simp,rfl,HX.out,Below.refl _ _⟩
     case round =>
      obtain ⟨k,z,hgk,rfl,rfl,HA⟩:=hrel
      by_cases hk:k+1<n
      · have hcell:=HR.out.1.cell HA.out.2 (k+1) (by rw [←HR.out.2.2];exact hk)
        rw [show off+(k+1)=off+1+k by omega] at hcell
        obtain ⟨x,hx⟩:∃ x,x=xs.getD (k+1) 0:=⟨_,rfl⟩;rw [←hx] at hcell
        have HP:Hid (∀ u:World,Calls Tryz.prog 59 #[.float .f64 z,.float .f64 x] u fun r w'=>∃ z',r=.returned (.float .f64 z')∧Is z' (runF (xs.take (k+1+1)))∧Below u.heap.size u w'):=fun u=>by
         have hx64:x<18446744073709551616:=by rw [hx];exact HR.out.2.1.get (k+1)
         have h:=plus10 HA.out.1 (Is.self hx64) u;have hw:=runF_ok (xs.take (k+1)) (fun y hy=>HR.out.2.1 y (List.mem_of_mem_take hy))
         have e:=add_nrm hw.1 hx64;rw [hw.2] at e;rw [runF_take xs (k+1) (by omega) (by rw [←HR.out.2.2];exact hk),←hx]
         rw [show plF (runF (xs.take (k+1))) (nrm x)=plF (runF (xs.take (k+1))) x from e] at h
         exact h
        have hd:decide ((k:Int)<(n:Int)-1)=true:=by simp;omega
        clear hx
        go_wp2_with fail
        refine (HP.out _).mono ?_;rintro r w2 ⟨z',rfl,hz',hb2⟩;have HB:=qsd (ai hz' hb2);clear hz' hb2 HP;go_wp2
        go_roundg (gk-1)
        case measure=>omega
        case rel=>exact ⟨k+1,z',by omega,by first | rfl | simp,rfl,HB.out.1,HA.out.2.trans (HB.out.2.mono HA.out.2.size)⟩
      · have hd:decide ((k:Int)<(n:Int)-1)=false:=by simp;omega
        have HK:=qsd (show xs.take (k+1)=xs by rw [List.take_of_length_le];rw [←HR.out.2.2];omega)
        go_wp2;refine bodyPost_ret (v:=.float .f64 z) (by simp [results,Tryz.results32,go_sem]) rfl ?_
        have e:=HA.out.1;rw [HK.out] at e;exact ⟨z,rfl,e,HA.out.2⟩
theorem Running10 (xs:List Nat) (a:Option Addr) (n c:Nat) (w:World) (hn:n=xs.length) (hF:Fs w.heap.size w a xs) (hW:W64 xs) (hc:n≤c) (hm:n≤4611686018427387904) :
 Calls Tryz.prog 14 #[.slice a n c] w fun r w'=>r=.returned (.float .f64 (runF xs))∧Below w.heap.size w w':=by
 have H1:=hid (running10 xs a n c w hn hF hW hc hm);obtain ⟨y,hy⟩:∃ y,y=runF xs:=⟨_,rfl⟩;rw [←hy] at H1 ⊢;clear hn hF hW hc hm hy;go_enter Tryz.func14,Tryz.ntmps14
 go_wp2_with fail
 refine (H1.out).mono ?_;rintro r w1 ⟨z,rfl,hz,hb⟩;have H2:=hid (fun u:World=>told10 hz u)
 have HB:=qsd hb;clear hz hb H1
 go_wp2_with fail
 refine (H2.out _).mono ?_;rintro r w2 ⟨rfl,rfl⟩;go_wp2;exact bodyPost_ret (v:=.float .f64 y) (by simp [results,Tryz.results14,go_sem]) rfl ⟨rfl,HB.out⟩
end
section
open Go.RowKit J

theorem neS_nrm {q:Nat×Nat}{x:Nat}(hx:x<18446744073709551616) (h1:q.1<18446744073709551616) (n1:nrm q.1=q.1):neS q (nrm x)=neS q x:=by
 have e:plF q.1 (nrm x)=plF q.1 x:=by
  have:=add_nrm h1 hx;rw [n1] at this;exact this
 have e2:nbW q.1 (nrm x)=nbW q.1 x:=by have:=nbW_nrm q.1 x;rw [n1] at this;exact this
 have e3:miF (nrm x) (plF q.1 x)=miF x (plF q.1 x):=by
  have:=sub_nrm hx (plF_lt q.1 x);rw [plF_nrm] at this;exact this
 have e4:∀ y,y<18446744073709551616→nrm y=y→plF y (nrm x)=plF y x:=fun y hy ny=>by
  have:=add_nrm hy hx;rw [ny] at this;exact this
 unfold neS neV;rw [e,e2,e3,e4 _ (miF_lt _ _) (miF_nrm _ _)]
theorem together10 {s c a b:Nat}(hs:Is s a) (hc:Is c b) (w:World):Calls Tryz.prog 34 #[.float .f64 s,.float .f64 c] w fun r w'=>∃ z,r=.returned (.float .f64 z)∧Is z (plF a b)∧Below w.heap.size w w':=by
 have H1:=hid (fun u:World=>plus10 hs hc u)
 clear hs hc;go_enter Tryz.func34,Tryz.ntmps34
 go_wp2_with fail
 refine (H1.out _).mono ?_;rintro r w1 ⟨y,rfl,hy,hb1⟩;have HY:=qsd (ai hy hb1);clear hy hb1;go_wp2;exact bodyPost_ret (v:=.float .f64 y) (by simp [results,Tryz.results34,go_sem]) rfl ⟨y,rfl,HY.out.1,HY.out.2⟩
theorem ge_size {s x:Nat}(hs:s<18446744073709551616) (hx:x<18446744073709551616):(FloatKind.f64.format.order (magW s) (magW x)==some .gt || FloatKind.f64.format.order (magW s) (magW x)==some .eq)=nbW s x:=by
 obtain ⟨s1,e,f,he,hf,h1,h2⟩:=bwz s hs;obtain ⟨s2,u,v,hu,hv,h3,h4⟩:=bwz x hx
 have m1:magW s=B.bw false e f:=by
  rw [h1];unfold magW B.bw
  cases s1 <;> simp <;> omega
 have m2:magW x=B.bw false u v:=by
  rw [h3];unfold magW B.bw
  cases s2 <;> simp <;> omega
 unfold nbW;rw [m1,m2,B.gt_f64 false false e f u v he hf hu hv,B.eq_f64 false false e f u v he hf hu hv,h2,h4]
 cases nanW s <;> cases nanW x <;> simp
 unfold B.pl B.bw B.sg;rw [Bool.eq_iff_iff];simp;omega
theorem abs10 {x:Nat}(hx:x<18446744073709551616) (w:World):Calls Tryz.prog 60 #[.float .f64 x] w fun r w'=>r=.returned (.float .f64 (magW x))∧w'=w:=by
 obtain ⟨s,e,f,he,hf,h1,_⟩:=bwz x hx
 have h2:magW x=B.bw false e f:=by
  rw [h1];unfold magW B.bw
  cases s <;> simp <;> omega
 rw [h2,h1];exact B.abs_any s e f he hf w
theorem saved10 {s c x a b d:Nat}(hs:Is s a) (hc:Is c b) (hx:Is x d) (w:World):Calls Tryz.prog 33 #[.float .f64 s,.float .f64 c,.float .f64 x] w fun r w'=>∃ t u,r=.returned (.tuple #[.float .f64 t,.float .f64 u])∧Is t (neS (a,b) d).1∧Is u (neS (a,b) d).2∧Below w.heap.size w w':=by
 have hge:=ge_size hs.1 hx.1;have enb:nbW s x=nbW a d:=by rw [←hs.2,←hx.2,nbW_nrm]
 have A1:=hid (fun u:World=>abs10 hs.1 u)
 have A2:=hid (fun u:World=>abs10 hx.1 u)
 obtain ⟨ms,hms⟩:∃ m,m=magW s:=⟨_,rfl⟩;obtain ⟨mx,hmx⟩:∃ m,m=magW x:=⟨_,rfl⟩;rw [←hms] at A1 hge;rw [←hmx] at A2 hge;rw [enb] at hge;have H1:=hid (fun u:World=>plus10 hs hx u)
 have HS:=qsd (ai hs (ai hc hx));clear hs hc hx enb hms hmx;go_enter Tryz.func33,Tryz.ntmps33
 go_wp2_with fail
 refine (H1.out _).mono ?_;rintro r w1 ⟨t,rfl,ht,hb1⟩;have HT:=qsd (ai ht hb1);clear ht hb1 H1
 go_wp2_with fail
 refine (A1.out _).mono ?_;rintro r w1' ⟨rfl,rfl⟩
 go_wp2_with fail
 refine (A2.out _).mono ?_;rintro r w1'' ⟨rfl,rfl⟩;clear A1 A2
 cases hnb:nbW a d
 · rw [hnb] at hge
   have HE:=qsd (show neS (a,b) d=(plF a d,plF b (plF (miF d (plF a d)) a)) by unfold neS neV;rw [hnb];rfl)
   clear hnb;have H3:=hid (fun u:World=>minus10 HS.out.2.2 HT.out.1 u)
   go_wp2_with fail
   refine (H3.out _).mono ?_;rintro r w3 ⟨u,rfl,hu,hb3⟩;have HU:=qsd (ai hu (HT.out.2.trans (hb3.mono HT.out.2.size)));have H4:=hid (fun v:World=>plus10 hu HS.out.1 v)
   clear hu hb3 H3
   go_wp2_with fail
   refine (H4.out _).mono ?_;rintro r w4 ⟨v,rfl,hv,hb4⟩;have HV:=qsd (ai hv (HU.out.2.trans (hb4.mono HU.out.2.size)));have H5:=hid (fun v':World=>plus10 HS.out.2.1 hv v')
   clear hv hb4 H4
   go_wp2_with fail
   refine (H5.out _).mono ?_;rintro r w5 ⟨y,rfl,hy,hb5⟩;have HY:=qsd (ai hy (HV.out.2.trans (hb5.mono HV.out.2.size)));clear hy hb5 H5;go_wp2
   go_ret2
   exact ⟨t,y,rfl,by rw [HE.out];exact HT.out.1,by rw [HE.out];exact HY.out.1,HY.out.2⟩
 · rw [hnb] at hge
   have HE:=qsd (show neS (a,b) d=(plF a d,plF b (plF (miF a (plF a d)) d)) by unfold neS neV;rw [hnb];rfl)
   clear hnb;have H3:=hid (fun u:World=>minus10 HS.out.1 HT.out.1 u)
   go_wp2_with fail
   refine (H3.out _).mono ?_;rintro r w3 ⟨u,rfl,hu,hb3⟩;have HU:=qsd (ai hu (HT.out.2.trans (hb3.mono HT.out.2.size)));have H4:=hid (fun v:World=>plus10 hu HS.out.2.2 v)
   clear hu hb3 H3
   go_wp2_with fail
   refine (H4.out _).mono ?_;rintro r w4 ⟨v,rfl,hv,hb4⟩;have HV:=qsd (ai hv (HU.out.2.trans (hb4.mono HU.out.2.size)));have H5:=hid (fun v':World=>plus10 HS.out.2.1 hv v')
   clear hv hb4 H4
   go_wp2_with fail
   refine (H5.out _).mono ?_;rintro r w5 ⟨y,rfl,hy,hb5⟩;have HY:=qsd (ai hy (HV.out.2.trans (hb5.mono HV.out.2.size)));clear hy hb5 H5;go_wp2
   go_ret2
   exact ⟨t,y,rfl,by rw [HE.out];exact HT.out.1,by rw [HE.out];exact HY.out.1,HY.out.2⟩
end
section
open Go.RowKit J

theorem is_zero:Is 0 0:=⟨by decide,by decide⟩
theorem sumNeumaier (xs:List Nat) (a:Option Addr) (n c:Nat) (w:World) (hn:n=xs.length) (hF:Fs w.heap.size w a xs) (hW:W64 xs) (hm:n≤4611686018427387904) :
 Calls Tryz.prog 35 #[.agg #[.func (.func 33) #[] #[],.func (.func 34) #[] #[]],.slice a n c] w fun r w'=>r=.returned (.float .f64 (plF (neF xs).1 (neF xs).2))∧Below w.heap.size w w':=by
 have HR:Aside (Fs w.heap.size w a xs∧W64 xs∧n=xs.length):=⟨hF,hW,hn⟩;have HB0:Aside (Below w.heap.size w (w.alloc (Obj.cells #[.func (.func 33) #[] #[],.func (.func 34) #[] #[]] 58))∧Bl (w.alloc (Obj.cells #[.func (.func 33) #[] #[],.func (.func 34) #[] #[]] 58)) w.heap.size 58 [.func (.func 33) #[] #[],.func (.func 34) #[] #[]]):=⟨bel_alloc _ _,Bl.new _ _ _⟩;clear hF hW hn;go_enter Tryz.func35,Tryz.ntmps35;go_wp2
 go_loopg [11,5,6] n (fun gk i s q wr=>∃ (k y z:Nat),gk+k=n∧i=.int .i64 (k:Nat)∧s=.float .f64 y∧q=.float .f64 z∧Aside (Is y ((xs.take k).foldl neS (0,0)).1∧Is z ((xs.take k).foldl neS (0,0)).2∧Below w.heap.size w wr∧Bl wr w.heap.size 58 [.func (.func 33) #[] #[],.func (.func 34) #[] #[]]∧w.heap.size<wr.heap.size))
 case atStart=>exact ⟨0,0,0,by omega,by simp,rfl,rfl,is_zero,is_zero,HB0.out.1,HB0.out.2,by simp⟩
 case round =>
  obtain ⟨k,y,z,hgk,rfl,rfl,rfl,HA⟩:=hrel;have q0:=HA.out.2.2.2.1.cell 0 _ rfl;have q1:=HA.out.2.2.2.1.cell 1 _ rfl
  by_cases hk:k<n
  · obtain ⟨b,off,rfl,hcell⟩:=HR.out.1.at HA.out.2.2.1 k (by rw [←HR.out.2.2];exact hk)
    obtain ⟨x,hx⟩:∃ x,x=xs.getD k 0:=⟨_,rfl⟩;rw [←hx] at hcell
    have HP:Hid (∀ u:World,Calls Tryz.prog 33 #[.float .f64 y,.float .f64 z,.float .f64 x] u fun r w'=>∃ t v,r=.returned (.tuple #[.float .f64 t,.float .f64 v])∧Is t ((xs.take (k+1)).foldl neS (0,0)).1∧Is v ((xs.take (k+1)).foldl neS (0,0)).2∧Below u.heap.size u w'):=fun u=>by
     have hx64:x<18446744073709551616:=by rw [hx];exact HR.out.2.1.get k
     have h:=saved10 HA.out.1 HA.out.2.1 (Is.self hx64) u;obtain ⟨o1,o2,o3,o4⟩:=fold_ok neS neS_ok (xs.take k);rw [foldl_take neS (0,0) xs k (by rw [←HR.out.2.2];exact hk),←hx]
     rw [show (((xs.take k).foldl neS (0,0)).1,((xs.take k).foldl neS (0,0)).2)=(xs.take k).foldl neS (0,0) from rfl,neS_nrm hx64 o1 o3] at h
     exact h
    clear hx
    go_wp2_with fail
    refine (HP.out _).mono ?_;rintro r w2 ⟨t,v,rfl,ht,hv,hb2⟩;have HB:=qsd (ai ht (ai hv (ai (HA.out.2.2.1.trans (hb2.mono HA.out.2.2.1.size)) (ai (HA.out.2.2.2.1.below hb2 HA.out.2.2.2.2) (Nat.lt_of_lt_of_le HA.out.2.2.2.2 hb2.size)))));clear ht hv hb2 HP;go_wp2
    go_roundg (gk-1)
    case measure=>omega
    case rel=>exact ⟨k+1,t,v,by omega,by first | rfl | simp,rfl,rfl,HB.out⟩
  · have hd:decide ((k:Int)<n)=false:=by simp;omega
    have HK:=qsd (show xs.take k=xs by rw [List.take_of_length_le];rw [←HR.out.2.2];omega)
    have HE:=hid (fun u:World=>together10 HA.out.1 HA.out.2.1 u)
    go_wp2_with fail
    refine (HE.out _).mono ?_;rintro r w2 ⟨t,rfl,ht,hb2⟩;have HT:=hid (fun u:World=>told10 ht u)
    have HB:=qsd (HA.out.2.2.1.trans (hb2.mono HA.out.2.2.1.size));clear ht hb2 HE;rw [HK.out] at HT;obtain ⟨Y,hY⟩:∃ Y,Y=plF (xs.foldl neS (0,0)).1 (xs.foldl neS (0,0)).2:=⟨_,rfl⟩;rw [←hY] at HT;have HY:=qsd hY;clear hY
    go_wp2_with fail
    refine (HT.out _).mono ?_;rintro r w3 ⟨rfl,rfl⟩;go_wp2;refine bodyPost_ret (v:=.float .f64 Y) (by simp [results,Tryz.results35,go_sem]) rfl ?_
    exact ⟨by rw [HY.out];rfl,HB.out⟩
theorem Neumaier10 (xs:List Nat) (a:Option Addr) (n c:Nat) (w:World) (hn:n=xs.length) (hF:Fs w.heap.size w a xs) (hW:W64 xs) (hm:n≤4611686018427387904) :
 Calls Tryz.prog 15 #[.slice a n c] w fun r w'=>r=.returned (.float .f64 (plF (neF xs).1 (neF xs).2))∧Below w.heap.size w w':=by
 have H1:=hid (sumNeumaier xs a n c w hn hF hW hm);obtain ⟨y,hy⟩:∃ y,y=(plF (neF xs).1 (neF xs).2):=⟨_,rfl⟩;rw [←hy] at H1 ⊢;clear hn hF hW hm hy;go_enter Tryz.func15,Tryz.ntmps15
 go_wp2_with fail
 refine (H1.out).mono ?_;rintro r w1 ⟨rfl,hb⟩;have HB:=qsd hb;clear hb;go_wp2;exact bodyPost_ret (v:=.float .f64 y) (by simp [results,Tryz.results15,go_sem]) rfl ⟨rfl,HB.out⟩
end
end Go.Proofs.YtnpchhjhoadehaaGreatDoor
