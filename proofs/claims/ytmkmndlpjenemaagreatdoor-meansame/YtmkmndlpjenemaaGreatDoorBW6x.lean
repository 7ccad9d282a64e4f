import Derived.Test.YtmkmndlpjenemaaGreatDoorS11ax
import Derived.Deep.RegionWith
import Derived.BigQuiet
import Derived.Deep.RegionHeld3
import Derived.Test.YtmkmndlpjenemaaGreatDoorBIeeex
import Derived.Deep.Cut
import Derived.Test.YtmkmndlpjenemaaGreatDoorM1x
import Derived.Laws.FloatArith
set_option linter.unusedVariables false
set_option linter.unusedSimpArgs false
set_option maxHeartbeats 16000000
set_option maxRecDepth 20000
namespace Go.Proofs.YtmkmndlpjenemaaGreatDoor
namespace B
open Go.RowKit
attribute [local go_sem] f64bits f64frombits
theorem ret_bool {a b:Bool}(h:a=b):Ending.returned (.bool a)=.returned (.bool b):=by rw [h]
theorem sign_any (s:Bool) (e f:Nat) (he:e<2048) (hf:f<4503599627370496) (w:World) :
 Calls Tryz.prog 115 #[.float .f64 (bw s e f)] w fun r w'=>r=.returned (.bool s)∧w'=w:=by
 have hl:=bw_lt s e f he hf
 cases s
 · have h1:bw false e f<9223372036854775808:=by unfold bw;simp only [Bool.toNat_false];omega
   go_enter Tryz.func115,Tryz.ntmps115;go_wp2;go_ret;exact ⟨ret_bool (decide_eq_false (by omega)),rfl⟩
 · have h1:9223372036854775808≤bw true e f:=by unfold bw;simp only [Bool.toNat_true];omega
   go_enter Tryz.func115,Tryz.ntmps115;go_wp2;go_ret;exact ⟨ret_bool (decide_eq_true (by unfold wrap64;omega)),rfl⟩
theorem abs_any (s:Bool) (e f:Nat) (he:e<2048) (hf:f<4503599627370496) (w:World) :
 Calls Tryz.prog 22 #[.float .f64 (bw s e f)] w fun r w'=>r=.returned (.float .f64 (bw false e f))∧w'=w:=by
 have h1:=abs_bw s e f he hf;go_enter Tryz.func22,Tryz.ntmps22;go_wp2;go_ret;exact ⟨rfl,rfl⟩
theorem order_any (s t:Bool) (e f u v:Nat) (he:e<2048) (hf:f<4503599627370496) (hu:u<2048) (hv:v<4503599627370496) (w:World) :
 Calls Tryz.prog 81 #[.float .f64 (bw s e f),.float .f64 (bw t u v)] w fun r w'=>r=.returned (.int .i64 (oc (ky s e f) (ky t u v)))∧w'=w:=by
 have HS:=Same_any s t e f u v he hf hu hv;have hgt:=gt_f64 s t e f u v he hf hu hv;have hlt:=lt_f64 s t e f u v he hf hu hv
 cases hd:decide (cb s e f=cb t u v)
 · rw [hd] at HS
   have H2:Hid (∀ w,Calls Tryz.prog 114 #[.float .f64 (bw s e f),.float .f64 (bw t u v)] w fun r w'=>r=.returned (.bool false)∧w'=w):=HS
   have hne:=of_decide_eq_false hd;clear HS hd
   cases h1:odd e f
   · cases h2:odd u v
     · rw [h1,h2] at hgt hlt
       simp only [Bool.not_false,Bool.true_and] at hgt hlt;rw [cb_else s e f (not_odd e f h1),cb_else t u v (not_odd u v h2)] at hne
       by_cases c1:pl t u v<pl s e f
       · rw [oc_gt (ky_of_pl t s u v e f h2 h1 c1)]
         rw [decide_eq_true c1] at hgt;clear hne c1 hlt;go_enter Tryz.func81,Tryz.ntmps81
         go_wp2_with fail
         refine (H2.out _).mono ?_;rintro r w1 ⟨rfl,rfl⟩
         go_wp2_with fail
         refine (isNaN_any s e f he hf _).mono ?_;rintro r w1 ⟨rfl,rfl⟩
         go_wp2_with fail
         go_ret;exact ⟨rfl,rfl⟩
       · by_cases c2:pl s e f<pl t u v
         · rw [oc_lt (ky_of_pl s t e f u v h1 h2 c2)]
           rw [decide_eq_true c2] at hlt;rw [decide_eq_false c1] at hgt;clear hne c1 c2;go_enter Tryz.func81,Tryz.ntmps81
           go_wp2_with fail
           refine (H2.out _).mono ?_;rintro r w1 ⟨rfl,rfl⟩
           go_wp2_with fail
           refine (isNaN_any s e f he hf _).mono ?_;rintro r w1 ⟨rfl,rfl⟩
           go_wp2_with fail
           refine (isNaN_any t u v hu hv _).mono ?_;rintro r w1 ⟨rfl,rfl⟩
           go_wp2_with fail
           go_ret;exact ⟨rfl,rfl⟩
         · rw [decide_eq_false c1] at hgt
           rw [decide_eq_false c2] at hlt;have hk:=ky_zero s t e f u v h1 h2 hne (by omega)
           clear hne c1 c2
           cases s
           · rw [oc_gt (hk.1 rfl)]
             clear hk;go_enter Tryz.func81,Tryz.ntmps81
             go_wp2_with fail
             refine (H2.out _).mono ?_;rintro r w1 ⟨rfl,rfl⟩
             go_wp2_with fail
             refine (isNaN_any false e f he hf _).mono ?_;rintro r w1 ⟨rfl,rfl⟩
             go_wp2_with fail
             refine (isNaN_any t u v hu hv _).mono ?_;rintro r w1 ⟨rfl,rfl⟩
             go_wp2_with fail
             refine (sign_any false e f he hf _).mono ?_;rintro r w1 ⟨rfl,rfl⟩
             go_wp2_with fail
             go_ret;exact ⟨rfl,rfl⟩
           · rw [oc_lt (hk.2 rfl)]
             clear hk;go_enter Tryz.func81,Tryz.ntmps81
             go_wp2_with fail
             refine (H2.out _).mono ?_;rintro r w1 ⟨rfl,rfl⟩
             go_wp2_with fail
             refine (isNaN_any true e f he hf _).mono ?_;rintro r w1 ⟨rfl,rfl⟩
             go_wp2_with fail
             refine (isNaN_any t u v hu hv _).mono ?_;rintro r w1 ⟨rfl,rfl⟩
             go_wp2_with fail
             refine (sign_any true e f he hf _).mono ?_;rintro r w1 ⟨rfl,rfl⟩
             go_wp2_with fail
             go_ret;exact ⟨rfl,rfl⟩
     · rw [ky_odd t u v h2,oc_lt (ky_lt s e f he hf h1)]
       rw [h1,h2] at hgt hlt;simp only [Bool.not_false,Bool.true_and,Bool.not_true,Bool.false_and] at hgt hlt;clear hne hlt;go_enter Tryz.func81,Tryz.ntmps81
       go_wp2_with fail
       refine (H2.out _).mono ?_;rintro r w1 ⟨rfl,rfl⟩
       go_wp2_with fail
       refine (isNaN_any s e f he hf _).mono ?_;rintro r w1 ⟨rfl,rfl⟩
       go_wp2_with fail
       refine (isNaN_any t u v hu hv _).mono ?_;rintro r w1 ⟨rfl,rfl⟩
       go_wp2_with fail
       go_ret;exact ⟨rfl,rfl⟩
   · have h2:odd u v=false:=by
      cases h2:odd u v
      · rfl
      · exact absurd ((cb_odd s e f (is_odd e f h1)).trans (cb_odd t u v (is_odd u v h2)).symm) hne
     rw [ky_odd s e f h1,oc_gt (ky_lt t u v hu hv h2)];clear hne hgt hlt;go_enter Tryz.func81,Tryz.ntmps81
     go_wp2_with fail
     refine (H2.out _).mono ?_;rintro r w1 ⟨rfl,rfl⟩
     go_wp2_with fail
     refine (isNaN_any s e f he hf _).mono ?_;rintro r w1 ⟨rfl,rfl⟩
     go_wp2_with fail
     go_ret;exact ⟨rfl,rfl⟩
 · rw [hd] at HS
   have H2:Hid (∀ w,Calls Tryz.prog 114 #[.float .f64 (bw s e f),.float .f64 (bw t u v)] w fun r w'=>r=.returned (.bool true)∧w'=w):=HS
   rw [oc_eq (ky_of_cb s t e f u v he hf hu hv (of_decide_eq_true hd))];clear HS hd hgt hlt;go_enter Tryz.func81,Tryz.ntmps81
   go_wp2_with fail
   refine (H2.out _).mono ?_;rintro r w1 ⟨rfl,rfl⟩
   go_wp2_with fail
   go_ret;exact ⟨rfl,rfl⟩
end B
section
open Go.RowKit
theorem Int_core_neg (n:Int) (m:Nat) (X:Nat) (dn:Bool) (de:Int) (er:Int) (w:World) (h0:n<0) (h1:-9223372036854775808≤n) (hm:(ws m).length≤100) (hl:(ws X).length≤8192) (e1:IntKind.u64.wrap (-IntKind.u64.wrap n)=(m:Int))
 (HO:Hid (∀ u,Calls Tryz.prog 51 #[.int .u64 (m:Int)] u fun r w'=>∃ v,r=.returned v∧Nt u.heap.size w' v m∧Below u.heap.size u w'))
 (HM:Hid (∀ (u:World) (a:Option Addr) (c:Nat),Below w.heap.size w u→Arg u a (ws m).length c (ws m)→Calls Tryz.prog 46 #[.bool true,.slice a (ws m).length c,.int .i64 0] u fun r w'=>(∃ v,r=.returned (.tuple #[.agg #[.bool dn,v,.int .i64 de],.int .i64 er])∧Nt u.heap.size w' v X)∧Below u.heap.size u w')) :
 Calls Tryz.prog 45 #[.int .i64 n] w fun r w'=>(∃ v,r=.returned (.agg #[.bool dn,v,.int .i64 de])∧Nt w.heap.size w' v X)∧Below w.heap.size w w':=by
 go_enter Tryz.func45,Tryz.ntmps45
 go_wp2_with fail
 try rw [e1]
 refine (Calls.mono (HO.out _)) ?_;rintro r w1 ⟨v,rfl,hN,hb⟩;obtain ⟨a1,c1,rfl,A1⟩:=hN.arg (by omega)
 have hz:w.heap.size<w1.heap.size:=by have:=hb.size;simp at this;omega
 have hbw:Below w.heap.size w w1:=(below_alloc w (.cells #[.bool false,.slice none 0 0,.int .i64 0] 42)).trans (hb.mono (by simp))
 have S1:=qsd hbw;have H2:=hid (HM.out w1 a1 c1 hbw A1);obtain ⟨hc,hf⟩:=bcell hb;clear hN hb A1 hbw
 go_wp2_with fail
 refine H2.out.mono ?_;rintro r w2 ⟨⟨v,rfl,hN⟩,hb2⟩;obtain ⟨a2,c2,rfl,_⟩:=hN.arg (by omega)
 obtain ⟨hc2,hf2⟩:=bcell hb2;have hz2:w.heap.size<w2.heap.size:=by have:=hb2.size;omega
 have HF:=qsd (show Fin w.heap.size w1.heap.size w w2 (.slice a2 (ws X).length c2) X from ⟨hN,S1.out.trans (hb2.mono (by omega)),by omega⟩)
 clear hN hb2;go_wp2;exact bodyPost_ret (v:=.agg #[.bool dn,.slice a2 (ws X).length c2,.int .i64 de]) (by simp [results,Tryz.results45,go_sem,hc,hc2,hz,hz2]) rfl (Fin.dval (m:=w1.heap.size) (by repeat (first | exact HF.out | refine Fin.alloc ?_ _ | refine Fin.set ?_ _ _ _ (by omega) (by omega))) (by omega))
theorem Int_core_pos (n:Int) (m:Nat) (X:Nat) (dn:Bool) (de:Int) (er:Int) (w:World) (h0:0≤n) (h1:n≤9223372036854775807) (hd:decide (n<0)=false) (hm:(ws m).length≤100) (hl:(ws X).length≤8192) (e1:IntKind.u64.wrap n=n)
 (HO:Hid (∀ u,Calls Tryz.prog 51 #[.int .u64 n] u fun r w'=>∃ v,r=.returned v∧Nt u.heap.size w' v m∧Below u.heap.size u w'))
 (HM:Hid (∀ (u:World) (a:Option Addr) (c:Nat),Below w.heap.size w u→Arg u a (ws m).length c (ws m)→Calls Tryz.prog 46 #[.bool false,.slice a (ws m).length c,.int .i64 0] u fun r w'=>(∃ v,r=.returned (.tuple #[.agg #[.bool dn,v,.int .i64 de],.int .i64 er])∧Nt u.heap.size w' v X)∧Below u.heap.size u w')) :
 Calls Tryz.prog 45 #[.int .i64 n] w fun r w'=>(∃ v,r=.returned (.agg #[.bool dn,v,.int .i64 de])∧Nt w.heap.size w' v X)∧Below w.heap.size w w':=by
 go_enter Tryz.func45,Tryz.ntmps45
 go_wp2_with fail
 try rw [e1]
 refine (Calls.mono (HO.out _)) ?_;rintro r w1 ⟨v,rfl,hN,hb⟩;obtain ⟨a1,c1,rfl,A1⟩:=hN.arg (by omega)
 have hz:w.heap.size<w1.heap.size:=by have:=hb.size;simp at this;omega
 have hbw:Below w.heap.size w w1:=(below_alloc w (.cells #[.bool false,.slice none 0 0,.int .i64 0] 42)).trans (hb.mono (by simp))
 have S1:=qsd hbw;have H2:=hid (HM.out w1 a1 c1 hbw A1);obtain ⟨hc,hf⟩:=bcell hb;clear hN hb A1 hbw
 go_wp2_with fail
 refine H2.out.mono ?_;rintro r w2 ⟨⟨v,rfl,hN⟩,hb2⟩;obtain ⟨a2,c2,rfl,_⟩:=hN.arg (by omega)
 obtain ⟨hc2,hf2⟩:=bcell hb2;have hz2:w.heap.size<w2.heap.size:=by have:=hb2.size;omega
 have HF:=qsd (show Fin w.heap.size w1.heap.size w w2 (.slice a2 (ws X).length c2) X from ⟨hN,S1.out.trans (hb2.mono (by omega)),by omega⟩)
 clear hN hb2;go_wp2;exact bodyPost_ret (v:=.agg #[.bool dn,.slice a2 (ws X).length c2,.int .i64 de]) (by simp [results,Tryz.results45,go_sem,hc,hc2,hz,hz2]) rfl (Fin.dval (m:=w1.heap.size) (by repeat (first | exact HF.out | refine Fin.alloc ?_ _ | refine Fin.set ?_ _ _ _ (by omega) (by omega))) (by omega))
theorem natAbs_len (n:Int) (h0:-9223372036854775808≤n) (h1:n≤9223372036854775807):(ws n.natAbs).length≤100:=by
 have:=(ws_len_le n.natAbs 2).2 (by rw [show pw 2=18446744073709551616 from rfl];omega)
 omega
theorem Int_any (n:Int) (w:World) (hT:Tab w) (h0:-9223372036854775808≤n) (h1:n≤9223372036854775807) :
 Calls Tryz.prog 45 #[.int .i64 n] w fun r w'=>DVal w.heap.size w' r (mkS (decide (n<0)) n.natAbs 0)∧Below w.heap.size w w':=by
 have hl:=natAbs_len n h0 h1
 have HM:∀ (s:Bool) (u:World) (a:Option Addr) (c:Nat),Below w.heap.size w u→Arg u a (ws n.natAbs).length c (ws n.natAbs)→Calls Tryz.prog 46 #[.bool s,.slice a (ws n.natAbs).length c,.int .i64 0] u fun r w'=>DAns u.heap.size w' r (mkS s n.natAbs 0)∧Below u.heap.size u w':=by
  intro s u a c hu hA;have:=Make_any hA (hT.belows hu) s 0 (by omega) (by omega)
  rw [val_ws] at this;exact this
 by_cases hn:n<0
 · rw [decide_eq_true hn]
   exact Int_core_neg n n.natAbs _ _ _ _ w hn h0 hl (mkS_len _ _ _) (by simp [IntKind.wrap,IntKind.bits,IntKind.signed];omega) (hid fun u=>of_any _ u (by omega)) (hid (HM true))
 · rw [decide_eq_false hn]
   have e:((n.natAbs:Nat):Int)=n:=by omega
   exact Int_core_pos n n.natAbs _ _ _ _ w (by omega) h1 (decide_eq_false hn) hl (mkS_len _ _ _) (by simp [IntKind.wrap,IntKind.bits,IntKind.signed];omega) (hid fun u=>by have:=of_any n.natAbs u (by omega);rw [e] at this;exact this) (hid (HM false))
end
section
open Go.RowKit
theorem Nt.arg' {lo:Nat}{w:World}{a:Option Addr}{n c X:Nat}(h:Nt lo w (.slice a n c) X) (hs:(ws X).length≤35184372088832):n=(ws X).length∧Arg w a (ws X).length c (ws X):=by
 obtain ⟨a',c',e,A⟩:=h.arg hs
 cases e
 exact ⟨rfl,A⟩
end
section
open Go.RowKit
theorem notLG {X:Nat}(h:bl X≤262144):¬ LG X:=by rw [LG_bl];omega
end
section
open Go.RowKit
def Dk (w:World) (g:Nat) (n:Bool) (v:Value) (e:Int):Prop:=w.heap[g]?=some (.cells #[.bool n,v,.int .i64 e] 42 (0,0))
theorem Dk.lt {w:World}{g:Nat}{n:Bool}{v:Value}{e:Int}(h:Dk w g n v e):g<w.heap.size:=(Array.getElem?_eq_some_iff.1 h).1
theorem Dk.below {w w':World}{g:Nat}{n:Bool}{v:Value}{e:Int}(h:Dk w g n v e) (hb:Below w.heap.size w w'):Dk w' g n v e:=by
 unfold Dk;rw [hb.block g h.lt];exact h
theorem Dk.alloc {w:World}{g:Nat}{n:Bool}{v:Value}{e:Int}(h:Dk w g n v e) (o:Obj):Dk (w.alloc o) g n v e:=h.below (below_alloc w o)
theorem Dk.new (w:World) (n:Bool) (v:Value) (e:Int):Dk (w.alloc (.cells #[.bool n,v,.int .i64 e] 42)) w.heap.size n v e:=heap_alloc_new _ _
theorem Dk.facts {w:World}{g:Nat}{n:Bool}{v:Value}{e:Int}(h:Dk w g n v e) :
 w.cell? ⟨g,0,none⟩=some (.bool n)∧w.cell? ⟨g,1,none⟩=some v∧w.cell? ⟨g,2,none⟩=some (.int .i64 e)∧w.frozen? ⟨g,0,none⟩=false∧w.frozen? ⟨g,1,none⟩=false∧w.frozen? ⟨g,2,none⟩=false:=by
 unfold Dk at h;simp [World.cell?,World.frozen?,h]
abbrev st3 (w:World) (g:Nat) (x y z:Value):World:=((w.setCell ⟨g,0,none⟩ x).setCell ⟨g,1,none⟩ y).setCell ⟨g,2,none⟩ z
theorem Fin.drew {lo m:Nat}{w0 w:World}{v:Value}{X:Nat}(H:Fin lo m w0 w v X):Fin lo m w0 w.drew v X:=⟨H.nt,H.bel.drew,H.size⟩
end
section
open Go.RowKit
theorem shift_up (X:Nat) (b:Int) (h0:0≤b) (hX:X≠0) (hl:bl X≤262144):shiftS X b=if 262144<bl X+b.toNat then (0,2) else (X*2^b.toNat,0):=by
 unfold shiftS;rw [if_neg (notLG hl),if_neg hX,if_neg (by omega)]
 by_cases h:262144<bl X+b.toNat
 · rw [if_pos h,if_pos (by omega)]
 · rw [if_neg h,if_neg (by omega)]
theorem len_ne {X:Nat}(h:X≠0):((((ws X).length:Nat):Int)==0)=false:=beq_eq_false_iff_ne.2 (by have:(ws X).length≠0:=fun e=>h ((ws_len_zero X).1 e);omega)
end
namespace B
open Ieee
theorem val_at (f:Format) (j c:Nat) (h:j=0∨f.binade≤c) (hc:c≤2*f.binade):val f (j*f.binade+c)=c*2^j:=by
 have hb:=binade_pos f;unfold val;generalize f.binade=B at *
 by_cases h1:c<B
 · have hj:j=0:=by omega
   subst hj;rw [Nat.zero_mul,Nat.zero_add,if_pos h1,Nat.pow_zero,Nat.mul_one]
 · have h2:¬ j*B+c<B:=by
    have:=Nat.zero_le (j*B);omega
   rw [if_neg h2]
   by_cases h3:c=2*B
   · subst h3
     have e:j*B+2*B=(j+2)*B:=by rw [Nat.add_mul]
     rw [e,Nat.mul_mod_left,Nat.mul_div_cancel _ hb,Nat.add_zero,show j+2-1=j+1 from rfl,Nat.pow_succ,Nat.mul_comm 2 B,Nat.mul_assoc,Nat.mul_comm 2]
   · have e:j*B+c=B*(j+1)+(c-B):=by
      rw [Nat.mul_succ,Nat.mul_comm j];omega
     have e1:(j*B+c)%B=c-B:=by rw [e,Nat.mul_add_mod,Nat.mod_eq_of_lt (by omega)]
     have e2:(j*B+c)/B=j+1:=by rw [e,Nat.mul_add_div hb,Nat.div_eq_of_lt (by omega)]
     rw [e1,e2,Nat.add_sub_cancel,show B+(c-B)=c from by omega]
theorem nearest_near (f:Format) (neg:Bool) (mag k a:Nat) (hm:mag≠0) :
 ∃ R,f.nearest neg mag (f.leastPlace+(k:Int)-(a:Int))=f.word neg (min R f.infRung) ∧
   (val f R*2^a≤mag*2^k→mag*2^k<val f (R+1)*2^a) ∧
   (mag*2^k<val f R*2^a→0<R∧val f (R-1)*2^a<mag*2^k):=by
 unfold Format.nearest;rw [if_neg hm];simp only [cut_even,Nat.shiftLeft_eq];have hl:=(Nat.log2_eq_iff hm (k:=mag.log2)).1 rfl;generalize mag.log2=L at *;have hB:f.binade=2^f.fractionBits:=rfl;have hb:=binade_pos f
 obtain ⟨j,hj⟩:∃ j:Nat,max (f.leastPlace+(k:Int)-(a:Int)+(L:Int)-(f.fractionBits:Int)) f.leastPlace=f.leastPlace+j :=
  ⟨(max (f.leastPlace+(k:Int)-(a:Int)+(L:Int)-(f.fractionBits:Int)) f.leastPlace-f.leastPlace).toNat,by omega⟩
 have hj1:k+L≤a+f.fractionBits+j:=by omega
 have hj2:j=0∨k+L=a+f.fractionBits+j:=by omega
 rw [hj];have e3:(f.leastPlace+(j:Int)-f.leastPlace).toNat=j:=by omega
 have e1:(f.leastPlace+(k:Int)-(a:Int)-(f.leastPlace+(j:Int))).toNat=k-(a+j):=by omega
 have e2:(f.leastPlace+(j:Int)-(f.leastPlace+(k:Int)-(a:Int))).toNat=a+j-k:=by omega
 rw [e1,e2,e3];have hg:0<2^(a+j-k):=Nat.two_pow_pos _
 -- V*g=m'*2^(a+j)
 have hV:mag*2^k*2^(a+j-k)=mag*2^(k-(a+j))*2^(a+j):=by
  rw [Nat.mul_assoc,Nat.mul_assoc,←Nat.pow_add,←Nat.pow_add]
  congr 2;omega
 have up:mag*2^(k-(a+j))<2*f.binade*2^(a+j-k):=by
  have:2*f.binade=2^(f.fractionBits+1):=by rw [hB,Nat.pow_succ,Nat.mul_comm]
  rw [this,←Nat.pow_add];refine Nat.lt_of_lt_of_le (Nat.mul_lt_mul_of_pos_right hl.2 (Nat.two_pow_pos _)) ?_;rw [←Nat.pow_add];exact Nat.pow_le_pow_right (by omega) (by omega)
 have dn:j=0∨f.binade*2^(a+j-k)≤mag*2^(k-(a+j)):=by
  rcases hj2 with h|h
  · exact Or.inl h
  · right
    refine Nat.le_trans ?_ (Nat.mul_le_mul_right _ hl.1);rw [hB,←Nat.pow_add,←Nat.pow_add];exact Nat.pow_le_pow_right (by omega) (by omega)
 generalize hm':mag*2^(k-(a+j))=m' at *;generalize 2^(a+j-k)=g at *;generalize mag*2^k=V at *;have hdm:=Nat.div_add_mod m' g;have hmod:=Nat.mod_lt m' hg;have hlow:m'/g<2*f.binade:=(Nat.div_lt_iff_lt_mul hg).2 up
 have hlow2:j=0∨f.binade≤m'/g:=by
  rcases dn with h|h
  · exact Or.inl h
  · exact Or.inr ((Nat.le_div_iff_mul_le hg).2 h)
 have hp2:0<2^(a+j):=Nat.two_pow_pos _
 -- the bounds
 have b1:m'/g*2^(a+j)≤V:=by
  refine Nat.le_of_mul_le_mul_right ?_ hg;rw [hV,Nat.mul_right_comm];exact Nat.mul_le_mul_right _ (by rw [Nat.mul_comm];omega)
 have b2:V<(m'/g+1)*2^(a+j):=by
  refine Nat.lt_of_mul_lt_mul_right (a:=g) ?_;rw [hV,Nat.mul_right_comm];refine Nat.mul_lt_mul_of_pos_right ?_ hp2;rw [Nat.add_mul,Nat.one_mul,Nat.mul_comm];omega
 have b3:m'%g≠0→m'/g*2^(a+j)<V:=by
  intro hr;refine Nat.lt_of_mul_lt_mul_right (a:=g) ?_;rw [hV,Nat.mul_right_comm];refine Nat.mul_lt_mul_of_pos_right ?_ hp2;rw [Nat.mul_comm];omega
 have v0:val f (j*f.binade+m'/g)*2^a=m'/g*2^(a+j):=by
  rw [val_at f j _ hlow2 (by omega),Nat.mul_assoc,←Nat.pow_add,Nat.add_comm j a]
 have v1:val f (j*f.binade+(m'/g+1))*2^a=(m'/g+1)*2^(a+j):=by
  rw [val_at f j _ (by omega) (by omega),Nat.mul_assoc,←Nat.pow_add,Nat.add_comm j a]
 refine ⟨j*f.binade+rte m' g,rfl,?_,?_⟩
 · unfold rte
   cases hc:(decide (g<2*(m'%g)) || (g==2*(m'%g)&&m'/g%2==1))
   · intro _
     simp only [Bool.toNat_false,Nat.add_zero];rw [Nat.add_assoc,v1];exact b2
   · intro h
     simp only [Bool.toNat_true] at h;rw [v1] at h;omega
 · unfold rte
   cases hc:(decide (g<2*(m'%g)) || (g==2*(m'%g)&&m'/g%2==1))
   · intro h
     simp only [Bool.toNat_false,Nat.add_zero] at h;rw [v0] at h;omega
   · intro _
     simp only [Bool.toNat_true];refine ⟨Nat.succ_pos _,?_⟩;rw [show j*f.binade+(m'/g+1)-1=j*f.binade+m'/g from rfl,v0]
     refine b3 (fun hr=>?_)
     rw [hr] at hc;simp at hc;omega
theorem nearest_exact2 (f:Format) (neg:Bool) (mag k a r:Nat) (hr:r<f.infRung) (h:mag*2^k=val f r*2^a) (hm:mag≠0) :
 f.nearest neg mag (f.leastPlace+(k:Int)-(a:Int))=f.word neg r:=by
 obtain ⟨R,e,h1,h2⟩:=nearest_near f neg mag k a hm;have hp:0<2^a:=Nat.two_pow_pos _
 have:R=r:=by
  by_cases c:val f R*2^a≤mag*2^k
  · have c2:=h1 c
    rw [h] at c c2;have d1:=Nat.le_of_mul_le_mul_right c hp;have d2:=(val_lt_iff f).1 (Nat.lt_of_mul_lt_mul_right c2);have d3:¬ r<R:=fun hh=>by have:=val_lt f hh;omega
    omega
  · have c2:=h2 (by omega)
    rw [h] at c c2;have d1:=(val_lt_iff f).1 (Nat.lt_of_mul_lt_mul_right (a:=2^a) (Nat.lt_of_not_le c));have d2:=(val_lt_iff f).1 (Nat.lt_of_mul_lt_mul_right c2.2);omega
 rw [e,this,Nat.min_eq_left (by omega)]
end B
namespace B
open Go.RowKit
attribute [local go_sem] f64bits f64frombits
theorem mul_exact (f:Ieee.Format) (hs:f.infRung<f.signWeight) (s t:Bool) (r u v a:Nat) (ha:f.leastPlace=-(a:Int)) (hr:r<f.infRung) (hu:u<f.infRung) (hv:v<f.infRung)
 (h:val f r*val f u=val f v*2^a) (h0:val f r≠0) (h1:val f u≠0):f.mul (f.word s r) (f.word t u)=some (f.word (s ^^ t) v):=by
 obtain ⟨m,k,e1,v1⟩:=read_word f s r hr hs;obtain ⟨n,j,e2,v2⟩:=read_word f t u hu hs;unfold Ieee.Format.mul;rw [e1,e2]
 show some (f.nearest (s ^^ t) (m*n) (f.leastPlace+k+(f.leastPlace+j)))=_
 have e:f.leastPlace+(k:Int)+(f.leastPlace+(j:Int))=f.leastPlace+((k+j:Nat):Int)-(a:Int):=by omega
 have hmn:m*n≠0:=by
  intro h2
  rcases Nat.mul_eq_zero.1 h2 with h3|h3
  · subst h3;simp at v1;exact h0 v1.symm
  · subst h3;simp at v2;exact h1 v2.symm
 rw [e,nearest_exact2 f _ (m*n) (k+j) a v hv ?_ hmn];rw [←h,←v1,←v2,Nat.pow_add]
 grind
theorem and_high (a:Nat) (h:a<2^63):a &&& 2^63=0:=by
 apply Nat.eq_of_testBit_eq
 intro i;rw [Nat.testBit_and,Nat.testBit_two_pow,Nat.zero_testBit]
 by_cases hi:63=i
 · subst hi;rw [Nat.testBit_lt_two_pow h];rfl
 · simp [hi]
theorem mask_clear (e g:Nat) (he:e<2048) (hg:g<4503599627370496):bits .andNot .u64 ((bw false e g:Nat):Int) 9218868437227405312=(g:Int):=by
 have h:=u64_andNot_nat (bw false e g) 9218868437227405312 (bw_lt false e g he hg) (by omega)
 rw [show (((9218868437227405312:Nat)):Int)=9218868437227405312 from rfl] at h
 rw [h];have hb:bw false e g=e*4503599627370496+g:=by unfold bw;simp
 have hlt:bw false e g<2^63:=by rw [hb];omega
 have e1:18446744073709551615-9218868437227405312=2^63 ||| (2^52-1):=by decide
 rw [e1,Nat.and_or_distrib_left,Nat.and_two_pow_sub_one_eq_mod,and_high _ hlt,Nat.zero_or,hb];omega
theorem join_exp (E g:Nat) (hE:E<2048) (hg:g<4503599627370496):bits .or .u64 (g:Int) ((E:Int)*4503599627370496)=((bw false E g:Nat):Int):=by
 have hc:bits .or .u64 (g:Int) ((E:Int)*4503599627370496)=bits .or .u64 ((E:Int)*4503599627370496) (g:Int):=by simp only [bits,BitVec.or_comm]
 rw [hc,bits_join .u64 64 (by decide) wraps_u64 52 ((E:Int)*4503599627370496) (g:Int) (by omega) (by omega) (by omega) (by omega) (by omega) (by omega)]
 unfold bw;simp
theorem isInf0 (e g:Nat) (he:e<2047) (hg:g<4503599627370496) (w:World) :
 Calls Tryz.prog 56 #[.float .f64 (bw false e g),.int .i64 0] w fun r w'=>r=.returned (.bool false)∧w'=w:=by
 have H:=hid (abs_any false e g (by omega) hg w)
 have h1:=gt_max false e g (by omega) hg
 have h2:(!false&&(e==2047&&g==0))=false:=by simp;omega
 rw [h2] at h1;generalize bw false e g=b at *;go_enter Tryz.func56,Tryz.ntmps56
 go_wp2_with fail
 refine H.out.mono ?_;rintro r w1 ⟨rfl,rfl⟩;go_wp2;go_ret;exact ⟨rfl,rfl⟩
theorem normalize_any (e g:Nat) (h0:0<e) (he:e<2047) (hg:g<4503599627370496) (w:World) :
 Calls Tryz.prog 94 #[.float .f64 (bw false e g)] w fun r w'=>r=.returned (.tuple #[.float .f64 (bw false e g),.int .i64 0])∧w'=w:=by
 have H:=hid (abs_any false e g (by omega) hg w)
 have h1:=lt_f64 false false e g 1 0 (by omega) hg (by omega) (by omega)
 have h3:(!odd e g&&(!odd 1 0&&decide (pl false e g<pl false 1 0)))=false:=by
  have:¬ pl false e g<pl false 1 0:=by unfold pl sg;simp;omega
  simp [this]
 rw [h3,show bw false 1 0=4503599627370496 from rfl] at h1
 generalize bw false e g=b at *;clear h3;go_enter Tryz.func94,Tryz.ntmps94
 go_wp2_with fail
 refine H.out.mono ?_;rintro r w1 ⟨rfl,rfl⟩;go_wp2
 go_ret2
 exact ⟨rfl,rfl⟩
theorem inf_any (w:World):Calls Tryz.prog 70 #[.int .i64 1] w fun r w'=>r=.returned (.float .f64 9218868437227405312)∧w'=w:=by
 go_enter Tryz.func70,Tryz.ntmps70;go_wp2;go_ret;exact ⟨rfl,rfl⟩
theorem copysign_neg (e g:Nat) (he:e<2048) (hg:g<4503599627370496) (w:World) :
 Calls Tryz.prog 95 #[.float .f64 (bw false e g),.float .f64 13830554455654793216] w fun r w'=>r=.returned (.float .f64 (bw true e g))∧w'=w:=by
 have h1:=abs_bw false e g he hg;have h2:bits .and .u64 13830554455654793216 9223372036854775808=9223372036854775808:=by decide
 have hb:bw false e g=e*4503599627370496+g:=by unfold bw;simp
 have h3:=or_sign ((bw false e g:Nat):Int) (by omega) (by rw [hb];omega)
 have h4:((bw false e g:Nat):Int)+9223372036854775808=((bw true e g:Nat):Int):=by unfold bw;simp;omega
 rw [h4] at h3;generalize bw false e g=b at *;generalize bw true e g=d at *;clear hb h4;go_enter Tryz.func95,Tryz.ntmps95;go_wp2;go_ret;exact ⟨by simp,rfl⟩
end B
namespace B
open Go.RowKit
attribute [local go_sem] f64bits f64frombits
theorem ldexp_norm (b e g d:Nat) (x y z:Int) (w:World) (hb:b<9223372036854775808) (hx0:-3000≤x) (hx1:x≤3000) (he0:0<e) (he1:e<2047) (hg:g<4503599627370496)
 (z0:(FloatKind.f64.format.order b 0==some .eq)=false)
 (HI:Hid (∀ u,Calls Tryz.prog 56 #[.float .f64 b,.int .i64 0] u fun r w'=>r=.returned (.bool false)∧w'=u))
 (HN:Hid (∀ u,Calls Tryz.prog 54 #[.float .f64 b] u fun r w'=>r=.returned (.bool false)∧w'=u))
 (HZ:Hid (∀ u,Calls Tryz.prog 94 #[.float .f64 b] u fun r w'=>r=.returned (.tuple #[.float .f64 b,.int .i64 0])∧w'=u))
 (e1:bits .and .i64 ((b:Int)/4503599627370496) 2047=(e:Int)) (mc:bits .andNot .u64 (b:Int) 9218868437227405312=(g:Int))
 (ey:x+((e:Int)-1023)=y) (hy0:-1022≤y) (hy1:y≤1023) (ez:(y+1023)*4503599627370496=z) (hz0:0≤z) (hz1:z<9223372036854775808) (je:bits .or .u64 (g:Int) z=(d:Int))
 (mu:∀ u:World,(binOp .mul 22 (.float .f64 4607182418800017408) (.float .f64 d)).run Tryz.prog u=.ok (.float .f64 d) u) :
 Calls Tryz.prog 59 #[.float .f64 b,.int .i64 x] w fun r w'=>r=.returned (.float .f64 d)∧w'=w:=by
 go_enter Tryz.func59,Tryz.ntmps59
 go_wp2_with fail
 refine (Calls.mono (HI.out _)) ?_;rintro r w1 ⟨rfl,hw⟩;rw [hw];clear hw w1
 go_wp2_with fail
 refine (Calls.mono (HN.out _)) ?_;rintro r w1 ⟨rfl,hw⟩;rw [hw];clear hw w1
 go_wp2_with fail
 refine (Calls.mono (HZ.out _)) ?_;rintro r w1 ⟨rfl,hw⟩;rw [hw];clear hw w1;go_wp2;go_ret;exact ⟨rfl,rfl⟩
theorem ldexp_sub (b e g d c:Nat) (x y y2 z:Int) (w:World) (hb:b<9223372036854775808) (hx0:-3000≤x) (hx1:x≤3000) (he0:0<e) (he1:e<2047) (hg:g<4503599627370496)
 (z0:(FloatKind.f64.format.order b 0==some .eq)=false)
 (HI:Hid (∀ u,Calls Tryz.prog 56 #[.float .f64 b,.int .i64 0] u fun r w'=>r=.returned (.bool false)∧w'=u))
 (HN:Hid (∀ u,Calls Tryz.prog 54 #[.float .f64 b] u fun r w'=>r=.returned (.bool false)∧w'=u))
 (HZ:Hid (∀ u,Calls Tryz.prog 94 #[.float .f64 b] u fun r w'=>r=.returned (.tuple #[.float .f64 b,.int .i64 0])∧w'=u))
 (e1:bits .and .i64 ((b:Int)/4503599627370496) 2047=(e:Int)) (mc:bits .andNot .u64 (b:Int) 9218868437227405312=(g:Int))
 (ey:x+((e:Int)-1023)=y) (hy0:-1075≤y) (hy1:y < -1022) (ey2:y+53=y2) (hy2:-1022≤y2) (hy3:y2≤1023) (ez:(y2+1023)*4503599627370496=z) (hz0:0≤z) (hz1:z<9223372036854775808) (je:bits .or .u64 (g:Int) z=(d:Int))
 (mu:∀ u:World,(binOp .mul 22 (.float .f64 4368491638549381120) (.float .f64 d)).run Tryz.prog u=.ok (.float .f64 c) u) :
 Calls Tryz.prog 59 #[.float .f64 b,.int .i64 x] w fun r w'=>r=.returned (.float .f64 c)∧w'=w:=by
 go_enter Tryz.func59,Tryz.ntmps59
 go_wp2_with fail
 refine (Calls.mono (HI.out _)) ?_;rintro r w1 ⟨rfl,hw⟩;rw [hw];clear hw w1
 go_wp2_with fail
 refine (Calls.mono (HN.out _)) ?_;rintro r w1 ⟨rfl,hw⟩;rw [hw];clear hw w1
 go_wp2_with fail
 refine (Calls.mono (HZ.out _)) ?_;rintro r w1 ⟨rfl,hw⟩;rw [hw];clear hw w1;go_wp2;go_ret;exact ⟨rfl,rfl⟩
theorem ldexp_inf (b e g:Nat) (x y:Int) (w:World) (hb:b<9223372036854775808) (hx0:-3000≤x) (hx1:x≤3000) (he0:0<e) (he1:e<2047) (hg:g<4503599627370496)
 (z0:(FloatKind.f64.format.order b 0==some .eq)=false)
 (HI:Hid (∀ u,Calls Tryz.prog 56 #[.float .f64 b,.int .i64 0] u fun r w'=>r=.returned (.bool false)∧w'=u))
 (HN:Hid (∀ u,Calls Tryz.prog 54 #[.float .f64 b] u fun r w'=>r=.returned (.bool false)∧w'=u))
 (HZ:Hid (∀ u,Calls Tryz.prog 94 #[.float .f64 b] u fun r w'=>r=.returned (.tuple #[.float .f64 b,.int .i64 0])∧w'=u))
 (e1:bits .and .i64 ((b:Int)/4503599627370496) 2047=(e:Int)) (mc:bits .andNot .u64 (b:Int) 9218868437227405312=(g:Int))
 (ey:x+((e:Int)-1023)=y) (hy0:1023<y) (z1:(FloatKind.f64.format.order b 0==some .lt)=false) :
 Calls Tryz.prog 59 #[.float .f64 b,.int .i64 x] w fun r w'=>r=.returned (.float .f64 9218868437227405312)∧w'=w:=by
 go_enter Tryz.func59,Tryz.ntmps59
 go_wp2_with fail
 refine (Calls.mono (HI.out _)) ?_;rintro r w1 ⟨rfl,hw⟩;rw [hw];clear hw w1
 go_wp2_with fail
 refine (Calls.mono (HN.out _)) ?_;rintro r w1 ⟨rfl,hw⟩;rw [hw];clear hw w1
 go_wp2_with fail
 refine (Calls.mono (HZ.out _)) ?_;rintro r w1 ⟨rfl,hw⟩;rw [hw];clear hw w1
 go_wp2_with fail
 refine (Calls.mono (inf_any _)) ?_;rintro r w1 ⟨rfl,hw⟩;rw [hw];clear hw w1;go_wp2;go_ret;exact ⟨rfl,rfl⟩
end B
namespace B
open Go.RowKit
theorem bl_le53' (X:Nat) (h:X≤9007199254740991):bl X≤53:=by
 by_cases h0:X=0
 · subst h0;rw [bl_zero];omega
 · have:=(Nat.pow_lt_pow_iff_right (a:=2) (by omega)).1 (Nat.lt_of_le_of_lt (bl_ge X h0) (show X<2^53 by omega))
   omega
theorem bits_mask1 (z:Nat) (hz:z<18446744073709551616):bits .and .u64 (z:Int) 1=((z%2:Nat):Int):=by
 have h:=bits_mask .u64 64 (by decide) wraps_u64 1 (by decide) (z:Int) (by omega) (by omega)
 rw [show ((2:Int)^1-1)=1 from rfl] at h
 rw [h];omega
def LP:Nat:=1074
theorem dLP:Ieee.double.leastPlace=-(LP:Int):=by decide
theorem val_plain (e g:Nat) (he:0<e) (hg:g<4503599627370496):val Ieee.double (e*4503599627370496+g)=(4503599627370496+g)*2^(e-1):=by
 obtain ⟨j,rfl⟩:∃ j,e=j+1:=⟨e-1,by omega⟩
 have h:=val_at Ieee.double j (4503599627370496+g) (.inr (by rw [dBin];omega)) (by rw [dBin];omega)
 rw [dBin] at h;rw [show (j+1)*4503599627370496+g=j*4503599627370496+(4503599627370496+g) by omega,h]
 rfl
theorem val_tiny (r:Nat) (h:r<4503599627370496):val Ieee.double r=r:=by unfold val;rw [dBin,if_pos h]
theorem two52:(4503599627370496:Nat)=2^52:=rfl
structure Whole (c e g:Nat):Prop where
 e0:0<e
 e1:e<1077
 g0:g<4503599627370496
 v:(4503599627370496+g)*2^(e-1)=c*2^LP
 ex:e=bl c+1022
 gx:∀ k,bl c+k=53→4503599627370496+g=c*2^k
 top:bl c=54→g=0
theorem whole_of (c:Nat) (h0:0<c) (h1:c≤9007199254740992):∃ e g,Whole c e g:=by
 by_cases ht:c=9007199254740992
 · subst ht
   have hb:bl 9007199254740992=54:=bl_eq _ 53 (by decide) (by decide)
   obtain ⟨e,he⟩:∃ e,e=1076:=⟨_,rfl⟩;refine ⟨e,0,by omega,by omega,by omega,?_,by rw [hb];omega,fun k hk=>by omega,fun _=>rfl⟩
   have key:∀ q,q=LP+1→(4503599627370496+0)*2^q=9007199254740992*2^LP:=by
    intro q hq;rw [hq,Nat.pow_succ];generalize 2^LP=Q;omega
   exact key (e-1) (by rw [he];rfl)
 · have hb1:=bl_pos c (by omega)
   have hb2:bl c≤53:=by
    have:=(Nat.pow_lt_pow_iff_right (a:=2) (by omega)).1 (Nat.lt_of_le_of_lt (bl_ge c (by omega)) (show c<2^53 by omega))
    omega
   obtain ⟨k,hk⟩:∃ k,bl c+k=53:=⟨53-bl c,by omega⟩
   have hlo:2^52≤c*2^k:=by
    have h2:=bl_ge c (by omega)
    have h3:2^(bl c-1)*2^k≤c*2^k:=Nat.mul_le_mul_right _ h2;rw [←Nat.pow_add,show bl c-1+k=52 by omega] at h3
    exact h3
   have hhi:c*2^k<2^53:=by
    have h3:=Nat.mul_lt_mul_of_pos_right (bl_lt c) (Nat.two_pow_pos k);rw [←Nat.pow_add,hk] at h3;exact h3
   have e52:(2:Nat)^52=4503599627370496:=rfl;have e53:(2:Nat)^53=9007199254740992:=rfl;rw [e52] at hlo;rw [e53] at hhi;refine ⟨bl c+1022,c*2^k-4503599627370496,by omega,by omega,by omega,?_,rfl,fun k' hk'=>?_,fun h=>by omega⟩
   · rw [show 4503599627370496+(c*2^k-4503599627370496)=c*2^k by omega,Nat.mul_assoc,←Nat.pow_add]
     congr 2
     show k+(bl c+1022-1)=1074
     omega
   · obtain rfl:k'=k:=by omega
     omega
theorem ofInt_whole (c e g:Nat) (h:Whole c e g):floatOfInt .f64 (c:Int)=bw false e g:=by
 have hr:e*4503599627370496+g<Ieee.double.infRung:=by rw [dInf];have:=h.e1;have:=h.g0;omega
 have hn:=nearest_exact Ieee.double false c LP (e*4503599627370496+g) hr (by rw [val_plain e g h.e0 h.g0,h.v])
 rw [dLP] at hn;rw [bw_word,←hn]
 show Ieee.double.nearest (decide ((c:Int)<0)) (c:Int).natAbs 0=_
 rw [show decide ((c:Int)<0)=false from decide_eq_false (by omega),Int.natAbs_natCast]
 congr 1
theorem pow_val (e:Nat) (he:0<e) (q:Nat) (hq:e-1=q):val Ieee.double (e*4503599627370496+0)=2^(52+q):=by
 rw [val_plain e 0 he (by omega),hq,Nat.add_zero,Nat.pow_add]
theorem pow_val2 (e:Nat) (he:0<e) (q r:Nat) (hq:e-1=q) (hr:52+q=r):val Ieee.double (e*4503599627370496+0)=2^r:=by rw [pow_val e he q hq,hr]
theorem one_val:val Ieee.double 4607182418800017408=2^LP:=pow_val2 1023 (by omega) (LP-52) LP rfl rfl
theorem small_val:val Ieee.double 4368491638549381120*2^53=2^LP:=by
 have h:val Ieee.double 4368491638549381120=2^(LP-53):=pow_val2 970 (by omega) (LP-105) (LP-53) rfl rfl
 rw [h,←Nat.pow_add]
 congr 1
theorem mul_one (d:Nat) (hd:d<9218868437227405312) (h0:0<d) (t:TypeId) (u:World):(binOp .mul t (.float .f64 4607182418800017408) (.float .f64 d)).run Tryz.prog u=.ok (.float .f64 d) u:=by
 refine run_float_arith u .mul t .f64 _ _ _ ?_
 show Ieee.double.mul 4607182418800017408 d=some d
 have hw:∀ r:Nat,Ieee.double.word false r=r:=fun r=>by simp [Ieee.Format.word]
 have hp:0<val Ieee.double d:=by have:=val_lt Ieee.double (r:=0) (s:=d) h0;omega
 have:=mul_exact Ieee.double dHs false false 4607182418800017408 d d LP dLP (by rw [dInf];omega) (by rw [dInf];omega) (by rw [dInf];omega) (by rw [one_val,Nat.mul_comm]) (by rw [one_val];have:=Nat.two_pow_pos LP;omega) (by omega)
 rw [hw,hw] at this;exact this
theorem mul_small (d c:Nat) (hd:d<9218868437227405312) (hc:c<4503599627370496) (h0:0<c) (hv:val Ieee.double d=c*2^53) (t:TypeId) (u:World):(binOp .mul t (.float .f64 4368491638549381120) (.float .f64 d)).run Tryz.prog u=.ok (.float .f64 c) u:=by
 refine run_float_arith u .mul t .f64 _ _ _ ?_
 show Ieee.double.mul 4368491638549381120 d=some c
 have hw:∀ r:Nat,Ieee.double.word false r=r:=fun r=>by simp [Ieee.Format.word]
 have hs:=small_val;have hp:val Ieee.double 4368491638549381120≠0:=by intro h;rw [h] at hs;have:=Nat.two_pow_pos LP;omega
 have:=mul_exact Ieee.double dHs false false 4368491638549381120 d c LP dLP (by rw [dInf];omega) (by rw [dInf];omega) (by rw [dInf];omega) (by rw [hv,val_tiny c hc,←hs];grind) hp (by rw [hv];have:=Nat.two_pow_pos 53;have:=Nat.mul_pos h0 this;omega)
 rw [hw,hw,Bool.xor_false,hw] at this;exact this
theorem nan_no (e g:Nat) (he:e<2047) (hg:g<4503599627370496) (u:World):Calls Tryz.prog 54 #[.float .f64 (bw false e g)] u fun r w'=>r=.returned (.bool false)∧w'=u:=by
 have:=isNaN_any false e g (by omega) hg u
 rw [odd_lt e g he] at this;exact this
theorem ldexp_any (c e g:Nat) (x:Int) (w:World) (hw:Whole c e g) (h0:0<c) (h1:c≤9007199254740992) (hx0:-1074≤x) (hx1:x≤971) (hn:x=-1074∨4503599627370496≤c) :
 Calls Tryz.prog 59 #[.float .f64 (bw false e g),.int .i64 x] w fun r w'=>r=.returned (.float .f64 ((x+1074).toNat*4503599627370496+c))∧w'=w:=by
 have he0:=hw.e0;have he1:=hw.e1;have hg:=hw.g0;have hb:bw false e g=e*4503599627370496+g:=by unfold bw;simp
 have z0:(FloatKind.f64.format.order (bw false e g) 0==some .eq)=false:=by rw [eq_zero false e g (by omega) hg];simp;omega
 have HI:Hid (∀ u,Calls Tryz.prog 56 #[.float .f64 (bw false e g),.int .i64 0] u fun r w'=>r=.returned (.bool false)∧w'=u):=fun u=>isInf0 e g (by omega) hg u
 have HN:Hid (∀ u,Calls Tryz.prog 54 #[.float .f64 (bw false e g)] u fun r w'=>r=.returned (.bool false)∧w'=u):=fun u=>nan_no e g (by omega) hg u
 have HZ:Hid (∀ u,Calls Tryz.prog 94 #[.float .f64 (bw false e g)] u fun r w'=>r=.returned (.tuple #[.float .f64 (bw false e g),.int .i64 0])∧w'=u):=fun u=>normalize_any e g he0 (by omega) hg u
 have e1:=bw_exp false e g (by omega) hg
 have mc:=mask_clear e g (by omega) hg
 have hbl:bl c≤54:=by have:=hw.ex;omega
 have hblp:=bl_pos c (by omega)
 have hex:=hw.ex
 by_cases hc:4503599627370496≤c
 · have hb53:53≤bl c:=by
    have:=(bl_gt c 52).2 (by rw [←two52];exact hc)
    omega
   by_cases hb54:bl c=54
   · have hg0:=hw.top hb54
     have hc2:c=9007199254740992:=by
      have:=(bl_gt c 53).1 (by omega)
      have e53:(2:Nat)^53=9007199254740992:=rfl;omega
     subst hg0
     by_cases hinf:x=971
     · subst hinf
       have:=ldexp_inf (bw false e 0) e 0 971 1024 w (by rw [hb];omega) (by omega) (by omega) he0 (by omega) (by omega) z0 HI HN HZ e1 mc (by omega) (by omega) (by rw [lt_zero false e 0 (by omega) (by omega) (odd_zero e) (by simp;omega)])
       rw [hc2];exact this
     · obtain ⟨E,hE⟩:∃ E:Nat,(E:Int)=x+((e:Int)-1023)+1023:=⟨(x+((e:Int)-1023)+1023).toNat,by omega⟩
       have hd:bw false E 0=(x+1074).toNat*4503599627370496+c:=by unfold bw;simp;omega
       have:=ldexp_norm (bw false e 0) e 0 (bw false E 0) x (x+((e:Int)-1023)) ((E:Int)*4503599627370496) w (by rw [hb];omega) (by omega) (by omega) he0 (by omega) (by omega) z0 HI HN HZ e1 mc rfl (by omega) (by omega) (by omega) (by omega) (by omega) (join_exp E 0 (by omega) (by omega)) (mul_one _ (by rw [hd];omega) (by rw [hd];omega) _)
       rw [hd] at this;exact this
   · have hb3:bl c=53:=by omega
     have hgx:=hw.gx 0 (by omega)
     rw [Nat.pow_zero,Nat.mul_one] at hgx;obtain ⟨E,hE⟩:∃ E:Nat,(E:Int)=x+((e:Int)-1023)+1023:=⟨(x+((e:Int)-1023)+1023).toNat,by omega⟩
     have hd:bw false E g=(x+1074).toNat*4503599627370496+c:=by unfold bw;simp;omega
     have:=ldexp_norm (bw false e g) e g (bw false E g) x (x+((e:Int)-1023)) ((E:Int)*4503599627370496) w (by rw [hb];omega) (by omega) (by omega) he0 (by omega) hg z0 HI HN HZ e1 mc rfl (by omega) (by omega) (by omega) (by omega) (by omega) (join_exp E g (by omega) hg) (mul_one _ (by rw [hd];omega) (by rw [hd];omega) _)
     rw [hd] at this;exact this
 · obtain rfl:x=-1074:=by omega
   have hb52:bl c≤52:=by
    by_cases h:52<bl c
    · have:=(bl_gt c 52).1 h
      rw [←two52] at this;omega
    · omega
   obtain ⟨k,hk⟩:∃ k,bl c+k=53:=⟨53-bl c,by omega⟩
   have hgx:=hw.gx k hk;obtain ⟨E,hE⟩:∃ E:Nat,E=bl c+1:=⟨_,rfl⟩;have hd:bw false E g=E*4503599627370496+g:=by unfold bw;simp
   have hv:val Ieee.double (bw false E g)=c*2^53:=by
    rw [hd,val_plain E g (by omega) hg,hgx,Nat.mul_assoc,←Nat.pow_add,show k+(E-1)=53 by omega]
   have:=ldexp_sub (bw false e g) e g (bw false E g) c (-1074) (-1074+((e:Int)-1023)) (-1074+((e:Int)-1023)+53) ((E:Int)*4503599627370496) w (by rw [hb];omega) (by omega) (by omega) he0 (by omega) hg z0 HI HN HZ e1 mc rfl (by omega) (by omega) rfl (by omega) (by omega) (by omega) (by omega) (by omega) (join_exp E g (by omega) hg) (mul_small _ c (by rw [hd];omega) (by omega) h0 hv _)
   simpa using this
theorem Ldexp_any (c e g:Nat) (x:Int) (w:World) (hw:Whole c e g) (h0:0<c) (h1:c≤9007199254740992) (hx0:-1074≤x) (hx1:x≤971) (hn:x=-1074∨4503599627370496≤c) :
 Calls Tryz.prog 20 #[.float .f64 (bw false e g),.int .i64 x] w fun r w'=>r=.returned (.float .f64 ((x+1074).toNat*4503599627370496+c))∧w'=w:=by
 have H:=hid (ldexp_any c e g x w hw h0 h1 hx0 hx1 hn);generalize bw false e g=b at *;generalize (x+1074).toNat*4503599627370496+c=d at *;clear hn hw;go_enter Tryz.func20,Tryz.ntmps20
 go_wp2_with fail
 refine H.out.mono ?_;rintro r w1 ⟨rfl,rfl⟩;go_wp2;go_ret;exact ⟨rfl,rfl⟩
theorem ldexp_nought (x:Int) (w:World):Calls Tryz.prog 59 #[.float .f64 0,.int .i64 x] w fun r w'=>r=.returned (.float .f64 0)∧w'=w:=by
 have z0:(FloatKind.f64.format.order 0 0==some .eq)=true:=eq_zero false 0 0 (by omega) (by omega)
 go_enter Tryz.func59,Tryz.ntmps59;go_wp2;go_ret;exact ⟨rfl,rfl⟩
theorem Ldexp_nought (x:Int) (w:World):Calls Tryz.prog 20 #[.float .f64 0,.int .i64 x] w fun r w'=>r=.returned (.float .f64 0)∧w'=w:=by
 have H:=hid (ldexp_nought x w);go_enter Tryz.func20,Tryz.ntmps20
 go_wp2_with fail
 refine H.out.mono ?_;rintro r w1 ⟨rfl,rfl⟩;go_wp2;go_ret;exact ⟨rfl,rfl⟩
end B
section
open Go.RowKit
def Pk (w:World) (g:Nat) (f:Int) (e:Int) (t:Bool) (m:Int):Prop:=w.heap[g]?=some (.cells #[.int .u64 f,.int .i64 e,.bool t,.int .i64 m] 173 (0,0))
theorem Pk.lt {w:World}{g:Nat}{f e:Int}{t:Bool}{m:Int}(h:Pk w g f e t m):g<w.heap.size:=(Array.getElem?_eq_some_iff.1 h).1
theorem Pk.below {w w':World}{g:Nat}{f e:Int}{t:Bool}{m:Int}(h:Pk w g f e t m) (hb:Below w.heap.size w w'):Pk w' g f e t m:=by
 unfold Pk;rw [hb.block g h.lt];exact h
theorem Pk.facts {w:World}{g:Nat}{f e:Int}{t:Bool}{m:Int}(h:Pk w g f e t m) :
 w.cell? ⟨g,0,none⟩=some (.int .u64 f)∧w.cell? ⟨g,1,none⟩=some (.int .i64 e)∧w.cell? ⟨g,2,none⟩=some (.bool t)∧w.cell? ⟨g,3,none⟩=some (.int .i64 m) ∧
 w.frozen? ⟨g,0,none⟩=false∧w.frozen? ⟨g,1,none⟩=false∧w.frozen? ⟨g,2,none⟩=false∧w.frozen? ⟨g,3,none⟩=false:=by
 unfold Pk at h;simp [World.cell?,World.frozen?,h]
def Wk (w:World) (g:Nat) (a b c:Int):Prop:=w.heap[g]?=some (.cells #[.int .i64 a,.int .i64 b,.int .i64 c] 155 (0,0))
theorem Wk.facts {w:World}{g:Nat}{a b c:Int}(h:Wk w g a b c):w.cell? ⟨g,0,none⟩=some (.int .i64 a)∧w.cell? ⟨g,1,none⟩=some (.int .i64 b)∧w.cell? ⟨g,2,none⟩=some (.int .i64 c):=by
 unfold Wk at h;simp [World.cell?,h]
theorem placed_begin (w:World) (n:Bool) (v:Value) (e a b c:Int) (W:World) (hW:W=((w.alloc (.cells #[.bool n,v,.int .i64 e] 42)).alloc (.cells #[.int .i64 a,.int .i64 b,.int .i64 c] 155)).alloc (.cells #[.int .u64 0,.int .i64 0,.bool false,.int .i64 0] 173)) :
 Below w.heap.size w W∧W.heap.size=w.heap.size+3∧Dk W w.heap.size n v e∧Wk W (w.heap.size+1) a b c∧Pk W (w.heap.size+1+1) 0 0 false 0:=by
 subst hW;refine ⟨((below_alloc w _).alloc (by simp) _).alloc (by simp;omega) _,by simp,((Dk.new w n v e).alloc _).alloc _,?_,?_⟩
 · unfold Wk
   rw [Below.heap_alloc _ _ _ (by simp)]
   have:=heap_alloc_new (w.alloc (.cells #[.bool n,v,.int .i64 e] 42)) (.cells #[.int .i64 a,.int .i64 b,.int .i64 c] 155);simpa using this
 · have:=heap_alloc_new ((w.alloc (.cells #[.bool n,v,.int .i64 e] 42)).alloc (.cells #[.int .i64 a,.int .i64 b,.int .i64 c] 155)) (.cells #[.int .u64 0,.int .i64 0,.bool false,.int .i64 0] 173)
   unfold Pk;simpa using this
def plc (dg:Nat) (least top:Int) (X:Nat) (e:Int):Nat×Int×Bool×Int :=
 if top<e+bl X then (2^dg-1,top-dg,false,1)
 else
  let ex:=max (e+bl X-dg) least
  let off:=ex-e
  if off≤0 then (X*2^(-off).toNat,ex,true,-1)
  else (X/2^off.toNat,ex,false,if off=1 then 0 else if X/2^(off-1).toNat%2=1 then 1 else -1)
abbrev st4 (w:World) (g:Nat) (x y z t:Value):World:=(((w.setCell ⟨g,0,none⟩ x).setCell ⟨g,1,none⟩ y).setCell ⟨g,2,none⟩ z).setCell ⟨g,3,none⟩ t
theorem Pk.set {w:World}{g:Nat}{f e:Int}{t:Bool}{m:Int}(h:Pk w g f e t m) (f' e':Int) (t':Bool) (m':Int):Pk (st4 w g (.int .u64 f') (.int .i64 e') (.bool t') (.int .i64 m')) g f' e' t' m':=by
 unfold Pk at h ⊢;simp [st4,World.setCell,Array.getElem?_modify,h]
theorem Pk.drew {w:World}{g:Nat}{f e:Int}{t:Bool}{m:Int}(h:Pk w g f e t m):Pk w.drew g f e t m:=h
theorem Pk.alloc {w:World}{g:Nat}{f e:Int}{t:Bool}{m:Int}(h:Pk w g f e t m) (o:Obj):Pk (w.alloc o) g f e t m:=h.below (below_alloc w o)
theorem placed_res (W:World) (g:Nat) (f e:Int) (t:Bool) (m:Int) (tmps:Array Value) (ht:tmps[4]?.getD undef=.pointer (some ⟨g,0,none⟩)) (D:Pk W g f e t m) :
 (results Tryz.f137 tmps).run Tryz.prog W=.ok (.agg #[.int .u64 f,.int .i64 e,.bool t,.int .i64 m]) W:=by
 obtain ⟨x0,x1,x2,x3,xf0,xf1,xf2,xf3⟩:=D.facts;simp [results,Tryz.results137,ht,go_sem,x0,x1,x2,x3]
theorem placed_far64 {w:World}{a:Option Addr}{l c:Nat}(n:Bool) (X:Nat) (e:Int) (b:Nat) (he0:-1048576≤e) (he1:e≤1048576) (hb:b≤262144) (hfar:1024<e+(b:Int))
 (HL:Hid (∀ u,Below w.heap.size w u→Calls Tryz.prog 73 #[.slice a l c] u fun r w'=>r=.returned (.int .i64 (b:Nat))∧w'=u)) :
 Calls Tryz.prog 137 #[.agg #[.bool n,.slice a l c,.int .i64 e],.agg #[.int .i64 53,.int .i64 (-1074),.int .i64 1024]] w fun r w'=>r=.returned (.agg #[.int .u64 9007199254740991,.int .i64 971,.bool false,.int .i64 1])∧Below w.heap.size w w':=by
 obtain ⟨W1,hW1⟩:∃ W,W=((w.alloc (.cells #[.bool n,.slice a l c,.int .i64 e] 42)).alloc (.cells #[.int .i64 53,.int .i64 (-1074),.int .i64 1024] 155)).alloc (.cells #[.int .u64 0,.int .i64 0,.bool false,.int .i64 0] 173):=⟨_,rfl⟩;obtain ⟨hB,hz1,DD,DW,DP⟩:=placed_begin w n (.slice a l c) e 53 (-1074) 1024 W1 hW1;have H1:=hid (HL.out W1 hB);obtain ⟨x0,x1,x2,xf0,xf1,xf2⟩:=DD.facts;obtain ⟨y0,y1,y2⟩:=DW.facts;obtain ⟨p0,p1,p2,p3,pf0,pf1,pf2,pf3⟩:=DP.facts;have F0:=qsd (show Fin w.heap.size (w.heap.size+3) w W1 (.slice none 0 0) 0 from ⟨Nt.nil _ _,hB,by omega⟩)
 have SB:=(qsd (ai hB (ai hz1 DP)));clear hB hz1 DD DW DP HL;go_enter Tryz.func137,Tryz.ntmps137
 go_wp2_with fail
 rw [←hW1];clear hW1;refine H1.out.mono ?_;rintro r ww ⟨rfl,hw⟩;rw [hw];clear hw ww H1;go_wp2
 go_region
 all_goals (
  go_wp2;refine bodyPost_ret (placed_res _ (w.heap.size+1+1) 9007199254740991 971 false 1 _ rfl (by repeat (with_reducible first | exact SB.out.2.2 | refine Pk.drew ?_ | refine Pk.set (f:=0) (e:=0) (t:=false) (m:=0) ?_ _ _ _ _))) rfl ⟨rfl,?_⟩
  refine Fin.bel (m:=w.heap.size+3) (v:=.slice none 0 0) (X:=0) ?_
  repeat (with_reducible first | exact F0.out | refine Fin.drew ?_ | refine Fin.alloc ?_ _ | refine Fin.set ?_ _ _ _ (by omega) (by omega)))
theorem placed_64one {w:World}{a:Option Addr}{l c:Nat}(n:Bool) (e ex off:Int) (b F:Nat) (he0:-1048576≤e) (he1:e≤1048576) (hb:b≤262144) (hF:F<18446744073709551616) (lF:(ws F).length≤100) (hnf:e+(b:Int)≤1024)
 (hmx:max (e+(b:Int)-53) (-1074)=ex) (eof:ex-e=off) (hex0:-2000≤ex) (hex1:ex≤2000) (hof0:-2000000≤off) (hof1:off≤2000000) (tt:Bool) (htt:decide (off≤0)=tt) (ho:(off==1)=true)
 (HL:Hid (∀ u,Below w.heap.size w u→Calls Tryz.prog 73 #[.slice a l c] u fun r w'=>r=.returned (.int .i64 (b:Nat))∧w'=u))
 (HS:Hid (∀ u,Below w.heap.size w u→Calls Tryz.prog 100 #[.slice a l c,.int .i64 (-off)] u fun r w'=>∃ v,r=.returned (.tuple #[v,.int .i64 0])∧Nt u.heap.size w' v F∧Below u.heap.size u w'))
 (HM:Hid (∀ (u:World) (p:Option Addr) (q:Nat),Arg u p (ws F).length q (ws F)→Calls Tryz.prog 154 #[.slice p (ws F).length q] u fun r w'=>r=.returned (.tuple #[.int .u64 (F:Nat),.int .i64 0])∧w'=u)) :
 Calls Tryz.prog 137 #[.agg #[.bool n,.slice a l c,.int .i64 e],.agg #[.int .i64 53,.int .i64 (-1074),.int .i64 1024]] w fun r w'=>r=.returned (.agg #[.int .u64 (F:Nat),.int .i64 ex,.bool tt,.int .i64 0])∧Below w.heap.size w w':=by
 obtain ⟨W1,hW1⟩:∃ W,W=((w.alloc (.cells #[.bool n,.slice a l c,.int .i64 e] 42)).alloc (.cells #[.int .i64 53,.int .i64 (-1074),.int .i64 1024] 155)).alloc (.cells #[.int .u64 0,.int .i64 0,.bool false,.int .i64 0] 173):=⟨_,rfl⟩;obtain ⟨hB,hz1,DD,DW,DP⟩:=placed_begin w n (.slice a l c) e 53 (-1074) 1024 W1 hW1;have H1:=hid (HL.out W1 hB);have H2:=hid (HS.out W1 hB);obtain ⟨x0,x1,x2,xf0,xf1,xf2⟩:=DD.facts;obtain ⟨y0,y1,y2⟩:=DW.facts;have SB:=(qsd (ai hB (ai hz1 (ai DD DP))));clear hB hz1 DD DW DP HL HS;go_enter Tryz.func137,Tryz.ntmps137
 go_wp2_with fail
 rw [←hW1];clear hW1;refine H1.out.mono ?_;rintro r ww ⟨rfl,hw⟩;rw [hw];clear hw ww H1
 go_wp2_with fail
 try simp only [hmx,eof]
 refine H2.out.mono ?_;rintro r u1 ⟨v,rfl,hN,hbb⟩;obtain ⟨a1,c1,rfl,A1⟩:=hN.arg (by omega)
 obtain ⟨hB,hz1,DD,DP⟩:=SB.out;have H3:=hid (HM.out u1 a1 c1 A1);obtain ⟨z0,z1,z2,zf0,zf1,zf2⟩:=(DD.below hbb).facts;have DP1:=DP.below hbb;obtain ⟨p0,p1,p2,p3,pf0,pf1,pf2,pf3⟩:=DP1.facts;have F0:=qsd (show Fin w.heap.size (w.heap.size+3) w u1 (.slice none 0 0) 0 from ⟨Nt.nil _ _,hB.trans (hbb.mono (by omega)),by have:=hbb.size;omega⟩)
 have hz:w.heap.size+1+1<u1.heap.size:=by have:=hbb.size;omega
 have hz':w.heap.size<u1.heap.size:=by omega
 have SP:=qsd DP1;clear hN hbb A1 hB hz1 DD DP DP1 H2 HM SB
 go_wp2_with fail
 try simp only [hmx,eof]
 refine H3.out.mono ?_;rintro r ww ⟨rfl,hw⟩;rw [hw];clear hw ww H3;go_wp2;refine bodyPost_ret (placed_res _ (w.heap.size+1+1) (F:Nat) ex tt 0 _ rfl (by repeat (with_reducible first | exact SP.out | refine Pk.alloc ?_ _ | refine Pk.drew ?_ | refine Pk.set (f:=0) (e:=0) (t:=false) (m:=0) ?_ _ _ _ _))) rfl ⟨rfl,?_⟩
 refine Fin.bel (m:=w.heap.size+3) (v:=.slice none 0 0) (X:=0) ?_
 repeat (with_reducible first | exact F0.out | refine Fin.drew ?_ | refine Fin.alloc ?_ _ | refine Fin.set ?_ _ _ _ (by omega) (by omega))
theorem placed_64bt {w:World}{a:Option Addr}{l c:Nat}(n:Bool) (e ex off:Int) (b F:Nat) (he0:-1048576≤e) (he1:e≤1048576) (hb:b≤262144) (hF:F<18446744073709551616) (lF:(ws F).length≤100) (hnf:e+(b:Int)≤1024)
 (hmx:max (e+(b:Int)-53) (-1074)=ex) (eof:ex-e=off) (hex0:-2000≤ex) (hex1:ex≤2000) (hof0:-2000000≤off) (hof1:off≤2000000) (tt:Bool) (htt:decide (off≤0)=tt) (ho:(off==1)=false)
 (HL:Hid (∀ u,Below w.heap.size w u→Calls Tryz.prog 73 #[.slice a l c] u fun r w'=>r=.returned (.int .i64 (b:Nat))∧w'=u))
 (HS:Hid (∀ u,Below w.heap.size w u→Calls Tryz.prog 100 #[.slice a l c,.int .i64 (-off)] u fun r w'=>∃ v,r=.returned (.tuple #[v,.int .i64 0])∧Nt u.heap.size w' v F∧Below u.heap.size u w'))
 (HM:Hid (∀ (u:World) (p:Option Addr) (q:Nat),Arg u p (ws F).length q (ws F)→Calls Tryz.prog 154 #[.slice p (ws F).length q] u fun r w'=>r=.returned (.tuple #[.int .u64 (F:Nat),.int .i64 0])∧w'=u))
 (HB:Hid (∀ u,Below w.heap.size w u→Calls Tryz.prog 127 #[.slice a l c,.int .i64 (off-1)] u fun r w'=>r=.returned (.bool true)∧w'=u)) :
 Calls Tryz.prog 137 #[.agg #[.bool n,.slice a l c,.int .i64 e],.agg #[.int .i64 53,.int .i64 (-1074),.int .i64 1024]] w fun r w'=>r=.returned (.agg #[.int .u64 (F:Nat),.int .i64 ex,.bool tt,.int .i64 1])∧Below w.heap.size w w':=by
 obtain ⟨W1,hW1⟩:∃ W,W=((w.alloc (.cells #[.bool n,.slice a l c,.int .i64 e] 42)).alloc (.cells #[.int .i64 53,.int .i64 (-1074),.int .i64 1024] 155)).alloc (.cells #[.int .u64 0,.int .i64 0,.bool false,.int .i64 0] 173):=⟨_,rfl⟩;obtain ⟨hB,hz1,DD,DW,DP⟩:=placed_begin w n (.slice a l c) e 53 (-1074) 1024 W1 hW1;have H1:=hid (HL.out W1 hB);have H2:=hid (HS.out W1 hB);obtain ⟨x0,x1,x2,xf0,xf1,xf2⟩:=DD.facts;obtain ⟨y0,y1,y2⟩:=DW.facts;have SB:=(qsd (ai hB (ai hz1 (ai DD DP))));clear hB hz1 DD DW DP HL HS;go_enter Tryz.func137,Tryz.ntmps137
 go_wp2_with fail
 rw [←hW1];clear hW1;refine H1.out.mono ?_;rintro r ww ⟨rfl,hw⟩;rw [hw];clear hw ww H1
 go_wp2_with fail
 try simp only [hmx,eof]
 refine H2.out.mono ?_;rintro r u1 ⟨v,rfl,hN,hbb⟩;obtain ⟨a1,c1,rfl,A1⟩:=hN.arg (by omega)
 obtain ⟨hB,hz1,DD,DP⟩:=SB.out;have H3:=hid (HM.out u1 a1 c1 A1);obtain ⟨z0,z1,z2,zf0,zf1,zf2⟩:=(DD.below hbb).facts;have DP1:=DP.below hbb;obtain ⟨p0,p1,p2,p3,pf0,pf1,pf2,pf3⟩:=DP1.facts;have F0:=qsd (show Fin w.heap.size (w.heap.size+3) w u1 (.slice none 0 0) 0 from ⟨Nt.nil _ _,hB.trans (hbb.mono (by omega)),by have:=hbb.size;omega⟩)
 have hz:w.heap.size+1+1<u1.heap.size:=by have:=hbb.size;omega
 have hz':w.heap.size<u1.heap.size:=by omega
 have SP:=qsd DP1;clear hN hbb A1 hB hz1 DD DP DP1 H2 HM SB
 go_wp2_with fail
 try simp only [hmx,eof]
 refine H3.out.mono ?_;rintro r ww ⟨rfl,hw⟩;rw [hw];clear hw ww H3;have H4:=hid (HB.out (u1.alloc (.cells #[.int .u64 (F:Nat),.int .i64 ex,.bool tt,.int .i64 (-1)] 173)) (F0.out.bel.alloc F0.out.size _));clear HB
 go_wp2_with fail
 try simp only [hmx,eof,htt]
 refine H4.out.mono ?_;rintro r ww ⟨rfl,hw⟩;rw [hw];clear hw ww H4;go_wp2;refine bodyPost_ret (placed_res _ (w.heap.size+1+1) (F:Nat) ex tt 1 _ rfl (by repeat (with_reducible first | exact SP.out | refine Pk.alloc ?_ _ | refine Pk.drew ?_ | refine Pk.set (f:=0) (e:=0) (t:=false) (m:=0) ?_ _ _ _ _))) rfl ⟨rfl,?_⟩
 refine Fin.bel (m:=w.heap.size+3) (v:=.slice none 0 0) (X:=0) ?_
 repeat (with_reducible first | exact F0.out | refine Fin.drew ?_ | refine Fin.alloc ?_ _ | refine Fin.set ?_ _ _ _ (by omega) (by omega))
theorem placed_64bf {w:World}{a:Option Addr}{l c:Nat}(n:Bool) (e ex off:Int) (b F:Nat) (he0:-1048576≤e) (he1:e≤1048576) (hb:b≤262144) (hF:F<18446744073709551616) (lF:(ws F).length≤100) (hnf:e+(b:Int)≤1024)
 (hmx:max (e+(b:Int)-53) (-1074)=ex) (eof:ex-e=off) (hex0:-2000≤ex) (hex1:ex≤2000) (hof0:-2000000≤off) (hof1:off≤2000000) (tt:Bool) (htt:decide (off≤0)=tt) (ho:(off==1)=false)
 (HL:Hid (∀ u,Below w.heap.size w u→Calls Tryz.prog 73 #[.slice a l c] u fun r w'=>r=.returned (.int .i64 (b:Nat))∧w'=u))
 (HS:Hid (∀ u,Below w.heap.size w u→Calls Tryz.prog 100 #[.slice a l c,.int .i64 (-off)] u fun r w'=>∃ v,r=.returned (.tuple #[v,.int .i64 0])∧Nt u.heap.size w' v F∧Below u.heap.size u w'))
 (HM:Hid (∀ (u:World) (p:Option Addr) (q:Nat),Arg u p (ws F).length q (ws F)→Calls Tryz.prog 154 #[.slice p (ws F).length q] u fun r w'=>r=.returned (.tuple #[.int .u64 (F:Nat),.int .i64 0])∧w'=u))
 (HB:Hid (∀ u,Below w.heap.size w u→Calls Tryz.prog 127 #[.slice a l c,.int .i64 (off-1)] u fun r w'=>r=.returned (.bool false)∧w'=u)) :
 Calls Tryz.prog 137 #[.agg #[.bool n,.slice a l c,.int .i64 e],.agg #[.int .i64 53,.int .i64 (-1074),.int .i64 1024]] w fun r w'=>r=.returned (.agg #[.int .u64 (F:Nat),.int .i64 ex,.bool tt,.int .i64 (-1)])∧Below w.heap.size w w':=by
 obtain ⟨W1,hW1⟩:∃ W,W=((w.alloc (.cells #[.bool n,.slice a l c,.int .i64 e] 42)).alloc (.cells #[.int .i64 53,.int .i64 (-1074),.int .i64 1024] 155)).alloc (.cells #[.int .u64 0,.int .i64 0,.bool false,.int .i64 0] 173):=⟨_,rfl⟩;obtain ⟨hB,hz1,DD,DW,DP⟩:=placed_begin w n (.slice a l c) e 53 (-1074) 1024 W1 hW1;have H1:=hid (HL.out W1 hB);have H2:=hid (HS.out W1 hB);obtain ⟨x0,x1,x2,xf0,xf1,xf2⟩:=DD.facts;obtain ⟨y0,y1,y2⟩:=DW.facts;have SB:=(qsd (ai hB (ai hz1 (ai DD DP))));clear hB hz1 DD DW DP HL HS;go_enter Tryz.func137,Tryz.ntmps137
 go_wp2_with fail
 rw [←hW1];clear hW1;refine H1.out.mono ?_;rintro r ww ⟨rfl,hw⟩;rw [hw];clear hw ww H1
 go_wp2_with fail
 try simp only [hmx,eof]
 refine H2.out.mono ?_;rintro r u1 ⟨v,rfl,hN,hbb⟩;obtain ⟨a1,c1,rfl,A1⟩:=hN.arg (by omega)
 obtain ⟨hB,hz1,DD,DP⟩:=SB.out;have H3:=hid (HM.out u1 a1 c1 A1);obtain ⟨z0,z1,z2,zf0,zf1,zf2⟩:=(DD.below hbb).facts;have DP1:=DP.below hbb;obtain ⟨p0,p1,p2,p3,pf0,pf1,pf2,pf3⟩:=DP1.facts;have F0:=qsd (show Fin w.heap.size (w.heap.size+3) w u1 (.slice none 0 0) 0 from ⟨Nt.nil _ _,hB.trans (hbb.mono (by omega)),by have:=hbb.size;omega⟩)
 have hz:w.heap.size+1+1<u1.heap.size:=by have:=hbb.size;omega
 have hz':w.heap.size<u1.heap.size:=by omega
 have SP:=qsd DP1;clear hN hbb A1 hB hz1 DD DP DP1 H2 HM SB
 go_wp2_with fail
 try simp only [hmx,eof]
 refine H3.out.mono ?_;rintro r ww ⟨rfl,hw⟩;rw [hw];clear hw ww H3;have H4:=hid (HB.out (u1.alloc (.cells #[.int .u64 (F:Nat),.int .i64 ex,.bool tt,.int .i64 (-1)] 173)) (F0.out.bel.alloc F0.out.size _));clear HB
 go_wp2_with fail
 try simp only [hmx,eof,htt]
 refine H4.out.mono ?_;rintro r ww ⟨rfl,hw⟩;rw [hw];clear hw ww H4;go_wp2;refine bodyPost_ret (placed_res _ (w.heap.size+1+1) (F:Nat) ex tt (-1) _ rfl (by repeat (with_reducible first | exact SP.out | refine Pk.alloc ?_ _ | refine Pk.drew ?_ | refine Pk.set (f:=0) (e:=0) (t:=false) (m:=0) ?_ _ _ _ _))) rfl ⟨rfl,?_⟩
 refine Fin.bel (m:=w.heap.size+3) (v:=.slice none 0 0) (X:=0) ?_
 repeat (with_reducible first | exact F0.out | refine Fin.drew ?_ | refine Fin.alloc ?_ _ | refine Fin.set ?_ _ _ _ (by omega) (by omega))
end
section
open Go.RowKit
theorem small_ws {w:World}{p:Option Addr}{q F:Nat}(hF:F<18446744073709551616) (hA:Arg w p (ws F).length q (ws F)) :
 Calls Tryz.prog 154 #[.slice p (ws F).length q] w fun r w'=>r=.returned (.tuple #[.int .u64 (F:Nat),.int .i64 0])∧w'=w:=by
 have:=small_any (ws F) p (ws F).length q w.heap.size w hA.len hA.cap (by have:=hA.big;omega) hA.wf hA.rd
 rw [val_ws] at this;unfold smallV at this;rw [if_pos hF] at this;exact this
theorem plc_facts (X:Nat) (e:Int) (hX:X≠0) (he0:-1048576≤e) (he1:e≤1048576) :
 (plc 53 (-1074) 1024 X e).1≤9007199254740991∧-1074≤(plc 53 (-1074) 1024 X e).2.1∧(plc 53 (-1074) 1024 X e).2.1≤971∧((plc 53 (-1074) 1024 X e).2.1=-1074∨4503599627370496≤(plc 53 (-1074) 1024 X e).1):=by
 have hb:=bl_pos X hX;have h1:=bl_lt X;have h2:=bl_ge X hX;have e53:(2:Nat)^53=9007199254740992:=rfl;have e52:(2:Nat)^52=4503599627370496:=rfl;unfold plc
 by_cases hf:1024<e+(bl X:Int)
 · rw [if_pos hf]
   refine ⟨by simp,by simp,by simp,.inr (by simp)⟩
 · rw [if_neg hf]
   simp only;obtain ⟨ex,hex⟩:∃ ex,max (e+(bl X:Int)-((53:Nat):Int)) (-1074)=ex:=⟨_,rfl⟩;rw [hex]
   by_cases ho:ex-e≤0
   · rw [if_pos ho]
     obtain ⟨k,hk⟩:∃ k:Nat,(-(ex-e)).toNat=k:=⟨_,rfl⟩;rw [hk];have hub:X*2^k<2^(bl X+k):=by rw [Nat.pow_add];exact Nat.mul_lt_mul_of_pos_right h1 (Nat.two_pow_pos k)
     have hm:2^(bl X+k)≤2^53:=Nat.pow_le_pow_right (by omega) (by omega)
     refine ⟨by simp only;omega,by simp only;omega,by simp only;omega,?_⟩
     by_cases hl:ex=-1074
     · exact .inl hl
     · right
       have hlb:2^(bl X-1)*2^k≤X*2^k:=Nat.mul_le_mul_right _ h2;rw [←Nat.pow_add,show bl X-1+k=52 by omega] at hlb
       simp only;omega
   · rw [if_neg ho]
     obtain ⟨k,hk⟩:∃ k:Nat,(ex-e).toNat=k:=⟨_,rfl⟩;rw [hk]
     have hub:X/2^k<2^53:=by
      rw [Nat.div_lt_iff_lt_mul (Nat.two_pow_pos k),←Nat.pow_add];exact Nat.lt_of_lt_of_le h1 (Nat.pow_le_pow_right (by omega) (by omega))
     refine ⟨by simp only;omega,by simp only;omega,by simp only;omega,?_⟩
     by_cases hl:ex=-1074
     · exact .inl hl
     · right
       have hlb:2^52≤X/2^k:=by
        rw [Nat.le_div_iff_mul_le (Nat.two_pow_pos k),←Nat.pow_add,show 52+k=bl X-1 by omega]
        exact h2
       simp only;omega
theorem shift_down (X:Nat) (k:Nat) (hX:X≠0) (hl:bl X≤262144) (h0:0<k):shiftS X (-(k:Int))=(X/2^k,0):=by
 unfold shiftS;rw [if_neg (notLG hl),if_neg hX,if_pos (by omega),show (- -(k:Int)).toNat=k by omega]
theorem placed_any {w:World}{a:Option Addr}{l c:Nat}{X:Nat}(hA:Arg w a l c (ws X)) (n:Bool) (e:Int) (he0:-1048576≤e) (he1:e≤1048576) (hX:X≠0) (hl:bl X≤262144) :
 Calls Tryz.prog 137 #[.agg #[.bool n,.slice a l c,.int .i64 e],.agg #[.int .i64 53,.int .i64 (-1074),.int .i64 1024]] w fun r w' =>
  r=.returned (.agg #[.int .u64 ((plc 53 (-1074) 1024 X e).1:Nat),.int .i64 (plc 53 (-1074) 1024 X e).2.1,.bool (plc 53 (-1074) 1024 X e).2.2.1,.int .i64 (plc 53 (-1074) 1024 X e).2.2.2])∧Below w.heap.size w w':=by
 have pf:=plc_facts X e hX he0 he1
 have HL:Hid (∀ u,Below w.heap.size w u→Calls Tryz.prog 73 #[.slice a l c] u fun r w'=>r=.returned (.int .i64 (bl X:Nat))∧w'=u):=by
  intro u hu;have A:=hA.below hu;have:=len_any (ws X) a l c u.heap.size u A.len A.cap (by have:=A.big;omega) A.wf A.rd
  rw [val_ws] at this;exact this
 have hb:=bl_pos X hX
 by_cases hf:1024<e+(bl X:Int)
 · have hp:plc 53 (-1074) 1024 X e=(9007199254740991,971,false,1):=by unfold plc;rw [if_pos hf];rfl
   rw [hp];exact placed_far64 n X e (bl X) he0 he1 hl hf HL
 · obtain ⟨ex,hex⟩:∃ ex,max (e+(bl X:Int)-53) (-1074)=ex:=⟨_,rfl⟩
   obtain ⟨off,hof⟩:∃ off,ex-e=off:=⟨_,rfl⟩;have hexb:-2000≤ex∧ex≤2000:=by omega
   have hp:plc 53 (-1074) 1024 X e=if off≤0 then (X*2^(-off).toNat,ex,true,-1) else (X/2^off.toNat,ex,false,if off=1 then 0 else if X/2^(off-1).toNat%2=1 then 1 else -1):=by
    unfold plc;rw [if_neg hf];simp only;rw [show ((53:Nat):Int)=53 from rfl,hex,hof]
   obtain ⟨F,hFe⟩:∃ F,(plc 53 (-1074) 1024 X e).1=F:=⟨_,rfl⟩;have hF:F≤9007199254740991:=by rw [←hFe];exact pf.1
   have lF:(ws F).length≤100:=by have:=ws_len_bl F;have:=B.bl_le53' F hF;omega
   have hsh:shiftS X (-off)=(F,0):=by
    rw [←hFe,hp]
    by_cases ho:off≤0
    · rw [if_pos ho,shift_up X (-off) (by omega) hX hl,if_neg (by omega)]
    · obtain ⟨k,hk⟩:∃ k:Nat,off=(k:Int):=⟨off.toNat,by omega⟩
      rw [if_neg ho,hk,shift_down X k hX hl (by omega),Int.toNat_natCast]
   have HS:Hid (∀ u,Below w.heap.size w u→Calls Tryz.prog 100 #[.slice a l c,.int .i64 (-off)] u fun r w'=>∃ v,r=.returned (.tuple #[v,.int .i64 0])∧Nt u.heap.size w' v F∧Below u.heap.size u w'):=by
    intro u hu;have A:=hA.below hu;exact Shift_arg (-off) A (by rw [val_ws];exact hsh) (by omega) (by omega)
   have HM:Hid (∀ (u:World) (p:Option Addr) (q:Nat),Arg u p (ws F).length q (ws F)→Calls Tryz.prog 154 #[.slice p (ws F).length q] u fun r w'=>r=.returned (.tuple #[.int .u64 (F:Nat),.int .i64 0])∧w'=u):=fun u p q hA=>small_ws (by omega) hA
   have HB:∀ t:Bool,(if off-1<0 then false else decide (X/2^(off-1).toNat%2=1))=t→Hid (∀ u,Below w.heap.size w u→Calls Tryz.prog 127 #[.slice a l c,.int .i64 (off-1)] u fun r w'=>r=.returned (.bool t)∧w'=u):=by
    intro t ht u hu;have A:=hA.below hu
    by_cases h0:off-1<0
    · rw [if_pos h0] at ht;subst ht;exact bit_neg a l c (off-1) u h0
    · rw [if_neg h0] at ht
      obtain ⟨k,hk⟩:∃ k:Nat,off-1=(k:Int):=⟨(off-1).toNat,by omega⟩
      have:=bit_any (ws X) a l c u.heap.size k u A.len A.wf A.rd (by omega)
      rw [val_ws] at this;rw [hk] at ht ⊢;rw [Int.toNat_natCast] at ht;rw [ht] at this;exact this
   rw [hFe]
   by_cases h1:off=1
   · have:=placed_64one n e ex off (bl X) F he0 he1 hl (by omega) lF (by omega) hex hof hexb.1 hexb.2 (by omega) (by omega) false (decide_eq_false (by omega)) (by simp [h1]) HL HS HM
     rw [hp,if_neg (by omega)]
     simp only [h1,if_true];exact this
   · have h1':(off==1)=false:=by simp [h1]
     by_cases ho:off≤0
     · have:=placed_64bf n e ex off (bl X) F he0 he1 hl (by omega) lF (by omega) hex hof hexb.1 hexb.2 (by omega) (by omega) true (decide_eq_true ho) h1' HL HS HM (HB false (by rw [if_pos (by omega)]))
       rw [hp,if_pos ho];exact this
     · rw [hp,if_neg ho]
       simp only [if_neg h1]
       by_cases hbt:X/2^(off-1).toNat%2=1
       · have:=placed_64bt n e ex off (bl X) F he0 he1 hl (by omega) lF (by omega) hex hof hexb.1 hexb.2 (by omega) (by omega) false (decide_eq_false ho) h1' HL HS HM (HB true (by rw [if_neg (by omega)];exact decide_eq_true hbt))
         rw [if_pos hbt];exact this
       · have:=placed_64bf n e ex off (bl X) F he0 he1 hl (by omega) lF (by omega) hex hof hexb.1 hexb.2 (by omega) (by omega) false (decide_eq_false ho) h1' HL HS HM (HB false (by rw [if_neg (by omega)];exact decide_eq_false hbt))
         rw [if_neg hbt];exact this
def outS (mode:Int) (F:Nat) (mid:Int) (n:Bool):Bool :=
 if mode=0 then decide (0<mid) || (decide (mid=0)&&decide (F%2=1)) else if mode=2 then !n else if mode=3 then n else if mode=4 then decide (0≤mid) else false
end
section
open Go.RowKit
theorem and_one64 (z:Nat) (h:z<18446744073709551616):bits BinOp.and IntKind.u64 (z:Int) 1=((z%2:Nat):Int):=by
 have h:=B.bits_mask1 z h;exact h
theorem out_even1 (F:Nat) (ex:Int) (t:Bool) (n:Bool) (w:World)  :
 Calls Tryz.prog 138 #[.agg #[.int .u64 (F:Nat),.int .i64 ex,.bool t,.int .i64 1],.int .i64 0,.bool n] w fun r w'=>r=.returned (.bool true)∧Below w.heap.size w w':=by
 have HB:=qsd (show Below w.heap.size w (w.alloc (.cells #[.int .u64 (F:Nat),.int .i64 ex,.bool t,.int .i64 1] 173)) from below_alloc w _)
 go_enter Tryz.func138,Tryz.ntmps138;go_wp2
 all_goals go_ret
 all_goals exact ⟨rfl,HB.out⟩
theorem out_even0 (F:Nat) (ex:Int) (t:Bool) (n:Bool) (w:World) (b:Bool) (hb:(bits BinOp.and IntKind.u64 (F:Int) 1==1)=b) :
 Calls Tryz.prog 138 #[.agg #[.int .u64 (F:Nat),.int .i64 ex,.bool t,.int .i64 0],.int .i64 0,.bool n] w fun r w'=>r=.returned (.bool b)∧Below w.heap.size w w':=by
 have HB:=qsd (show Below w.heap.size w (w.alloc (.cells #[.int .u64 (F:Nat),.int .i64 ex,.bool t,.int .i64 0] 173)) from below_alloc w _)
 go_enter Tryz.func138,Tryz.ntmps138;go_wp2
 all_goals go_ret
 all_goals exact ⟨rfl,HB.out⟩
theorem out_evenm (F:Nat) (ex:Int) (t:Bool) (n:Bool) (w:World)  :
 Calls Tryz.prog 138 #[.agg #[.int .u64 (F:Nat),.int .i64 ex,.bool t,.int .i64 (-1)],.int .i64 0,.bool n] w fun r w'=>r=.returned (.bool false)∧Below w.heap.size w w':=by
 have HB:=qsd (show Below w.heap.size w (w.alloc (.cells #[.int .u64 (F:Nat),.int .i64 ex,.bool t,.int .i64 (-1)] 173)) from below_alloc w _)
 go_enter Tryz.func138,Tryz.ntmps138;go_wp2
 all_goals go_ret
 all_goals exact ⟨rfl,HB.out⟩
theorem out_zero (F:Nat) (ex:Int) (t:Bool) (mid:Int) (n:Bool) (w:World)  :
 Calls Tryz.prog 138 #[.agg #[.int .u64 (F:Nat),.int .i64 ex,.bool t,.int .i64 mid],.int .i64 1,.bool n] w fun r w'=>r=.returned (.bool false)∧Below w.heap.size w w':=by
 have HB:=qsd (show Below w.heap.size w (w.alloc (.cells #[.int .u64 (F:Nat),.int .i64 ex,.bool t,.int .i64 mid] 173)) from below_alloc w _)
 go_enter Tryz.func138,Tryz.ntmps138;go_wp2
 all_goals go_ret
 all_goals exact ⟨rfl,HB.out⟩
theorem out_up (F:Nat) (ex:Int) (t:Bool) (mid:Int) (n:Bool) (w:World)  :
 Calls Tryz.prog 138 #[.agg #[.int .u64 (F:Nat),.int .i64 ex,.bool t,.int .i64 mid],.int .i64 2,.bool n] w fun r w'=>r=.returned (.bool (!n))∧Below w.heap.size w w':=by
 have HB:=qsd (show Below w.heap.size w (w.alloc (.cells #[.int .u64 (F:Nat),.int .i64 ex,.bool t,.int .i64 mid] 173)) from below_alloc w _)
 go_enter Tryz.func138,Tryz.ntmps138;go_wp2
 all_goals go_ret
 all_goals exact ⟨rfl,HB.out⟩
theorem out_down (F:Nat) (ex:Int) (t:Bool) (mid:Int) (n:Bool) (w:World)  :
 Calls Tryz.prog 138 #[.agg #[.int .u64 (F:Nat),.int .i64 ex,.bool t,.int .i64 mid],.int .i64 3,.bool n] w fun r w'=>r=.returned (.bool n)∧Below w.heap.size w w':=by
 have HB:=qsd (show Below w.heap.size w (w.alloc (.cells #[.int .u64 (F:Nat),.int .i64 ex,.bool t,.int .i64 mid] 173)) from below_alloc w _)
 go_enter Tryz.func138,Tryz.ntmps138;go_wp2
 all_goals go_ret
 all_goals exact ⟨rfl,HB.out⟩
theorem out_away (F:Nat) (ex:Int) (t:Bool) (mid:Int) (n:Bool) (w:World) (b:Bool) (hb:decide (0≤mid)=b) :
 Calls Tryz.prog 138 #[.agg #[.int .u64 (F:Nat),.int .i64 ex,.bool t,.int .i64 mid],.int .i64 4,.bool n] w fun r w'=>r=.returned (.bool b)∧Below w.heap.size w w':=by
 have HB:=qsd (show Below w.heap.size w (w.alloc (.cells #[.int .u64 (F:Nat),.int .i64 ex,.bool t,.int .i64 mid] 173)) from below_alloc w _)
 go_enter Tryz.func138,Tryz.ntmps138;go_wp2
 all_goals go_ret
 all_goals exact ⟨rfl,HB.out⟩
theorem goesOut_any (F:Nat) (ex:Int) (t:Bool) (mid mode:Int) (n:Bool) (w:World) (hF:F<18446744073709551616) (hm:mid=-1∨mid=0∨mid=1) (h0:0≤mode) (h4:mode≤4) :
 Calls Tryz.prog 138 #[.agg #[.int .u64 (F:Nat),.int .i64 ex,.bool t,.int .i64 mid],.int .i64 mode,.bool n] w fun r w'=>r=.returned (.bool (outS mode F mid n))∧Below w.heap.size w w':=by
 have hc:mode=0∨mode=1∨mode=2∨mode=3∨mode=4:=by omega
 rcases hc with rfl|rfl|rfl|rfl|rfl
 · rcases hm with rfl | rfl | rfl
   · exact out_evenm F ex t n w
   · have e:(bits BinOp.and IntKind.u64 (F:Int) 1==1)=outS 0 F 0 n:=by
      rw [and_one64 F hF];unfold outS
      rcases Nat.mod_two_eq_zero_or_one F with h|h <;> simp [h]
     exact out_even0 F ex t n w _ e
   · exact out_even1 F ex t n w
 · exact out_zero F ex t mid n w
 · exact out_up F ex t mid n w
 · exact out_down F ex t mid n w
 · exact out_away F ex t mid n w _ rfl
end
end Go.Proofs.YtmkmndlpjenemaaGreatDoor
