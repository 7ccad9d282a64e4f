import Derived.Test.YtihjfhpoiheomaaGreatDoorD36x
import Derived.Test.YtihjfhpoiheomaaGreatDoorBW6x
import Derived.Test.YtihjfhpoiheomaaGreatDoorW50x
import Derived.Test.YtihjfhpoiheomaaGreatDoorBIeeex
import Derived.Test.YtihjfhpoiheomaaGreatDoorRS7x
import Derived.Deep.RegionWith
import Derived.Test.YtihjfhpoiheomaaGreatDoorM4x
import Derived.BigQuiet
import Derived.OwnWalk
import Derived.ArgAppend
import Derived.WalkMore
set_option linter.unusedVariables false
set_option linter.unusedSimpArgs false
set_option maxHeartbeats 16000000
set_option maxRecDepth 20000
namespace Go.Proofs.YtihjfhpoiheomaaGreatDoor
namespace J
end J
section
open Go.RowKit
theorem agV_z (X:Nat) (e:Int) (Y:Nat) (f B:Int) (h1:B≤e) (h2:B≤f):agV X e Y f=cmpZ ((X*2^(e-B).toNat:Nat):Int) ((Y*2^(f-B).toNat:Nat):Int):=by
 rw [cmpZ_nat];unfold agV
 by_cases h:X=0∨Y=0
 · rw [if_pos h]
   have p1:=pos_iff X (e-B).toNat;have p2:=pos_iff Y (f-B).toNat;generalize X*2^(e-B).toNat=P at p1 ⊢;generalize Y*2^(f-B).toNat=Q at p2 ⊢
   have q1:X=0∧P=0∨X≠0∧P≠0:=by
    by_cases h:X=0
    · exact .inl ⟨h,p1.2 h⟩
    · exact .inr ⟨h,fun k=>h (p1.1 k)⟩
   have q2:Y=0∧Q=0∨Y≠0∧Q≠0:=by
    by_cases h:Y=0
    · exact .inl ⟨h,p2.2 h⟩
    · exact .inr ⟨h,fun k=>h (p2.1 k)⟩
   clear p1 p2;unfold cmpI
   rcases h with h|h
   · rcases q1 with ⟨a,b⟩ | ⟨a,b⟩
     · rcases q2 with ⟨c,d⟩ | ⟨c,d⟩
       · rw [a,b,c,d]
       · rw [a,b,if_pos (by omega),if_pos (by omega)]
     · exact absurd h a
   · rcases q2 with ⟨c,d⟩ | ⟨c,d⟩
     · rcases q1 with ⟨a,b⟩ | ⟨a,b⟩
       · rw [a,b,c,d]
       · rw [c,d,if_neg (by omega),if_pos (by omega),if_neg (by omega),if_pos (by omega)]
     · exact absurd h c
 · rw [if_neg h]
   exact cmpP_base X e Y f B h1 h2
theorem num64_vK (k:Nat) (B:Int) (hB:B≤-1074):(num64 k).1*2^((num64 k).2-B).toNat=vK k*2^(-1074-B).toNat∧(num64 k).1<9007199254740992∧B≤(num64 k).2∧((num64 k).1=0↔k=0):=by
 unfold num64
 by_cases h:k/4503599627370496=0
 · rw [if_pos h]
   refine ⟨?_,by simp only;omega,by simp only;omega,by simp only;omega⟩
   simp only;have:=vK_word 0 k (.inl rfl) (by omega)
   rw [Nat.zero_mul,Nat.zero_add,Nat.pow_zero,Nat.mul_one] at this;rw [this,show k%4503599627370496=k by omega]
 · rw [if_neg h]
   obtain ⟨q,hq⟩:∃ q,k/4503599627370496=q:=⟨_,rfl⟩;obtain ⟨f,hf⟩:∃ f,k%4503599627370496=f:=⟨_,rfl⟩;rw [hq,hf];refine ⟨?_,by simp only;omega,by simp only;omega,by simp only;omega⟩
   simp only;have:=vK_word (q-1) (4503599627370496+f) (.inr (by omega)) (by omega)
   rw [show (q-1)*4503599627370496+(4503599627370496+f)=k by omega] at this
   rw [this,Nat.mul_assoc,←Nat.pow_add,show (-1074+(q:Int)-1-B).toNat=q-1+(-1074-B).toNat by omega]
theorem num64_len (k:Nat):(ws (num64 k).1).length≤8192:=len8 (by have:=bl_le53 _ (num64_vK k (-1074) (Int.le_refl _)).2.1;omega)
theorem num64_step (k:Nat):(num64 k).2≤(num64 (k+1)).2∧(num64 (k+1)).2≤(num64 k).2+1∧-1074≤(num64 k).2:=by
 unfold num64
 by_cases h:k/4503599627370496=0
 · rw [if_pos h]
   by_cases h':(k+1)/4503599627370496=0
   · rw [if_pos h'];simp only;omega
   · rw [if_neg h'];simp only;omega
 · rw [if_neg h,if_neg (by omega)]
   simp only;omega
end
section
open Go.RowKit
theorem cmpZ_range (x y:Int):cmpZ x y=-1∨cmpZ x y=0∨cmpZ x y=1:=by
 unfold cmpZ
 split
 · exact .inl rfl
 · split
   · exact .inr (.inr rfl)
   · exact .inr (.inl rfl)
theorem cmpZ_eq {x y:Int}:cmpZ x y=0↔x=y:=by
 unfold cmpZ
 split
 · omega
 · split
   · omega
   · omega
theorem cmpZ_pos {x y:Int}:0<cmpZ x y↔y<x:=by
 unfold cmpZ
 split
 · omega
 · split
   · omega
   · omega
def endK (X:Nat) (e:Int):Nat:=if X=0 then 0 else flK X e
def endZ (X:Nat) (e:Int) (k:Nat):Int:=agV (num64 k).1 (num64 k).2 X e
def endH (X:Nat) (e:Int) (k:Nat):Int:=agV (X*2) e ((num64 k).1+(num64 (k+1)).1*2^((num64 (k+1)).2-(num64 k).2).toNat) (num64 k).2
theorem endZ_z (X:Nat) (e:Int) (he:-1048576≤e) (k:Nat):endZ X e k=cmpZ ((vK k*2^(-1074 - -1048576:Int).toNat:Nat):Int) ((X*2^(e - -1048576).toNat:Nat):Int):=by
 have h:=num64_vK k (-1048576) (by omega)
 unfold endZ;rw [agV_z _ _ _ _ (-1048576) h.2.2.1 he,h.1]
theorem endH_z (X:Nat) (e:Int) (he:-1048576≤e) (k:Nat):endH X e k=cmpZ ((2*(X*2^(e - -1048576).toNat):Nat):Int) ((vK k*2^(-1074 - -1048576:Int).toNat+vK (k+1)*2^(-1074 - -1048576:Int).toNat:Nat):Int):=by
 have h:=num64_vK k (-1048576) (by omega)
 have h1:=num64_vK (k+1) (-1048576) (by omega)
 have hs:=num64_step k;unfold endH;rw [agV_z _ _ _ _ (-1048576) he h.2.2.1,←h.1,←h1.1,Nat.add_mul,Nat.mul_assoc (num64 (k+1)).1,←Nat.pow_add,show ((num64 (k+1)).2-(num64 k).2).toNat+((num64 k).2 - -1048576).toNat=((num64 (k+1)).2 - -1048576).toNat by omega,Nat.mul_comm X 2,Nat.mul_assoc 2]
theorem end_uniq {n:Bool}{X:Nat}{e:Int}(F:Frm n X e) (k:Nat) (hk:k<9218868437227405312) (h1:k=0∨endZ X e k≤0) (h2:k+1=9218868437227405312∨0<endZ X e (k+1)):k=endK X e:=by
 have a1:vK k*2^(-1074 - -1048576:Int).toNat≤X*2^(e - -1048576).toNat:=by
  rcases h1 with rfl|h1
  · rw [show vK 0=0 from B.val_zero _,Nat.zero_mul];exact Nat.zero_le _
  · rw [endZ_z X e F.down,cmpZ_le] at h1
    exact Int.ofNat_le.1 h1
 unfold endK
 by_cases hX:X=0
 · rw [if_pos hX]
   rw [hX,Nat.zero_mul] at a1
   by_cases h0:k=0
   · exact h0
   · have:=vS_lt (K:=0) (L:=k) (Nat.two_pow_pos (-1074 - -1048576:Int).toNat) (by omega)
     omega
 · rw [if_neg hX]
   have L:=lies X e (frm_odd F hX) F.down F.up (-1048576) F.down (by omega)
   refine (L.doc k hk a1 ?_).1
   rcases h2 with h2|h2
   · exact .inl h2
   · rw [endZ_z X e F.down,cmpZ_pos] at h2
     exact .inr (Int.ofNat_lt.1 h2)
theorem endK_lt {n:Bool}{X:Nat}{e:Int}(F:Frm n X e):endK X e<9218868437227405312:=by
 unfold endK
 split
 · omega
 · rename_i hX
   exact (lies X e (frm_odd F hX) F.down F.up (-1048576) F.down (by omega)).fin
theorem end_rW (mode:Int) {n:Bool}{X:Nat}{e:Int}(F:Frm n X e):nbyD mode n (endK X e) (endZ X e (endK X e)) (endH X e (endK X e))=rW mode n X e:=by
 unfold nbyD rW;rw [endZ_z X e F.down,endH_z X e F.down]
 by_cases hX:X=0
 · rw [if_pos hX]
   have hk:endK X e=0:=by unfold endK;rw [if_pos hX]
   rw [hk,if_pos];rw [cmpZ_eq,hX,show vK 0=0 from B.val_zero _,Nat.zero_mul,Nat.zero_mul]
 · rw [if_neg hX]
   have L:=lies X e (frm_odd F hX) F.down F.up (-1048576) F.down (by omega)
   have hk:endK X e=flK X e:=by unfold endK;rw [if_neg hX]
   rw [hk,rndK_eq]
   have hd:=L.doc (flK X e) L.fin L.ge (by
    cases ht:(plc 53 (-1074) 1024 X e).2.2.1 with
    | true =>
      have:=L.one ht
      right
      rw [this];exact vS_lt L.pos (by omega)
    | false =>
      rcases L.high ht with h|h
      · exact .inr h
      · exact .inl (by omega))
   unfold rK
   cases ht:(plc 53 (-1074) 1024 X e).2.2.1 with
   | true =>
     have:=L.one ht;rw [if_pos (cmpZ_eq.2 (by rw [this])),if_pos rfl]
   | false =>
     have h1:=L.low ht;have h2:=hd.2.2 ht;rw [if_neg (fun q=>by have:=Int.ofNat.inj (cmpZ_eq.1 q);omega),←h2]
     rfl
theorem nearby64 {u:World}{p:Option Addr}{s:Nat}{n:Bool}{X:Nat}{e:Int}(A:Arg u p (ws X).length s (ws X)) (F:Frm n X e) (mode:Int) (hm0:0≤mode) (hm4:mode≤4) :
 Calls Tryz.prog 86 #[.agg #[.int .i64 53,.int .i64 (-1074),.int .u64 9218868437227405312],.bool n,.slice p (ws X).length s,.int .i64 e,.int .i64 mode] u fun r w'=>r=.returned (.int .u64 (rW mode n X e:Nat))∧Below u.heap.size u w':=by
 have hd:=F.down;have hu:=F.up;have lX:=frm_len F;have hsz:=F.size;have hK:=endK_lt F;rw [←end_rW mode F];obtain ⟨K,hKK⟩:∃ K,endK X e=K:=⟨_,rfl⟩;rw [hKK] at hK ⊢;have b0:=num64_vK K (-1074) (Int.le_refl _);have b1:=num64_vK (K+1) (-1074) (Int.le_refl _);have st:=num64_step K;have fr:(num64 K).2≤1000:=by unfold num64;split <;> simp only <;> omega
 have t2:(ws (X*2)).length≤8193:=by
  rw [ws_len_bl];have h:=bl_le (X:=X*2) (k:=bl X+1) (by have:=bl_lt X;rw [Nat.pow_succ];omega)
  omega
 have hMV:(num64 (K+1)).1*2^((num64 (K+1)).2-(num64 K).2).toNat<2^54:=by
  have hp:2^((num64 (K+1)).2-(num64 K).2).toNat≤2:=by
   have:((num64 (K+1)).2-(num64 K).2).toNat≤1:=by omega
   exact Nat.le_trans (Nat.pow_le_pow_right (by omega) this) (by omega)
  have:=Nat.mul_le_mul_left (num64 (K+1)).1 hp;have:=b1.2.1;omega
 have lM:=len8 (X:=(num64 (K+1)).1*2^((num64 (K+1)).2-(num64 K).2).toNat) (by have:=bl_le hMV;omega)
 have lS:=len8 (X:=(num64 K).1+(num64 (K+1)).1*2^((num64 (K+1)).2-(num64 K).2).toNat) (by have:=bl_le (X:=(num64 K).1+(num64 (K+1)).1*2^((num64 (K+1)).2-(num64 K).2).toNat) (k:=55) (by have:=b0.2.1;omega);omega)
 have hv3:endH X e K=-1∨endH X e K=0∨endH X e K=1:=by rw [endH_z X e hd];exact cmpZ_range _ _
 have HAg:∀ (k:Nat) (v:World) (q:Option Addr) (t:Nat),k<9218868437227405312→Below u.heap.size u v→Arg v q (ws (num64 k).1).length t (ws (num64 k).1)→Calls Tryz.prog 120 #[.slice q (ws (num64 k).1).length t,.int .i64 (num64 k).2,.slice p (ws X).length s,.int .i64 e] v fun r w'=>r=.returned (.int .i64 (endZ X e k))∧Below v.heap.size v w':=fun k v q t hk hb hA=>by
  have hl:=num64_len k;have hr:-1074≤(num64 k).2∧(num64 k).2≤1000:=by unfold num64;split <;> simp only <;> omega
  have:=against_any hA (A.below hb) (by omega) (by omega) (num64 k).2 e (by omega) (by omega) (by omega) (by omega)
  rw [val_ws,val_ws] at this;exact this
 refine nearby_core 53 (-1074) 9218868437227405312 n K e (num64 K).2 mode (num64 K).1 _ _ (num64_len K) (by omega) hm0 hm4 hv3 ?_ (hid fun v=>rNumber64 K (by omega) v) (hid fun v q t hb hA=>HAg K v q t hK hb hA) ?_
 · refine hid fun v hb=>?_
   refine (below_core 53 (-1074) 9218868437227405312 e (by omega) (by omega) num64 (endZ X e) num64_len (hid fun k v hk=>rNumber64 k (by omega) v) (hid fun k v' q t hk hb' hA=>HAg k v' q t hk (hb.trans (hb'.mono hb.size)) hA)).mono ?_
   rintro r w' ⟨⟨k,rfl,hk,h1,h2⟩,hb2⟩;rw [end_uniq F k hk h1 h2,hKK];exact ⟨rfl,hb2⟩
 · refine hid fun v hb=>?_
   refine half_core 53 (-1074) 9218868437227405312 (K:Int) ((K+1:Nat):Int) e (num64 K).2 (num64 (K+1)).2 ((num64 (K+1)).2-(num64 K).2) (num64 K).1 (num64 (K+1)).1 ((num64 (K+1)).1*2^((num64 (K+1)).2-(num64 K).2).toNat) ((num64 K).1+(num64 (K+1)).1*2^((num64 (K+1)).2-(num64 K).2).toNat) (X*2) (endH X e K) (num64_len K) (num64_len _) lM lS (by omega) ?_ (decide_eq_false (by omega)) ?_ (hid fun v=>rNumber64 K (by omega) v) (hid fun v=>rNumber64 (K+1) (by omega) v) ?_ ?_ ?_ ?_
   · simp [IntKind.wrap,IntKind.bits,IntKind.signed];omega
   · simp [IntKind.wrap,IntKind.bits,IntKind.signed];omega
   · refine hid fun v' q t lo hN=>?_
     have:=moved_any hN ((num64 (K+1)).2-(num64 K).2) (by omega) (by omega) (fun h=>by have:=b1.2.2.2.1 h;omega) (by have:=num64_len (K+1);omega)
     rw [if_neg (by omega)] at this
     exact this
   · exact hid fun v' q t q2 t2 h1 h2=>rPlus_arg h1 h2 (by have:=num64_len K;omega) (by omega) (by rw [val_ws,val_ws])
   · exact hid fun v' q hb' hA=>rTimes_arg (A.below (hb.trans (hb'.mono hb.size))) hA (by omega) (by rw [val_ws];rfl)
   · refine hid fun v' q t q2 t3 h1 h2=>?_
     have:=against_any h1 h2 (by omega) (by omega) e (num64 K).2 (by omega) (by omega) (by omega) (by omega)
     rw [val_ws,val_ws] at this;exact this
end
section
open Go.RowKit
theorem rRound_any {w:World}{a:Option Addr}{l c:Nat}{xs:List Nat}(h1:Arg w a l c xs) (hl:l≤2000000) (n:Bool) (e mode:Int) (he0:-9223372036854775808≤e) (he1:e≤9223372036854775807) :
 Calls Tryz.prog 64 #[.agg #[.bool n,.slice a l c,.int .i64 e],.int .i64 mode] w fun r w'=>r=.returned (.tuple #[.float .f64 (rndS (mkS n (val xs) e) mode).1,.int .i64 (rndS (mkS n (val xs) e) mode).2])∧Below w.heap.size w w':=by
 have HM:=hid fun u (hu:Below w.heap.size w u)=>rMade_any (h1.below hu) hl n e he0 he1
 by_cases hm0:mode<0
 · have hr:rndS (mkS n (val xs) e) mode=(0,1):=by unfold rndS;rw [if_pos (.inl hm0)]
   rw [hr];exact rRound_lo n e mode hm0
 · by_cases hm4:4<mode
   · have hr:rndS (mkS n (val xs) e) mode=(0,1):=by unfold rndS;rw [if_pos (.inr hm4)]
     rw [hr];exact rRound_hi n e mode (decide_eq_false hm0) hm4
   · have lX:=mkS_len n (val xs) e
     cases ho:mkS n (val xs) e with
     | none =>
       rw [ho] at HM lX;have hr:rndS none mode=(0,2):=by unfold rndS;rw [if_neg (by omega)]
       rw [hr];exact rRound_no n e mode (dN none) (dE none) (dX none) (by omega) (by omega) lX HM
     | some x =>
       obtain ⟨nD,XD,eD⟩:=x;have F:=mkS_frm ho;rw [ho] at HM lX;rw [rndS_form mode nD XD eD (by omega) (by omega)]
       have hle:=rW_le mode nD XD eD F;have HB:=hid fun (u:World) (p:Option Addr) (s:Nat) (hA:Arg u p (ws XD).length s (ws XD))=>nearby64 hA F mode (by omega) (by omega)
       cases nD with
       | false =>
         refine rRound_p n e mode eD XD _ _ 0 (by omega) (by omega) lX (by omega) ?_ HM (hid fun u=>of64_any u) HB
         unfold wd64 rS
         split <;> simp
       | true =>
         have hX:XD≠0:=fun h=>by rcases F.odd with k | ⟨_,k,_⟩;omega;cases k
         refine rRound_n n e mode eD XD _ _ ((rW mode true XD eD:Nat)+9223372036854775808) (by omega) (by omega) lX (by omega) ?_ ?_ HM (hid fun u=>of64_any u) HB
         · simp [IntKind.wrap,IntKind.bits,IntKind.signed];omega
         · unfold wd64 rS
           rw [if_neg hX,if_pos rfl];omega
end
section
open Go.RowKit J
theorem sg1_sg (s:Bool) (v:Nat):sg1 s*(v:Int)=B.sg s v:=by unfold sg1 B.sg;cases s <;> simp
theorem top_v (K:Nat) (hK:K<9218868437227405312) (a:Nat) (ha:a=2045):vK K<9007199254740992*2^a:=by
 have h:=vK_word a 9007199254740992 (.inr (by omega)) (by omega)
 have h2:a*4503599627370496+9007199254740992=9218868437227405312:=by rw [ha]
 rw [←h,h2];exact vK_lt.2 hK
theorem of_fo (s:Bool) (K:Nat) (hK:K<9218868437227405312):∃ n X e,ofK s K=some (n,X,e)∧Fo (some (n,X,e)) (B.sg s (vK K)*(UU:Int)) (-1074) 1024∧(X=0↔K=0):=by
 obtain ⟨n,X,e,h1,F,h2,h3,h4⟩:=ofK_val s K hK;refine ⟨n,X,e,h1,⟨n,X,e,rfl,F,?_,?_⟩,h3⟩
 · obtain ⟨a,ha⟩:∃ a:Nat,(-1074 - -2097152:Int).toNat=a:=⟨_,rfl⟩
   have h5:=h4 (-2097152) (by omega)
   rw [ha] at h5;rw [h5,US a (by omega),Int.natCast_mul,Int.natCast_mul,←Int.mul_assoc,←Int.mul_assoc,sg1_sg]
 · by_cases hX:X=0
   · exact .inl hX
   · right
     have ho:=frm_odd F hX;have hd:=F.down
     -- in units of the form's own place
     have h5:=h4 (min e (-1074)) (by omega)
     unfold zv at h5;simp only at h5;rw [h2 hX] at h5
     have h6:X*2^(e-min e (-1074)).toNat=vK K*2^(-1074-min e (-1074)).toNat:=by
      unfold sg1 at h5
      cases s
      · simp only [Bool.false_eq_true,if_false,Int.one_mul] at h5;exact_mod_cast h5
      · simp only [if_true] at h5;have:=Int.eq_of_mul_eq_mul_left (by decide) h5;exact_mod_cast this
     have he:-1074≤e:=by
      apply Int.le_of_not_gt;intro hlt
      rw [show (e-min e (-1074)).toNat=0 by omega,Nat.pow_zero,Nat.mul_one] at h6
      obtain ⟨q,hq⟩:∃ q,(-1074-min e (-1074)).toNat=q+1:=⟨(-1074-min e (-1074)).toNat-1,by omega⟩
      rw [hq,Nat.pow_succ,←Nat.mul_assoc] at h6;omega
     refine ⟨he,?_⟩;rw [show (-1074-min e (-1074)).toNat=0 by omega,Nat.pow_zero,Nat.mul_one] at h6
     obtain ⟨q,hq⟩:∃ q,(e-min e (-1074)).toNat=q:=⟨_,rfl⟩;rw [hq] at h6;obtain ⟨c,hc⟩:∃ c:Nat,c=2045:=⟨_,rfl⟩;have h7:=top_v K hK c hc;have h8:=bl_ge X hX;have h9:=bl_pos X hX;obtain ⟨b,hb⟩:∃ b,bl X=b+1:=⟨bl X-1,by omega⟩
     rw [hb,Nat.add_sub_cancel] at h8;have h10:2^b*2^q<9007199254740992*2^c:=Nat.lt_of_le_of_lt (Nat.mul_le_mul_right _ h8) (by rw [h6];exact h7)
     rw [←Nat.pow_add,show (9007199254740992:Nat)=2^53 from rfl,←Nat.pow_add] at h10
     have h11:=(Nat.pow_lt_pow_iff_right (by decide:1<2)).1 h10
     omega
theorem read_finW (x:Nat) (hx:x<18446744073709551616) (h:magW x<9218868437227405312):∃ m k,Ieee.double.read x=.number (negW x) m (Ieee.double.leastPlace+(k:Nat))∧m*2^k=vK (magW x):=by
 have e:=wd_of x hx;rw [wd_word] at e;obtain ⟨m,k,h1,h2⟩:=B.read_word Ieee.double (negW x) (magW x) (by rw [B.dInf];exact h) hInf
 rw [←e] at h1;exact ⟨m,k,h1,h2⟩
end
section
open Go.RowKit J
def nrm (z:Nat):Nat:=if nanW z then oddW else z
end
section
open Go.RowKit J
attribute [local go_sem] B.f64bits B.f64frombits st_float
theorem rOf10 (b:Nat) (w:World):Calls Tryz.prog 53 #[.int .u64 (b:Nat)] w fun r w'=>r=.returned (.float .f64 b)∧w'=w:=by
 go_enter Tryz.func53,Tryz.ntmps53;go_wp2;exact bodyPost_ret (v:=.float .f64 b) (by simp [results,Tryz.results53,go_sem]) rfl ⟨rfl,rfl⟩
theorem rBits10 {x:Nat}(hx:x<18446744073709551616) (w:World):Calls Tryz.prog 47 #[.float .f64 x] w fun r w'=>r=.returned (.int .u64 (nrm x:Nat))∧w'=w:=by
 obtain ⟨s,e,f,he,hf,h1,h2⟩:=bwz x hx
 have e1:nrm x=B.cb s e f:=by
  unfold nrm B.cb;rw [←h2,h1];unfold B.odd
  by_cases h:e=2047∧f≠0
  · rw [if_pos h,if_pos (by simp [h.1,h.2])];rfl
  · rw [if_neg h,if_neg (by simpa using h)]
 rw [e1,h1];exact B.rBits_any s e f he hf w
end
section
open Go.RowKit J
def tk (x:Nat):Int:=if 9218868437227405312<magW x then 9221120237041090560 else if negW x then -1-(magW x:Int) else magW x
theorem bw15 {x:Nat}(hx:x<18446744073709551616):∃ s e f,e<2048∧f<4503599627370496∧x=B.bw s e f∧s=negW x∧e=magW x/4503599627370496∧f=magW x%4503599627370496:=by
 have hm:magW x<9223372036854775808:=by unfold magW;omega
 refine ⟨negW x,magW x/4503599627370496,magW x%4503599627370496,by omega,by omega,?_,rfl,rfl,rfl⟩
 unfold B.bw negW magW at *
 by_cases h:9223372036854775808≤x
 · rw [decide_eq_true h];simp only [Bool.toNat_true];omega
 · rw [decide_eq_false h];simp only [Bool.toNat_false];omega
theorem ky_tk {x:Nat}(hx:x<18446744073709551616):B.ky (negW x) (magW x/4503599627370496) (magW x%4503599627370496)=tk x:=by
 have hm:magW x<9223372036854775808:=by unfold magW;omega
 have e:((magW x/4503599627370496:Nat):Int)*4503599627370496+(magW x%4503599627370496:Nat)=(magW x:Int):=by omega
 unfold B.ky tk
 by_cases h:9218868437227405312<magW x
 · rw [if_pos h,if_pos (by omega)]
 · rw [if_neg h,if_neg (by omega),e]
theorem tk_parts {x:Nat}(hx:x<18446744073709551616):∃ s e f,e<2048∧f<4503599627370496∧x=B.bw s e f∧B.ky s e f=tk x:=by
 obtain ⟨s,e,f,h1,h2,h3,rfl,rfl,rfl⟩:=bw15 hx;exact ⟨_,_,_,h1,h2,h3,ky_tk hx⟩
theorem order15 {x y:Nat}(hx:x<18446744073709551616) (hy:y<18446744073709551616) (w:World) :
 Calls Tryz.prog 68 #[.float .f64 x,.float .f64 y] w fun r w'=>r=.returned (.int .i64 (B.oc (tk x) (tk y)))∧w'=w:=by
 obtain ⟨s,e,f,h1,h2,h3,h4⟩:=tk_parts hx;obtain ⟨t,u,v,i1,i2,i3,i4⟩:=tk_parts hy;have h:=B.order_any s t e f u v h1 h2 i1 i2 w;rw [h4,i4,←h3,←i3] at h;exact h
theorem nrm_lt15 {x:Nat}(hx:x<18446744073709551616):nrm x<18446744073709551616:=by unfold nrm oddW;split <;> omega
theorem tk_nrm {x y:Nat}(hx:x<18446744073709551616) (hy:y<18446744073709551616):tk x=tk y↔nrm x=nrm y:=by
 unfold tk nrm nanW oddW negW magW
 by_cases a:9218868437227405312<x%9223372036854775808 <;> by_cases b:9218868437227405312<y%9223372036854775808 <;> by_cases c:9223372036854775808≤x <;> by_cases d:9223372036854775808≤y <;> simp only [a,b,c,d,decide_true,decide_false,if_true,if_false,Bool.false_eq_true] <;> constructor <;> intro h <;> omega
def leI (xs:List Nat) (i j:Nat):Bool:=decide (tk (xs.getD i 0)<tk (xs.getD j 0)∨tk (xs.getD i 0)=tk (xs.getD j 0)∧i≤j)
theorem leI_trans (xs:List Nat) (a b c:Nat) (h1:leI xs a b=true) (h2:leI xs b c=true):leI xs a c=true:=by unfold leI at *;simp only [decide_eq_true_eq] at *;omega
theorem leI_total (xs:List Nat) (a b:Nat):(leI xs a b || leI xs b a)=true:=by unfold leI;simp only [Bool.or_eq_true,decide_eq_true_eq];omega
theorem leI_anti (xs:List Nat) (a b:Nat) (h1:leI xs a b=true) (h2:leI xs b a=true):a=b:=by unfold leI at *;simp only [decide_eq_true_eq] at *;omega
def rowI (xs is:List Nat):List Nat:=is.mergeSort (leI xs)
theorem rowI_perm (xs is:List Nat):(rowI xs is).Perm is:=List.mergeSort_perm is (leI xs)
theorem rowI_len (xs is:List Nat):(rowI xs is).length=is.length:=(rowI_perm xs is).length_eq
theorem rowI_sorted (xs is:List Nat):(rowI xs is).Pairwise (fun a b=>leI xs a b=true):=List.pairwise_mergeSort (leI_trans xs) (leI_total xs) is
theorem rowI_one (xs:List Nat) (x:Nat):rowI xs [x]=[x]:=List.mergeSort_singleton x
theorem rowI_merge (xs is:List Nat) (h:Nat):List.merge (rowI xs (is.take h)) (rowI xs (is.drop h)) (leI xs)=rowI xs is:=by
 have hp:(List.merge (rowI xs (is.take h)) (rowI xs (is.drop h)) (leI xs)).Perm is:=by
  refine (List.merge_perm_append (leI xs)).trans (((rowI_perm xs _).append (rowI_perm xs _)).trans ?_);rw [List.take_append_drop]
 exact List.Perm.eq_of_pairwise (le:=fun a b=>leI xs a b=true) (fun a b ha hb h1 h2=>leI_anti xs a b h1 h2) (List.pairwise_merge (leI_trans xs) (leI_total xs) _ _ (rowI_sorted xs _) (rowI_sorted xs _)) (rowI_sorted xs is) (hp.trans (rowI_perm xs is).symm)
theorem drop_at15 {A:List Nat}{i:Nat}(h:i<A.length):A.drop i=A.getD i 0::A.drop (i+1):=by
 rw [List.drop_eq_getElem_cons h,List.getD_eq_getElem?_getD,List.getElem?_eq_getElem h];rfl
theorem mgA15 {le:Nat→Nat→Bool}{A B:List Nat}{i k:Nat}(hi:i<A.length) (h:k=B.length∨(k<B.length∧le (A.getD i 0) (B.getD k 0)=true)):List.merge (A.drop i) (B.drop k) le=A.getD i 0::List.merge (A.drop (i+1)) (B.drop k) le:=by
 rw [drop_at15 hi]
 rcases h with rfl|⟨hk,h⟩
 · rw [List.drop_length,List.merge_right,List.merge_right]
 · rw [drop_at15 hk,List.cons_merge_cons,if_pos h]
theorem mgB15 {le:Nat→Nat→Bool}{A B:List Nat}{i k:Nat}(hk:k<B.length) (h:i=A.length∨(i<A.length∧le (A.getD i 0) (B.getD k 0)=false)):List.merge (A.drop i) (B.drop k) le=B.getD k 0::List.merge (A.drop i) (B.drop (k+1)) le:=by
 rw [drop_at15 hk]
 rcases h with rfl|⟨hi,h⟩
 · rw [List.drop_length,List.nil_merge,List.nil_merge]
 · rw [drop_at15 hi,List.cons_merge_cons,if_neg (by rw [h];decide)]
theorem getD_mem15 {A:List Nat}{i:Nat}(h:i<A.length):A.getD i 0 ∈ A:=by rw [List.getD_eq_getElem?_getD,List.getElem?_eq_getElem h];exact List.getElem_mem _
def rowL (xs:List Nat):List Nat:=rowI xs (List.range xs.length)
theorem rowL_len (xs:List Nat):(rowL xs).length=xs.length:=by unfold rowL;rw [rowI_len,List.length_range]
theorem rowL_perm (xs:List Nat):(rowL xs).Perm (List.range xs.length):=rowI_perm _ _
theorem rowL_nodup (xs:List Nat):(rowL xs).Nodup:=(rowL_perm xs).nodup_iff.2 List.nodup_range
theorem rowL_mem {xs:List Nat}{i:Nat}:i ∈ rowL xs↔i<xs.length:=by rw [(rowL_perm xs).mem_iff,List.mem_range]
theorem rowL_lt {xs:List Nat}{k:Nat}(h:k<xs.length):(rowL xs).getD k 0<xs.length:=rowL_mem.1 (getD_mem15 (by rw [rowL_len];exact h))
def plI (xs:List Nat) (i:Nat):Nat:=(rowL xs).idxOf i
theorem plI_row {xs:List Nat}{k:Nat}(h:k<xs.length):plI xs ((rowL xs).getD k 0)=k:=by
 have hk:k<(rowL xs).length:=by rw [rowL_len];exact h
 unfold plI;rw [List.getD_eq_getElem?_getD,List.getElem?_eq_getElem hk]
 exact (rowL_nodup xs).idxOf_getElem k hk
theorem plI_lt {xs:List Nat}{i:Nat}(h:i<xs.length):plI xs i<xs.length:=by
 have:=List.idxOf_lt_length_of_mem (rowL_mem.2 h);rw [rowL_len] at this;exact this
theorem row_plI {xs:List Nat}{i:Nat}(h:i<xs.length):(rowL xs).getD (plI xs i) 0=i:=by
 have h1:=List.idxOf_lt_length_of_mem (rowL_mem.2 h);unfold plI;rw [List.getD_eq_getElem?_getD,List.getElem?_eq_getElem h1]
 exact List.getElem_idxOf h1
def sortL (xs:List Nat):List Nat:=(rowL xs).map fun i=>nrm (xs.getD i 0)
theorem sortL_len (xs:List Nat):(sortL xs).length=xs.length:=by unfold sortL;rw [List.length_map,rowL_len]
theorem sortL_get {xs:List Nat}{k:Nat}(h:k<xs.length):(sortL xs).getD k 0=nrm (xs.getD ((rowL xs).getD k 0) 0):=by
 have hk:k<(rowL xs).length:=by rw [rowL_len];exact h
 unfold sortL;rw [List.getD_eq_getElem?_getD,List.getElem?_map,List.getD_eq_getElem?_getD (l:=rowL xs),List.getElem?_eq_getElem hk]
 rfl
def eachTo {α:Type} (xs:List Nat) (f:Nat→α) (z:α) (k:Nat):List α:=(List.range xs.length).map fun i=>if plI xs i<k then f (plI xs i) else z
def eachL {α:Type} (xs:List Nat) (f:Nat→α):List α:=(List.range xs.length).map fun i=>f (plI xs i)
theorem eachTo_zero {α:Type}(xs:List Nat) (f:Nat→α) (z:α):eachTo xs f z 0=List.replicate xs.length z:=by
 unfold eachTo;simp only [Nat.not_lt_zero,if_false];rw [List.map_const',List.length_range]
theorem eachTo_all {α:Type}(xs:List Nat) (f:Nat→α) (z:α):eachTo xs f z xs.length=eachL xs f:=by
 unfold eachTo eachL;refine List.map_congr_left fun i hi=>?_
 rw [if_pos (plI_lt (List.mem_range.1 hi))]
theorem eachTo_len {α:Type}(xs:List Nat) (f:Nat→α) (z:α) (k:Nat):(eachTo xs f z k).length=xs.length:=by unfold eachTo;rw [List.length_map,List.length_range]
theorem eachL_len {α:Type}(xs:List Nat) (f:Nat→α):(eachL xs f).length=xs.length:=by unfold eachL;rw [List.length_map,List.length_range]
theorem eachTo_get {α:Type}(xs:List Nat) (f:Nat→α) (z:α) (k i:Nat) (h:i<(eachTo xs f z k).length):(eachTo xs f z k)[i]=if plI xs i<k then f (plI xs i) else z:=by
 simp [eachTo]
theorem eachTo_succ {α:Type}(xs:List Nat) (f:Nat→α) (z:α) {k:Nat}(h:k<xs.length):(eachTo xs f z k).set ((rowL xs).getD k 0) (f k)=eachTo xs f z (k+1):=by
 refine List.ext_getElem (by rw [List.length_set,eachTo_len,eachTo_len]) fun i h1 h2=>?_
 have h3:=h2;rw [eachTo_len] at h3;rw [List.getElem_set,eachTo_get,eachTo_get]
 by_cases e:(rowL xs).getD k 0=i
 · have e2:plI xs i=k:=by rw [←e];exact plI_row h
   rw [if_pos e,e2,if_pos (by omega)]
 · have e2:plI xs i≠k:=fun e3=>e (by rw [←e3];exact row_plI h3)
   rw [if_neg e]
   by_cases h4:plI xs i<k
   · rw [if_pos h4,if_pos (by omega)]
   · rw [if_neg h4,if_neg (by omega)]
end
section
open Go.RowKit J
theorem leI_plI {xs:List Nat}{i j:Nat}(hi:i<xs.length) (hj:j<xs.length) (h:plI xs i<plI xs j):leI xs i j=true:=by
 have p1:=plI_lt hi;have p2:=plI_lt hj;have hl:=rowL_len xs;have:=(List.pairwise_iff_getElem.1 (show (rowL xs).Pairwise (fun a b=>leI xs a b=true) from rowI_sorted xs _)) (plI xs i) (plI xs j) (by omega) (by omega) h
 have e1:=row_plI hi;have e2:=row_plI hj;rw [List.getD_eq_getElem?_getD,List.getElem?_eq_getElem (by omega)] at e1 e2
 simp only [Option.getD_some] at e1 e2;rw [e1,e2] at this;exact this
theorem plI_inj {xs:List Nat}{i j:Nat}(hi:i<xs.length) (hj:j<xs.length) (h:plI xs i=plI xs j):i=j:=by
 rw [←row_plI hi,←row_plI hj,h]
theorem plI_leI {xs:List Nat}{i j:Nat}(hi:i<xs.length) (hj:j<xs.length) (hne:i≠j):plI xs i<plI xs j↔leI xs i j=true:=by
 refine ⟨leI_plI hi hj,fun h=>?_⟩
 rcases Nat.lt_trichotomy (plI xs i) (plI xs j) with q|q|q
 · exact q
 · exact absurd (plI_inj hi hj q) hne
 · exact absurd (leI_anti xs i j h (leI_plI hj hi q)) hne
def cmpZ15 (x y:Int):Int:=if x<y then -1 else if y<x then 1 else 0
theorem isNaN15 (x:Int) (w:World):Calls Tryz.prog 98 #[.int .i64 x] w fun r w'=>r=.returned (.bool false)∧w'=w:=by
 go_enter Tryz.func98,Tryz.ntmps98;go_wp2;go_ret;exact ⟨by first | rfl | simp,rfl⟩
theorem compare_int15 (x y:Int) (w:World):Calls Tryz.prog 69 #[.int .i64 x,.int .i64 y] w fun r w'=>r=.returned (.int .i64 (cmpZ15 x y))∧w'=w:=by
 have H:=hid isNaN15;unfold cmpZ15
 by_cases h1:x<y
 · rw [if_pos h1]
   go_enter Tryz.func69,Tryz.ntmps69
   go_wp2_with (go_at_call 98;refine (H.out _ _).mono ?_;rintro r w1 ⟨rfl,rfl⟩)
   go_ret;exact ⟨rfl,rfl⟩
 · rw [if_neg h1]
   have d1:decide (x<y)=false:=by simp;omega
   by_cases h2:y<x
   · rw [if_pos h2]
     go_enter Tryz.func69,Tryz.ntmps69
     go_wp2_with (go_at_call 98;refine (H.out _ _).mono ?_;rintro r w1 ⟨rfl,rfl⟩)
     go_ret;exact ⟨rfl,rfl⟩
   · rw [if_neg h2]
     have d2:decide (y<x)=false:=by simp;omega
     go_enter Tryz.func69,Tryz.ntmps69
     go_wp2_with (go_at_call 98;refine (H.out _ _).mono ?_;rintro r w1 ⟨rfl,rfl⟩)
     go_ret;exact ⟨rfl,rfl⟩
def orZ15 (x y:Int):Int:=if x=0 then y else x
theorem or15 (g cap:Nat) (x y:Int) (w:World) (c1:w.cell? ⟨g,0,none⟩=some (.int .i64 x)) (c2:w.cell? ⟨g,1,none⟩=some (.int .i64 y)):Calls Tryz.prog 67 #[.slice (some ⟨g,0,none⟩) 2 cap] w fun r w'=>r=.returned (.int .i64 (orZ15 x y))∧w'=w:=by
 obtain ⟨z,hz⟩:∃ z,z=orZ15 x y:=⟨_,rfl⟩;rw [←hz];have HZ:=qsd hz;clear hz;go_enter Tryz.func67,Tryz.ntmps67;go_wp2
 go_loopg [8] 2 (fun gk iv wr=>∃ i:Nat,gk+i=2∧iv=.int .i64 (i:Nat)∧Aside ((0<i→x=0)∧(1<i→y=0))∧wr=w)
 case atStart=>exact ⟨0,rfl,rfl,⟨fun h=>by omega,fun h=>by omega⟩,rfl⟩
 case round =>
  obtain ⟨i,h1,rfl,H,rfl⟩:=hrel;have hi:i=0∨i=1∨i=2:=by omega
  rcases hi with rfl|rfl|rfl
  · by_cases hx:x=0
    · subst hx
      go_wp2
      go_roundg 1
      case measure=>omega
      case rel=>exact ⟨1,rfl,by first | rfl | simp,⟨fun _=>by first | rfl | trivial,fun h=>by omega⟩,rfl⟩
    · have e1:(x==0)=false:=by simp [hx]
      have e2:(x != 0)=true:=by simp [hx]
      have e3:decide (x=0)=false:=by simp [hx]
      have E:Aside (z=x):=qsd (by rw [HZ.out];unfold orZ15;rw [if_neg hx])
      go_wp2;go_ret;exact ⟨by rw [E.out];rfl,rfl⟩
  · by_cases hy:y=0
    · subst hy
      go_wp2
      go_roundg 0
      case measure=>omega
      case rel=>exact ⟨2,rfl,by first | rfl | simp,⟨fun _=>H.out.1 (by omega),fun h=>by first | rfl | trivial⟩,rfl⟩
    · have e1:(y==0)=false:=by simp [hy]
      have e2:(y != 0)=true:=by simp [hy]
      have e3:decide (y=0)=false:=by simp [hy]
      have E:Aside (z=y):=qsd (by rw [HZ.out];unfold orZ15;rw [if_pos (H.out.1 (by omega))])
      go_wp2;go_ret;exact ⟨by rw [E.out];rfl,rfl⟩
  · have E:Aside (z=0):=qsd (by rw [HZ.out];unfold orZ15;rw [if_pos (H.out.1 (by omega)),H.out.2 (by omega)])
    go_wp2;go_ret;exact ⟨by rw [E.out];rfl,rfl⟩
theorem oc_z15 (p q:Int) (i j:Nat) (hne:i≠j):orZ15 (B.oc p q) (cmpZ15 (i:Int) (j:Int))<0↔(p<q∨p=q∧i≤j):=by
 have e:B.oc p q=if p<q then -1 else if q<p then 1 else 0:=by unfold B.oc;rfl
 rw [e];unfold orZ15 cmpZ15
 by_cases a:p<q
 · rw [if_pos a,if_neg (by omega)];omega
 · rw [if_neg a]
   by_cases b:q<p
   · rw [if_pos b,if_neg (by omega)];omega
   · rw [if_neg b,if_pos rfl]
     by_cases c:(i:Int)<(j:Int)
     · rw [if_pos c];omega
     · rw [if_neg c,if_pos (by omega)];omega
theorem oc_lt15 (xs:List Nat) (i j:Nat) (hi:i<xs.length) (hj:j<xs.length):orZ15 (B.oc (tk (xs.getD i 0)) (tk (xs.getD j 0))) (cmpZ15 (i:Int) (j:Int))<0↔plI xs i<plI xs j:=by
 by_cases hne:i=j
 · subst hne
   have e:B.oc (tk (xs.getD i 0)) (tk (xs.getD i 0))=0:=by unfold B.oc;simp
   rw [e];unfold orZ15 cmpZ15;simp
 · rw [plI_leI hi hj hne,oc_z15 _ _ i j hne]
   unfold leI;rw [decide_eq_true_eq]
end
section
open Go.RowKit J
theorem compare_core (b off n cap i j:Nat) (at':Value) (p q:Nat) (o c z:Int) (u:World) (c1:u.cell? ⟨b,off+i,none⟩=some (.float .f64 p)) (c2:u.cell? ⟨b,off+j,none⟩=some (.float .f64 q)) (hi:i<n) (hj:j<n)
 (HO:Hid (∀ w,Calls Tryz.prog 68 #[.float .f64 p,.float .f64 q] w fun r w'=>r=.returned (.int .i64 o)∧w'=w))
 (HM:Hid (∀ w,Calls Tryz.prog 69 #[.int .i64 (i:Nat),.int .i64 (j:Nat)] w fun r w'=>r=.returned (.int .i64 c)∧w'=w))
 (HR:Hid (∀ (g cap:Nat) (w:World),w.cell? ⟨g,0,none⟩=some (.int .i64 o)→w.cell? ⟨g,1,none⟩=some (.int .i64 c)→Calls Tryz.prog 67 #[.slice (some ⟨g,0,none⟩) 2 cap] w fun r w'=>r=.returned (.int .i64 z)∧w'=w)) :
 Calls Tryz.prog 49 #[.agg #[.slice (some ⟨b,off,none⟩) n cap,at'],.int .i64 (i:Nat),.int .i64 (j:Nat)] u fun r w'=>r=.returned (.int .i64 z)∧Below u.heap.size u w':=by
 have b1:(i:Int)<(n:Int):=by omega
 have b2:(j:Int)<(n:Int):=by omega
 have hb:b<u.heap.size:=by
  unfold World.cell? at c1
  rcases Nat.lt_or_ge b u.heap.size with q|q
  · exact q
  · rw [Array.getElem?_eq_none q] at c1;cases c1
 go_enter Tryz.func49,Tryz.ntmps49
 go_upto_region 1 with fail
 go_region_with (first
  | (go_at_call 68
     refine (HO.out _).mono ?_;rintro r v ⟨rfl,rfl⟩)
  | (go_at_call 69
     refine (HM.out _).mono ?_;rintro r v ⟨rfl,rfl⟩)
  | (go_at_call 67
     refine (HR.out _ _ _ (by simp [go_sem]) (by simp [go_sem])).mono ?_
     rintro r v ⟨rfl,rfl⟩))
 all_goals
  go_wp2;go_ret;refine ⟨rfl,?_⟩
  first
   | exact ((((Below.refl u.heap.size u).alloc (Nat.le_refl _) _).drew).alloc (by simp) _)
   | exact ((((Below.refl u.heap.size u).alloc (Nat.le_refl _) _).alloc (by simp) _).drew)
theorem cmp15_of (xs:List Nat) (ao:Option Addr) (n cap g G:Nat) (at':Value) (w:World) (hF:Fs G w ao xs) (hG:G≤g) (hGw:G≤w.heap.size) (hn:n=xs.length) (hW:W64 xs):Cmp15 (plI xs) n g (.agg #[.slice ao n cap,at']) w:=by
 intro u x y hB hx hy;subst hn;obtain ⟨b,off,h1,rfl,h3⟩:=hF (by intro e;subst e;simp at hx)
 have k:∀ i,i<xs.length→u.cell? ⟨b,off+i,none⟩=some (.float .f64 (xs.getD i 0)):=fun i hi =>
  (World.cell?_of_block (a:=⟨b,off+i,none⟩) (hB.block b (by omega) (by omega))).trans (h3 i hi)
 have hm:∀ i,i<xs.length→xs.getD i 0<18446744073709551616:=fun i hi=>hW _ (getD_mem15 hi)
 exact ⟨_,oc_lt15 xs x y hx hy,compare_core b off xs.length cap x y at' _ _ _ _ _ u (k x hx) (k y hy) hx hy (fun w=>order15 (hm x hx) (hm y hy) w) (fun w=>compare_int15 _ _ w) (fun g cap w c1 c2=>or15 g cap _ _ w c1 c2)⟩
end
section
open Go.RowKit J
attribute [local go_sem] st_float
def Fw10 (n:Nat):Value:=.float .f64 n
theorem Tryz.und_floats:Tryz.prog.underlying 22=some (.slice 40):=by kernel_rfl
theorem Tryz.info_f64:(Tryz.prog.info? 40).map (fun i=>(i.zero,i.size,i.bytes))=some (some (.float .f64 0),1,8):=by kernel_rfl
def OwnF (w:World) (g:Nat) (L:List Nat):Prop:=w.heap[g]?=some (.cells (L.map Fw10).toArray 40 (0,0))
theorem OwnF.lt {w:World}{g:Nat}{L:List Nat}(h:OwnF w g L):g<w.heap.size:=(Array.getElem?_eq_some_iff.1 h).1
theorem OwnF.cell {w:World}{g:Nat}{L:List Nat}(h:OwnF w g L) (i:Nat) (hi:i<L.length):w.cell? ⟨g,i,none⟩=some (.float .f64 (L.getD i 0)):=by
 unfold OwnF at h;simp [World.cell?,h,Fw10,hi]
theorem OwnF.frozen {w:World}{g:Nat}{L:List Nat}(h:OwnF w g L) (i:Nat):w.frozen? ⟨g,i,none⟩=false:=by
 unfold OwnF at h;simp [World.frozen?,h]
theorem OwnF.set {w:World}{g:Nat}{L:List Nat}(h:OwnF w g L) (i x:Nat):OwnF (w.setCell ⟨g,i,none⟩ (.float .f64 x)) g (L.set i x):=by
 unfold OwnF at h ⊢;simp only [World.setCell,Array.getElem?_modify,h];simp [Fw10,List.map_set]
theorem OwnF.drew {w:World}{g:Nat}{L:List Nat}(h:OwnF w g L):OwnF w.drew g L:=h
theorem OwnF.below {w w':World}{g B:Nat}{L:List Nat}(h:OwnF w g L) (hb:Below B w w') (hg:g<B):OwnF w' g L:=by
 unfold OwnF at h ⊢;rw [hb.block g hg];exact h
theorem OwnF.fs {w:World}{g B:Nat}{L:List Nat}(h:OwnF w g L) (hg:g<B) (n:Nat):Fs B w (some ⟨g,0,none⟩) (L.take n):=by
 intro _;refine ⟨g,0,hg,rfl,fun i hi=>?_⟩
 rw [List.length_take] at hi;rw [Nat.zero_add,h.cell i (by omega)]
 congr 2
 rw [List.getD_eq_getElem?_getD,List.getD_eq_getElem?_getD,List.getElem?_take,if_pos (by omega)]
theorem make_floats (z:Int) (n:Nat) (hz:z=(n:Int)) (hn:n≤17592186044416) (w:World) :
 (Instr.makeSlice 22 (.int .i64 z) (.int .i64 z)).run Tryz.prog w=.ok (.slice (some ⟨w.heap.size,0,none⟩) n n) (w.alloc (.cells (madeCells #[.float .f64 0] n) 40)):=by
 subst hz;exact run_make_row' 22 40 (.float .f64 0) 8 Tryz.und_floats Tryz.info_f64 rfl .i64 .i64 n (by omega) (by omega) w
theorem OwnF.made (w:World) (n:Nat):OwnF (w.alloc (.cells (madeCells #[.float .f64 0] n) 40)) w.heap.size (List.replicate n 0):=by
 unfold OwnF;have h1:=heap_alloc_new w (.cells (madeCells #[.float .f64 0] n) 40);rw [h1]
 congr 2
 apply Array.toList_inj.1
 rw [toList_madeCells_one];simp [Fw10]
theorem copy_floats (w:World) (g dLen dCap:Nat) (ao:Option Addr) (sLen sCap B:Nat) (ty:TypeId)
 (L xs:List Nat) (hO:OwnF w g L) (hL:dLen≤L.length) (hx:sLen=xs.length) (hR:Fs B w ao xs) (hle:sLen≤dLen) :
 ∃ w',(Builtin.copy_ #[22,22] ty #[.slice (some ⟨g,0,none⟩) dLen dCap,.slice ao sLen sCap]).run Tryz.prog w=.ok (.int .i64 (sLen:Int)) w'∧OwnF w' g (xs++L.drop sLen)∧But g w w':=by
 subst hx;have hmin:Nat.min xs.length dLen=xs.length:=Nat.min_eq_left hle
 by_cases h0:xs=[]
 · subst h0
   exact ⟨w,run_copy_none (P:=Tryz.prog) w 22 22 ty 40 _ _ _ _ _ _ Tryz.und_floats (by kernel_rfl) (by simp at hmin ⊢),by simpa using hO,But.refl _ _⟩
 · obtain ⟨b,off,hlt,rfl,hc⟩:=hR h0
   have hadd:∀ j,(⟨b,off,none⟩:Addr).add j=⟨b,off+j,none⟩:=by intro j;unfold Addr.add;split <;> simp_all
   have hrun:=run_copy_row (P:=Tryz.prog) w 22 22 ty 40 g 0 dLen dCap ⟨b,off,none⟩ xs.length sCap (L.map Fw10).toArray 40 (xs.map Fw10) Tryz.und_floats (by kernel_rfl) hO (by rw [hmin];simp) (by
    intro j v hv;rw [hadd]
    have hj:j<xs.length:=by
     have:=(List.getElem?_eq_some_iff.1 hv).1;simpa using this
    rw [hc j hj];simp [hj,Fw10] at hv;simp [hj,←hv]) (by simp;omega) (by
    intro v hv;obtain ⟨n,_,rfl⟩:=List.mem_map.1 hv
    rfl)
   refine ⟨w.setRow g (((xs++L.drop xs.length).map Fw10)).toArray,?_,setRow_heap w g _ _ 40 _ hO,⟨rfl,rfl,rfl,by simp [World.setRow],fun k _ hk=>setRow_other w g k _ hk⟩⟩
   simpa [List.map_append,List.map_drop,goInt] using hrun
theorem Fs.but {B g:Nat}{w w':World}{ao:Option Addr}{xs:List Nat}(h:Fs B w ao xs) (hb:But g w w') (hB:B≤w.heap.size) (hg:B≤g):Fs B w' ao xs:=by
 intro hne;obtain ⟨b,off,h1,h2,h3⟩:=h hne;refine ⟨b,off,h1,h2,fun i hi=>?_⟩
 rw [←h3 i hi];exact World.cell?_of_block (a:=⟨b,off+i,none⟩) (hb.block b (by omega) (by omega))
end
section
open Go.RowKit J
theorem Tryz.und_ints:Tryz.prog.underlying 25=some (.slice 3):=by kernel_rfl
theorem Tryz.info_int15:(Tryz.prog.info? 3).map (fun i=>(i.zero,i.size,i.bytes))=some (some (.int .i64 0),1,8):=by kernel_rfl
theorem make_ints (z:Int) (n:Nat) (hz:z=(n:Int)) (hn:n≤17592186044416) (w:World) :
 (Instr.makeSlice 25 (.int .i64 z) (.int .i64 z)).run Tryz.prog w=.ok (.slice (some ⟨w.heap.size,0,none⟩) n n) (w.alloc (.cells (madeCells #[.int .i64 0] n) 3)):=by
 subst hz;exact run_make_row' 25 3 (.int .i64 0) 8 Tryz.und_ints Tryz.info_int15 rfl .i64 .i64 n (by omega) (by omega) w
theorem OwnI.made (w:World) (n:Nat):OwnI (w.alloc (.cells (madeCells #[.int .i64 0] n) 3)) w.heap.size (List.replicate n 0):=by
 unfold OwnI;have h1:=heap_alloc_new w (.cells (madeCells #[.int .i64 0] n) 3);rw [h1]
 congr 2
 apply Array.toList_inj.1
 rw [toList_madeCells_one];simp [Iw15]
theorem row_of_up15 {xs M:List Nat}(hP:M.Perm (List.range xs.length)) (hU:Up (plI xs) 0 xs.length M):M=rowL xs:=by
 have hl:M.length=xs.length:=by rw [hP.length_eq,List.length_range]
 have hlt:∀ i (h:i<M.length),M[i]<xs.length:=fun i h=>List.mem_range.1 (hP.mem_iff.1 (List.getElem_mem h))
 have hnd:M.Nodup:=hP.nodup_iff.2 List.nodup_range;refine List.Perm.eq_of_pairwise (le:=fun a b=>leI xs a b=true) (fun a b ha hb h1 h2=>leI_anti xs a b h1 h2) ?_ (rowI_sorted xs _) (hP.trans (rowL_perm xs).symm)
 refine List.pairwise_iff_getElem.2 fun i j hi hj hij=>?_
 have h:=hU i j (Nat.zero_le _) hij (by omega)
 unfold ky at h;rw [List.getD_eq_getElem?_getD,List.getElem?_eq_getElem hi,List.getD_eq_getElem?_getD,List.getElem?_eq_getElem hj] at h
 simp only [Option.getD_some] at h;have hne:M[i]≠M[j]:=List.pairwise_iff_getElem.1 hnd i j hi hj hij
 rcases Nat.lt_or_ge (plI xs M[i]) (plI xs M[j]) with q|q
 · exact leI_plI (hlt i hi) (hlt j hj) q
 · exact absurd (plI_inj (hlt i hi) (hlt j hj) (by omega)) hne
theorem sortFunc15 (xs:List Nat) (n g cap:Nat) (recv:Value) (w:World) (hO:OwnI w g (List.range xs.length)) (hn:n=xs.length) (hb:n≤17592186044416) (hC:Cmp15 (plI xs) n g recv w) :
 Calls Tryz.prog 48 #[.slice (some ⟨g,0,none⟩) n cap,.func (.func 49) #[recv] #[]] w fun r w'=>r=.returned (.tuple #[])∧OwnI w' g (rowL xs)∧But g w w':=by
 have hS:Sx15 n g n w w (fun M=>M=List.range xs.length):=by
  subst hn;exact ⟨List.range xs.length,hO,List.length_range,fun k hk=>by simp [List.getD_eq_getElem?_getD,hk],But.refl _ _,rfl⟩
 have hlim:bl n<1152921504606846976:=by
  have:bl n≤64:=by
   rcases Nat.lt_or_ge 64 (bl n) with q|q
   · have h1:=bl_ge n (by intro e;subst e;simp [bl_zero] at q)
     have h2:=Nat.pow_le_pow_right (n:=2) (by omega) (show 64≤bl n-1 by omega)
     omega
   · exact q
  omega
 have C:=hid (pdq15 (plI xs) n g n cap recv (by omega) n 0 n (bl n) (List.range xs.length) w (by omega) (Nat.zero_le _) (Nat.le_refl _) hlim hS hC (fun h=>by omega) List.nodup_range (fun x hx y hy h=>plI_inj (List.mem_range.1 hx) (List.mem_range.1 hy) h))
 have D:=hid (blen_any n w (by omega))
 have wl:IntKind.u64.wrap (n:Int)=(n:Int):=by simp [IntKind.wrap,IntKind.bits,IntKind.signed];omega
 obtain ⟨m,hm⟩:∃ m,m=bl n:=⟨_,rfl⟩;rw [←hm] at C D;have HN:=qsd hn;clear hS hlim hC hO hn hm;go_enter Tryz.func48,Tryz.ntmps48
 go_wp2_with fail
 refine D.out.mono ?_;rintro r w1 ⟨rfl,rfl⟩
 go_wp2_with fail
 refine C.out.mono ?_;rintro r v ⟨rfl,hv⟩;have HR:=qsd hv;clear C D hv;go_wp2;refine bodyPost_end (v:=.tuple #[]) (by simp [results,Tryz.results48,go_sem]) rfl ?_
 obtain ⟨M,h1,h2,h3,h4,h5,h6⟩:=HR.out;refine ⟨rfl,?_,h4⟩;have hn:=HN.out;subst hn;rw [←row_of_up15 h5.perm h6];exact h1
end
section
open Go.RowKit J
def upto15 (n k:Nat):List Nat:=List.range k++List.replicate (n-k) 0
theorem upto_zero (n:Nat):upto15 n 0=List.replicate n 0:=by simp [upto15]
theorem upto_all (n:Nat):upto15 n n=List.range n:=by simp [upto15]
theorem upto_len {n k:Nat}(h:k≤n):(upto15 n k).length=n:=by simp [upto15];omega
theorem upto_succ {n k:Nat}(h:k<n):(upto15 n k).set k k=upto15 n (k+1):=by
 unfold upto15;rw [List.set_append_right _ _ (by simp),List.length_range,Nat.sub_self,show n-k=(n-(k+1))+1 by omega,List.replicate_succ,List.set_cons_zero,List.range_succ]
 simp
theorem cell_but15 {g:Nat}{u v:World}{p:Addr}{x:Value}(hB:But g u v) (h:u.cell? p=some x) (hp:p.block≠g):v.cell? p=some x :=
 (World.cell?_of_block (hB.block p.block (lt_of_cell15 h) hp)).trans h
theorem frozen_but15 {g:Nat}{u v:World}{p:Addr}(hB:But g u v) (hl:p.block<u.heap.size) (h:u.frozen? p=false) (hp:p.block≠g):v.frozen? p=false:=by
 unfold World.frozen? at h ⊢;rw [hB.block p.block hl hp];exact h
theorem rowOf15 (xs:List Nat) (ao:Option Addr) (n cap:Nat) (w:World) (hF:Fs w.heap.size w ao xs) (hn:n=xs.length) (hb:n≤17592186044416) (hW:W64 xs) :
 Calls Tryz.prog 30 #[.slice ao n cap] w fun r w'=>∃ g,r=.returned (.agg #[.slice ao n cap,.slice (some ⟨g,0,none⟩) n n])∧OwnI w' g (rowL xs)∧Below w.heap.size w w'∧w.heap.size≤g:=by
 have mk:=make_ints n n rfl hb;have HF:=qsd hF;have HN:=(qsd (ai hn hW));clear hF hn hW;go_enter Tryz.func30,Tryz.ntmps30
 go_upto_region 2 with fail
 obtain ⟨W1,hW1⟩:∃ W,W=(((w.alloc (Obj.cells #[Value.slice none 0 0,Value.slice none 0 0] 48)).alloc (Obj.cells (madeCells #[Value.int IntKind.i64 0] n) 3)).alloc (Obj.cells #[Value.slice ao n cap,Value.slice (some ⟨w.heap.size+1,0,none⟩) n n] 48)):=⟨_,rfl⟩
 have o1:OwnI W1 (w.heap.size+1) (upto15 n 0):=by
  rw [hW1,upto_zero];have:=(OwnI.made (w.alloc (Obj.cells #[Value.slice none 0 0,Value.slice none 0 0] 48)) n);rw [World.size_alloc] at this;exact this.below ((Below.refl _ _).alloc (Nat.le_refl _) _) (by simp)
 have o2:Below w.heap.size w W1:=by
  rw [hW1];exact (((Below.refl w.heap.size w).alloc (Nat.le_refl _) _).alloc (by simp) _).alloc (by simp;omega) _
 have q1:W1.cell? ⟨w.heap.size,0,none⟩=some (.slice none 0 0):=by
  rw [hW1,World.cell?_alloc_lt _ _ _ (by simp;omega),World.cell?_alloc_lt _ _ _ (by simp),World.cell?_alloc_new];rfl
 have q2:W1.cell? ⟨w.heap.size,1,none⟩=some (.slice none 0 0):=by
  rw [hW1,World.cell?_alloc_lt _ _ _ (by simp;omega),World.cell?_alloc_lt _ _ _ (by simp),World.cell?_alloc_new];rfl
 have q3:∀ i,W1.frozen? ⟨w.heap.size,i,none⟩=false:=fun i=>by
  rw [hW1,World.frozen?_alloc_old _ _ _ (by simp;omega),World.frozen?_alloc_old _ _ _ (by simp)]
  exact World.frozen?_alloc_new _ _ _ _
 have r1:W1.cell? ⟨w.heap.size+2,0,none⟩=some (.slice ao n cap):=by
  have:=World.cell?_alloc_new ((w.alloc (Obj.cells #[Value.slice none 0 0,Value.slice none 0 0] 48)).alloc (Obj.cells (madeCells #[Value.int IntKind.i64 0] n) 3)) #[Value.slice ao n cap,Value.slice (some ⟨w.heap.size+1,0,none⟩) n n] 48 0;rw [World.size_alloc,World.size_alloc] at this;rw [hW1];exact this
 have r2:W1.cell? ⟨w.heap.size+2,1,none⟩=some (.slice (some ⟨w.heap.size+1,0,none⟩) n n):=by
  have:=World.cell?_alloc_new ((w.alloc (Obj.cells #[Value.slice none 0 0,Value.slice none 0 0] 48)).alloc (Obj.cells (madeCells #[Value.int IntKind.i64 0] n) 3)) #[Value.slice ao n cap,Value.slice (some ⟨w.heap.size+1,0,none⟩) n n] 48 1;rw [World.size_alloc,World.size_alloc] at this;rw [hW1];exact this
 rw [←hW1];clear hW1 mk;obtain ⟨q,hq⟩:∃ x,x=w.heap.size:=⟨_,rfl⟩;obtain ⟨g,hg⟩:∃ x,x=w.heap.size+1:=⟨_,rfl⟩;obtain ⟨h,hh⟩:∃ x,x=w.heap.size+2:=⟨_,rfl⟩;rw [←hg] at o1 r2;rw [←hh] at r1 r2;rw [←hq] at q1 q2;simp only [←hq] at q3;rw [show w.heap.size+1+1=h by omega,←hg,←hq]
 have hgq:g≠q:=by omega
 have hgh:g≠h:=by omega
 have hqg:q≠g:=by omega
 have hhg:h≠g:=by omega
 have HQ:=(qsd (ai hq (ai hg hh)));have HB:=qsd o2;have HR:=(qsd (ai q1 (ai q2 (ai q3 (ai r1 r2)))));have HA:Aside (OwnI W1 g (upto15 n 0)∧But g W1 W1):=⟨o1,But.refl _ _⟩;have hlh:h<W1.heap.size:=lt_of_cell15 r1;have hlq:q<W1.heap.size:=lt_of_cell15 q1;have HL:=(qsd (ai hlh hlq));clear o1 o2 q1 q2 q3 hq hg hh hlh hlq;go_wp2
 go_loopg [13] n (fun gk iv wr=>∃ k:Nat,gk+k=n∧iv=.int .i64 (k:Nat)∧Aside (OwnI wr g (upto15 n k)∧But g W1 wr))
 case atStart=>exact ⟨0,rfl,by first | rfl | simp,HA.out⟩
 case round =>
  clear HA r1 r2;obtain ⟨k,hgk,rfl,HA⟩:=hrel
  by_cases hk:k<n
  · have hdk:decide ((k:Int)<(n:Int))=true:=by simp;omega
    have bk:(k:Int)<(n:Int):=by omega
    obtain ⟨k1,hk1⟩:∃ x,x=k+1:=⟨_,rfl⟩;have wk:IntKind.i64.wrap ((k:Int)+1)=(k1:Int):=wrapZ (by omega) (by omega)
    have r2:=cell_but15 HA.out.2 HR.out.2.2.2.2 hhg;have c1:=HA.out.1.cell k (by rw [upto_len (by omega)];exact hk)
    have z1:=HA.out.1.frozen k;have HX:Aside (OwnI (wr.setCell ⟨g,k,none⟩ (.int .i64 (k:Nat))) g (upto15 n k1)∧But g W1 (wr.setCell ⟨g,k,none⟩ (.int .i64 (k:Nat)))):=⟨by rw [hk1,←upto_succ hk];exact HA.out.1.set k k,HA.out.2.set _ _⟩
    obtain ⟨y,hy⟩:∃ y,y=(upto15 n k).getD k 0:=⟨_,rfl⟩;rw [←hy] at c1;have HK:=qsd hk1;clear HA hk1 hy;go_wp2
    go_roundg (n-k1)
    case measure=>have:=HK.out;omega
    case rel=>exact ⟨k1,by have:=HK.out;omega,by first | rfl | simp,HX.out⟩
  · have hdk:decide ((k:Int)<(n:Int))=false:=by simp;omega
    have hkn:k=n:=by omega
    subst hkn;obtain ⟨a1,a2⟩:=HA.out;rw [upto_all] at a1;have r1:=cell_but15 a2 HR.out.2.2.2.1 hhg;have r2:=cell_but15 a2 HR.out.2.2.2.2 hhg;obtain ⟨hn,hW⟩:=HN.out;obtain ⟨hq,hg,hh⟩:=HQ.out
    have hFw:Fs w.heap.size wr ao xs:=by
     intro hne;obtain ⟨b,off,h1,h2,h3⟩:=HF.out hne;refine ⟨b,off,h1,h2,fun i hi=>?_⟩
     exact cell_but15 a2 ((World.cell?_of_block (a:=⟨b,off+i,none⟩) (HB.out.block b h1)).trans (h3 i hi)) (by show b≠g;omega)
    have hsz:w.heap.size≤wr.heap.size:=Nat.le_trans HB.out.size a2.size;have hC:Cmp15 (plI xs) k g (.agg #[.slice ao k cap,.slice (some ⟨g,0,none⟩) k k]) wr:=cmp15_of xs ao k cap g w.heap.size _ wr hFw (by omega) hsz hn hW
    rw [hn] at a1;have C:=hid (sortFunc15 xs k g k _ wr a1 hn hb hC);clear hFw hC a1 hn hW hq hg hh hsz;have HA2:=qsd a2;clear HA a2
    go_wp2_with fail
    refine C.out.mono ?_;rintro r v ⟨rfl,e1,e2⟩;have a3:=HA2.out.trans e2;have r1:=cell_but15 a3 HR.out.2.2.2.1 hhg;have r2:=cell_but15 a3 HR.out.2.2.2.2 hhg;have q1:=cell_but15 a3 HR.out.1 hqg;have q2:=cell_but15 a3 HR.out.2.1 hqg;have q3:=frozen_but15 (p:=⟨q,0,none⟩) a3 HL.out.2 (HR.out.2.2.1 0) hqg;have q4:=frozen_but15 (p:=⟨q,1,none⟩) a3 HL.out.2 (HR.out.2.2.1 1) hqg;have HE:=(qsd (ai e1 a3));clear C e1 e2 a3 HA2;go_wp2;obtain ⟨WE,hWE⟩:∃ W,W=((v.setCell ⟨q,0,none⟩ (Value.slice ao k cap)).setCell ⟨q,1,none⟩ (Value.slice (some ⟨g,0,none⟩) k k)):=⟨_,rfl⟩
    have x1:WE.cell? ⟨q,0,none⟩=some (Value.slice ao k cap):=by
     rw [hWE,World.cell?_setCell_other _ _ _ _ (by simp)]
     exact World.cell?_setCell_same _ _ _ q1
    have x2:WE.cell? ⟨q,1,none⟩=some (Value.slice (some ⟨g,0,none⟩) k k):=by
     rw [hWE];exact World.cell?_setCell_same _ _ _ (by rw [World.cell?_setCell_other _ _ _ _ (by simp)];exact q2)
    rw [←hWE];have X:=qsd hWE;clear hWE;refine bodyPost_ret (v:=.agg #[.slice ao k cap,.slice (some ⟨g,0,none⟩) k k]) (by simp [results,Tryz.results30,go_sem,x1,x2]) rfl ?_
    obtain ⟨e1,a3⟩:=HE.out;obtain ⟨hq,hg,hh⟩:=HQ.out
    have hb2:∀ j,j≠q→WE.heap[j]?=v.heap[j]?:=fun j hj=>by
     rw [X.out];simp only [World.setCell,Array.getElem?_modify];rw [if_neg (fun e=>hj e.symm),if_neg (fun e=>hj e.symm)]
    have hb3:WE.heap.size=v.heap.size:=by rw [X.out];simp [World.setCell]
    refine ⟨g,rfl,?_,⟨?_,?_,?_,?_,?_⟩,by omega⟩
    · unfold OwnI;rw [hb2 g hgq];exact e1
    · rw [X.out];exact a3.os.trans HB.out.os
    · rw [X.out];exact a3.tape.trans HB.out.tape
    · rw [X.out];exact a3.output.trans HB.out.output
    · rw [hb3];exact Nat.le_trans HB.out.size a3.size
    · intro j hj
      rw [hb2 j (by omega),a3.block j (by have:=HB.out.size;omega) (by omega)]
      exact HB.out.block j hj
end
section
open Go.RowKit J
def clx (x:Nat):Int:=B.cls (magW x/4503599627370496) (magW x%4503599627370496)
theorem class15 {x:Nat}(hx:x<18446744073709551616) (w:World):Calls Tryz.prog 50 #[.float .f64 x] w fun r w'=>r=.returned (.int .i64 (clx x))∧Below w.heap.size w w':=by
 obtain ⟨s,e,f,h1,h2,h3,h4,h5,h6⟩:=bw15 hx;have:=B.Class_any s e f h1 h2 w;rw [←h3,h5,h6] at this;exact this
theorem clx_nan {x:Nat}(hx:x<18446744073709551616):clx x=4↔nanW x=true:=by
 unfold clx B.cls nanW magW;rw [decide_eq_true_eq]
 by_cases a:x%9223372036854775808/4503599627370496=2047
 · rw [if_pos a]
   by_cases b:x%9223372036854775808%4503599627370496=0
   · rw [if_pos b];constructor <;> intro h <;> omega
   · rw [if_neg b];constructor <;> intro h <;> omega
 · rw [if_neg a]
   by_cases b:x%9223372036854775808/4503599627370496=0
   · rw [if_pos b];split <;> (constructor <;> intro h <;> omega)
   · rw [if_neg b];constructor <;> intro h <;> omega
theorem told15 {x:Nat}(hx:x<18446744073709551616) (w:World):Calls Tryz.prog 31 #[.float .f64 x] w fun r w'=>r=.returned (.float .f64 (nrm x))∧Below w.heap.size w w':=by
 have C:=hid (class15 hx w);have hk:=clx_nan hx;obtain ⟨c,hc⟩:∃ c,c=clx x:=⟨_,rfl⟩;rw [←hc] at C hk;clear hc
 by_cases h:c=4
 · subst h
   have e:nrm x=9221120237041090560:=by unfold nrm;rw [if_pos (hk.1 rfl)];rfl
   rw [e];clear e hk;go_enter Tryz.func31,Tryz.ntmps31
   go_wp2_with fail
   refine C.out.mono ?_;rintro r v ⟨rfl,hv⟩;have D:=hid (B.nan_any v)
   go_wp2_with fail
   refine D.out.mono ?_;rintro r v2 ⟨rfl,rfl⟩;go_wp2;go_ret;exact ⟨rfl,hv⟩
 · have e:nrm x=x:=by unfold nrm;rw [if_neg (fun q=>h (hk.2 q))]
   rw [e];clear e hk;have k1:(c==4)=false:=by simp [h]
   have k2:decide (c=4)=false:=by simp [h]
   go_enter Tryz.func31,Tryz.ntmps31
   go_wp2_with fail
   refine C.out.mono ?_;rintro r v ⟨rfl,hv⟩;go_wp2;go_ret;exact ⟨rfl,hv⟩
def srtTo (xs:List Nat) (k:Nat):List Nat:=(sortL xs).take k++List.replicate (xs.length-k) 0
theorem srtTo_zero (xs:List Nat):srtTo xs 0=List.replicate xs.length 0:=by simp [srtTo]
theorem srtTo_all (xs:List Nat):srtTo xs xs.length=sortL xs:=by
 unfold srtTo;rw [List.take_of_length_le (by rw [sortL_len];exact Nat.le_refl _)]
 simp
theorem srtTo_len {xs:List Nat}{k:Nat}(h:k≤xs.length):(srtTo xs k).length=xs.length:=by
 unfold srtTo;rw [List.length_append,List.length_take,List.length_replicate,sortL_len];omega
theorem srtTo_succ {xs:List Nat}{k:Nat}(h:k<xs.length):(srtTo xs k).set k ((sortL xs).getD k 0)=srtTo xs (k+1):=by
 have hl:k<(sortL xs).length:=by rw [sortL_len];exact h
 unfold srtTo;rw [List.set_append_right _ _ (by rw [List.length_take];omega),List.length_take,Nat.min_eq_left (by omega),Nat.sub_self,show xs.length-k=(xs.length-(k+1))+1 by omega,List.replicate_succ,List.set_cons_zero,List.getD_eq_getElem?_getD,List.getElem?_eq_getElem hl,List.take_add_one,List.getElem?_eq_getElem hl,List.append_assoc]
 rfl
theorem fld15 (a b:Value) (w:World):(Instr.field 48 (.agg #[a,b]) 1).run Tryz.prog w=.ok b w:=by kernel_rfl
attribute [local go_sem] fld15 st_float
theorem Sort15 (xs:List Nat) (ao:Option Addr) (n cap:Nat) (w:World) (hF:Fs w.heap.size w ao xs) (hn:n=xs.length) (hb:n≤17592186044416) (hW:W64 xs) :
 Calls Tryz.prog 9 #[.slice ao n cap] w fun r w'=>r=.returned (.slice (some ⟨w.heap.size,0,none⟩) n n)∧OwnF w' w.heap.size (sortL xs)∧Below w.heap.size w w':=by
 have mk:=make_floats n n rfl hb;obtain ⟨G,hG⟩:∃ G,G=w.heap.size:=⟨_,rfl⟩;obtain ⟨W1,hW1⟩:∃ W,W=w.alloc (.cells (madeCells #[.float .f64 0] n) 40):=⟨_,rfl⟩;have o1:OwnF W1 G (srtTo xs 0):=by rw [hW1,srtTo_zero,hG,←hn];exact OwnF.made w n
 have o2:Below w.heap.size w W1:=by rw [hW1];exact (Below.refl w.heap.size w).alloc (Nat.le_refl _) _
 have hFw:Fs w.heap.size W1 ao xs:=hF.below o2;have C:=hid (rowOf15 xs ao n cap W1 (hFw.mono o2.size) hn hb hW);have hGl:G<W1.heap.size:=o1.lt;have HN:=(qsd (ai hn (ai hW (ai hF (ai o1 (ai o2 (ai hG hGl)))))));have HW1:=qsd hW1;clear hF hFw o1 o2 hn hW hGl hG hW1;go_enter Tryz.func9,Tryz.ntmps9
 go_upto_region 2 with fail
 rw [←HW1.out,←HN.out.2.2.2.2.2.1];clear mk
 go_wp2_with fail
 refine C.out.mono ?_;rintro r v ⟨g,rfl,e1,e2,e3⟩
 have HA:Aside (OwnF v G (srtTo xs 0)∧OwnI v g (rowL xs)∧Below w.heap.size w v∧G<g∧g<v.heap.size):=by
  obtain ⟨hn,hW,hFw,o1,o2,hG,hGl⟩:=HN.out;exact ⟨o1.below e2 hGl,e1,o2.trans (e2.mono o2.size),by omega,e1.lt⟩
 clear C e1 e2 e3;go_wp2
 go_loopg [13] n (fun gk iv wr=>∃ k:Nat,gk+k=n∧iv=.int .i64 (k:Nat)∧Aside (OwnF wr G (srtTo xs k)∧OwnI wr g (rowL xs)∧Below w.heap.size w wr∧G<g∧g<wr.heap.size))
 case atStart=>exact ⟨0,rfl,by first | rfl | simp,HA.out⟩
 case round =>
  clear HA;obtain ⟨k,hgk,rfl,HA⟩:=hrel
  by_cases hk:k<n
  · have hdk:decide ((k:Int)<(n:Int))=true:=by simp;omega
    have bk:(k:Int)<(n:Int):=by omega
    obtain ⟨k1,hk1⟩:∃ x,x=k+1:=⟨_,rfl⟩;have wk:IntKind.i64.wrap ((k:Int)+1)=(k1:Int):=wrapZ (by omega) (by omega)
    obtain ⟨a1,a2,a3,a4,a5⟩:=HA.out;obtain ⟨hn,hW,hF,o1,o2,hG,hGl⟩:=HN.out;have hkx:k<xs.length:=by omega
    obtain ⟨i,hi⟩:∃ i,i=(rowL xs).getD k 0:=⟨_,rfl⟩;have c1:=a2.cell k (by rw [rowL_len];exact hkx)
    have hin:i<n:=by rw [hi,hn];exact rowL_lt hkx
    rw [←hi] at c1;have bi:(i:Int)<(n:Int):=by omega
    obtain ⟨b,off,rfl,c2⟩:=hF.at a3 i (by omega)
    have hx:xs.getD i 0<18446744073709551616:=hW _ (getD_mem15 (by omega))
    have e4:(sortL xs).getD k 0=nrm (xs.getD i 0):=by rw [hi];exact sortL_get hkx
    obtain ⟨x,hxx⟩:∃ x,x=xs.getD i 0:=⟨_,rfl⟩;rw [←hxx] at c2 hx e4;have D:=hid (told15 hx wr);obtain ⟨y,hy⟩:∃ y,y=nrm x:=⟨_,rfl⟩;rw [←hy] at D e4
    have HX:Aside (∀ v,Below wr.heap.size wr v→v.cell? ⟨G,k,none⟩=some (.float .f64 ((srtTo xs k).getD k 0))∧v.frozen? ⟨G,k,none⟩=false∧OwnF (v.setCell ⟨G,k,none⟩ (.float .f64 y)) G (srtTo xs k1)∧OwnI (v.setCell ⟨G,k,none⟩ (.float .f64 y)) g (rowL xs)∧Below w.heap.size w (v.setCell ⟨G,k,none⟩ (.float .f64 y))∧G<g∧g<(v.setCell ⟨G,k,none⟩ (.float .f64 y)).heap.size):=fun v hv=>by
     have a1':=a1.below hv (by omega)
     have a2':=a2.below hv (by omega)
     refine ⟨a1'.cell k (by rw [srtTo_len (by omega)];exact hkx),a1'.frozen k,?_,?_,?_,a4,?_⟩
     · rw [hk1,←srtTo_succ hkx,e4];exact a1'.set k y
     · have hne:g≠G:=by omega
       unfold OwnI at a2' ⊢;simp only [World.setCell,Array.getElem?_modify];rw [if_neg (fun e=>hne e.symm)];exact a2'
     · exact (a3.trans (hv.mono a3.size)).setCell (show w.heap.size≤G by omega) _
     · have:=a2'.lt
       simpa [World.setCell] using this
    have HK:=qsd hk1;clear HA a1 a2 a3 a4 a5 hn hW hF o1 o2 hG hGl hi hkx hx e4 hxx hy hk1
    go_wp2_with fail
    refine D.out.mono ?_;rintro r v ⟨rfl,hv⟩;obtain ⟨x1,x2,x3⟩:=HX.out v hv;have HY:=qsd x3;clear D HX x3 hv;obtain ⟨z,hz⟩:∃ z,z=(srtTo xs k).getD k 0:=⟨_,rfl⟩;rw [←hz] at x1;clear hz;go_wp2
    go_roundg (n-k1)
    case measure=>have:=HK.out;omega
    case rel=>exact ⟨k1,by have:=HK.out;omega,by first | rfl | simp,HY.out⟩
  · have hdk:decide ((k:Int)<(n:Int))=false:=by simp;omega
    go_wp2;go_ret;obtain ⟨a1,a2,a3,a4,a5⟩:=HA.out;obtain ⟨hn,hW,hF,o1,o2,hG,hGl⟩:=HN.out;rw [show k=xs.length by omega,srtTo_all] at a1
    exact ⟨by rw [←hG];rfl,by rw [←hG];exact a1,a3⟩
end
section
open Go.RowKit J
attribute [local go_sem] fld15
theorem place15 (k:Int) (w:World):Calls Tryz.prog 33 #[.int .i64 k] w fun r w'=>r=.returned (.int .i64 k)∧w'=w:=by
 go_enter Tryz.func33,Tryz.ntmps33;go_wp2;go_ret;exact ⟨rfl,rfl⟩
theorem eachI15 (xs:List Nat) (ao:Option Addr) (n cap g:Nat) (w:World) (hO:OwnI w g (rowL xs)) (hn:n=xs.length) (hb:n≤17592186044416) :
 Calls Tryz.prog 32 #[.agg #[.slice ao n cap,.slice (some ⟨g,0,none⟩) n n],.func (.func 33) #[] #[]] w fun r w'=>r=.returned (.slice (some ⟨w.heap.size+1,0,none⟩) n n)∧OwnI w' (w.heap.size+1) (eachL xs fun k=>k)∧Below w.heap.size w w':=by
 have mk:=make_ints n n rfl hb;have hg:=hO.lt;obtain ⟨W1,hW1⟩:∃ W,W=((w.alloc (Obj.cells #[Value.slice ao n cap,Value.slice (some ⟨g,0,none⟩) n n] 48)).alloc (Obj.cells (madeCells #[Value.int IntKind.i64 0] n) 3)):=⟨_,rfl⟩
 have o1:OwnI W1 (w.heap.size+1) (eachTo xs (fun k=>k) 0 0):=by
  rw [hW1,eachTo_zero,←hn];have:=(OwnI.made (w.alloc (Obj.cells #[Value.slice ao n cap,Value.slice (some ⟨g,0,none⟩) n n] 48)) n);rw [World.size_alloc] at this;exact this
 have o2:Below w.heap.size w W1:=by
  rw [hW1];exact ((Below.refl w.heap.size w).alloc (Nat.le_refl _) _).alloc (by simp) _
 have r2:W1.cell? ⟨w.heap.size,1,none⟩=some (.slice (some ⟨g,0,none⟩) n n):=by
  rw [hW1,World.cell?_alloc_lt _ _ _ (by simp),World.cell?_alloc_new];rfl
 obtain ⟨G,hG⟩:∃ G,G=w.heap.size+1:=⟨_,rfl⟩;rw [←hG] at o1 ⊢;have HG:=qsd hG;have hGl:G<W1.heap.size:=o1.lt;have HN:=(qsd (ai hn (ai hO (ai hg hGl))));have HA:Aside (OwnI W1 G (eachTo xs (fun k=>k) 0 0)∧Below w.heap.size w W1):=⟨o1,o2⟩
 have HW1:=qsd hW1;clear o1 o2 hn hO hg hGl hG hW1;go_enter Tryz.func32,Tryz.ntmps32
 go_upto_region 2 with fail
 rw [←HW1.out,←HG.out];clear mk;go_wp2
 go_loopg [15] n (fun gk iv wr=>∃ k:Nat,gk+k=n∧iv=.int .i64 (k:Nat)∧Aside (OwnI wr G (eachTo xs (fun k=>k) 0 k)∧Below w.heap.size w wr))
 case atStart=>exact ⟨0,rfl,by first | rfl | simp,HA.out⟩
 case round =>
  clear HA r2;obtain ⟨k,hgk,rfl,HA⟩:=hrel
  by_cases hk:k<n
  · have hdk:decide ((k:Int)<(n:Int))=true:=by simp;omega
    have bk:(k:Int)<(n:Int):=by omega
    obtain ⟨k1,hk1⟩:∃ x,x=k+1:=⟨_,rfl⟩;have wk:IntKind.i64.wrap ((k:Int)+1)=(k1:Int):=wrapZ (by omega) (by omega)
    obtain ⟨a1,a3⟩:=HA.out;obtain ⟨hn,hO,hg,hGl⟩:=HN.out;have hkx:k<xs.length:=by omega
    obtain ⟨i,hi⟩:∃ i,i=(rowL xs).getD k 0:=⟨_,rfl⟩;have c1:=(hO.below a3 hg).cell k (by rw [rowL_len];exact hkx)
    have hin:i<n:=by rw [hi,hn];exact rowL_lt hkx
    rw [←hi] at c1;have bi:(i:Int)<(n:Int):=by omega
    have x1:=a1.cell i (by rw [eachTo_len,←hn];exact hin)
    have x2:=a1.frozen i;obtain ⟨y,hy⟩:∃ y,y=(eachTo xs (fun k=>k) 0 k).getD i 0:=⟨_,rfl⟩
    rw [←hy] at x1
    have HX:Aside (OwnI (wr.setCell ⟨G,i,none⟩ (.int .i64 (k:Nat))) G (eachTo xs (fun k=>k) 0 k1)∧Below w.heap.size w (wr.setCell ⟨G,i,none⟩ (.int .i64 (k:Nat)))):=by
     refine ⟨?_,a3.setCell (show w.heap.size≤G by have:=HG.out;omega) _⟩
     have:=a1.set i k;rw [hi,eachTo_succ xs (fun k=>k) 0 hkx,←hk1] at this
     rw [hi];exact this
    have D:=hid (place15 (k:Nat) wr);have HK:=qsd hk1;clear HA a1 a3 hn hO hg hGl hi hkx hy hk1
    go_wp2_with fail
    refine D.out.mono ?_;rintro r v ⟨rfl,rfl⟩;clear D;go_wp2
    go_roundg (n-k1)
    case measure=>have:=HK.out;omega
    case rel=>exact ⟨k1,by have:=HK.out;omega,by first | rfl | simp,HX.out⟩
  · have hdk:decide ((k:Int)<(n:Int))=false:=by simp;omega
    go_wp2;go_ret;obtain ⟨a1,a3⟩:=HA.out;obtain ⟨hn,hO,hg,hGl⟩:=HN.out;rw [show k=xs.length by omega,eachTo_all] at a1
    exact ⟨rfl,a1,a3⟩
theorem Places15 (xs:List Nat) (ao:Option Addr) (n cap:Nat) (w:World) (hF:Fs w.heap.size w ao xs) (hn:n=xs.length) (hb:n≤17592186044416) (hW:W64 xs) :
 Calls Tryz.prog 10 #[.slice ao n cap] w fun r w'=>∃ g,r=.returned (.slice (some ⟨g,0,none⟩) n n)∧OwnI w' g (eachL xs fun k=>k)∧Below w.heap.size w w'∧w.heap.size≤g:=by
 have C:=hid (rowOf15 xs ao n cap w hF hn hb hW);have D:=hid (fun (g:Nat) (u:World) (hO:OwnI u g (rowL xs))=>eachI15 xs ao n cap g u hO hn hb)
 clear hF hn hb hW;go_enter Tryz.func10,Tryz.ntmps10
 go_wp2_with fail
 refine C.out.mono ?_;rintro r v ⟨g,rfl,e1,e2,e3⟩;have E:=hid (D.out g v e1);have H:=(qsd (ai e2 e3));clear C D e1 e2 e3
 go_wp2_with fail
 refine E.out.mono ?_;rintro r u ⟨rfl,f1,f2⟩;replace H:=qsd (ai (H.out.1.trans (f2.mono H.out.1.size)) (ai f1 (Nat.le_trans H.out.1.size (Nat.le_succ _))));clear E f1 f2;go_wp2;go_ret;exact ⟨_,rfl,H.out.2.1,H.out.1,H.out.2.2⟩
end
section
open Go.RowKit J
theorem absSg (s:Bool) (v:Nat):(B.sg s v).natAbs=v:=by unfold B.sg;cases s <;> simp
end
section
open Go.RowKit J
abbrev Wd (x:Nat):Prop:=x<18446744073709551616
end
section
open Go.RowKit J
abbrev finW (x:Nat):Prop:=magW x<9218868437227405312
def fvW (x:Nat):Int:=B.sg (negW x) (vK (magW x))
def EQ:Nat:=2096
theorem exQ:∃ q:Nat,q=2^EQ:=⟨_,rfl⟩
noncomputable def QQ:Nat:=Classical.choose exQ
theorem Q_eq:QQ=2^EQ:=Classical.choose_spec exQ
theorem sg_abs (s:Bool) (v:Nat):(B.sg s v).natAbs=v:=absSg s v
theorem vK_F (K:Nat):∃ m k:Nat,vK K=m*2^k∧m≤9007199254740992:=by
 show ∃ m k,B.val Ieee.double K=m*2^k∧m≤9007199254740992
 unfold B.val;rw [B.dBin]
 split
 · exact ⟨K,0,by simp,by omega⟩
 · exact ⟨_,_,rfl,by omega⟩
theorem F_vK {f:Int}(h:IsF f):∃ L,vK L=f.natAbs:=by
 by_cases hs:f.natAbs≤9007199254740992
 · refine ⟨f.natAbs,?_⟩
   have:=vK_word 0 f.natAbs (.inl rfl) hs;simpa using this
 · obtain ⟨k,h1,h2,h3⟩:=h.placed
   have h2':2^(52+k)≤f.natAbs:=by
    rcases h2 with rfl|h2
    · omega
    · exact h2
   obtain ⟨q,hq⟩:=h3;have hf:f.natAbs=q.natAbs*2^k:=by rw [hq,Int.natAbs_mul,natAbs_p2,Nat.mul_comm]
   rw [hf] at h1 h2' ⊢;rw [Nat.pow_add] at h1 h2';have a1:=Nat.lt_of_mul_lt_mul_right h1;have a2:=Nat.le_of_mul_le_mul_right h2' (Nat.two_pow_pos _);exact ⟨_,vK_word k q.natAbs (.inr (by omega)) (by omega)⟩
theorem ne_near {R V L:Nat}(h:NE R V 1):((vK R:Int)-V).natAbs≤((vK L:Int)-V).natAbs:=by
 have u:2*V≤vK R+vK (R+1):=by have:=h.up;rw [Nat.mul_one] at this;exact this
 rcases Nat.lt_trichotomy L R with c|c|c
 · have d:vK (R-1)+vK R≤2*V:=by have:=h.dn (by omega);rw [Nat.mul_one] at this;exact this
   have m1:vK L≤vK (R-1):=vmono (by omega)
   have m2:vK (R-1)<vK R:=vK_lt.2 (by omega)
   omega
 · rw [c];omega
 · have m1:vK (R+1)≤vK L:=vmono (by omega)
   have m2:vK R<vK (R+1):=vK_lt.2 (by omega)
   omega
theorem ne_rn {R:Nat}{T:Int}(h:NE R T.natAbs 1) {s:Bool}(hs:T≠0→s=decide (T<0)):IsRn T (B.sg s (vK R)):=by
 have hF:IsF (B.sg s (vK R)):=by
  obtain ⟨m,k,h1,h2⟩:=vK_F R;unfold B.sg;rw [h1]
  cases s
  · exact ⟨(m:Int),k,by simp,by omega,by omega⟩
  · exact ⟨-(m:Int),k,by simp [Int.neg_mul],by omega,by omega⟩
 refine ⟨hF,fun f hf=>?_⟩
 obtain ⟨L,hL⟩:=F_vK hf;have n:=ne_near (L:=L) h
 by_cases hT:T=0
 · subst hT
   have:NE 0 (0:Int).natAbs 1:=NEf.own (by decide) (by rw [B.val_zero];rfl)
   rw [h.one this (by decide),show vK 0=0 from B.val_zero _]
   unfold B.sg
   cases s <;> simp
 · have e:=hs hT
   unfold B.sg
   by_cases hn:T<0
   · rw [decide_eq_true hn] at e;subst e
     simp only [if_true];omega
   · rw [decide_eq_false hn] at e;subst e
     simp only [Bool.false_eq_true,if_false];omega
theorem top_half (K:Nat) (h:9218868437227405311≤K):2*QQ<vK K:=by
 obtain ⟨c,hc⟩:∃ c:Nat,c=2045:=⟨_,rfl⟩;have h1:=vK_word c 4503599627370496 (.inr (by omega)) (by omega)
 have h2:c*4503599627370496+4503599627370496<K:=by rw [hc];omega
 have h3:=vK_lt.2 h2;rw [h1] at h3
 have h4:2*QQ=4503599627370496*2^c:=by
  have a1:EQ+1=52+c:=by rw [hc];unfold EQ;rfl
  have a2:2*2^EQ=2^(EQ+1):=by rw [Nat.pow_succ,Nat.mul_comm]
  rw [Q_eq,a2,a1,Nat.pow_add]
 omega
theorem ne_fin {R V:Nat}(h:NE R V 1) (hV:V≤3*QQ):R<9218868437227405312:=by
 apply Nat.lt_of_not_le;intro hh
 have d:vK (R-1)+vK R≤2*V:=by have:=h.dn (by omega);rw [Nat.mul_one] at this;exact this
 have a1:=top_half (R-1) (by omega)
 obtain ⟨c,hc⟩:∃ c:Nat,c=2045:=⟨_,rfl⟩;have h1:=vK_word c 9007199254740992 (.inr (by omega)) (by omega)
 have h2:c*4503599627370496+9007199254740992≤R:=by rw [hc];omega
 have h3:vK (c*4503599627370496+9007199254740992)≤vK R:=vmono h2;rw [h1] at h3
 have h4:4*QQ=9007199254740992*2^c:=by
  have a1:EQ+2=53+c:=by rw [hc];unfold EQ;rfl
  have a2:4*2^EQ=2^(EQ+2):=by rw [Nat.pow_add,Nat.mul_comm]
  rw [Q_eq,a2,a1,Nat.pow_add]
 omega
theorem fv_wd (s:Bool) (K:Nat) (h:K<9218868437227405312):finW (wd64 s K)∧fvW (wd64 s K)=B.sg s (vK K):=by
 obtain ⟨h1,h2,_⟩:=magW_wd s K (by omega)
 unfold fvW;rw [h1,h2];exact ⟨by unfold finW;rw [h1];exact h,rfl⟩
end
section
open Go.RowKit J
def Hh (x:Nat) (k:Int):Prop:=x<18446744073709551616∧finW x∧fvW x*2=k*((2^1074:Nat):Int)
theorem pw1074:((2^1074:Nat):Int)=2*((2^1073:Nat):Int):=by
 obtain ⟨e,he⟩:∃ e,e=1073:=⟨_,rfl⟩;rw [show 1074=e+1 by omega,←he,Nat.pow_succ];omega
theorem isF_hh (k:Int) (h0:-9007199254740992≤k) (h1:k≤9007199254740992):IsF (k*((2^1073:Nat):Int)):=by
 obtain ⟨e,he⟩:∃ e,e=1073:=⟨_,rfl⟩;rw [←he];exact ⟨k,e,by rw [Int.natCast_pow];rfl,h0,h1⟩
theorem isF_wh (k:Int) (h0:-9007199254740992≤k) (h1:k≤9007199254740992):IsF (k*((2^1074:Nat):Int)):=by
 obtain ⟨e,he⟩:∃ e,e=1074:=⟨_,rfl⟩;rw [←he];exact ⟨k,e,by rw [Int.natCast_pow];rfl,h0,h1⟩
theorem small_wh (k:Int) (h0:-9007199254740992≤k) (h1:k≤9007199254740992):(k*((2^1074:Nat):Int)).natAbs≤3*QQ:=by
 obtain ⟨e,he⟩:∃ e,e=1074:=⟨_,rfl⟩;rw [←he,Int.natAbs_mul,Int.natAbs_natCast,Q_eq];have h2:k.natAbs*2^e≤2^53*2^e:=Nat.mul_le_mul_right _ (by omega)
 have h3:2^53*2^e≤2^EQ:=by
  rw [←Nat.pow_add];exact Nat.pow_le_pow_right (by decide) (by rw [he];decide)
 generalize 2^EQ=K at *;omega
theorem rn_own {V s:Int}(h:IsRn V s) (hV:IsF V):s=V:=by
 have:=h.2 V hV;rw [Int.sub_self] at this;omega
theorem Hh.val {x:Nat}{k:Int}(h:Hh x k):fvW x=k*((2^1073:Nat):Int):=by
 have:=h.2.2;rw [pw1074] at this;generalize ((2^1073:Nat):Int)=K at *;have e:k*(2*K)=k*K*2:=by rw [Int.mul_comm 2 K,Int.mul_assoc]
 omega
theorem int_hh (k:Int) (h0:-9007199254740992≤k) (h1:k≤9007199254740992):Hh (floatOfInt .f64 k) (2*k):=by
 have e0:floatOfInt .f64 k=Ieee.double.nearest (decide (k<0)) k.natAbs 0:=rfl
 suffices H:floatOfInt .f64 k<18446744073709551616∧finW (floatOfInt .f64 k)∧fvW (floatOfInt .f64 k)=k*((2^1074:Nat):Int) by
  refine ⟨H.1,H.2.1,?_⟩;rw [H.2.2,Int.mul_comm 2 k,Int.mul_assoc,Int.mul_assoc,Int.mul_comm 2]
 by_cases hz:k=0
 · subst hz
   have:floatOfInt .f64 0=0:=by decide
   rw [this];refine ⟨by decide,by unfold finW magW;decide,?_⟩
   rw [Int.zero_mul];unfold fvW B.sg;rw [show magW 0=0 from rfl,show vK 0=0 from B.val_zero _,show negW 0=false from rfl];rfl
 · obtain ⟨R,hR,hN⟩:=nearest_ne (decide (k<0)) k.natAbs B.LP 0 (by omega)
   rw [B.dLP,show -(B.LP:Int)+(B.LP:Int)-((0:Nat):Int)=0 by omega,←e0,B.dInf,←wd_word] at hR
   rw [Nat.pow_zero] at hN
   have hV:(k*((2^1074:Nat):Int)).natAbs=k.natAbs*2^B.LP:=by
    rw [Int.natAbs_mul,Int.natAbs_natCast,show B.LP=1074 from rfl]
   rw [←hV] at hN;have hf:=ne_fin hN (small_wh k h0 h1);rw [Nat.min_eq_left (by omega)] at hR
   have hr:IsRn (k*((2^1074:Nat):Int)) (B.sg (decide (k<0)) (vK R)):=ne_rn hN (fun _=>by
    obtain ⟨e,he⟩:∃ e,e=1074:=⟨_,rfl⟩;rw [←he,decide_eq_decide];have:=Nat.two_pow_pos e;generalize 2^e=K at *
    constructor
    · intro h;exact Int.mul_neg_of_neg_of_pos h (by omega)
    · intro h;apply Int.lt_of_not_ge;intro h2;have:=Int.mul_nonneg h2 (show (0:Int)≤K by omega);omega)
   have hv:=rn_own hr (isF_wh k h0 h1);obtain ⟨k1,k2⟩:=fv_wd (decide (k<0)) R hf;rw [hR];exact ⟨(magW_wd _ R (by omega)).2.2,k1,by rw [k2,hv]⟩
theorem vK_inj0 {K L:Nat}(h:vK K=vK L):K=L:=by
 rcases Nat.lt_trichotomy K L with c|c|c
 · have:=vK_lt.2 c;omega
 · exact c
 · have:=vK_lt.2 c;omega
theorem fv_pos {x:Nat}(h:0<fvW x):negW x=false∧fvW x=(vK (magW x):Int):=by
 unfold fvW B.sg at *
 cases hn:negW x
 · simp
 · rw [hn] at h;simp at h;omega
theorem Hh.one {x y:Nat}{k:Int}(hx:Hh x k) (hy:Hh y k) (hk:0<k):x=y:=by
 have ex:=hx.val;have ey:=hy.val;have hp:0<k*((2^1073:Nat):Int):=Int.mul_pos hk (by obtain ⟨e,he⟩:∃ e,e=1073:=⟨_,rfl⟩;rw [←he];have:=Nat.two_pow_pos e;omega)
 obtain ⟨a1,a2⟩:=fv_pos (x:=x) (by omega)
 obtain ⟨b1,b2⟩:=fv_pos (x:=y) (by omega)
 rw [wd_of x hx.1,wd_of y hy.1,a1,b1,vK_inj0 (K:=magW x) (L:=magW y) (by omega)]
theorem read_bd (x:Nat) (hx:x<18446744073709551616) (h:magW x<9218868437227405312):∃ m k,Ieee.double.read x=.number (negW x) m (Ieee.double.leastPlace+(k:Nat))∧m*2^k=vK (magW x)∧m<9007199254740992:=by
 obtain ⟨m,k,h1,h2⟩:=read_finW x hx h;refine ⟨m,k,h1,h2,?_⟩;unfold Ieee.Format.read at h1;simp only [dB] at h1
 split at h1
 · injection h1 with _ h3 _;omega
 · split at h1
   · injection h1 with _ h3 _;omega
   · split at h1 <;> cases h1
def hvW (k:Int):Nat:=(floatBits .quo .f64 (floatOfInt .f64 k) 4611686018427387904).getD 0
theorem hv_run (k:Int) (h0:0≤k) (h1:k≤9007199254740992):floatBits .quo .f64 (floatOfInt .f64 k) 4611686018427387904=some (hvW k)∧Hh (hvW k) k:=by
 suffices H:∃ z,floatBits .quo .f64 (floatOfInt .f64 k) 4611686018427387904=some z∧Hh z k by
  obtain ⟨z,h,hz⟩:=H;have e:hvW k=z:=by unfold hvW;rw [h];rfl
  rw [e];exact ⟨h,hz⟩
 rcases Int.lt_or_eq_of_le h0 with hk|rfl
 · have W:=int_hh k (by omega) h1
   have hv:=W.val;rw [show (2*k)*((2^1073:Nat):Int)=k*((2^1074:Nat):Int) by rw [pw1074,Int.mul_comm 2 k,Int.mul_assoc]] at hv
   obtain ⟨x,hx⟩:∃ x,x=floatOfInt .f64 k:=⟨_,rfl⟩;rw [←hx] at W hv ⊢;have hp:0<k*((2^1074:Nat):Int):=Int.mul_pos hk (by obtain ⟨e,he⟩:∃ e,e=1074:=⟨_,rfl⟩;rw [←he];have:=Nat.two_pow_pos e;omega)
   obtain ⟨n0,ev⟩:=fv_pos (x:=x) (by omega)
   obtain ⟨m,j,hr,hm,hb⟩:=read_bd x W.1 W.2.1;rw [n0] at hr;have ef:Ieee.double.fractionBits+2=54:=by decide
   have r2:Ieee.double.read 4611686018427387904=.number false 4503599627370496 (-51):=by decide +kernel
   have l2:Nat.log2 4503599627370496=52:=by decide +kernel
   obtain ⟨E,hE⟩:∃ E,E=1074:=⟨_,rfl⟩;obtain ⟨E1,hE1⟩:∃ E,E=1073:=⟨_,rfl⟩
   have hmE:(m*2^j:Nat)=k.toNat*2^E:=by
    rw [hm];have:((vK (magW x):Nat):Int)=k*((2^E:Nat):Int):=by rw [←ev,hv,hE]
    have h2:((k.toNat*2^E:Nat):Int)=k*((2^E:Nat):Int):=by rw [Int.natCast_mul,Int.toNat_of_nonneg (by omega)]
    omega
   have hm0:m≠0:=by
    rintro rfl;have:=Nat.mul_pos (show 0<k.toNat by omega) (Nat.two_pow_pos E)
    omega
   have hl:=(Nat.log2_eq_iff hm0 (k:=m.log2)).1 rfl;obtain ⟨L,hL⟩:∃ L,L=m.log2:=⟨_,rfl⟩;rw [←hL] at hl
   have L52:L≤52:=by
    rcases Nat.lt_or_ge 52 L with q|q
    · have:=Nat.pow_le_pow_right (show 0<2 by decide) q
      omega
    · exact q
   have hLj:E≤L+j:=by
    rcases Nat.lt_or_ge (L+j) E with q|q
    · exfalso
      have a1:m*2^j<2^(L+1)*2^j:=Nat.mul_lt_mul_of_pos_right hl.2 (Nat.two_pow_pos j);rw [←Nat.pow_add] at a1;have a2:2^(L+1+j)≤2^E:=Nat.pow_le_pow_right (by decide) (by omega)
      have a3:1*2^E≤k.toNat*2^E:=Nat.mul_le_mul_right _ (by omega)
      omega
    · exact q
   obtain ⟨q,hq⟩:∃ q,54-L=q:=⟨_,rfl⟩;have em:54+52-L=q+52:=by omega
   have ed:m <<< (q+52)/4503599627370496=m*2^q:=by
    rw [Nat.shiftLeft_eq,Nat.pow_add,←Nat.mul_assoc];exact Nat.mul_div_cancel _ (by decide)
   have er:m <<< (q+52)%4503599627370496=0:=by
    rw [Nat.shiftLeft_eq,Nat.pow_add,←Nat.mul_assoc];exact Nat.mul_mod_left _ _
   obtain ⟨c,hc⟩:∃ c:Nat,j=c+q+2:=⟨j-q-2,by omega⟩
   have ep:(Ieee.double.leastPlace+(j:Nat):Int)-(-51)-((q+52:Nat):Int)-1=Ieee.double.leastPlace+((c:Nat):Int):=by omega
   have hquo:floatBits .quo .f64 x 4611686018427387904=some (Ieee.double.nearest false (2*(m*2^q)) (Ieee.double.leastPlace+((c:Nat):Int))):=by
    show ((Ieee.double.read x).quotient (Ieee.double.fractionBits+2) (Ieee.double.read 4611686018427387904)).map Ieee.double.write=_
    rw [hr,r2,ef];unfold Ieee.Datum.quotient;simp only [l2,←hL,em,ed,er,ep];rfl
   obtain ⟨r,hrr⟩:=F_vK (isF_hh k (by omega) h1)
   rw [Int.natAbs_mul,Int.natAbs_natCast,←hE1] at hrr;have e2:2^E=2*2^E1:=by rw [show E=E1+1 by omega,Nat.pow_succ,Nat.mul_comm]
   have ha:k.natAbs=k.toNat:=by omega
   have e5:k.toNat*2^E=2*(k.toNat*2^E1):=by rw [e2];exact Nat.mul_left_comm _ _ _
   have hmag:2*(m*2^q)*2^c=vK r:=by
    rw [hrr,ha]
    have:2*(2*(m*2^q)*2^c)=m*2^j:=by
     rw [hc,Nat.pow_add,Nat.pow_add]
     show 2*(2*(m*2^q)*2^c)=m*(2^c*2^q*4)
     generalize 2^q=A;generalize 2^c=C;rw [Nat.mul_comm C A,Nat.mul_assoc 2,←Nat.mul_assoc 2 2,Nat.mul_assoc m A C,show m*(A*C*4)=2*2*(m*(A*C)) by rw [←Nat.mul_assoc m (A*C) 4];omega]
    rw [hmE,e5] at this;generalize 2*(m*2^q)*2^c=P at *;generalize k.toNat*2^E1=Q at *;omega
   have hlt:r<9218868437227405312:=by
    have:r≤magW x:=by
     rcases Nat.lt_or_ge (magW x) r with c|c
     · have h1:=vK_lt.2 c
       rw [←hm,hmE,e5] at h1;rw [hrr,ha] at h1;omega
     · exact c
    exact Nat.lt_of_le_of_lt this W.2.1
   have hN:=B.nearest_exact Ieee.double false (2*(m*2^q)) c r (by rw [B.dInf];exact hlt) hmag
   rw [hN,←wd_word] at hquo;obtain ⟨k1,k2⟩:=fv_wd false r hlt;refine ⟨_,hquo,(magW_wd _ r (by omega)).2.2,k1,?_⟩
   rw [k2]
   show ((vK r:Nat):Int)*2=k*((2^1074:Nat):Int)
   rw [hrr,ha,←hE,e2,Int.natCast_mul,Int.natCast_mul,Int.toNat_of_nonneg (by omega),Int.mul_assoc,Int.mul_comm ((2^E1:Nat):Int)]
   rfl
 · refine ⟨0,by decide +kernel,by decide,by unfold finW magW;decide,?_⟩
   rw [Int.zero_mul];unfold fvW B.sg;rw [show magW 0=0 from rfl,show vK 0=0 from B.val_zero _,show negW 0=false from rfl];rfl
theorem hv_even (k:Int) (h0:1≤k) (h1:k≤4503599627370496):hvW (2*k)=floatOfInt .f64 k:=(hv_run (2*k) (by omega) (by omega)).2.one (int_hh k (by omega) (by omega)) (by omega)
end
end Go.Proofs.YtihjfhpoiheomaaGreatDoor
