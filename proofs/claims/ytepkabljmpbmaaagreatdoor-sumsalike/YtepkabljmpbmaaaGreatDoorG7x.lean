import Derived.Test.YtepkabljmpbmaaaGreatDoorS9x
import Derived.Deep.RegionWith
import Derived.Deep.LoopGhost
import Derived.Test.YtepkabljmpbmaaaGreatDoorJ13x
import Derived.Test.YtepkabljmpbmaaaGreatDoorBIeeex
import Derived.LoopN
import Derived.Test.YtepkabljmpbmaaaGreatDoorD16x
import Derived.Test.YtepkabljmpbmaaaGreatDoorD21x
import Derived.Deep.RegionHeld3
import Derived.Test.YtepkabljmpbmaaaGreatDoorW53x
set_option linter.unusedVariables false
set_option linter.unusedSimpArgs false
set_option maxHeartbeats 16000000
set_option maxRecDepth 20000
namespace Go.Proofs.YtepkabljmpbmaaaGreatDoor
section
open Go Go.RowKit
def est (T:Int) (D:Int→Int) (t v0 v1 v2:Int):Nat→Int×(Int→Int)
 | 0=>(T,D)
 | 1=>hnd (T,D) (t+2) v0
 | 2=>hnd (hnd (T,D) (t+2) v0) (t+1) v1
 | _=>hnd (hnd (hnd (T,D) (t+2) v0) (t+1) v1) t v2
theorem Tryz.und_arr3:Tryz.prog.underlying 97=some (.array 3 38):=by kernel_rfl
theorem idx3_0 (x0 x1 x2:Value) (w:World):(Instr.index 97 (.agg #[x0,x1,x2]) (.int .i64 0)).run Tryz.prog w=.ok x0 w:=by
 simp [Instr.index,run_underlying Tryz.und_arr3,asIntOf,go_sem]
theorem idx3_1 (x0 x1 x2:Value) (w:World):(Instr.index 97 (.agg #[x0,x1,x2]) (.int .i64 1)).run Tryz.prog w=.ok x1 w:=by
 simp [Instr.index,run_underlying Tryz.und_arr3,asIntOf,go_sem]
theorem idx3_2 (x0 x1 x2:Value) (w:World):(Instr.index 97 (.agg #[x0,x1,x2]) (.int .i64 2)).run Tryz.prog w=.ok x2 w:=by
 simp [Instr.index,run_underlying Tryz.und_arr3,asIntOf,go_sem]
def sgv (neg:Bool) (s:Nat):Int:=if neg then -(s:Int) else (s:Int)
structure Ei (w:World) (g f:Nat) (c T:Int) (D:Int→Int) (t v0 v1 v2:Int) (neg:Bool) (cl e:Int) (F:Nat) (i:Nat) (u:World):Prop where
 bs:Bs u g f c (est T D t v0 v1 v2 i).1 (est T D t v0 v1 v2 i).2
 but:But g w u
 box:Bl u w.heap.size 61 [.bool neg,.int .i64 cl,.int .i64 e,.int .u64 F]
theorem Ei.below {w:World}{g f:Nat}{c T:Int}{D:Int→Int}{t v0 v1 v2:Int}{neg:Bool}{cl e:Int}{F i:Nat}{u u':World}(h:Ei w g f c T D t v0 v1 v2 neg cl e F i u) (hb:Below u.heap.size u u'):Ei w g f c T D t v0 v1 v2 neg cl e F i u' :=
 ⟨h.bs.below hb h.bs.lt,h.but.of_bel9 hb,h.box.below hb h.box.lt⟩
theorem hnd_zero (s:Int×(Int→Int)) (t v:Int) (h:v=0):hnd s t v=s:=by unfold hnd;rw [if_pos h]
theorem Ei.skip0 {w:World}{g f:Nat}{c T:Int}{D:Int→Int}{t v0 v1 v2:Int}{neg:Bool}{cl e:Int}{F:Nat}{u:World}(h:Ei w g f c T D t v0 v1 v2 neg cl e F 0 u) (hv:v0=0):Ei w g f c T D t v0 v1 v2 neg cl e F 1 u:=by
 have e1:est T D t v0 v1 v2 1=est T D t v0 v1 v2 0:=hnd_zero _ _ _ hv;exact ⟨by rw [e1];exact h.bs,h.but,h.box⟩
theorem Ei.skip1 {w:World}{g f:Nat}{c T:Int}{D:Int→Int}{t v0 v1 v2:Int}{neg:Bool}{cl e:Int}{F:Nat}{u:World}(h:Ei w g f c T D t v0 v1 v2 neg cl e F 1 u) (hv:v1=0):Ei w g f c T D t v0 v1 v2 neg cl e F 2 u:=by
 have e1:est T D t v0 v1 v2 2=est T D t v0 v1 v2 1:=hnd_zero _ _ _ hv;exact ⟨by rw [e1];exact h.bs,h.but,h.box⟩
theorem Ei.skip2 {w:World}{g f:Nat}{c T:Int}{D:Int→Int}{t v0 v1 v2:Int}{neg:Bool}{cl e:Int}{F:Nat}{u:World}(h:Ei w g f c T D t v0 v1 v2 neg cl e F 2 u) (hv:v2=0):Ei w g f c T D t v0 v1 v2 neg cl e F 3 u:=by
 have e1:est T D t v0 v1 v2 3=est T D t v0 v1 v2 2:=hnd_zero _ _ _ hv;exact ⟨by rw [e1];exact h.bs,h.but,h.box⟩
attribute [local go_sem] idx3_0 idx3_1 idx3_2 in
theorem each_core (neg:Bool) (cl e lo up:Int) (F s0 s1 s2:Nat) (g h f:Nat) (c T:Int) (D:Int→Int) (w:World) (hlo:e/32=lo) (hup:e-32*lo=up) (he:-1074≤e∧e≤1000) (hup0:0≤up) (hup1:up≤31) (hF:F<9007199254740992)
 (hs0:(F:Int)/2^(64-up).toNat=(s0:Int)) (hs1:bits .and .u64 ((F:Int)/2^(32-up).toNat) 4294967295=(s1:Int)) (hs2:bits .and .u64 (IntKind.u64.wrap ((F:Int)*2^up.toNat)) 4294967295=(s2:Int))
 (hb0:s0<4294967296) (hb1:s1<4294967296) (hb2:s2<4294967296) (hB:Bs w g f c T D)
 (HH:Hid (∀ i j v u,i<3→j=lo+2-(i:Nat)→v=(match i with | 0=>sgv neg s0 | 1=>sgv neg s1 | _=>sgv neg s2)→v≠0→Ei w g f c T D (lo+34) (sgv neg s0) (sgv neg s1) (sgv neg s2) neg cl e F i u →
  Calls Tryz.prog 36 #[.int .i64 j,.agg #[.int .i64 (v/4294967296),.int .i64 (v%4294967296)],.pointer (some ⟨h,0,none⟩)] u fun r w'=>r=.returned (.tuple #[])∧Ei w g f c T D (lo+34) (sgv neg s0) (sgv neg s1) (sgv neg s2) neg cl e F (i+1) w')) :
 Calls Tryz.prog 35 #[.agg #[.bool neg,.int .i64 cl,.int .i64 e,.int .u64 F],.func (.func 36) #[] #[.pointer (some ⟨h,0,none⟩)]] w fun r w'=>r=.returned (.tuple #[])∧Ei w g f c T D (lo+34) (sgv neg s0) (sgv neg s1) (sgv neg s2) neg cl e F 3 w':=by
 obtain ⟨W,hW⟩:∃ W,W=((w.alloc (Obj.cells #[.bool neg,.int .i64 cl,.int .i64 e,.int .u64 F] 61)).alloc (Obj.cells #[.int .u64 s0,.int .u64 s1,.int .u64 s2] 97)).drew:=⟨_,rfl⟩
 have H0:Aside (Ei w g f c T D (lo+34) (sgv neg s0) (sgv neg s1) (sgv neg s2) neg cl e F 0 W):=by
  subst hW;refine ⟨((hB.alloc _).alloc _).drew,(((But.refl g w).alloc _).alloc _).drew,((Bl.new w 61 [_,_,_,_]).alloc _).drew⟩
 have hl:-40≤lo∧lo≤40:=by omega
 have HBI:=hid binOf_any;unfold Bv at HBI;clear hB;go_enter Tryz.func35,Tryz.ntmps35;go_wp2_with fail
 go_region
 skip;clear hs0 hs1 hs2 hlo hup hup0 hup1 he hF;go_wp2_with fail;rw [←hW];clear hW
 go_loopg [36] 3 (fun gk iv wr=>∃ i:Nat,gk+i=3∧iv=.int .i64 (i:Nat)∧Aside (Ei w g f c T D (lo+34) (sgv neg s0) (sgv neg s1) (sgv neg s2) neg cl e F i wr))
 case atStart=>exact ⟨0,by omega,rfl,H0⟩
 case round =>
  clear H0 W;obtain ⟨i,hgi,rfl,HW⟩:=hrel;have kb:=HW.out.box.cell 0 _ rfl;obtain rfl|rfl|rfl|rfl:i=0∨i=1∨i=2∨i=3:=by omega
  · cases neg
    · by_cases hz:s0=0
      · have hz':(s0:Int)=0:=by omega
        have HX:=qsd (Ei.skip0 HW.out (by unfold sgv;simp [hz]));clear HW HH HBI;go_wp2;go_roundg (gk-1)
        case measure=>omega
        case rel=>exact ⟨1,by omega,rfl,HX⟩
      · have hz':¬ ((s0:Int)=0):=by omega
        go_wp2_with fail
        with_reducible refine (HBI.out _ _).mono ?_
        rintro r u ⟨rfl,hb⟩;have HZ:=qsd (HW.out.below hb);clear HW hb kb;go_wp2_with fail;refine (HH.out 0 _ _ _ (by omega) (by omega) rfl (by show sgv _ s0≠0;unfold sgv;simp [hz]) HZ.out).mono ?_;rintro r u2 ⟨rfl,hE⟩;have HX:=qsd hE;clear hE HZ HH HBI;go_wp2;go_roundg (gk-1)
        case measure=>omega
        case rel=>exact ⟨1,by omega,rfl,HX⟩
    · by_cases hz:s0=0
      · have hz':(s0:Int)=0:=by omega
        have HX:=qsd (Ei.skip0 HW.out (by unfold sgv;simp [hz]));clear HW HH HBI;go_wp2;go_roundg (gk-1)
        case measure=>omega
        case rel=>exact ⟨1,by omega,rfl,HX⟩
      · have hz':¬ ((s0:Int)=0):=by omega
        go_wp2_with fail
        with_reducible refine (HBI.out _ _).mono ?_
        rintro r u ⟨rfl,hb⟩;have HZ:=qsd (HW.out.below hb);clear HW hb kb;go_wp2_with fail;refine (HH.out 0 _ _ _ (by omega) (by omega) rfl (by show sgv _ s0≠0;unfold sgv;simp [hz]) HZ.out).mono ?_;rintro r u2 ⟨rfl,hE⟩;have HX:=qsd hE;clear hE HZ HH HBI;go_wp2;go_roundg (gk-1)
        case measure=>omega
        case rel=>exact ⟨1,by omega,rfl,HX⟩
  · cases neg
    · by_cases hz:s1=0
      · have hz':(s1:Int)=0:=by omega
        have HX:=qsd (Ei.skip1 HW.out (by unfold sgv;simp [hz]));clear HW HH HBI;go_wp2;go_roundg (gk-1)
        case measure=>omega
        case rel=>exact ⟨2,by omega,rfl,HX⟩
      · have hz':¬ ((s1:Int)=0):=by omega
        go_wp2_with fail
        with_reducible refine (HBI.out _ _).mono ?_
        rintro r u ⟨rfl,hb⟩;have HZ:=qsd (HW.out.below hb);clear HW hb kb;go_wp2_with fail;refine (HH.out 1 _ _ _ (by omega) (by omega) rfl (by show sgv _ s1≠0;unfold sgv;simp [hz]) HZ.out).mono ?_;rintro r u2 ⟨rfl,hE⟩;have HX:=qsd hE;clear hE HZ HH HBI;go_wp2;go_roundg (gk-1)
        case measure=>omega
        case rel=>exact ⟨2,by omega,rfl,HX⟩
    · by_cases hz:s1=0
      · have hz':(s1:Int)=0:=by omega
        have HX:=qsd (Ei.skip1 HW.out (by unfold sgv;simp [hz]));clear HW HH HBI;go_wp2;go_roundg (gk-1)
        case measure=>omega
        case rel=>exact ⟨2,by omega,rfl,HX⟩
      · have hz':¬ ((s1:Int)=0):=by omega
        go_wp2_with fail
        with_reducible refine (HBI.out _ _).mono ?_
        rintro r u ⟨rfl,hb⟩;have HZ:=qsd (HW.out.below hb);clear HW hb kb;go_wp2_with fail;refine (HH.out 1 _ _ _ (by omega) (by omega) rfl (by show sgv _ s1≠0;unfold sgv;simp [hz]) HZ.out).mono ?_;rintro r u2 ⟨rfl,hE⟩;have HX:=qsd hE;clear hE HZ HH HBI;go_wp2;go_roundg (gk-1)
        case measure=>omega
        case rel=>exact ⟨2,by omega,rfl,HX⟩
  · cases neg
    · by_cases hz:s2=0
      · have hz':(s2:Int)=0:=by omega
        have HX:=qsd (Ei.skip2 HW.out (by unfold sgv;simp [hz]));clear HW HH HBI;go_wp2;go_roundg (gk-1)
        case measure=>omega
        case rel=>exact ⟨3,by omega,rfl,HX⟩
      · have hz':¬ ((s2:Int)=0):=by omega
        go_wp2_with fail
        with_reducible refine (HBI.out _ _).mono ?_
        rintro r u ⟨rfl,hb⟩;have HZ:=qsd (HW.out.below hb);clear HW hb kb;go_wp2_with fail;refine (HH.out 2 _ _ _ (by omega) (by omega) rfl (by show sgv _ s2≠0;unfold sgv;simp [hz]) HZ.out).mono ?_;rintro r u2 ⟨rfl,hE⟩;have HX:=qsd hE;clear hE HZ HH HBI;go_wp2;go_roundg (gk-1)
        case measure=>omega
        case rel=>exact ⟨3,by omega,rfl,HX⟩
    · by_cases hz:s2=0
      · have hz':(s2:Int)=0:=by omega
        have HX:=qsd (Ei.skip2 HW.out (by unfold sgv;simp [hz]));clear HW HH HBI;go_wp2;go_roundg (gk-1)
        case measure=>omega
        case rel=>exact ⟨3,by omega,rfl,HX⟩
      · have hz':¬ ((s2:Int)=0):=by omega
        go_wp2_with fail
        with_reducible refine (HBI.out _ _).mono ?_
        rintro r u ⟨rfl,hb⟩;have HZ:=qsd (HW.out.below hb);clear HW hb kb;go_wp2_with fail;refine (HH.out 2 _ _ _ (by omega) (by omega) rfl (by show sgv _ s2≠0;unfold sgv;simp [hz]) HZ.out).mono ?_;rintro r u2 ⟨rfl,hE⟩;have HX:=qsd hE;clear hE HZ HH HBI;go_wp2;go_roundg (gk-1)
        case measure=>omega
        case rel=>exact ⟨3,by omega,rfl,HX⟩
  · go_wp2
    go_end0
    exact ⟨rfl,HW.out⟩
end
section
open Go Go.RowKit
theorem mask_u9 (n:Int) (h:0≤n) (h2:n<18446744073709551616):bits .and .u64 n 4294967295=n%4294967296:=by
 have:=bits_mask .u64 64 (by decide) B.wraps_u64 32 (by decide) n h (by omega);exact this
theorem pow_split9 (a b:Nat) (h:b≤a) (n:Nat):n/2^(a-b)=n*2^b/2^a:=by
 have:2^a=2^(a-b)*2^b:=by rw [←Nat.pow_add,Nat.sub_add_cancel h]
 rw [this,Nat.mul_div_mul_right _ _ (Nat.two_pow_pos b)]
theorem slices9 (F u:Nat) (hu:u≤31) (hF:F<9007199254740992) :
 (F:Int)/2^(64-(u:Int)).toNat=((sl (F*2^u) 2:Nat):Int)∧bits .and .u64 ((F:Int)/2^(32-(u:Int)).toNat) 4294967295=((sl (F*2^u) 1:Nat):Int)∧bits .and .u64 (IntKind.u64.wrap ((F:Int)*2^(u:Int).toNat)) 4294967295=((sl (F*2^u) 0:Nat):Int)∧∀ t,2<t→sl (F*2^u) t=0:=by
 have hp:2^u≤2^31:=Nat.pow_le_pow_right (by decide) hu
 have hN:F*2^u<2^84:=by
  have h1:F*2^u≤F*2^31:=Nat.mul_le_mul_left _ hp;omega
 obtain ⟨N,hNN⟩:∃ N,N=F*2^u:=⟨_,rfl⟩;refine ⟨?_,?_,?_,?_⟩
 · have e:(64-(u:Int)).toNat=64-u:=by omega
   rw [e,show ((2:Int)^(64-u))=((2^(64-u):Nat):Int) by simp,←Int.natCast_ediv,pow_split9 64 u (by omega)];unfold sl;rw [show 32*2=64 from rfl,Nat.mod_eq_of_lt];rw [←hNN] at hN ⊢;omega
 · have e:(32-(u:Int)).toNat=32-u:=by omega
   rw [e,show ((2:Int)^(32-u))=((2^(32-u):Nat):Int) by simp,←Int.natCast_ediv];have hq:F/2^(32-u)≤F:=Nat.div_le_self _ _;have hq2:F/2^(32-u)=N/2^32:=by rw [pow_split9 32 u (by omega),hNN]
   obtain ⟨q,hqq⟩:∃ q,q=F/2^(32-u):=⟨_,rfl⟩;rw [←hqq] at hq hq2 ⊢;rw [mask_u9 _ (by omega) (by omega)];unfold sl;rw [show 32*1=32 from rfl,←hNN,←hq2];omega
 · rw [show (u:Int).toNat=u by omega,show ((F:Int)*2^u)=((F*2^u:Nat):Int) by simp];rw [←hNN];have hw:IntKind.u64.wrap ((N:Nat):Int)=(N:Int)%18446744073709551616:=by simp [IntKind.wrap,IntKind.bits,IntKind.signed]
   rw [hw,mask_u9 _ (by omega) (by omega)];unfold sl;rw [show 32*0=0 from rfl,Nat.pow_zero,Nat.div_one];omega
 · intro t ht;refine sl_high _ _ (Nat.lt_of_lt_of_le hN (Nat.pow_le_pow_right (by decide) (by omega)))
def zW (x:Nat):Int:=fvW x*16384
theorem ss_shift (neg:Bool) (N t0 k:Nat) (z:Int) (hz:z=sgv neg (N*2^(32*t0))):ss z (((t0+k:Nat)):Int)=sgv neg (sl N k):=by
 have ha:z.natAbs=N*2^(32*t0):=by rw [hz];unfold sgv;split <;> omega
 unfold ss;rw [if_neg (by omega),Int.toNat_natCast,ha,sl_shift];unfold sgv at *
 cases neg
 · simp only [Bool.false_eq_true,if_false] at *;rw [if_neg (by omega)]
 · simp only [if_true] at *
   by_cases q:N=0
   · subst q;have:sl 0 k=0:=by unfold sl;simp
     rw [this];simp
   · have:=Nat.mul_pos (Nat.pos_of_ne_zero q) (Nat.two_pow_pos (32*t0));rw [if_pos (by omega)]
theorem ss_low (neg:Bool) (N t0:Nat) (t:Int) (z:Int) (hz:z=sgv neg (N*2^(32*t0))) (h:t<t0):ss z t=0:=by
 by_cases q:t<0
 · exact ss_neg z t q
 · have ha:z.natAbs=N*2^(32*t0):=by rw [hz];unfold sgv;split <;> omega
   unfold ss;rw [if_neg q,ha,sl_low N t0 t.toNat (by omega)]
   split <;> rfl
theorem zW_parts (x:Nat) (hx:Wd x∧finW x):∃ t0 u F:Nat,u≤31∧F<9007199254740992∧t0≤64∧B.xp (magW x/4503599627370496)/32=(t0:Int)-34∧B.xp (magW x/4503599627370496)-32*((t0:Int)-34)=u∧B.fr (magW x/4503599627370496) (magW x%4503599627370496)=(F:Int)∧zW x=sgv (negW x) (F*2^u*2^(32*t0))∧-1074≤B.xp (magW x/4503599627370496)∧B.xp (magW x/4503599627370496)≤1000:=by
 have hm:magW x<9218868437227405312:=hx.2;obtain ⟨e,he⟩:∃ e,e=magW x/4503599627370496:=⟨_,rfl⟩;obtain ⟨f,hf⟩:∃ f,f=magW x%4503599627370496:=⟨_,rfl⟩;have he2:e<2047:=by omega
 have hf2:f<4503599627370496:=by omega
 obtain ⟨p,F,hp,hpe,hF,hFr,hv⟩:∃ p F:Nat,p≤2045∧B.xp e=(p:Int)-1074∧F<9007199254740992∧B.fr e f=(F:Int)∧vK (magW x)=F*2^p:=by
  by_cases h0:e=0
  · refine ⟨0,f,by omega,by unfold B.xp;rw [if_neg (by omega),if_pos h0];omega,by omega,by unfold B.fr;rw [if_neg (by omega),if_pos h0],?_⟩;have:=vK_word 0 f (.inl rfl) (by omega);rw [Nat.zero_mul,Nat.zero_add] at this;rw [show magW x=f by omega];exact this
  · refine ⟨e-1,f+4503599627370496,by omega,by unfold B.xp;rw [if_neg (by omega),if_neg h0];omega,by omega,by unfold B.fr;rw [if_neg (by omega),if_neg h0];omega,?_⟩;have:=vK_word (e-1) (f+4503599627370496) (.inr (by omega)) (by omega);rw [←this,show magW x=(e-1)*4503599627370496+(f+4503599627370496) by omega]
 refine ⟨(p+14)/32,(p+14)%32,F,by omega,hF,by omega,?_,?_,?_,?_,by rw [←he,hpe];omega,by rw [←he,hpe];omega⟩
 · rw [←he,hpe];omega
 · rw [←he,hpe];omega
 · rw [←he,←hf];exact hFr
 · unfold zW fvW sgv B.sg;rw [hv]
   have e1:F*2^((p+14)%32)*2^(32*((p+14)/32))=F*2^p*16384:=by
    rw [Nat.mul_assoc,←Nat.pow_add,show (p+14)%32+32*((p+14)/32)=p+14 by omega,Nat.pow_add,Nat.mul_assoc]
   rw [e1]
   cases negW x
   · simp
   · simp [Int.neg_mul]
theorem hnd_dq {s:Int×(Int→Int)}{b:Nat}{t v:Int}(h:∀ u,s.1<u→s.2 u=0) (ha:∀ u,(s.2 u).natAbs≤b) (hv:v.natAbs≤4294967296):(∀ u,(hnd s t v).1<u→(hnd s t v).2 u=0)∧∀ u,((hnd s t v).2 u).natAbs≤b+4294967296:=by
 unfold hnd
 split
 · exact ⟨h,fun u=>by have:=ha u;omega⟩
 · refine ⟨fun u hu=>?_,fun u=>?_⟩
   · simp only at hu ⊢;unfold upd;rw [if_neg (by omega),h u (by omega)]
   · simp only;unfold upd;have:=ha u
     split <;> omega
theorem hnd_top {s:Int×(Int→Int)}{t v:Int}(h0:-1≤s.1) (h1:s.1≤70) (ht:t≤70):-1≤(hnd s t v).1∧(hnd s t v).1≤70:=by
 unfold hnd
 split
 · exact ⟨h0,h1⟩
 · simp only;omega
theorem each_any (x:Nat) (hx:Wd x∧finW x) (g h f:Nat) (c T:Int) (D:Int→Int) (w:World) (hB:Bs w g f c T D) (hf:f≤8) (hT:-1≤T∧T≤66) (hD:∀ t,T<t→D t=0) (ha:∀ t,(D t).natAbs≤2^73) (hh:h<w.heap.size) (hne:h≠g) (hc:w.cell? ⟨h,0,none⟩=some (.pointer (some ⟨g,0,none⟩))) (cl:Int) :
 Calls Tryz.prog 35 #[.agg #[.bool (negW x),.int .i64 cl,.int .i64 (B.xp (magW x/4503599627370496)),.int .u64 (B.fr (magW x/4503599627370496) (magW x%4503599627370496))],.func (.func 36) #[] #[.pointer (some ⟨h,0,none⟩)]] w fun r w'=>r=.returned (.tuple #[])∧Bs w' g f c (max T (tp (zW x).natAbs)) (fun t=>D t+ss (zW x) t)∧But g w w':=by
 obtain ⟨t0,u,F,hu,hF,ht0,e1,e2,e3,hz,e4,e5⟩:=zW_parts x hx;obtain ⟨s1,s2,s3,s4⟩:=slices9 F u hu hF;rw [e3];obtain ⟨e,he⟩:∃ e,e=B.xp (magW x/4503599627370496):=⟨_,rfl⟩;rw [←he] at e1 e2 e4 e5 ⊢;have v2:=ss_shift (negW x) (F*2^u) t0 2 (zW x) hz;have v1:=ss_shift (negW x) (F*2^u) t0 1 (zW x) hz;have v0:=ss_shift (negW x) (F*2^u) t0 0 (zW x) hz
 have hzz:∀ t:Int,t<t0∨(t0:Int)+2<t→ss (zW x) t=0:=by
  intro t ht;rcases ht with ht|ht
  · exact ss_low (negW x) (F*2^u) t0 t (zW x) hz ht
  · obtain ⟨k,hk⟩:∃ k:Nat,t=((t0+k:Nat):Int):=⟨(t-t0).toNat,by omega⟩;rw [hk,ss_shift (negW x) (F*2^u) t0 k (zW x) hz,s4 k (by omega)];unfold sgv;split <;> rfl
 have h3:=hnd_three T D (zW x) t0 hT.1 hzz;rw [show ((t0:Int)+2)=((t0+2:Nat):Int) by omega,show ((t0:Int)+1)=((t0+1:Nat):Int) by omega,v2,v1,show ((t0:Nat):Int)=((t0+0:Nat):Int) by omega,v0] at h3;have sv:∀ s:Nat,s<4294967296→(sgv (negW x) s).natAbs≤4294967296:=fun s hs=>by unfold sgv;split <;> omega
 have b2:=sv _ (sl_lt (F*2^u) 2);have b1:=sv _ (sl_lt (F*2^u) 1);have b0:=sv _ (sl_lt (F*2^u) 0);obtain ⟨n2,n2'⟩:∃ v,v=sgv (negW x) (sl (F*2^u) 2):=⟨_,rfl⟩;obtain ⟨n1,n1'⟩:∃ v,v=sgv (negW x) (sl (F*2^u) 1):=⟨_,rfl⟩;obtain ⟨n0,n0'⟩:∃ v,v=sgv (negW x) (sl (F*2^u) 0):=⟨_,rfl⟩
 have hst:∀ i,i<3→(∀ q,(est T D ((t0:Int)-34+34) n2 n1 n0 i).1<q→(est T D ((t0:Int)-34+34) n2 n1 n0 i).2 q=0)∧(∀ q,((est T D ((t0:Int)-34+34) n2 n1 n0 i).2 q).natAbs≤2^73+2*4294967296)∧-1≤(est T D ((t0:Int)-34+34) n2 n1 n0 i).1∧(est T D ((t0:Int)-34+34) n2 n1 n0 i).1≤70:=by
  intro i hi;rw [←n2'] at b2;rw [←n1'] at b1;have q1:=hnd_dq (s:=(T,D)) (b:=2^73) (t:=(t0:Int)-34+34+2) (v:=n2) hD ha b2;have q2:=hnd_dq (t:=(t0:Int)-34+34+1) (v:=n1) q1.1 q1.2 b1;have r1:=hnd_top (s:=(T,D)) (t:=(t0:Int)-34+34+2) (v:=n2) hT.1 (by omega) (by omega);have r2:=hnd_top (t:=(t0:Int)-34+34+1) (v:=n1) r1.1 r1.2 (by omega);obtain rfl|rfl|rfl:i=0∨i=1∨i=2:=by omega
  · exact ⟨hD,fun q=>by have:=ha q;show (D q).natAbs≤_;omega,hT.1,by show T≤70;omega⟩
  · exact ⟨q1.1,fun q=>by have:=q1.2 q;show ((hnd (T,D) _ _).2 q).natAbs≤_;omega,r1⟩
  · exact ⟨q2.1,fun q=>by have:=q2.2 q;show ((hnd (hnd (T,D) _ _) _ _).2 q).natAbs≤_;omega,r2⟩
 have hcore:=each_core (negW x) cl e ((t0:Int)-34) u F (sl (F*2^u) 2) (sl (F*2^u) 1) (sl (F*2^u) 0) g h f c T D w e1 e2 (by omega) (by omega) (by omega) hF s1 s2 s3 (sl_lt _ _) (sl_lt _ _) (sl_lt _ _) hB (hid ?_)
 · refine hcore.mono ?_;rintro r w' ⟨rfl,hE⟩;refine ⟨rfl,?_,hE.but⟩;have:=hE.bs
   rw [show est T D ((t0:Int)-34+34) (sgv (negW x) (sl (F*2^u) 2)) (sgv (negW x) (sl (F*2^u) 1)) (sgv (negW x) (sl (F*2^u) 0)) 3=(max T (tp (zW x).natAbs),fun t=>D t+ss (zW x) t) from by
    rw [←h3];show hnd (hnd (hnd (T,D) _ _) _ _) _ _=_;congr 2
    · congr 1;congr 1;omega
    · omega
    · omega] at this
   exact this
 · intro i j v u2 hi hj hv hv0 hE;have hs:=hst i hi;have hbt:=hE.but;rw [n2',n1',n0'] at hs
   have hcc:u2.cell? ⟨h,0,none⟩=some (.pointer (some ⟨g,0,none⟩)):=by
    have e1:u2.heap[h]?=w.heap[h]?:=hbt.block h hh hne;have e3:u2.cell? ⟨h,0,none⟩=w.cell? ⟨h,0,none⟩:=by unfold World.cell?;simp only;rw [e1]
    rw [e3];exact hc
   have hvb:v.natAbs≤2^74:=by
    rw [hv];obtain rfl|rfl|rfl:i=0∨i=1∨i=2:=by omega
    · show (sgv _ _).natAbs≤_;omega
    · show (sgv _ _).natAbs≤_;omega
    · show (sgv _ _).natAbs≤_;omega
   have:=hand_any g h f c _ j v _ u2 hE.bs ⟨hs.1,fun q=>by have:=hs.2.1 q;omega,hs.2.2.1,hs.2.2.2⟩ hf (by omega) hvb (by have:=hbt.size;omega) hne hcc;refine this.mono ?_;rintro r w' ⟨rfl,h1,h2⟩;refine ⟨rfl,⟨?_,hbt.trans h2,hE.box.but h2 (by have:=hB.lt;omega)⟩⟩
   have hstep:(max (est T D ((t0:Int)-34+34) (sgv (negW x) (sl (F*2^u) 2)) (sgv (negW x) (sl (F*2^u) 1)) (sgv (negW x) (sl (F*2^u) 0)) i).1 (j+34),upd (est T D ((t0:Int)-34+34) (sgv (negW x) (sl (F*2^u) 2)) (sgv (negW x) (sl (F*2^u) 1)) (sgv (negW x) (sl (F*2^u) 0)) i).2 (j+34) v)=est T D ((t0:Int)-34+34) (sgv (negW x) (sl (F*2^u) 2)) (sgv (negW x) (sl (F*2^u) 1)) (sgv (negW x) (sl (F*2^u) 0)) (i+1):=by
    have hnv:∀ (s:Int×(Int→Int)) (t:Int),(max s.1 t,upd s.2 t v)=hnd s t v:=fun s t=>by unfold hnd;rw [if_neg hv0]
    rw [hnv,hv,hj];obtain rfl|rfl|rfl:i=0∨i=1∨i=2:=by omega
    · show hnd (T,D) _ _=hnd (T,D) _ _;congr 1;omega
    · show hnd (hnd (T,D) _ _) _ _=hnd (hnd (T,D) _ _) _ _;congr 1;omega
    · show hnd (hnd (hnd (T,D) _ _) _ _) _ _=hnd (hnd (hnd (T,D) _ _) _ _) _ _;congr 1;omega
   rw [←hstep];exact h1
end
section
open Go Go.RowKit
theorem Bs.cnt {w:World}{g f:Nat}{c T:Int}{D:Int→Int}(h:Bs w g f c T D):w.cell? ⟨g,1,none⟩=some (.int .i64 c):=Bl.cell h 1 _ rfl
theorem Bs.tp {w:World}{g f:Nat}{c T:Int}{D:Int→Int}(h:Bs w g f c T D):w.cell? ⟨g,2,none⟩=some (.int .i64 (T-34)):=Bl.cell h 2 _ rfl
theorem Bs.inc {w:World}{g f:Nat}{c T:Int}{D:Int→Int}(h:Bs w g f c T D) (c':Int):Bs (w.setCell ⟨g,1,none⟩ (.int .i64 c')) g f c' T D:=Bl.set h 1 _
theorem Bs.froz {w:World}{g f:Nat}{c T:Int}{D:Int→Int}(h:Bs w g f c T D) (i:Nat):w.frozen? ⟨g,i,none⟩=false:=Bl.frozen h i
theorem New9 (f:Nat) (w:World) (h0:1≤f) (h1:f≤8):Calls Tryz.prog 15 #[.int .i64 f] w fun r w'=>r=.returned (.pointer (some ⟨w.heap.size,0,none⟩))∧Bs w' w.heap.size f 0 (-1) (fun _=>0)∧Below w.heap.size w w':=by
 have d0:decide ((f:Int)<1)=false:=by simp;omega
 have d1:decide (8<(f:Int))=false:=by simp;omega
 go_enter Tryz.func15,Tryz.ntmps15;go_wp2;go_ret;refine ⟨rfl,?_,bel_alloc _ _⟩;have e:kf f (-1) (fun _=>0)=fun _=>0:=by funext k;unfold kf;split <;> rfl
 unfold Bs Bn;rw [e];exact Bl.new w _ _
theorem New9_no (f:Int) (w:World) (h:f<1∨8<f):Calls Tryz.prog 15 #[.int .i64 f] w fun r w'=>r=.returned (.pointer none)∧w'=w:=by
 rcases h with h|h
 · have d0:decide (f<1)=true:=by simp;omega
   go_enter Tryz.func15,Tryz.ntmps15;go_wp2;go_ret;exact ⟨rfl,rfl⟩
 · have d0:decide (f<1)=false:=by simp;omega
   have d1:decide (8<f)=true:=by simp;omega
   go_enter Tryz.func15,Tryz.ntmps15;go_wp2;go_ret;exact ⟨rfl,rfl⟩
theorem Add_core (g f x:Nat) (c c' T T':Int) (D D':Int→Int) (n:Bool) (cl e F:Int) (w:World) (hB:Bs w g f c T D) (hc:c<1099511627776) (hc0:0≤c) (hcl:cl≠3∧cl≠4)
 (HS:Hid (∀ u,Calls Tryz.prog 34 #[.float .f64 x] u fun r w'=>r=.returned (.agg #[.bool n,.int .i64 cl,.int .i64 e,.int .u64 F])∧Below u.heap.size u w'))
 (HE:Hid (∀ u,Bs u g f c T D→w.heap.size<u.heap.size→u.cell? ⟨w.heap.size,0,none⟩=some (.pointer (some ⟨g,0,none⟩))→Calls Tryz.prog 35 #[.agg #[.bool n,.int .i64 cl,.int .i64 e,.int .u64 F],.func (.func 36) #[] #[.pointer (some ⟨w.heap.size,0,none⟩)]] u fun r w'=>r=.returned (.tuple #[])∧Bs w' g f c T' D'∧But g u w')) :
 Calls Tryz.prog 16 #[.pointer (some ⟨g,0,none⟩),.float .f64 x] w fun r w'=>r=.returned (.int .i64 0)∧Bs w' g f (c+1) T' D'∧But g w w':=by
 have k1:=hB.cnt;have hl:=hB.lt;have d1:decide (1099511627776≤c)=false:=by simp;omega
 have d3:(cl==3)=false:=by simp;omega
 have d4:(cl==4)=false:=by simp;omega
 have HB:=qsd hB;clear hB hcl;obtain ⟨W,hW⟩:∃ W,W=w.alloc (.cells #[.pointer (some ⟨g,0,none⟩)] 39):=⟨_,rfl⟩
 have HW:Aside (Bl W w.heap.size 39 [.pointer (some ⟨g,0,none⟩)]∧Below w.heap.size w W):=by
  subst hW;exact ⟨Bl.new w 39 [_],bel_alloc _ _⟩
 go_enter Tryz.func16,Tryz.ntmps16;go_wp2_with fail;rw [←hW];clear hW k1
 with_reducible refine (HS.out _).mono ?_
 rintro r u ⟨rfl,hb⟩;have HU:Aside (Bl u w.heap.size 39 [.pointer (some ⟨g,0,none⟩)]∧Below w.heap.size w u∧w.heap.size<u.heap.size):=⟨HW.out.1.below hb HW.out.1.lt,HW.out.2.trans (hb.mono HW.out.2.size),by have:=HW.out.1.lt;have:=hb.size;omega⟩;have hs:=HU.out.2.2;clear HW hb;obtain ⟨U,hU⟩:∃ U,U=u.alloc (.cells #[.bool n,.int .i64 cl,.int .i64 e,.int .u64 F] 61):=⟨_,rfl⟩
 have HV:Aside (Bl U w.heap.size 39 [.pointer (some ⟨g,0,none⟩)]∧Bs U g f c T D∧But g w U∧w.heap.size<U.heap.size):=by
  subst hU;exact ⟨HU.out.1.alloc _,((HB.out.below HU.out.2.1 HB.out.lt).alloc _),((But.refl g w).of_bel9 HU.out.2.1).alloc _,by simp;omega⟩
 go_wp2_with fail;rw [←hU];clear hU
 with_reducible refine (HE.out U HV.out.2.1 HV.out.2.2.2 (HV.out.1.cell 0 _ rfl)).mono ?_
 rintro r v ⟨rfl,hBv,hbt⟩;have c0:=(HV.out.1.but hbt (by omega)).cell 0 _ rfl;have c1:=hBv.cnt;have c2:=hBv.froz 1;have HX:=qsd (ai (hBv.inc (c+1)) ((HV.out.2.2.1.trans hbt).set 1 (.int .i64 (c+1))));clear hBv hbt HV HE HS HB HU;go_wp2;go_ret;exact ⟨rfl,HX.out.1,HX.out.2⟩
theorem Add_odd (g f x:Nat) (c T:Int) (D:Int→Int) (n:Bool) (cl e F:Int) (w:World) (hB:Bs w g f c T D) (hc:c<1099511627776) (hcl:cl=3∨cl=4)
 (HS:Hid (∀ u,Calls Tryz.prog 34 #[.float .f64 x] u fun r w'=>r=.returned (.agg #[.bool n,.int .i64 cl,.int .i64 e,.int .u64 F])∧Below u.heap.size u w')) :
 Calls Tryz.prog 16 #[.pointer (some ⟨g,0,none⟩),.float .f64 x] w fun r w'=>r=.returned (.int .i64 30)∧Below w.heap.size w w':=by
 have k1:=hB.cnt;have hl:=hB.lt;have d1:decide (1099511627776≤c)=false:=by simp;omega
 clear hB;obtain ⟨W,hW⟩:∃ W,W=w.alloc (.cells #[.pointer (some ⟨g,0,none⟩)] 39):=⟨_,rfl⟩;have HW:Aside (Below w.heap.size w W):=by subst hW;exact bel_alloc _ _
 rcases hcl with rfl|rfl
 all_goals
  go_enter Tryz.func16,Tryz.ntmps16;go_wp2_with fail;rw [←hW];clear hW k1
  with_reducible refine (HS.out _).mono ?_
  rintro r u ⟨rfl,hb⟩;have HU:Aside (Below w.heap.size w u):=HW.out.trans (hb.mono HW.out.size);clear hb;go_wp2;go_ret;exact ⟨rfl,HU.out.trans ((bel_alloc _ _).mono HU.out.size)⟩
theorem split9 (x:Nat) (hx:Wd x) (u:World):∃ n e f,magW x/4503599627370496=e∧magW x%4503599627370496=f∧n=B.ng (negW x) e f∧Calls Tryz.prog 34 #[.float .f64 x] u fun r w'=>r=.returned (.agg #[.bool n,.int .i64 (B.cls e f),.int .i64 (B.xp e),.int .u64 (B.fr e f)])∧Below u.heap.size u w':=by
 refine ⟨_,_,_,rfl,rfl,rfl,?_⟩;have hm:magW x<9223372036854775808:=by unfold magW;omega
 have h1:x=B.bw (negW x) (magW x/4503599627370496) (magW x%4503599627370496):=by
  have:=wd_of x hx;unfold wd64 at this;unfold B.bw
  cases h:negW x <;> simp only [h] at this ⊢ <;> simp at this ⊢ <;> omega
 have:=B.Split_any (negW x) (magW x/4503599627370496) (magW x%4503599627370496) (by omega) (by omega) u;rw [←h1] at this;exact this
end
section
open Go Go.RowKit
def Fin9 (L:List Nat):Prop:=∀ x ∈ L,Wd x∧finW x
def ZL (L:List Nat):List Int:=L.map zW
def Bz (w:World) (g f:Nat) (L:List Nat):Prop:=Bs w g f (L.length:Nat) (tL (ZL L)) (SL (ZL L))
theorem Bz.lt {w:World}{g f:Nat}{L:List Nat}(h:Bz w g f L):g<w.heap.size:=Bl.lt h
theorem Bz.below {w w':World}{g B f:Nat}{L:List Nat}(h:Bz w g f L) (hb:Below B w w') (hg:g<B):Bz w' g f L:=Bs.below h hb hg
theorem ZL_append (L M:List Nat):ZL (L++M)=ZL L++ZL M:=List.map_append
theorem zW_tp (x:Nat) (hx:Wd x∧finW x):tp (zW x).natAbs≤66:=by
 obtain ⟨t0,u,F,hu,hF,ht0,_,_,_,hz,_⟩:=zW_parts x hx;have hp:2^u≤2^31:=Nat.pow_le_pow_right (by decide) hu
 have hN:F*2^u<2^84:=by
  have h1:F*2^u≤F*2^31:=Nat.mul_le_mul_left _ hp;omega
 have ha:(zW x).natAbs=F*2^u*2^(32*t0):=by rw [hz];unfold sgv;split <;> omega
 have h3:(zW x).natAbs<2^(32*(t0+3)):=by
  rw [ha,show 32*(t0+3)=96+32*t0 by omega,Nat.pow_add];exact Nat.mul_lt_mul_of_pos_right (Nat.lt_of_lt_of_le hN (by decide)) (Nat.two_pow_pos _)
 have h4:=(tp_lt _ (t0+3)).2 h3;omega
theorem tL_hi (L:List Nat) (h:Fin9 L):tL (ZL L)≤66:=by
 induction L with
 | nil=>decide
 | cons x L ih =>
   have h1:=zW_tp x (h x (List.mem_cons_self ..));have h2:=ih (fun y hy=>h y (List.mem_cons_of_mem _ hy));show max (tp (zW x).natAbs) (tL (ZL L))≤66;omega
theorem SL_hi (L:List Nat) (h:L.length≤1099511627776) (t:Int):(SL (ZL L) t).natAbs≤2^73:=by
 have:=SL_abs (ZL L) t;have e:(ZL L).length=L.length:=List.length_map ..;rw [e] at this;omega
theorem Add9 (x:Nat) (hx:Wd x∧finW x) (g f:Nat) (L:List Nat) (w:World) (hB:Bz w g f L) (hF:Fin9 L) (hl:L.length<1099511627776) (hf:f≤8) :
 Calls Tryz.prog 16 #[.pointer (some ⟨g,0,none⟩),.float .f64 x] w fun r w'=>r=.returned (.int .i64 0)∧Bz w' g f (L++[x])∧But g w w':=by
 have hm:magW x<9218868437227405312:=hx.2;obtain ⟨n,e,f',h1,h2,h3,_⟩:=split9 x hx.1 w;have hn:n=negW x:=by rw [h3];unfold B.ng;rw [if_neg (by omega)]
 have hS:Hid (∀ u,Calls Tryz.prog 34 #[.float .f64 x] u fun r w'=>r=.returned (.agg #[.bool (negW x),.int .i64 (B.cls e f'),.int .i64 (B.xp e),.int .u64 (B.fr e f')])∧Below u.heap.size u w'):=by
  refine hid (fun u=>?_);obtain ⟨n',e',f'',k1,k2,k3,k4⟩:=split9 x hx.1 u;obtain rfl:e'=e:=k1.symm.trans h1;obtain rfl:f''=f':=k2.symm.trans h2;rw [←hn,h3,←k3];exact k4
 have hc:=Add_core g f x (L.length:Nat) 0 (tL (ZL L)) _ (SL (ZL L)) _ (negW x) (B.cls e f') (B.xp e) (B.fr e f') w hB (by omega) (by omega) (by unfold B.cls;rw [if_neg (by omega)];constructor <;> split <;> (try split) <;> decide) hS
  (hid (fun u hBu hlu hcu=>by
   have:=each_any x hx g w.heap.size f (L.length:Nat) (tL (ZL L)) (SL (ZL L)) u hBu hf ⟨tL_ge _,tL_hi L hF⟩ (fun t ht=>SL_above _ t ht) (SL_hi L (by omega)) hlu (by have:=hB.lt;omega) hcu (B.cls e f');rw [h1,h2] at this
   exact this))
 refine hc.mono ?_;rintro r w' ⟨rfl,h4,h5⟩;refine ⟨rfl,?_,h5⟩;unfold Bz
 have e1:tL (ZL (L++[x]))=max (tL (ZL L)) (tp (zW x).natAbs):=by
  have:=tL_ge (ZL L);have h6:=tp_ge (zW x).natAbs;rw [ZL_append,tL_append];show max (tL (ZL L)) (max (tp (zW x).natAbs) (-1))=_;omega
 have e2:SL (ZL (L++[x]))=fun t=>SL (ZL L) t+ss (zW x) t:=by
  funext t
  rw [ZL_append,SL_append];show SL (ZL L) t+(ss (zW x) t+0)=_;omega
 rw [e1,e2,List.length_append,show ((L.length+[x].length:Nat):Int)=(L.length:Int)+1 by simp];exact h4
theorem Add9_odd (x:Nat) (hx:Wd x∧¬ finW x) (g f:Nat) (L:List Nat) (w:World) (hB:Bz w g f L) (hl:L.length<1099511627776) :
 Calls Tryz.prog 16 #[.pointer (some ⟨g,0,none⟩),.float .f64 x] w fun r w'=>r=.returned (.int .i64 30)∧Below w.heap.size w w':=by
 have hm:¬ magW x<9218868437227405312:=hx.2;have hm2:magW x<9223372036854775808:=by unfold magW;omega
 obtain ⟨n,e,f',h1,h2,h3,_⟩:=split9 x hx.1 w;refine Add_odd g f x (L.length:Nat) _ _ n (B.cls e f') (B.xp e) (B.fr e f') w hB (by omega) (by unfold B.cls;rw [if_pos (by omega)];split <;> simp) (hid (fun u=>?_));obtain ⟨n',e',f'',k1,k2,k3,k4⟩:=split9 x hx.1 u;obtain rfl:e'=e:=k1.symm.trans h1;obtain rfl:f''=f':=k2.symm.trans h2;rw [h3,←k3];exact k4
theorem Bs.row {w:World}{g f:Nat}{c T:Int}{D:Int→Int}(h:Bs w g f c T D) (Ko:Nat→Int) (hK:kf f T D=Ko):w.rangeAt g 3 [.int .i64 (Ko 0/4294967296),.int .i64 (Ko 0%4294967296),.int .i64 (Ko 1/4294967296),.int .i64 (Ko 1%4294967296),.int .i64 (Ko 2/4294967296),.int .i64 (Ko 2%4294967296),.int .i64 (Ko 3/4294967296),.int .i64 (Ko 3%4294967296),.int .i64 (Ko 4/4294967296),.int .i64 (Ko 4%4294967296),.int .i64 (Ko 5/4294967296),.int .i64 (Ko 5%4294967296),.int .i64 (Ko 6/4294967296),.int .i64 (Ko 6%4294967296),.int .i64 (Ko 7/4294967296),.int .i64 (Ko 7%4294967296)]:=by
 subst hK
 exact Bl.range h 3 _ (fun j v hv=>by
  have e:(Bc f c (T-34) (kf f T D))[3+j]?=([.int .i64 (kf f T D 0/4294967296),.int .i64 (kf f T D 0%4294967296),.int .i64 (kf f T D 1/4294967296),.int .i64 (kf f T D 1%4294967296),.int .i64 (kf f T D 2/4294967296),.int .i64 (kf f T D 2%4294967296),.int .i64 (kf f T D 3/4294967296),.int .i64 (kf f T D 3%4294967296),.int .i64 (kf f T D 4/4294967296),.int .i64 (kf f T D 4%4294967296),.int .i64 (kf f T D 5/4294967296),.int .i64 (kf f T D 5%4294967296),.int .i64 (kf f T D 6/4294967296),.int .i64 (kf f T D 6%4294967296),.int .i64 (kf f T D 7/4294967296),.int .i64 (kf f T D 7%4294967296)]:List Value)[j]?:=by rw [Nat.add_comm];rfl
  rw [e];exact hv)
end
section
open Go.RowKit
theorem Dk.but8 {w w':World}{g k:Nat}{n:Bool}{v:Value}{e:Int}(h:Dk w k n v e) (hb:But g w w') (hk:k≠g):Dk w' k n v e:=by unfold Dk at h ⊢;rw [hb.block k (Array.getElem?_eq_some_iff.1 h).1 hk];exact h
theorem Nt.dk8 {lo:Nat}{w w':World}{v:Value}{X:Nat}(h:Nt lo w v X) {g:Nat}{n:Bool}{u:Value}{e:Int}(hD:Dk w g n u e) (hb:But g w w'):Nt lo w' v X:=by
 refine ⟨h.1,?_⟩;rcases h.2 with hn|⟨g',cap,cur,rfl,hlo,hgc,rest⟩
 · exact .inl hn
 · refine .inr ⟨g',cap,cur,rfl,hlo,(hb.block g' (Array.getElem?_eq_some_iff.1 hgc).1 ?_).trans hgc,rest⟩;rintro rfl;unfold Dk at hD;rw [hD] at hgc
   cases hgc
theorem name_world8 {K:Act→World→Prop}{Q:Exit→Act→World→Prop}{e:Exit}{a:Act}{W:World}(P:World→Prop) (hP:P W) (h:∀ U,P U→Exit.then K Q e a U):Exit.then K Q e a W:=h W hP
def Ex9 (w W1:World) (n3:Bool) (v3:Value) (e3:Int) (X3 k:Nat) (U:World):Prop:=Dk U k n3 v3 e3∧Dk U w.heap.size false (.slice none 0 0) 0∧Nt W1.heap.size U v3 X3∧Below w.heap.size w U∧w.heap.size≠k
theorem Ex9.a {w W1 u:World}{n3:Bool}{v3:Value}{e3:Int}{X3:Nat}(Z:Dk u w.heap.size false (.slice none 0 0) 0) (NC:Nt W1.heap.size u v3 X3) (hB:Below w.heap.size w u) (hk:w.heap.size≠u.heap.size) :
 Ex9 w W1 n3 v3 e3 X3 u.heap.size (u.alloc (.cells #[.bool n3,v3,.int .i64 e3] 70)) :=
 ⟨Dk.new u _ _ _,Z.below (below_alloc _ _),NC.below (below_alloc _ _),hB.trans ((below_alloc _ _).mono hB.size),hk⟩
theorem Ex9.b {w W1 u:World}{n3:Bool}{v3:Value}{e3:Int}{X3 k:Nat}(D:Dk u k false (.slice none 0 0) 0) (Z:Dk u w.heap.size false (.slice none 0 0) 0) (NC:Nt W1.heap.size u v3 X3) (hB:Below w.heap.size w u) (hk:w.heap.size<k) :
 Ex9 w W1 n3 v3 e3 X3 k (((u.setCell ⟨k,0,none⟩ (.bool n3)).setCell ⟨k,1,none⟩ v3).setCell ⟨k,2,none⟩ (.int .i64 e3)) :=
 ⟨D.set _ _ _,Z.but8 (st3_but8 k u (.bool n3) v3 (.int .i64 e3)) (by omega),NC.dk8 D (st3_but8 k u (.bool n3) v3 (.int .i64 e3)),But.below hB (st3_but8 k u (.bool n3) v3 (.int .i64 e3)) hB.size (by omega),by omega⟩
theorem alloc2 {u:World}{a b:Addr}{va vb:Value}{o:Obj}(h:u.cell? a=some va∧u.cell? b=some vb):(u.alloc o).cell? a=some va∧(u.alloc o).cell? b=some vb:=⟨Lib.cell?_alloc_some _ h.1,Lib.cell?_alloc_some _ h.2⟩
theorem alloc2d {u:World}{a b:Addr}{va vb:Value}{o:Obj}(h:u.cell? a=some va∧u.cell? b=some vb):(u.alloc o).drew.cell? a=some va∧(u.alloc o).drew.cell? b=some vb:=alloc2 h
theorem set2 {u:World}{g i j:Nat}{va vb:Value}{k l:Nat}{x:Value}(hk:g≠k) (h:u.cell? ⟨g,i,none⟩=some va∧u.cell? ⟨g,j,none⟩=some vb):(u.setCell ⟨k,l,none⟩ x).cell? ⟨g,i,none⟩=some va∧(u.setCell ⟨k,l,none⟩ x).cell? ⟨g,j,none⟩=some vb:=by
 have e:(u.setCell ⟨k,l,none⟩ x).heap[g]?=u.heap[g]?:=Below.heap_setCell _ _ _ _ hk;exact ⟨(World.cell?_of_block (a:=⟨g,i,none⟩) e).trans h.1,(World.cell?_of_block (a:=⟨g,j,none⟩) e).trans h.2⟩
end
section
open Go Go.RowKit
theorem exact9_core {w0:World}(h l j:Int) (hj:-1000≤j∧j≤1000) (n1 n2 n3:Bool) (X1 X2 X3:Nat) (e1 e2 e3:Int) (l1:(ws X1).length≤8192) (l2:(ws X2).length≤8192) (l3:(ws X3).length≤8192)
 (EA0:Hid (∀ u,Below w0.heap.size w0 u→Calls Tryz.prog 86 #[.int .i64 h,.int .i64 (j+1)] u fun r w'=>(∃ v,r=.returned (.agg #[.bool n1,v,.int .i64 e1])∧Nt u.heap.size w' v X1)∧Below u.heap.size u w'))
 (EB0:Hid (∀ u,Below w0.heap.size w0 u→Calls Tryz.prog 86 #[.int .i64 l,.int .i64 j] u fun r w'=>(∃ v,r=.returned (.agg #[.bool n2,v,.int .i64 e2])∧Nt u.heap.size w' v X2)∧Below u.heap.size u w'))
 (HA0:Hid (∀ u a c b d,Below w0.heap.size w0 u→Nt w0.heap.size u (.slice a (ws X1).length c) X1→Nt w0.heap.size u (.slice b (ws X2).length d) X2→Calls Tryz.prog 63 #[.agg #[.bool n1,.slice a (ws X1).length c,.int .i64 e1],.agg #[.bool n2,.slice b (ws X2).length d,.int .i64 e2]] u fun r w'=>(∃ v,r=.returned (.tuple #[.agg #[.bool n3,v,.int .i64 e3],.int .i64 0])∧Nt u.heap.size w' v X3)∧Below u.heap.size u w')) :
 Calls Tryz.prog 64 #[.agg #[.int .i64 h,.int .i64 l],.int .i64 j] w0 fun r w'=>(∃ v,r=.returned (.agg #[.bool n3,v,.int .i64 e3])∧Nt w0.heap.size w' v X3)∧Below w0.heap.size w0 w':=by
 obtain ⟨w,hw⟩:∃ w,w=w0.alloc (.cells #[.int .i64 h,.int .i64 l] 56):=⟨_,rfl⟩;obtain ⟨g,hg⟩:∃ g,g=w0.heap.size:=⟨_,rfl⟩;have HWX:=qsd hw;have HGX:=qsd hg;have HBX:Aside (Bl w g 56 [.int .i64 h,.int .i64 l]):=by subst hw;subst hg;exact Bl.new w0 56 [_,_]
 have HBW:Aside (Below w0.heap.size w0 w):=by subst hw;exact bel_alloc _ _
 have HSZ:Aside (w0.heap.size+1=w.heap.size):=by subst hw;exact qsd (by simp)
 have hlt:g<w.heap.size:=HBX.out.lt;clear hw hg;have EA:Hid (∀ u,Below w.heap.size w u→Calls Tryz.prog 86 #[.int .i64 h,.int .i64 (j+1)] u fun r w'=>(∃ v,r=.returned (.agg #[.bool n1,v,.int .i64 e1])∧Nt u.heap.size w' v X1)∧Below u.heap.size u w'):=hid (fun u hu=>EA0.out u (HBW.out.trans (hu.mono HBW.out.size)));have EB:Hid (∀ u,Below w.heap.size w u→Calls Tryz.prog 86 #[.int .i64 l,.int .i64 j] u fun r w'=>(∃ v,r=.returned (.agg #[.bool n2,v,.int .i64 e2])∧Nt u.heap.size w' v X2)∧Below u.heap.size u w'):=hid (fun u hu=>EB0.out u (HBW.out.trans (hu.mono HBW.out.size)));have HA:Hid (∀ u a c b d,Below w.heap.size w u→Nt w.heap.size u (.slice a (ws X1).length c) X1→Nt w.heap.size u (.slice b (ws X2).length d) X2→Calls Tryz.prog 63 #[.agg #[.bool n1,.slice a (ws X1).length c,.int .i64 e1],.agg #[.bool n2,.slice b (ws X2).length d,.int .i64 e2]] u fun r w'=>(∃ v,r=.returned (.tuple #[.agg #[.bool n3,v,.int .i64 e3],.int .i64 0])∧Nt u.heap.size w' v X3)∧Below u.heap.size u w'):=hid (fun u a c b d hu k1 k2=>HA0.out u a c b d (HBW.out.trans (hu.mono HBW.out.size)) (k1.mono HBW.out.size) (k2.mono HBW.out.size));clear EA0 EB0 HA0;have hwj:IntKind.i64.wrap (j+1)=j+1:=by rw [IntKind.wrap_i64];omega
 obtain ⟨W1,hW1⟩:∃ W,W=w.alloc (.cells #[.bool false,.slice none 0 0,.int .i64 0] 70):=⟨_,rfl⟩
 have H1:Aside (Below w.heap.size w W1∧Dk W1 w.heap.size false (.slice none 0 0) 0∧W1.heap.size=w.heap.size+1):=by
  subst hW1;exact ⟨below_alloc _ _,Dk.new _ _ _ _,by simp⟩
 have HK:Aside (∀ W,Below w.heap.size w W→W.cell? ⟨g,0,none⟩=some (.int .i64 h)∧W.cell? ⟨g,1,none⟩=some (.int .i64 l)):=fun W hW=>by
  have hk2:=HBX.out.below hW hlt;exact ⟨hk2.cell 0 _ rfl,hk2.cell 1 _ rfl⟩
 obtain ⟨x1,x2⟩:=HK.out W1 H1.out.1;have hlt1:g<W1.heap.size:=by have:=H1.out.2.2;omega
 have HW1:Aside (w.heap.size<W1.heap.size):=by have:=H1.out.2.2;exact qsd (by omega)
 have kS:Aside (W1.drew.cell? ⟨g,0,none⟩=some (.int .i64 h)∧W1.drew.cell? ⟨g,1,none⟩=some (.int .i64 l)):=⟨x1,x2⟩;have BB:Aside (Below W1.heap.size W1 W1.drew):=(Below.refl _ _).drew;have HB:Aside (∀ W,Below W1.heap.size W1 W→Below w.heap.size w W):=fun W h=>H1.out.1.trans (h.mono H1.out.1.size);go_enter Tryz.func64,Tryz.ntmps64;go_wp2;rw [←HWX.out,show w0.heap.size+1=w.heap.size from HSZ.out,←HGX.out,←hW1];clear hW1
 go_region_held3 (fun w'=>w'.cell? ⟨g,0,none⟩=some (.int .i64 h)∧w'.cell? ⟨g,1,none⟩=some (.int .i64 l)) (first | with_reducible exact kS.out | with_reducible exact alloc2 kS.out | with_reducible exact alloc2d ⟨x1,x2⟩ | (with_reducible refine set2 (by first | exact hdz _ DZ.out.2 | exact hdz _ BB.out.size) (set2 (by first | exact hdz _ DZ.out.2 | exact hdz _ BB.out.size) (set2 (by first | exact hdz _ DZ.out.2 | exact hdz _ BB.out.size) ?_));first | with_reducible exact kS.out | with_reducible exact alloc2 kS.out)) (first
  | (go_at_call 86
     first
     | (with_reducible refine (EA.out _ (by first | exact HB.out _ BB.out | exact HB.out _ (BB.out.trans ((below_alloc _ _).mono BB.out.size)) | exact HB.out _ (below_alloc W1 _).drew)).mono ?_
        rintro r u ⟨⟨v1,rfl,hN⟩,hb⟩;obtain ⟨a1,c1,rfl,_⟩:=hN.arg (Nat.le_trans l1 (by decide))
        have hu:Below W1.heap.size W1 u:=by
         first
         | exact BB.out.trans (hb.mono BB.out.size)
         | exact (BB.out.trans ((below_alloc _ _).mono BB.out.size)).trans (hb.mono (by have:=BB.out.size;simp;omega))
         | exact ((below_alloc W1 _).drew).trans (hb.mono (by simp))
        first
         | have NB:=qsd (NB.out.below hb)
         | have NB:=qsd ((NB.out.below (below_alloc _ _)).below hb)
         | skip
        first
         | have DZ:=qsd (ai (DZ.out.1.below hb) DZ.out.2)
         | have DZ:=qsd (ai ((Dk.new _ false (.slice none 0 0) 0).below hb) BB.out.size)
         | have DZ:=qsd (ai (Dk.below (w:=(W1.alloc (.cells #[.bool false,.slice none 0 0,.int .i64 0] 70)).drew) (Dk.new W1 false (.slice none 0 0) 0) hb) (Nat.le_refl W1.heap.size))
         | skip
        have NA:=qsd (hN.mono (show w.heap.size≤_ by first | exact Nat.le_trans H1.out.1.size BB.out.size | (have:=BB.out.size;have:=H1.out.2.2;simp;omega) | (have:=H1.out.2.2;simp;omega)));have kS:=qsd (HK.out u (HB.out u hu));obtain ⟨x1,x2⟩:=HK.out u (HB.out u hu);have hgu:g<u.heap.size:=by have:=hu.size;omega
        have BB:=qsd hu
        clear hN hb hu)
     | (with_reducible refine (EB.out _ (by first | exact HB.out _ BB.out | exact HB.out _ (BB.out.trans ((below_alloc _ _).mono BB.out.size)) | exact HB.out _ (below_alloc W1 _).drew)).mono ?_
        rintro r u ⟨⟨v2,rfl,hN⟩,hb⟩;obtain ⟨a2,c2,rfl,_⟩:=hN.arg (Nat.le_trans l2 (by decide))
        have hu:Below W1.heap.size W1 u:=by
         first
         | exact BB.out.trans (hb.mono BB.out.size)
         | exact (BB.out.trans ((below_alloc _ _).mono BB.out.size)).trans (hb.mono (by have:=BB.out.size;simp;omega))
         | exact ((below_alloc W1 _).drew).trans (hb.mono (by simp))
        first
         | have NA:=qsd (NA.out.below hb)
         | have NA:=qsd ((NA.out.below (below_alloc _ _)).below hb)
         | skip
        first
         | have DZ:=qsd (ai (DZ.out.1.below hb) DZ.out.2)
         | have DZ:=qsd (ai ((Dk.new _ false (.slice none 0 0) 0).below hb) BB.out.size)
         | have DZ:=qsd (ai (Dk.below (w:=(W1.alloc (.cells #[.bool false,.slice none 0 0,.int .i64 0] 70)).drew) (Dk.new W1 false (.slice none 0 0) 0) hb) (Nat.le_refl W1.heap.size))
         | skip
        have NB:=qsd (hN.mono (show w.heap.size≤_ by first | exact Nat.le_trans H1.out.1.size BB.out.size | (have:=BB.out.size;have:=H1.out.2.2;simp;omega) | (have:=H1.out.2.2;simp;omega)));have kS:=qsd (HK.out u (HB.out u hu));obtain ⟨x1,x2⟩:=HK.out u (HB.out u hu);have hgu:g<u.heap.size:=by have:=hu.size;omega
        have BB:=qsd hu
        clear hN hb hu))
  | (go_at_call 63
     with_reducible refine (HA.out _ a1 c1 a2 c2 (by first | exact HB.out _ BB.out | exact HB.out _ (BB.out.trans ((below_alloc _ _).mono BB.out.size)) | exact HB.out _ (below_alloc W1 _).drew) (by first | exact NA.out | exact NA.out.below (below_alloc _ _)) (by first | exact NB.out | exact NB.out.below (below_alloc _ _))).mono ?_
     rintro r u ⟨⟨v3,rfl,hN⟩,hb⟩;obtain ⟨a3,c3,rfl,_⟩:=hN.arg (Nat.le_trans l3 (by decide))
     have hu:Below W1.heap.size W1 u:=by
      first
      | exact BB.out.trans (hb.mono BB.out.size)
      | exact (BB.out.trans ((below_alloc _ _).mono BB.out.size)).trans (hb.mono (by have:=BB.out.size;simp;omega))
      | exact ((below_alloc W1 _).drew).trans (hb.mono (by simp))
     first
      | have DZ:=qsd (ai (DZ.out.1.below hb) DZ.out.2)
      | have DZ:=qsd (ai ((Dk.new _ false (.slice none 0 0) 0).below hb) BB.out.size)
      | have DZ:=qsd (ai (Dk.below (w:=(W1.alloc (.cells #[.bool false,.slice none 0 0,.int .i64 0] 70)).drew) (Dk.new W1 false (.slice none 0 0) 0) hb) (Nat.le_refl W1.heap.size))
      | skip
     have NC:=qsd (hN.mono (show W1.heap.size≤_ by first | exact BB.out.size | (have:=BB.out.size;simp;omega) | (simp;omega)));have kS:=qsd (HK.out u (HB.out u hu))
     try obtain ⟨d0,d1,d2,df0,df1,df2⟩:=DZ.out.1.facts
     have hgu:g<u.heap.size:=by have:=hu.size;omega
     have hdz:∀ k,W1.heap.size≤k→g≠k:=fun k hk=>by omega
     have BB:=qsd hu
     clear hN hb hu))
 all_goals (
  have Z:=H1.out.2.1.below BB.out
  first
   | with_reducible refine name_world8 (Ex9 w W1 n3 (.slice a3 (ws X3).length c3) e3 X3 _) (Ex9.b DZ.out.1 Z NC.out (HB.out u BB.out) (Nat.lt_of_lt_of_le HW1.out DZ.out.2)) ?_
   | with_reducible refine name_world8 (Ex9 w W1 n3 (.slice a3 (ws X3).length c3) e3 X3 u.heap.size) (Ex9.a Z NC.out (HB.out u BB.out) (Nat.ne_of_lt (Nat.lt_of_lt_of_le HW1.out BB.out.size))) ?_
  intro U HU;obtain ⟨y0,y1,y2,yf0,yf1,yf2⟩:=HU.1.facts;obtain ⟨z0,z1,z2,zf0,zf1,zf2⟩:=HU.2.1.facts;have hnk:=HU.2.2.2.2;have HX:=qsd HU;clear hdz hgu HU HK kS EA EB HA HB NA NB NC BB Z H1
  try clear d0 d1 d2 df0 df1 df2 DZ
  go_wp2;obtain ⟨R1,R2,R3,R4,R5⟩:=HX.out;have hbt:=st3_but8 w.heap.size U (.bool n3) (.slice a3 (ws X3).length c3) (.int .i64 e3);refine close8 Tryz.results64 (g:=w.heap.size) (n:=n3) (v:=.slice a3 (ws X3).length c3) (e:=e3) ?_ (R2.set _ _ _) ?_
  · rfl
  have hf:=But.below R4 hbt R4.size (Nat.le_refl _)
  exact ⟨⟨_,rfl,((R3.dk8 R2 hbt).mono (Nat.le_of_lt HW1.out)).mono HBW.out.size⟩,HBW.out.trans (hf.mono HBW.out.size)⟩)
end
section
open Go Go.RowKit
theorem inBin_core (n j:Int) (hj:-1000≤j∧j≤1000) (n1 n2:Bool) (X1 X2:Nat) (e1 e2:Int) (h1:-1000000≤e1∧e1≤1000000) (l1:(ws X1).length≤8192) (l2:(ws X2).length≤8192) (er:Int) (w:World)
 (HI:Hid (∀ u,Below w.heap.size w u→Calls Tryz.prog 119 #[.int .i64 n] u fun r w'=>(∃ v,r=.returned (.agg #[.bool n1,v,.int .i64 e1])∧Nt u.heap.size w' v X1)∧Below u.heap.size u w'))
 (HM:Hid (∀ u a c,Below w.heap.size w u→Arg u a (ws X1).length c (ws X1)→Calls Tryz.prog 76 #[.bool n1,.slice a (ws X1).length c,.int .i64 (e1+32*j)] u fun r w'=>(∃ v,r=.returned (.tuple #[.agg #[.bool n2,v,.int .i64 e2],.int .i64 er])∧Nt u.heap.size w' v X2)∧Below u.heap.size u w')) :
 Calls Tryz.prog 86 #[.int .i64 n,.int .i64 j] w fun r w'=>(∃ v,r=.returned (.agg #[.bool n2,v,.int .i64 e2])∧Nt w.heap.size w' v X2)∧Below w.heap.size w w':=by
 obtain ⟨W1,hW1⟩:∃ W,W=w.alloc (.cells #[.bool false,.slice none 0 0,.int .i64 0] 70):=⟨_,rfl⟩
 have H1:Aside (Below w.heap.size w W1∧Dk W1 w.heap.size false (.slice none 0 0) 0∧w.heap.size<W1.heap.size):=by
  subst hW1;exact ⟨below_alloc _ _,Dk.new _ _ _ _,by simp⟩
 go_enter Tryz.func86,Tryz.ntmps86;go_wp2_with fail;rw [←hW1];clear hW1
 with_reducible refine (HI.out _ H1.out.1).mono ?_
 rintro r u ⟨⟨v1,rfl,hN1⟩,hb1⟩;obtain ⟨a1,c1,rfl,_⟩:=hN1.arg (Nat.le_trans l1 (by decide));obtain ⟨U,hU⟩:∃ U,U=u.alloc (.cells #[.bool n1,.slice a1 (ws X1).length c1,.int .i64 e1] 70):=⟨_,rfl⟩
 have HU:Aside (Below w.heap.size w U∧Dk U w.heap.size false (.slice none 0 0) 0∧Dk U u.heap.size n1 (.slice a1 (ws X1).length c1) e1∧Arg U a1 (ws X1).length c1 (ws X1)∧w.heap.size<u.heap.size):=by
  subst hU;have hA:=(hN1.below (below_alloc u (.cells #[.bool n1,.slice a1 (ws X1).length c1,.int .i64 e1] 70))).arg' (Nat.le_trans l1 (by decide));exact ⟨(H1.out.1.trans (hb1.mono H1.out.1.size)).trans ((below_alloc _ _).mono (Nat.le_trans H1.out.1.size hb1.size)),(H1.out.2.1.below hb1).below (below_alloc _ _),Dk.new _ _ _ _,hA.2,Nat.lt_of_lt_of_le H1.out.2.2 hb1.size⟩
 clear hN1 hb1;go_wp2_with fail;rw [←hU];clear hU
 with_reducible refine (HM.out U a1 c1 HU.out.1 HU.out.2.2.2.1).mono ?_
 rintro r u2 ⟨⟨v2,rfl,hN2⟩,hb2⟩;obtain ⟨a2,c2,rfl,_⟩:=hN2.arg (Nat.le_trans l2 (by decide));have D1:=HU.out.2.2.1.below hb2;have D0:=HU.out.2.1.below hb2;obtain ⟨x0,x1,x2,xf0,xf1,xf2⟩:=D1.facts;obtain ⟨y0,y1,y2,yf0,yf1,yf2⟩:=D0.facts;have hne:w.heap.size≠u.heap.size:=by have:=HU.out.2.2.2.2;omega
 have hbt:=st3_but8 u.heap.size u2 (.bool n2) (.slice a2 (ws X2).length c2) (.int .i64 e2);have D0':=D0.but8 hbt hne;have hbt2:=st3_but8 w.heap.size (st3 u2 u.heap.size (.bool n2) (.slice a2 (ws X2).length c2) (.int .i64 e2)) (.bool n2) (.slice a2 (ws X2).length c2) (.int .i64 e2)
 have HX:Aside (Dk (st3 (st3 u2 u.heap.size (.bool n2) (.slice a2 (ws X2).length c2) (.int .i64 e2)) w.heap.size (.bool n2) (.slice a2 (ws X2).length c2) (.int .i64 e2)) w.heap.size n2 (.slice a2 (ws X2).length c2) e2 ∧
  Nt w.heap.size (st3 (st3 u2 u.heap.size (.bool n2) (.slice a2 (ws X2).length c2) (.int .i64 e2)) w.heap.size (.bool n2) (.slice a2 (ws X2).length c2) (.int .i64 e2)) (.slice a2 (ws X2).length c2) X2 ∧
  Below w.heap.size w (st3 (st3 u2 u.heap.size (.bool n2) (.slice a2 (ws X2).length c2) (.int .i64 e2)) w.heap.size (.bool n2) (.slice a2 (ws X2).length c2) (.int .i64 e2))):=by
  have s1:=HU.out.1.size;have s2:=hb2.size;have hf:=But.below (HU.out.1.trans (hb2.mono s1)) hbt (by omega) (by have:=HU.out.2.2.2.2;omega);exact ⟨D0'.set _ _ _,(((hN2.mono s1).dk8 D1 hbt).dk8 D0' hbt2),But.below hf hbt2 hf.size (Nat.le_refl _)⟩
 unfold st3 at HX;clear hN2 hb2 D1 D0 D0' hbt hbt2 HM HI HU H1;go_wp2;refine close8 Tryz.results86 (g:=w.heap.size) (n:=n2) (v:=.slice a2 (ws X2).length c2) (e:=e2) rfl HX.out.1 ⟨⟨_,rfl,HX.out.2.1⟩,HX.out.2.2⟩
end
section
open Go Go.RowKit
def ib (n j:Int):Option (Bool×Nat×Int):=mkS (decide (n<0)) n.natAbs (32*j)
theorem ib_sz (n j:Int) (hn:n≠0) (h0:-9223372036854775808≤n) (h1:n≤9223372036854775807) (hj:-1000≤j∧j≤1000) (f:Int) (hf:f=32*j∨f=0):∃ X e,mkS (decide (n<0)) n.natAbs f=some (decide (n<0),X,e)∧X=n.natAbs/2^lo n.natAbs∧e=f+lo n.natAbs∧Frm (decide (n<0)) X e∧X≠0∧bl X≤64∧lo n.natAbs≤64:=by
 have hb:bl n.natAbs≤64:=blLe (m:=64) (by omega)
 have hlo:lo n.natAbs≤64:=by
  obtain ⟨m,o1,o2,o3⟩:=odd_part n.natAbs (by omega);refine Nat.le_of_not_lt (fun q=>?_);have h2:2^65≤2^lo n.natAbs:=Nat.pow_le_pow_right (by decide) (by omega)
  have h3:2^lo n.natAbs≤n.natAbs:=by
   rcases Nat.eq_zero_or_pos (n.natAbs/2^lo n.natAbs) with q0|q0
   · rw [o2] at q0;omega
   · exact Nat.le_of_not_lt (fun q1=>by rw [Nat.div_eq_of_lt q1] at q0;omega)
  omega
 have hs:mkS (decide (n<0)) n.natAbs f=some (decide (n<0),n.natAbs/2^lo n.natAbs,f+lo n.natAbs):=by
  unfold mkS;rw [if_neg (by omega),if_neg (by omega)]
 obtain ⟨m,o1,o2,o3⟩:=odd_part n.natAbs (by omega);refine ⟨_,_,hs,rfl,rfl,mkS_frm hs,by rw [o2];omega,?_,hlo⟩;refine blLe (m:=64) (Nat.lt_of_le_of_lt (Nat.div_le_self _ _) (by omega))
theorem ib_int (n j:Int) (h0:-9223372036854775808≤n) (h1:n≤9223372036854775807) (hj:-1000≤j∧j≤1000) :
 mkS (dN (mkS (decide (n<0)) n.natAbs 0)) (dX (mkS (decide (n<0)) n.natAbs 0)) (dE (mkS (decide (n<0)) n.natAbs 0)+32*j)=ib n j∧-1000≤dE (mkS (decide (n<0)) n.natAbs 0)∧dE (mkS (decide (n<0)) n.natAbs 0)≤1000∧(ws (dX (mkS (decide (n<0)) n.natAbs 0))).length≤8192∧(ws (dX (ib n j))).length≤8192∧(ib n j).isSome=true:=by
 by_cases hn:n=0
 · subst hn;unfold ib;have e0:∀ f,mkS (decide ((0:Int)<0)) (0:Int).natAbs f=some (false,0,0):=fun f=>mkS_zero _ _;rw [e0,e0];refine ⟨?_,?_,?_,?_,?_,rfl⟩
   · exact mkS_zero _ _
   · decide
   · decide
   · exact frmLen (mkS_frm (mkS_zero false 0))
   · exact frmLen (mkS_frm (mkS_zero false 0))
 · obtain ⟨X,e,s1,s2,s3,s4,s5,s6,s7⟩:=ib_sz n j hn h0 h1 hj 0 (.inr rfl);obtain ⟨X',e',t1,t2,t3,t4,t5,t6,t7⟩:=ib_sz n j hn h0 h1 hj (32*j) (.inl rfl);unfold ib;rw [s1,t1];have hX:X'=X:=by rw [s2,t2]
   subst hX;refine ⟨?_,by show -1000≤e;omega,by show e≤1000;omega,frmLen s4,frmLen t4,rfl⟩;show mkS (decide (n<0)) X' (e+32*j)=some (decide (n<0),X',e');rw [show e+32*j=e' by omega];exact mkS_idem t4
theorem ib_fo8 (n j V:Int) (h0:-9223372036854775808≤n) (h1:n≤9223372036854775807) (hj:-1000≤j∧j≤1000) (t:Nat) (ht:j+34=t) (hV:V*16384=n*((2^(32*t):Nat):Int)) (m:Nat) (hm:m≤200000) (hm2:V.natAbs<2^m):ib n j=fo8 V:=by
 by_cases hn:n=0
 · subst hn;have:V=0:=by omega
   subst this;unfold ib fo8;rw [show (0:Int).natAbs=0 from rfl,mkS_zero,mkS_zero]
 · obtain ⟨X',e',t1,t2,t3,t4,t5,t6,t7⟩:=ib_sz n j hn h0 h1 hj (32*j) (.inl rfl);unfold ib;refine fo8_one (L:=-100000) (H:=100000) ⟨⟨_,X',e',t1,t4,?_,.inr ⟨by omega,by omega⟩⟩⟩ m hm hm2;rw [zv_mkS t1 (-2097152) (.inr (by omega)),Int.natCast_mul,←Int.mul_assoc,sg1_abs];obtain ⟨a,ha⟩:∃ a:Nat,a=2096064:=⟨_,rfl⟩;have e1:(32*j - -2097152).toNat=32*t+a:=by omega
   have e2:((UU:Int)*(SS:Int))=16384*((2^a:Nat):Int):=by
    have:=US (14+a) (by omega);rw [Nat.pow_add] at this;rw [←Int.natCast_mul,←this,Int.natCast_mul];rfl
   rw [e1,Nat.pow_add,Int.natCast_mul,←Int.mul_assoc,←hV,Int.mul_assoc V (UU:Int),e2,←Int.mul_assoc]
theorem inBin_any (n j:Int) (h0:-9223372036854775808≤n) (h1:n≤9223372036854775807) (hj:-1000≤j∧j≤1000) (w:World) (hT:Tab w) :
 Calls Tryz.prog 86 #[.int .i64 n,.int .i64 j] w fun r w'=>(∃ v,r=.returned (.agg #[.bool (dN (ib n j)),v,.int .i64 (dE (ib n j))])∧Nt w.heap.size w' v (dX (ib n j)))∧Below w.heap.size w w':=by
 obtain ⟨e1,e2,e3,e4,e5,e6⟩:=ib_int n j h0 h1 hj;refine inBin_core n j hj _ _ _ _ _ _ (by omega) e4 e5 (erS (ib n j)) w (hid (fun u hu=>Int_any n u (hT.belows hu) h0 h1)) (hid (fun u a c hu hA=>?_));have:=Make_any hA (hT.belows hu) (dN (mkS (decide (n<0)) n.natAbs 0)) (dE (mkS (decide (n<0)) n.natAbs 0)+32*j) (by omega) (by omega);rw [val_ws,e1] at this;exact this
def EB:Nat:=2300
theorem EB5:EB≤100000:=by unfold EB;decide
theorem vb_EB (t k:Int) (ht:t≤68) (hk:k.natAbs≤2^75):(vb t k).natAbs<2^EB:=by
 have h:=vb_abs t k 75 68 ht hk;obtain ⟨a,ha⟩:∃ a:Nat,a=75+32*68:=⟨_,rfl⟩;obtain ⟨b,hb⟩:∃ b:Nat,b=EB:=⟨_,rfl⟩;rw [←ha] at h;rw [←hb];exact Nat.lt_of_le_of_lt h (Nat.pow_lt_pow_right (by decide) (by rw [ha,hb];decide))
theorem kv_EB (T:Int) (K:Nat→Int) (n:Nat) (hn:n≤8) (hT:T≤68) (hK:∀ i,(K i).natAbs≤2^75):(kv T K n).natAbs<2^EB:=by
 have h:=kv_abs T K n 75 68 hT hK;obtain ⟨a,ha⟩:∃ a:Nat,a=75+32*68:=⟨_,rfl⟩;obtain ⟨b,hb⟩:∃ b:Nat,b=EB:=⟨_,rfl⟩;rw [←ha] at h;rw [←hb];have h2:n*2^a≤2^(4+a):=by rw [Nat.pow_add];exact Nat.mul_le_mul_right _ (by omega)
 exact Nat.lt_of_le_of_lt (Nat.le_trans h h2) (Nat.pow_lt_pow_right (by decide) (by rw [ha,hb];decide))
theorem inBin9 (n t:Int) (ht:-8≤t∧t≤68) (hn:t<0→n=0) (hn2:t=0→(16384:Int) ∣ n) (hb:n.natAbs≤2^62) (w:World) (hT:Tab w) :
 Calls Tryz.prog 86 #[.int .i64 n,.int .i64 (t-34)] w fun r w'=>(∃ v,r=.returned (.agg #[.bool (dN (fo8 (vb t n))),v,.int .i64 (dE (fo8 (vb t n)))])∧Nt w.heap.size w' v (dX (fo8 (vb t n))))∧Below w.heap.size w w':=by
 have h:=inBin_any n (t-34) (by omega) (by omega) (by omega) w hT
 have e:ib n (t-34)=fo8 (vb t n):=by
  by_cases q:t<0
  · rw [hn q,vb_zero];unfold ib fo8;rw [show (0:Int).natAbs=0 from rfl,mkS_zero,mkS_zero]
  · obtain ⟨k,rfl⟩:∃ k:Nat,t=k:=⟨t.toNat,by omega⟩;refine ib_fo8 n _ (vb k n) (by omega) (by omega) (by omega) k (by omega) (vb_mul k n (fun q=>hn2 (by omega))) EB (Nat.le_trans EB5 (by decide)) (vb_EB _ _ (by omega) (by omega))
 rw [e] at h;exact h
theorem exact9 (k t:Int) (ht:-8≤t∧t≤67) (hk:t<0→k=0) (hk2:t=0→(16384:Int) ∣ k) (hb:k.natAbs≤2^75) (w:World) (hT:Tab w) :
 Calls Tryz.prog 64 #[.agg #[.int .i64 (k/4294967296),.int .i64 (k%4294967296)],.int .i64 (t-34)] w fun r w'=>(∃ v,r=.returned (.agg #[.bool (dN (fo8 (vb t k))),v,.int .i64 (dE (fo8 (vb t k)))])∧Nt w.heap.size w' v (dX (fo8 (vb t k))))∧Below w.heap.size w w':=by
 have b1:=vb_EB (t+1) (k/4294967296) (by omega) (by omega);have b2:=vb_EB t (k%4294967296) (by omega) (by omega);have b3:=vb_EB t k (by omega) hb;have two:=vb_two t k hk hk2;have h2:t=0→(16384:Int) ∣ k%4294967296:=fun q=>by obtain ⟨c,hc⟩:=hk2 q;omega
 refine exact9_core (k/4294967296) (k%4294967296) (t-34) (by omega) (dN (fo8 (vb (t+1) (k/4294967296)))) (dN (fo8 (vb t (k%4294967296)))) (dN (fo8 (vb t k))) (dX (fo8 (vb (t+1) (k/4294967296)))) (dX (fo8 (vb t (k%4294967296)))) (dX (fo8 (vb t k))) (dE (fo8 (vb (t+1) (k/4294967296)))) (dE (fo8 (vb t (k%4294967296)))) (dE (fo8 (vb t k))) (fo8_len _ EB (Nat.le_trans EB5 (by decide)) b1).1 (fo8_len _ EB (Nat.le_trans EB5 (by decide)) b2).1 (fo8_len _ EB (Nat.le_trans EB5 (by decide)) b3).1 (hid (fun u hu=>?_)) (hid (fun u hu=>?_)) (hid (fun u a c b d hu k1 k2=>?_))
 · have:=inBin9 (k/4294967296) (t+1) (by omega) (fun q=>by have:=hk (by omega);omega) (fun q=>by have:=hk (by omega);omega) (by omega) u (hT.belows hu);rw [show t+1-34=t-34+1 by omega] at this;exact this
 · exact inBin9 (k%4294967296) t (by omega) (fun q=>by have:=hk q;omega) h2 (by omega) u (hT.belows hu)
 · obtain ⟨_,A1⟩:=k1.arg' (Nat.le_trans (fo8_len _ EB (Nat.le_trans EB5 (by decide)) b1).1 (by decide));obtain ⟨_,A2⟩:=k2.arg' (Nat.le_trans (fo8_len _ EB (Nat.le_trans EB5 (by decide)) b2).1 (by decide));obtain ⟨q1,q2,q3,_⟩:=fo8_len (vb t (k%4294967296)) EB (Nat.le_trans EB5 (by decide)) b2;have:=add_any8 (vb (t+1) (k/4294967296)) (vb t (k%4294967296)) EB EB5 b1 b2 (dE (fo8 (vb t (k%4294967296)))) q2 q3 (dN (fo8 (vb t (k%4294967296)))) (dX (fo8 (vb t (k%4294967296)))) (fo8_self _ EB (Nat.le_trans EB5 (by decide)) b2) u a b c d (hT.belows hu) A1 A2;rw [two] at this;exact this
end
section
open Go Go.RowKit
theorem idx9_any (K:Nat→Int) (i:Nat) (hi:i<8) (w:World):(Instr.index 57 (.agg #[.int .i64 (K 0/4294967296),.int .i64 (K 0%4294967296),.int .i64 (K 1/4294967296),.int .i64 (K 1%4294967296),.int .i64 (K 2/4294967296),.int .i64 (K 2%4294967296),.int .i64 (K 3/4294967296),.int .i64 (K 3%4294967296),.int .i64 (K 4/4294967296),.int .i64 (K 4%4294967296),.int .i64 (K 5/4294967296),.int .i64 (K 5%4294967296),.int .i64 (K 6/4294967296),.int .i64 (K 6%4294967296),.int .i64 (K 7/4294967296),.int .i64 (K 7%4294967296)]) (.int .i64 (i:Nat))).run Tryz.prog w=.ok (.agg #[.int .i64 (K i/4294967296),.int .i64 (K i%4294967296)]) w:=by
 obtain rfl|rfl|rfl|rfl|rfl|rfl|rfl|rfl:i=0∨i=1∨i=2∨i=3∨i=4∨i=5∨i=6∨i=7:=by omega
 · exact idx9_0 ..
 · exact idx9_1 ..
 · exact idx9_2 ..
 · exact idx9_3 ..
 · exact idx9_4 ..
 · exact idx9_5 ..
 · exact idx9_6 ..
 · exact idx9_7 ..
theorem until_two {P:Program}{ops:Array Oper}{Q:Exit→Act→World→Prop}{md:Region.Mode}{S:World→Prop}{stop i j:Nat}{oi oj:Oper}{fuel:Nat}{listed:Array Bool}{a:Act}{w:World}(hr:Region.ready md ops listed=[i,j]) (hi:ops[i]?=some oi) (hj:ops[j]?=some oj)
 (h1:∀ K':Act→World→Prop,Shut (∀ b u,(i<stop→S u)→wpUntil P md ops Q S stop fuel (listed.setIfInBounds i true) b u→K' b u)→if Region.wanted oi (yielded ops a.tmps)=true then Oper.wp P oi a w K' Q else K' (a.put oi.dst undef) w)
 (h2:∀ K':Act→World→Prop,Shut (∀ b u,(j<stop→S u)→wpUntil P md ops Q S stop fuel (listed.setIfInBounds j true) b u→K' b u)→if Region.wanted oj (yielded ops a.tmps)=true then Oper.wp P oj a w K' Q else K' (a.put oj.dst undef) w):wpUntil P md ops Q S stop (fuel+1) listed a w :=
 ⟨fun h0=>(by rw [hr] at h0;cases h0),fun k hk=>by
  rw [hr] at hk;rcases List.mem_cons.1 hk with rfl|hk
  · exact wpOp_step hi (fun K' hK=>h1 K' (fun b u q1 q2=>hK b u ⟨q1,q2⟩))
  · obtain rfl:=List.mem_singleton.1 hk
    exact wpOp_step hj (fun K' hK=>h2 K' (fun b u q1 q2=>hK b u ⟨q1,q2⟩))⟩
structure Ki (w:World) (T:Int) (K:Nat→Int) (i:Nat) (wr:World):Prop where
 res:Dk wr w.heap.size false (.slice none 0 0) 0
 sum:∃ v,Dk wr (w.heap.size+1) (dN (fo8 (kv T K i))) v (dE (fo8 (kv T K i)))∧Nt (w.heap.size+2) wr v (dX (fo8 (kv T K i)))
 bel:Below w.heap.size w wr
theorem Kept_core (g:Nat) (T:Int) (K:Nat→Int) (w:World) (hg:g<w.heap.size) (hT1:-1≤T∧T≤66) (hbig:∀ i,i≤8→(kv T K i).natAbs<2^EB)
 (HC:Hid (∀ u,Below w.heap.size w u→u.cell? ⟨g,2,none⟩=some (.int .i64 (T-34))∧u.rangeAt g 3 [.int .i64 (K 0/4294967296),.int .i64 (K 0%4294967296),.int .i64 (K 1/4294967296),.int .i64 (K 1%4294967296),.int .i64 (K 2/4294967296),.int .i64 (K 2%4294967296),.int .i64 (K 3/4294967296),.int .i64 (K 3%4294967296),.int .i64 (K 4/4294967296),.int .i64 (K 4%4294967296),.int .i64 (K 5/4294967296),.int .i64 (K 5%4294967296),.int .i64 (K 6/4294967296),.int .i64 (K 6%4294967296),.int .i64 (K 7/4294967296),.int .i64 (K 7%4294967296)]))
 (HX:Hid (∀ i:Nat,i<8→∀ u,Below w.heap.size w u→Calls Tryz.prog 64 #[.agg #[.int .i64 (K i/4294967296),.int .i64 (K i%4294967296)],.int .i64 (T-34-(i:Nat))] u fun r w'=>(∃ v,r=.returned (.agg #[.bool (dN (fo8 (vb (T-i) (K i)))),v,.int .i64 (dE (fo8 (vb (T-i) (K i))))])∧Nt u.heap.size w' v (dX (fo8 (vb (T-i) (K i)))))∧Below u.heap.size u w'))
 (HL:Hid (∀ i:Nat,i<8→(ws (dX (fo8 (vb (T-i) (K i))))).length≤8192))
 (HA:Hid (∀ i:Nat,i<8→∀ u a c b d,Below w.heap.size w u→Arg u a (ws (dX (fo8 (kv T K i)))).length c (ws (dX (fo8 (kv T K i))))→Arg u b (ws (dX (fo8 (vb (T-i) (K i))))).length d (ws (dX (fo8 (vb (T-i) (K i))))) →
  Calls Tryz.prog 63 #[.agg #[.bool (dN (fo8 (kv T K i))),.slice a (ws (dX (fo8 (kv T K i)))).length c,.int .i64 (dE (fo8 (kv T K i)))],.agg #[.bool (dN (fo8 (vb (T-i) (K i)))),.slice b (ws (dX (fo8 (vb (T-i) (K i))))).length d,.int .i64 (dE (fo8 (vb (T-i) (K i))))]] u fun r w'=>(∃ v,r=.returned (.tuple #[.agg #[.bool (dN (fo8 (kv T K (i+1)))),v,.int .i64 (dE (fo8 (kv T K (i+1))))],.int .i64 0])∧Nt u.heap.size w' v (dX (fo8 (kv T K (i+1)))))∧Below u.heap.size u w')) :
 Calls Tryz.prog 40 #[.pointer (some ⟨g,0,none⟩)] w fun r w'=>(∃ v,r=.returned (.agg #[.bool (dN (fo8 (kv T K 8))),v,.int .i64 (dE (fo8 (kv T K 8)))])∧Nt w.heap.size w' v (dX (fo8 (kv T K 8))))∧Below w.heap.size w w':=by
 obtain ⟨W0,hW0⟩:∃ W,W=(w.alloc (Obj.cells #[.bool false,.slice none 0 0,.int .i64 0] 70)).alloc (Obj.cells #[.bool false,.slice none 0 0,.int .i64 0] 70):=⟨_,rfl⟩;have HW0:=qsd hW0
 have H0:Aside (Ki w T K 0 W0):=by
  subst hW0;have z0:fo8 (kv T K 0)=some (false,0,0):=by unfold kv fo8;exact mkS_zero _ _
  refine ⟨(Dk.new w _ _ _).below (below_alloc _ _),⟨.slice none 0 0,?_,?_⟩,(below_alloc _ _).trans ((below_alloc _ _).mono (by simp))⟩
  · rw [z0];have:=Dk.new (w.alloc (Obj.cells #[.bool false,.slice none 0 0,.int .i64 0] 70)) false (.slice none 0 0) 0;rw [show (w.alloc (Obj.cells #[.bool false,.slice none 0 0,.int .i64 0] 70)).heap.size=w.heap.size+1 by simp] at this;exact this
  · rw [z0];exact Nt.nil _ _
 have HBG:=qsd hbig;obtain ⟨da,hda⟩:=Tryz.row_arr9;have HE:=qsd hda;have HS4:Aside ((Tryz.prog.info? 57).map (·.size)=some ([.int .i64 (K 0/4294967296),.int .i64 (K 0%4294967296),.int .i64 (K 1/4294967296),.int .i64 (K 1%4294967296),.int .i64 (K 2/4294967296),.int .i64 (K 2%4294967296),.int .i64 (K 3/4294967296),.int .i64 (K 3%4294967296),.int .i64 (K 4/4294967296),.int .i64 (K 4%4294967296),.int .i64 (K 5/4294967296),.int .i64 (K 5%4294967296),.int .i64 (K 6/4294967296),.int .i64 (K 6%4294967296),.int .i64 (K 7/4294967296),.int .i64 (K 7%4294967296)]:List Value).length):=Tryz.size_arr9;have HR:=qsd (HC.out W0 H0.out.bel).2;clear hda hbig hW0;go_enter Tryz.func40,Tryz.ntmps40
 go_wp2_with (first
  | ((rw [←HW0.out]);(with_reducible refine wpList_load_mid (P:=Tryz.prog) rfl 57 (.tmp 8) rfl g 3 rfl [.int .i64 (K 0/4294967296),.int .i64 (K 0%4294967296),.int .i64 (K 1/4294967296),.int .i64 (K 1%4294967296),.int .i64 (K 2/4294967296),.int .i64 (K 2%4294967296),.int .i64 (K 3/4294967296),.int .i64 (K 3%4294967296),.int .i64 (K 4/4294967296),.int .i64 (K 4%4294967296),.int .i64 (K 5/4294967296),.int .i64 (K 5%4294967296),.int .i64 (K 6/4294967296),.int .i64 (K 6%4294967296),.int .i64 (K 7/4294967296),.int .i64 (K 7%4294967296)] da HR.out HE.out.1 HE.out.2 HS4.out ?_)))
 clear HW0 HR HS4
 go_loopg [10] 8 (fun gk iv wr=>∃ i:Nat,gk+i=8∧iv=.int .i64 (i:Nat)∧Aside (Ki w T K i wr))
 case atStart=>exact ⟨0,by omega,rfl,H0⟩
 case round =>
  clear H0 W0;obtain ⟨i,hgi,rfl,HW⟩:=hrel
  by_cases hi:i<8
  · have hix:=fun u=>idx9_any K i hi u;have hl2:=HL.out i hi;have hX2:=hid (HX.out i hi);have hA2:=hid (HA.out i hi);have l1:=(fo8_len (kv T K i) EB (Nat.le_trans EB5 (by decide)) (HBG.out i (by omega))).1;have l3:=(fo8_len (kv T K (i+1)) EB (Nat.le_trans EB5 (by decide)) (HBG.out (i+1) (by omega))).1;obtain ⟨v1,S1,S2⟩:=HW.out.sum;obtain ⟨n1,hn1⟩:∃ b,b=dN (fo8 (kv T K i)):=⟨_,rfl⟩;obtain ⟨e1,he1⟩:∃ b,b=dE (fo8 (kv T K i)):=⟨_,rfl⟩;obtain ⟨X1,hX1⟩:∃ b,b=dX (fo8 (kv T K i)):=⟨_,rfl⟩;rw [←hn1,←he1] at S1;rw [←hX1] at S2 l1;rw [←hn1,←he1,←hX1] at hA2;have HXN:=qsd (ai hn1 (ai he1 hX1));clear hn1 he1 hX1;obtain ⟨n2,hn2⟩:∃ b,b=dN (fo8 (vb (T-i) (K i))):=⟨_,rfl⟩;obtain ⟨e2,he2⟩:∃ b,b=dE (fo8 (vb (T-i) (K i))):=⟨_,rfl⟩;obtain ⟨X2,hXX2⟩:∃ b,b=dX (fo8 (vb (T-i) (K i))):=⟨_,rfl⟩;rw [←hn2,←he2,←hXX2] at hA2 hX2;rw [←hXX2] at hl2;clear hn2 he2 hXX2;obtain ⟨n3,hn3⟩:∃ b,b=dN (fo8 (kv T K (i+1))):=⟨_,rfl⟩;obtain ⟨e3,he3⟩:∃ b,b=dE (fo8 (kv T K (i+1))):=⟨_,rfl⟩;obtain ⟨X3,hX3⟩:∃ b,b=dX (fo8 (kv T K (i+1))):=⟨_,rfl⟩;rw [←hn3,←he3,←hX3] at hA2;rw [←hX3] at l3;have H3N:=qsd (ai hn3 (ai he3 hX3));clear hn3 he3 hX3;obtain ⟨a1,c1,rfl,_⟩:=S2.arg (Nat.le_trans l1 (by decide));obtain ⟨U,hU⟩:∃ U,U=wr.alloc (.cells #[.int .i64 (K i/4294967296),.int .i64 (K i%4294967296)] 56):=⟨_,rfl⟩;have HU:=qsd hU
    have HV:Aside (Below w.heap.size w U.drew∧Dk U.drew (w.heap.size+1) n1 (.slice a1 (ws X1).length c1) e1∧Dk U.drew w.heap.size false (.slice none 0 0) 0∧Nt (w.heap.size+2) U.drew (.slice a1 (ws X1).length c1) X1∧Bl U.drew wr.heap.size 56 [.int .i64 (K i/4294967296),.int .i64 (K i%4294967296)]∧w.heap.size+1<wr.heap.size):=by
     subst hU;have hb2:=(below_alloc wr (.cells #[.int .i64 (K i/4294967296),.int .i64 (K i%4294967296)] 56)).drew;exact ⟨HW.out.bel.trans (hb2.mono HW.out.bel.size),S1.below hb2,HW.out.res.below hb2,S2.below hb2,(Bl.new wr 56 [_,_]).drew,S1.lt⟩
    clear hU S1 S2
    have mk:Hid (∀ u,Below w.heap.size w u→Dk u (w.heap.size+1) n1 (.slice a1 (ws X1).length c1) e1→Bl u wr.heap.size 56 [.int .i64 (K i/4294967296),.int .i64 (K i%4294967296)]→u.cell? ⟨w.heap.size+1,0,none⟩=some (.bool n1)∧u.cell? ⟨w.heap.size+1,1,none⟩=some (.slice a1 (ws X1).length c1)∧u.cell? ⟨w.heap.size+1,2,none⟩=some (.int .i64 e1)∧u.cell? ⟨wr.heap.size,0,none⟩=some (.int .i64 (K i/4294967296))∧u.cell? ⟨wr.heap.size,1,none⟩=some (.int .i64 (K i%4294967296))∧u.cell? ⟨g,2,none⟩=some (.int .i64 (T-34))) :=
     hid (fun u p0 p1 p2=>⟨p1.facts.1,p1.facts.2.1,p1.facts.2.2.1,p2.cell 0 _ rfl,p2.cell 1 _ rfl,(HC.out u p0).1⟩)
    have kS:=qsd (mk.out _ HV.out.1 HV.out.2.1 HV.out.2.2.2.2.1);have hi8:(i:Int)<8:=by omega
    have hw9:IntKind.i64.wrap (T-34-(i:Int))=T-34-(i:Int):=by rw [IntKind.wrap_i64];omega
    clear HX HL HA HW;go_wp2_with fail;rw [←HU.out];clear HU;refine until_region (fun u=>u.cell? ⟨w.heap.size+1,0,none⟩=some (.bool n1)∧u.cell? ⟨w.heap.size+1,1,none⟩=some (.slice a1 (ws X1).length c1)∧u.cell? ⟨w.heap.size+1,2,none⟩=some (.int .i64 e1)∧u.cell? ⟨wr.heap.size,0,none⟩=some (.int .i64 (K i/4294967296))∧u.cell? ⟨wr.heap.size,1,none⟩=some (.int .i64 (K i%4294967296))∧u.cell? ⟨g,2,none⟩=some (.int .i64 (T-34))) 12 (by kernel_rfl) ?_;refine until_take (i:=0) [9,10] (v:=?_) rfl (by kernel_rfl) (by kernel_rfl) (by kernel_rfl) (by kernel_rfl) (by kernel_rfl) (fun _ _ _ h=>h) (Or.inl ⟨by rfl,?_⟩) kS.out ?_
    rotate_left
    · intro u hSu
      try dsimp only at hSu
      first | (go_simp;done) | (go_simp;with_reducible rfl)
    try simp only [Act.put,List.setIfInBounds_toArray,List.set_cons_zero,List.set_cons_succ]
    refine until_take (i:=1) [8,9,10] (v:=?_) rfl (by kernel_rfl) (by kernel_rfl) (by kernel_rfl) (by kernel_rfl) (by kernel_rfl) (fun _ _ _ h=>h) (Or.inl ⟨by rfl,?_⟩) kS.out ?_
    rotate_left
    · intro u hSu
      try dsimp only at hSu
      first | (go_simp;done) | (go_simp;with_reducible rfl)
    try simp only [Act.put,List.setIfInBounds_toArray,List.set_cons_zero,List.set_cons_succ]
    refine until_take (i:=2) [3,4,5,7,8,9,10] (v:=?_) rfl (by kernel_rfl) (by kernel_rfl) (by kernel_rfl) (by kernel_rfl) (by kernel_rfl) (fun _ _ _ h=>h) (Or.inl ⟨by rfl,?_⟩) kS.out ?_
    rotate_left
    · intro u hSu
      try dsimp only at hSu
      first | (go_simp;done) | (go_simp;with_reducible rfl)
    try simp only [Act.put,List.setIfInBounds_toArray,List.set_cons_zero,List.set_cons_succ]
    refine until_take (i:=3) [4,5,7,8,9,10] (v:=?_) rfl (by kernel_rfl) (by kernel_rfl) (by kernel_rfl) (by kernel_rfl) (by kernel_rfl) (fun _ _ _ h=>h) (Or.inl ⟨by rfl,?_⟩) kS.out ?_
    rotate_left
    · intro u hSu
      try dsimp only at hSu
      first | (go_simp;done) | (go_simp;with_reducible rfl)
    try simp only [Act.put,List.setIfInBounds_toArray,List.set_cons_zero,List.set_cons_succ]
    refine until_take (i:=4) [5,7,8,9,10] (v:=?_) rfl (by kernel_rfl) (by kernel_rfl) (by kernel_rfl) (by kernel_rfl) (by kernel_rfl) (fun _ _ _ h=>h) (Or.inl ⟨by rfl,?_⟩) kS.out ?_
    rotate_left
    · intro u hSu
      try dsimp only at hSu
      first | (go_simp;done) | (go_simp;with_reducible rfl)
    try simp only [Act.put,List.setIfInBounds_toArray,List.set_cons_zero,List.set_cons_succ]
    refine until_take (i:=5) [7,8,9,10] (v:=?_) rfl (by kernel_rfl) (by kernel_rfl) (by kernel_rfl) (by kernel_rfl) (by kernel_rfl) (fun _ _ _ h=>h) (Or.inl ⟨by rfl,?_⟩) kS.out ?_
    rotate_left
    · intro u hSu
      try dsimp only at hSu
      first | (go_simp;done) | (go_simp;with_reducible rfl)
    try simp only [Act.put,List.setIfInBounds_toArray,List.set_cons_zero,List.set_cons_succ]
    refine until_take (i:=6) [7,8,9,10] (v:=?_) rfl (by kernel_rfl) (by kernel_rfl) (by kernel_rfl) (by kernel_rfl) (by kernel_rfl) (fun _ _ _ h=>h) (Or.inl ⟨by rfl,?_⟩) kS.out ?_
    rotate_left
    · intro u hSu
      try dsimp only at hSu
      first | (go_simp;done) | (go_simp;with_reducible rfl)
    try simp only [Act.put,List.setIfInBounds_toArray,List.set_cons_zero,List.set_cons_succ]
    refine until_take (i:=7) [8,9,10] (v:=?_) rfl (by kernel_rfl) (by kernel_rfl) (by kernel_rfl) (by kernel_rfl) (by kernel_rfl) (fun _ _ _ h=>h) (Or.inl ⟨by rfl,?_⟩) kS.out ?_
    rotate_left
    · intro u hSu
      try dsimp only at hSu
      first | (go_simp;done) | (go_simp;with_reducible rfl)
    try simp only [Act.put,List.setIfInBounds_toArray,List.set_cons_zero,List.set_cons_succ]
    refine until_one (i:=8) (by kernel_rfl) rfl (fun K' hK=>?_);go_simp;refine (hX2.out _ HV.out.1).mono ?_;rintro r u ⟨⟨v2,rfl,hN2⟩,hb⟩;obtain ⟨a2,c2,rfl,A2⟩:=hN2.arg (Nat.le_trans hl2 (by decide));have hs0:=HV.out.1.size;have HV:=qsd (ai (HV.out.1.trans (hb.mono HV.out.1.size)) (ai (HV.out.2.1.below hb) (ai (HV.out.2.2.1.below hb) (ai (HV.out.2.2.2.1.below hb) (ai (HV.out.2.2.2.2.1.below hb HV.out.2.2.2.2.1.lt) HV.out.2.2.2.2.2)))));have kS:=qsd (mk.out _ HV.out.1 HV.out.2.1 HV.out.2.2.2.2.1);have HA2:=qsd A2;clear hb A2 hN2;dsimp only;refine hK.out _ _ (fun _=>kS.out) ?_;clear hK K'
    try simp only [Act.put,List.setIfInBounds_toArray,List.set_cons_zero,List.set_cons_succ]
    refine until_one (i:=9) (by kernel_rfl) rfl (fun K' hK=>?_);go_simp;refine (hA2.out u a1 c1 a2 c2 HV.out.1 (HV.out.2.2.2.1.arg' (Nat.le_trans l1 (by decide))).2 HA2.out).mono ?_;rintro r u2 ⟨⟨v3,rfl,hN3⟩,hb⟩;obtain ⟨a3,c3,rfl,_⟩:=hN3.arg (Nat.le_trans l3 (by decide));have HN3:=qsd (hN3.mono (show w.heap.size+2≤u.heap.size by have:=HV.out.2.2.2.2.1.lt;have:=HV.out.2.2.2.2.2;omega));have HV:=qsd (ai (HV.out.1.trans (hb.mono HV.out.1.size)) (ai (HV.out.2.1.below hb) (ai (HV.out.2.2.1.below hb) (ai (HV.out.2.2.2.1.below hb) (ai (HV.out.2.2.2.2.1.below hb HV.out.2.2.2.2.1.lt) HV.out.2.2.2.2.2)))));have kS:=qsd (mk.out _ HV.out.1 HV.out.2.1 HV.out.2.2.2.2.1);clear hb hN3;dsimp only;refine hK.out _ _ (fun _=>kS.out) ?_;clear hK K'
    try simp only [Act.put,List.setIfInBounds_toArray,List.set_cons_zero,List.set_cons_succ]
    refine until_take (i:=10) [] (v:=?_) rfl (by kernel_rfl) (by kernel_rfl) (by kernel_rfl) (by kernel_rfl) (by kernel_rfl) (fun _ _ _ h=>h) (Or.inl ⟨by rfl,?_⟩) kS.out ?_
    rotate_left
    · intro u hSu
      try dsimp only at hSu
      first | (go_simp;done) | (go_simp;with_reducible rfl)
    try simp only [Act.put,List.setIfInBounds_toArray,List.set_cons_zero,List.set_cons_succ]
    obtain ⟨z0,z1,z2,zf0,zf1,zf2⟩:=HV.out.2.1.facts
    have HXX:Aside (Ki w T K (i+1) (st3 u2 (w.heap.size+1) (.bool n3) (.slice a3 (ws X3).length c3) (.int .i64 e3))):=by
     have hbt:=st3_but8 (w.heap.size+1) u2 (.bool n3) (.slice a3 (ws X3).length c3) (.int .i64 e3);refine ⟨HV.out.2.2.1.but8 hbt (by omega),⟨.slice a3 (ws X3).length c3,?_,?_⟩,?_⟩
     · rw [←H3N.out.1,←H3N.out.2.1];exact HV.out.2.1.set _ _ _
     · rw [←H3N.out.2.2];exact HN3.out.but8 hbt (by omega)
     · exact But.below HV.out.1 hbt HV.out.1.size (by omega)
    unfold st3 at HXX;refine until_two (i:=11) (j:=12) (by kernel_rfl) rfl rfl (fun K' hK=>?_) (fun K' hK=>?_)
    · go_simp;refine hK.out _ _ (fun _=>kS.out) ?_;clear hK K'
      try simp only [Act.put,List.setIfInBounds_toArray,List.set_cons_zero,List.set_cons_succ]
      refine until_two (i:=12) (j:=13) (by kernel_rfl) rfl rfl (fun K' hK=>?_) (fun K' hK=>?_)
      · go_simp;refine hK.out _ _ (fun h=>absurd h (by decide)) ?_;clear hK K'
        try simp only [Act.put,List.setIfInBounds_toArray,List.set_cons_zero,List.set_cons_succ]
        refine until_one (i:=13) (by kernel_rfl) rfl (fun K' hK=>?_);go_simp;refine hK.out _ _ (fun h=>absurd h (by decide)) ?_;clear hK K'
        try simp only [Act.put,List.setIfInBounds_toArray,List.set_cons_zero,List.set_cons_succ]
        refine until_done (by kernel_rfl) ?_ _;clear kS z0 z1 z2 zf0 zf1 zf2 HV HN3 HA2 H3N HXN mk hX2 hA2;go_wp2;go_roundg (gk-1)
        case measure=>omega
        case rel=>exact ⟨i+1,by omega,by simp,HXX⟩
      · go_simp;refine hK.out _ _ (fun h=>absurd h (by decide)) ?_;clear hK K'
        try simp only [Act.put,List.setIfInBounds_toArray,List.set_cons_zero,List.set_cons_succ]
        refine until_one (i:=12) (by kernel_rfl) rfl (fun K' hK=>?_);go_simp;refine hK.out _ _ (fun h=>absurd h (by decide)) ?_;clear hK K'
        try simp only [Act.put,List.setIfInBounds_toArray,List.set_cons_zero,List.set_cons_succ]
        refine until_done (by kernel_rfl) ?_ _;clear kS z0 z1 z2 zf0 zf1 zf2 HV HN3 HA2 H3N HXN mk hX2 hA2;go_wp2;go_roundg (gk-1)
        case measure=>omega
        case rel=>exact ⟨i+1,by omega,by simp,HXX⟩
    · go_simp;refine hK.out _ _ (fun h=>absurd h (by decide)) ?_;clear hK K'
      try simp only [Act.put,List.setIfInBounds_toArray,List.set_cons_zero,List.set_cons_succ]
      refine until_one (i:=11) (by kernel_rfl) rfl (fun K' hK=>?_);go_simp;refine hK.out _ _ (fun _=>kS.out) ?_;clear hK K'
      try simp only [Act.put,List.setIfInBounds_toArray,List.set_cons_zero,List.set_cons_succ]
      refine until_one (i:=13) (by kernel_rfl) rfl (fun K' hK=>?_);go_simp;refine hK.out _ _ (fun h=>absurd h (by decide)) ?_;clear hK K'
      try simp only [Act.put,List.setIfInBounds_toArray,List.set_cons_zero,List.set_cons_succ]
      refine until_done (by kernel_rfl) ?_ _;clear kS z0 z1 z2 zf0 zf1 zf2 HV HN3 HA2 H3N HXN mk hX2 hA2;go_wp2;go_roundg (gk-1)
      case measure=>omega
      case rel=>exact ⟨i+1,by omega,by simp,HXX⟩
  · obtain rfl:i=8:=by omega
    obtain rfl:gk=0:=by omega
    obtain ⟨v1,S1,S2⟩:=HW.out.sum;have l1:=(fo8_len (kv T K 8) EB (Nat.le_trans EB5 (by decide)) (HBG.out 8 (by omega))).1;obtain ⟨n1,hn1⟩:∃ b,b=dN (fo8 (kv T K 8)):=⟨_,rfl⟩;obtain ⟨e1,he1⟩:∃ b,b=dE (fo8 (kv T K 8)):=⟨_,rfl⟩;obtain ⟨X1,hX1⟩:∃ b,b=dX (fo8 (kv T K 8)):=⟨_,rfl⟩;rw [←hn1,←he1] at S1;rw [←hX1] at S2 l1;have HNM:=qsd (ai hn1 (ai he1 hX1));obtain ⟨a1,c1,rfl,_⟩:=S2.arg (Nat.le_trans l1 (by decide));obtain ⟨y0,y1,y2,yf0,yf1,yf2⟩:=S1.facts;have R2:=HW.out.res;obtain ⟨z0,z1,z2,zf0,zf1,zf2⟩:=R2.facts;have hbt:=st3_but8 w.heap.size wr (.bool n1) (.slice a1 (ws X1).length c1) (.int .i64 e1);have HF:=qsd (ai (R2.set n1 (.slice a1 (ws X1).length c1) e1) (ai ((S2.mono (show w.heap.size≤w.heap.size+2 by omega)).dk8 R2 hbt) (But.below HW.out.bel hbt HW.out.bel.size (Nat.le_refl _))));clear HX HL HA HC S1 S2 R2 hbt HW hn1 he1 hX1;go_wp2;refine close8 Tryz.results40 (g:=w.heap.size) (n:=n1) (v:=.slice a1 (ws X1).length c1) (e:=e1) rfl HF.out.1 ?_;rw [←HNM.out.1,←HNM.out.2.1,←HNM.out.2.2];exact ⟨⟨_,rfl,HF.out.2.1⟩,HF.out.2.2⟩
end
section
open Go Go.RowKit
def kvz (f:Nat) (L:List Nat):Int:=kv (tL (ZL L)) (kf f (tL (ZL L)) (SL (ZL L))) 8
theorem ZL_div (L:List Nat):∀ z ∈ ZL L,(16384:Int) ∣ z:=by
 intro z hz;obtain ⟨x,_,rfl⟩:=List.mem_map.1 hz;exact ⟨fvW x,by unfold zW;rw [Int.mul_comm]⟩
theorem kf_hi (f:Nat) (L:List Nat) (hl:L.length≤1099511627776) (i:Nat):(kf f (tL (ZL L)) (SL (ZL L)) i).natAbs≤2^75:=by
 unfold kf;split
 · have:=SL_hi L hl (tL (ZL L)-i);omega
 · simp
theorem kvz_EB (f:Nat) (L:List Nat) (hF:Fin9 L) (hl:L.length≤1099511627776):(kvz f L).natAbs<2^EB:=kv_EB _ _ 8 (Nat.le_refl _) (by have:=tL_hi L hF;omega) (kf_hi f L hl)
theorem Kept9 (g f:Nat) (L:List Nat) (w:World) (hB:Bz w g f L) (hF:Fin9 L) (hl:L.length≤1099511627776) (hT:Tab w) :
 Calls Tryz.prog 40 #[.pointer (some ⟨g,0,none⟩)] w fun r w'=>(∃ v,r=.returned (.agg #[.bool (dN (fo8 (kvz f L))),v,.int .i64 (dE (fo8 (kvz f L)))])∧Nt w.heap.size w' v (dX (fo8 (kvz f L))))∧Below w.heap.size w w':=by
 have b1:=tL_ge (ZL L);have b2:=tL_hi L hF;have hK:=kf_hi f L hl;obtain ⟨K,hKK⟩:∃ K,K=kf f (tL (ZL L)) (SL (ZL L)):=⟨_,rfl⟩;obtain ⟨T,hTT⟩:∃ T,T=tL (ZL L):=⟨_,rfl⟩
 have hz:∀ i:Nat,T-i<0→K i=0:=fun i hi=>by
  rw [hKK];unfold kf;split
  · rw [←hTT];exact SL_neg _ _ hi
  · rfl
 have hd:∀ i:Nat,T-i=0→(16384:Int) ∣ K i:=fun i hi=>by
  rw [hKK];unfold kf;split
  · rw [←hTT,hi];exact SL_div _ (ZL_div L)
  · exact ⟨0,rfl⟩
 unfold kvz;rw [←hKK,←hTT];rw [←hKK] at hK;rw [←hTT] at b1 b2;have hbig:∀ i,i≤8→(kv T K i).natAbs<2^EB:=fun i hi=>kv_EB T K i hi (by omega) hK;have hvb:∀ i:Nat,(vb (T-i) (K i)).natAbs<2^EB:=fun i=>vb_EB _ _ (by omega) (hK i);have e5:EB≤200000:=Nat.le_trans EB5 (by decide);refine Kept_core g T K w hB.lt ⟨b1,b2⟩ hbig (hid (fun u hu=>?_)) (hid (fun i hi u hu=>?_)) (hid (fun i hi=>?_)) (hid (fun i hi u a c b d hu A1 A2=>?_))
 · have hB2:=hB.below hu hB.lt;refine ⟨by rw [hTT];exact Bs.tp hB2,Bs.row hB2 K hKK.symm⟩
 · have:=exact9 (K i) (T-i) (by omega) (hz i) (hd i) (hK i) u (hT.belows hu);rw [show T-(i:Int)-34=T-34-i by omega] at this;exact this
 · exact (fo8_len _ EB e5 (hvb i)).1
 · obtain ⟨q1,q2,q3,_⟩:=fo8_len (vb (T-i) (K i)) EB e5 (hvb i);have:=add_any8 (kv T K i) (vb (T-i) (K i)) EB EB5 (hbig i (by omega)) (hvb i) (dE (fo8 (vb (T-i) (K i)))) q2 q3 (dN (fo8 (vb (T-i) (K i)))) (dX (fo8 (vb (T-i) (K i)))) (fo8_self _ EB e5 (hvb i)) u a b c d (hT.belows hu) A1 A2;exact this
end
section
open Go.RowKit
def Fs (B:Nat) (w:World) (ao:Option Addr) (xs:List Nat):Prop :=
 xs≠[]→∃ b off,b<B∧ao=some ⟨b,off,none⟩∧∀ i,i<xs.length→w.cell? ⟨b,off+i,none⟩=some (.float .f64 (xs.getD i 0))
theorem Fs.at {B:Nat}{w w':World}{ao:Option Addr}{xs:List Nat}(h:Fs B w ao xs) (hb:Below B w w') (i:Nat) (hi:i<xs.length):∃ b off,ao=some ⟨b,off,none⟩∧w'.cell? ⟨b,off+i,none⟩=some (.float .f64 (xs.getD i 0)):=by
 obtain ⟨b,off,h1,h2,h3⟩:=h (by intro e;subst e;simp at hi);exact ⟨b,off,h2,(hb.cell (p:=⟨b,off+i,none⟩) h1).trans (h3 i hi)⟩
theorem Fs.below {B:Nat}{w w':World}{ao:Option Addr}{xs:List Nat}(h:Fs B w ao xs) (hb:Below B w w'):Fs B w' ao xs:=by
 intro hne;obtain ⟨b,off,h1,h2,h3⟩:=h hne;exact ⟨b,off,h1,h2,fun i hi=>(hb.cell (p:=⟨b,off+i,none⟩) h1).trans (h3 i hi)⟩
theorem Fs.mono {B B':Nat}{w:World}{ao:Option Addr}{xs:List Nat}(h:Fs B w ao xs) (hb:B≤B'):Fs B' w ao xs:=by
 intro hne;obtain ⟨b,off,h1,h2,h3⟩:=h hne;exact ⟨b,off,Nat.lt_of_lt_of_le h1 hb,h2,h3⟩
theorem Fs.cell {B:Nat}{w w':World}{b off:Nat}{xs:List Nat}(h:Fs B w (some ⟨b,off,none⟩) xs) (hb:Below B w w') (i:Nat) (hi:i<xs.length):w'.cell? ⟨b,off+i,none⟩=some (.float .f64 (xs.getD i 0)):=by
 obtain ⟨b',off',e,hc⟩:=h.at hb i hi
 cases e
 exact hc
def W64 (xs:List Nat):Prop:=∀ x ∈ xs,x<18446744073709551616
theorem W64.get {xs:List Nat}(h:W64 xs) (i:Nat):xs.getD i 0<18446744073709551616:=by
 by_cases hi:i<xs.length
 · rw [List.getD_eq_getElem?_getD,List.getElem?_eq_getElem hi];exact h _ (List.getElem_mem hi)
 · rw [List.getD_eq_getElem?_getD,List.getElem?_eq_none (by omega)];simp
end
end Go.Proofs.YtepkabljmpbmaaaGreatDoor
