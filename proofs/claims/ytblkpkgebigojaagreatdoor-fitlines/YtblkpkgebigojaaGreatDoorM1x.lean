import Derived.Deep.LoopGhost
import Derived.Test.YtblkpkgebigojaaGreatDoorProg
import Derived.WalkKit
import Derived.OwnWalk
import Derived.Below
import Derived.Laws.OwnMore
import Derived.Laws.CopyOwn
import Derived.Laws.Bits64b
import Derived.Deep.RegionWith
import Derived.Lib.Strings
import Derived.Lib.Slices
import Derived.Lib.Small
import Derived.Lib.Walk
import Derived.Lib.BitFns
import Derived.Lib.Tables
import Derived.Lib.ItoaNum
import Derived.Lib.TrailingZeros
set_option linter.unusedVariables false
set_option linter.unusedSimpArgs false
set_option maxHeartbeats 16000000
set_option maxRecDepth 20000
namespace Go.Proofs.YtblkpkgebigojaaGreatDoor
theorem ah {A:Sort _} (a:A):∃ x,x=a:=⟨a,rfl⟩
theorem bB {a0 a1:Prop} (h0:a0) (h1:a1):Go.Aside (a0∧a1):=⟨h0,h1⟩
theorem fB {a0 a1 a2:Prop} (h0:a0) (h1:a1) (h2:a2):Go.Aside (a0∧a1∧a2):=⟨h0,h1,h2⟩
theorem jK {a0 a1 a2 a3:Prop} (h0:a0) (h1:a1) (h2:a2) (h3:a3):Go.Aside (a0∧a1∧a2∧a3):=⟨h0,h1,h2,h3⟩
theorem gZ {a0 a1 a2 a3 a4:Prop} (h0:a0) (h1:a1) (h2:a2) (h3:a3) (h4:a4):Go.Aside (a0∧a1∧a2∧a3∧a4):=⟨h0,h1,h2,h3,h4⟩
theorem jE {a0 a1 a2 a3 a4 a5:Prop} (h0:a0) (h1:a1) (h2:a2) (h3:a3) (h4:a4) (h5:a5):Go.Aside (a0∧a1∧a2∧a3∧a4∧a5):=⟨h0,h1,h2,h3,h4,h5⟩
theorem rZ {a0 a1 a2 a3 a4 a5 a6:Prop} (h0:a0) (h1:a1) (h2:a2) (h3:a3) (h4:a4) (h5:a5) (h6:a6):Go.Aside (a0∧a1∧a2∧a3∧a4∧a5∧a6):=⟨h0,h1,h2,h3,h4,h5,h6⟩
theorem r9 {a0 a1 a2 a3 a4 a5 a6 a7:Prop} (h0:a0) (h1:a1) (h2:a2) (h3:a3) (h4:a4) (h5:a5) (h6:a6) (h7:a7):Go.Aside (a0∧a1∧a2∧a3∧a4∧a5∧a6∧a7):=⟨h0,h1,h2,h3,h4,h5,h6,h7⟩
theorem Af {a0 a1 a2 a3 a4 a5 a6 a7 a8:Prop} (h0:a0) (h1:a1) (h2:a2) (h3:a3) (h4:a4) (h5:a5) (h6:a6) (h7:a7) (h8:a8):Go.Aside (a0∧a1∧a2∧a3∧a4∧a5∧a6∧a7∧a8):=⟨h0,h1,h2,h3,h4,h5,h6,h7,h8⟩
theorem ow {a0 a1 a2 a3 a4 a5 a6 a7 a8 a9:Prop} (h0:a0) (h1:a1) (h2:a2) (h3:a3) (h4:a4) (h5:a5) (h6:a6) (h7:a7) (h8:a8) (h9:a9):Go.Aside (a0∧a1∧a2∧a3∧a4∧a5∧a6∧a7∧a8∧a9):=⟨h0,h1,h2,h3,h4,h5,h6,h7,h8,h9⟩
theorem Il {a0 a1 a2 a3 a4 a5 a6 a7 a8 a9 Wu:Prop} (h0:a0) (h1:a1) (h2:a2) (h3:a3) (h4:a4) (h5:a5) (h6:a6) (h7:a7) (h8:a8) (h9:a9) (h10:Wu):Go.Aside (a0∧a1∧a2∧a3∧a4∧a5∧a6∧a7∧a8∧a9∧Wu):=⟨h0,h1,h2,h3,h4,h5,h6,h7,h8,h9,h10⟩
theorem ZL {a0 a1 a2 a3 a4 a5 a6 a7 a8 a9 Wu a11:Prop} (h0:a0) (h1:a1) (h2:a2) (h3:a3) (h4:a4) (h5:a5) (h6:a6) (h7:a7) (h8:a8) (h9:a9) (h10:Wu) (h11:a11):Go.Aside (a0∧a1∧a2∧a3∧a4∧a5∧a6∧a7∧a8∧a9∧Wu∧a11):=⟨h0,h1,h2,h3,h4,h5,h6,h7,h8,h9,h10,h11⟩
theorem _root_.Go.Aside.o {p:Prop} (h:Go.Aside p):p:=h.out
theorem _root_.Go.RowKit.Hid.o {p:Prop} (h:Go.RowKit.Hid p):p:=h.out
theorem _root_.And.r2 {a0 a1 a2:Prop} (h:a0∧a1∧a2):a2:=h.2.2
theorem _root_.And.r3 {a0 a1 a2 a3:Prop} (h:a0∧a1∧a2∧a3):a3:=h.2.2.2
theorem _root_.And.r4 {a0 a1 a2 a3 a4:Prop} (h:a0∧a1∧a2∧a3∧a4):a4:=h.2.2.2.2
theorem _root_.And.r5 {a0 a1 a2 a3 a4 a5:Prop} (h:a0∧a1∧a2∧a3∧a4∧a5):a5:=h.2.2.2.2.2
theorem _root_.And.r6 {a0 a1 a2 a3 a4 a5 a6:Prop} (h:a0∧a1∧a2∧a3∧a4∧a5∧a6):a6:=h.2.2.2.2.2.2
theorem _root_.And.r7 {a0 a1 a2 a3 a4 a5 a6 a7:Prop} (h:a0∧a1∧a2∧a3∧a4∧a5∧a6∧a7):a7:=h.2.2.2.2.2.2.2
theorem _root_.And.r8 {a0 a1 a2 a3 a4 a5 a6 a7 a8:Prop} (h:a0∧a1∧a2∧a3∧a4∧a5∧a6∧a7∧a8):a8:=h.2.2.2.2.2.2.2.2
abbrev aH:=@Nat.le_refl
abbrev aR:=@Nat.pow_add
abbrev aU:=@Nat.mul_assoc
abbrev bK:=@Nat.two_pow_pos
abbrev dh:=@Nat.mul_comm
abbrev dD:=@Nat.le_trans
abbrev dI:=@Nat.zero_add
abbrev eQ:=@List.getD_eq_getElem?_getD
abbrev fU:=@Nat.add_mul
abbrev gF:=@Nat.mul_le_mul_right
abbrev dS:=@Nat.pow_succ
abbrev dU:=@Nat.mul_one
abbrev dZ:=@Nat.zero_mul
abbrev eF:=@List.take_of_length_le
abbrev eZ:=@List.length_take
abbrev fq:=@Int.natCast_mul
abbrev fu:=@Nat.mul_le_mul_left
abbrev fw:=@Bool.false_eq_true
abbrev fE:=@Nat.pow_le_pow_right
abbrev fF:=@List.getElem?_eq_getElem
abbrev fG:=@Nat.pow_zero
abbrev fJ:=@Array.getElem?_eq_some_iff
abbrev fM:=@Nat.mul_lt_mul_of_pos_right
abbrev ic:=@Nat.div_eq_of_lt
abbrev iq:=@Nat.one_mul
abbrev iw:=@Nat.add_zero
abbrev iy:=@Nat.lt_of_le_of_lt
abbrev iF:=@Nat.lt_of_lt_of_le
abbrev iX:=@Nat.min_eq_left
abbrev jc:=@Bool.toNat_true
abbrev jd:=@Bool.toNat_false
abbrev jk:=@Nat.mod_eq_of_lt
abbrev jl:=@Nat.mod_lt
abbrev jm:=@Nat.mul_pos
abbrev jM:=@Array.getElem?_modify
abbrev jN:=@Nat.le_of_lt
abbrev jO:=@Nat.eq_zero_or_pos
abbrev jP:=@Nat.pow_lt_pow_iff_right
abbrev kr:=@List.mem_of_mem_take
abbrev ku:=@Nat.pow_one
abbrev kM:=@Nat.mul_le_mul
abbrev kN:=@Int.mul_assoc
abbrev lg:=@Nat.add_sub_cancel
abbrev lh:=@Nat.zero_le
abbrev mG:=@Nat.mul_add
abbrev mH:=@Nat.lt_or_ge
abbrev mI:=@Nat.mul_lt_mul_right
abbrev mP:=@List.getElem_mem
abbrev mQ:=@List.getElem?_eq_none
abbrev mR:=@List.length_cons
abbrev mU:=@Nat.add_assoc
abbrev mV:=@Nat.add_comm
abbrev mW:=@Nat.pow_mul
abbrev mX:=@Nat.mul_zero
abbrev mY:=@Nat.lt_trichotomy
abbrev oJ:=@Nat.div_add_mod
abbrev oL:=@Nat.div_le_self
abbrev oM:=@Int.toNat_natCast
abbrev oO:=@List.getElem?_append_right
abbrev oU:=@Nat.eq_of_mul_eq_mul_right
abbrev pW:=@List.length_drop
abbrev p9:=@Nat.add_mul_div_left
abbrev si:=@Nat.pow_pos
abbrev sj:=@Nat.mul_div_cancel_left
abbrev sw:=@Nat.div_div_eq_div_mul
abbrev sD:=@Int.compare_eq_lt
abbrev sF:=@Int.compare_eq_gt
abbrev sG:=@Int.compare_eq_eq
abbrev sH:=@Nat.mul_mul_mul_comm
abbrev uC:=@Nat.div_lt_iff_lt_mul
abbrev uD:=@List.getElem?_eq_some_iff
abbrev uE:=@List.mem_map
abbrev wZ:=@List.take_succ_eq_append_getElem
abbrev w9:=@Nat.mul_lt_mul_of_pos_left
abbrev xc:=@Nat.add_mul_mod_self_left
abbrev xe:=@Int.emod_eq_of_lt
abbrev xg:=@List.drop_of_length_le
abbrev xh:=@List.length_replicate
abbrev xk:=@List.getElem?_append_left
abbrev xm:=@List.length_map
abbrev xn:=@Int.le_of_lt
abbrev xq:=@List.append_assoc
abbrev xu:=@Bool.and_eq_true
abbrev xw:=@Bool.eq_iff_iff
abbrev xz:=@Nat.mul_right_comm
abbrev xA:=@Nat.mul_pow
abbrev xB:=@Bool.false_ne_true
abbrev xC:=@Bool.false_and
abbrev xD:=@Bool.true_and
abbrev Ag:=@List.drop_replicate
abbrev Ah:=@Int.natCast_add
abbrev Ai:=@List.map_append
abbrev Aj:=@List.length_append
abbrev Ak:=@Nat.sub_self
abbrev Am:=@Option.isSome_iff_exists
abbrev Ao:=@List.eq_nil_of_length_eq_zero
abbrev Aq:=@Nat.mul_lt_mul''
abbrev Ar:=@Nat.le_div_iff_mul_le
abbrev Au:=@Nat.lt_of_mul_lt_mul_right
abbrev Aw:=@List.mem_cons_self
abbrev uF:=@Nat.le_mul_of_pos_left
abbrev uG:=@List.length_zip
abbrev yC:=@List.mem_singleton
abbrev yD:=@Nat.le_of_not_lt
abbrev yE:=@Nat.shiftLeft_eq
abbrev yF:=@Nat.sub_add_cancel
abbrev yG:=@Int.mul_lt_mul_of_pos_right
abbrev yH:=@Int.lt_of_mul_lt_mul_right
abbrev yI:=@List.size_toArray
abbrev yJ:=@Array.length_toList
abbrev yK:=@List.length_nil
abbrev yL:=@List.take_append_of_le_length
abbrev yM:=@List.foldl_append
abbrev yN:=@List.mem_cons_of_mem
abbrev Dx:=@List.length_eq_zero_iff
abbrev Dy:=@Nat.shiftRight_xor_distrib
abbrev Dz:=@List.getElem?_replicate
abbrev DC:=@Nat.two_pow_add_eq_or_of_lt
abbrev DF:=@Nat.add_sub_cancel_left
abbrev DI:=@Nat.mod_two_eq_zero_or_one
abbrev DJ:=@Nat.and_two_pow_sub_one_eq_mod
abbrev DN:=@Classical.choose_spec
abbrev DT:=@Int.mul_neg_of_neg_of_pos
abbrev aI:=@Go.bodyPost_ret
abbrev ak:=@Go.RowKit.Below.refl
abbrev iH:=@Go.World.size_alloc
abbrev mM:=@Go.World.block_lt_of_cell?
abbrev iJ:=@Go.heap_alloc_new
abbrev dQ:=@Go.Calls.mono
abbrev ky:=@Go.IntKind.wrap_u64
abbrev wF:=@Go.World.cell?_of_block
abbrev Pw:=@Go.IntKind.wrap_i64
abbrev Ay:=@Go.World.ownsRow_nil
abbrev jF:=@Go.RowKit.Below.drew
theorem ai {a b:Prop} (x:a) (y:b):a/\b:=⟨x,y⟩
theorem ay {a:Prop} (x:a):Aside a:=x
theorem ae {p:Prop} (h:p:=by omega):p:=h
theorem aO {p:Prop} (h:p:=by decide):p:=h
theorem bS {p:Prop} (h:p:=by kernel_rfl):p:=h
theorem aW {p:Prop} (h:p:=by simp):p:=h
section
def pw (k:Nat):Nat:=4294967296^k
theorem jf:pw 0=1:=by simp [pw]
theorem bI (k:Nat):pw (k+1)=4294967296*pw k:=by simp [pw,dS,dh]
theorem qP (i k:Nat):pw (i+k)=pw i*pw k:=by simp [pw,aR]
theorem iI (k:Nat):0<pw k:=si aO
theorem jT {i k:Nat}(h:i<=k):pw i<=pw k:=fE aO h
def val:List Nat->Nat
 | []=>0
 | x::xs=>x+4294967296*val xs
def Wf (xs:List Nat):Prop:=∀ x ∈ xs,x<4294967296
theorem Wf.nil:Wf []:=by intro x hx;cases hx
theorem Wf.cons {x:Nat}{xs:List Nat}(hx:x<4294967296) (h:Wf xs):Wf (x::xs):=by
 intro y hy;cases hy with
 | head=>exact hx
 | tail _ hy=>exact h y hy
theorem Wf.head {x:Nat}{xs:List Nat}(h:Wf (x::xs)):x<4294967296:=h x aW
theorem Wf.tail {x:Nat}{xs:List Nat}(h:Wf (x::xs)):Wf xs:=fun y hy=>h y (by simp [hy])
theorem Wf.get {xs:List Nat}(h:Wf xs) (k:Nat):xs.getD k 0<4294967296:=by
 by_cases hk:k<xs.length
 · rw [eQ,fF hk];exact h _ (mP hk)
 · rw [eQ,mQ ae];decide
theorem Wf.take {xs:List Nat}(h:Wf xs) (k:Nat):Wf (xs.take k):=fun y hy=>h y (kr hy)
theorem Wf.drop {xs:List Nat}(h:Wf xs) (k:Nat):Wf (xs.drop k):=fun y hy=>h y (List.mem_of_mem_drop hy)
theorem Wf.append {xs ys:List Nat}(h:Wf xs) (k:Wf ys):Wf (xs++ys):=by
 intro y hy;rcases List.mem_append.1 hy with hy | hy
 · exact h y hy
 · exact k y hy
theorem Wf.set {xs:List Nat}(h:Wf xs) (k x:Nat) (hx:x<4294967296):Wf (xs.set k x):=by
 intro y hy;rcases List.mem_or_eq_of_mem_set hy with hy | hy
 · exact h y hy
 · omega
theorem Wf.zeros (n:Nat):Wf (List.replicate n 0):=by intro y hy;have:=List.eq_of_mem_replicate hy;omega
theorem val_append (xs ys:List Nat):val (xs++ys)=val xs+pw xs.length*val ys:=by
 induction xs with
 | nil=>simp [val,jf]
 | cons x xs ih=>simp only [List.cons_append,val,ih,mR,bI];grind
theorem j5 (n:Nat):val (List.replicate n 0)=0:=by
 induction n with
 | zero=>rfl
 | succ n ih=>simp [List.replicate_succ,val,ih]
theorem iK (xs:List Nat) (k:Nat) (hk:k<xs.length):val (xs.take (k+1))=val (xs.take k)+pw k*xs.getD k 0:=by
 rw [wZ hk,val_append,eZ,iX ae,eQ,fF hk];simp [val]
theorem dM (xs:List Nat) (k:Nat) (hk:k<=xs.length):val xs=val (xs.take k)+pw k*val (xs.drop k):=by
 have h:=val_append (xs.take k) (xs.drop k);rw [List.take_append_drop,eZ,iX hk] at h;exact h
theorem dz (xs:List Nat) (k:Nat) (hk:k<xs.length):val (xs.drop k)=xs.getD k 0+4294967296*val (xs.drop (k+1)):=by
 rw [List.drop_eq_getElem_cons hk,val,eQ,fF hk];rfl
theorem cK (xs:List Nat) (h:Wf xs):val xs<pw xs.length:=by
 induction xs with
 | nil=>simp [val,jf]
 | cons x xs ih =>
   have h1:=ih h.tail;have h2:=h.head;simp only [val,mR,bI];omega
def ws (n:Nat):List Nat:=if h:n=0 then [] else n%4294967296::ws (n/4294967296)
termination_by n
decreasing_by omega
theorem bN:ws 0=[]:=by rw [ws];simp
theorem mZ (n:Nat) (h:n≠0):ws n=n%4294967296::ws (n/4294967296):=by rw [ws];simp [h]
theorem ax (n:Nat):val (ws n)=n:=by
 induction n using Nat.strongRecOn with
 | _ n ih =>
   by_cases h:n=0
   · subst h;simp [bN,val]
   · rw [mZ n h,val,ih (n/4294967296) ae];omega
theorem fV (n:Nat):Wf (ws n):=by
 induction n using Nat.strongRecOn with
 | _ n ih =>
   by_cases h:n=0
   · subst h;rw [bN];exact Wf.nil
   · rw [mZ n h];exact Wf.cons ae (ih _ ae)
def nl:List Nat->Nat
 | []=>0
 | x::xs=>if nl xs=0/\x=0 then 0 else nl xs+1
theorem jQ (xs:List Nat):nl xs<=xs.length:=by
 induction xs with
 | nil=>simp [nl]
 | cons x xs ih=>simp only [nl,mR];split <;> omega
theorem iY (xs:List Nat):nl xs=0↔val xs=0:=by
 induction xs with
 | nil=>simp [nl,val]
 | cons x xs ih=>simp only [nl,val];split <;> omega
theorem nP (xs:List Nat) (h:Wf xs):xs.take (nl xs)=ws (val xs):=by
 induction xs with
 | nil=>simp [nl,val,bN]
 | cons x xs ih =>
   have h1:=ih h.tail;have h2:=h.head
   by_cases h3:nl xs=0/\x=0
   · have h4:=(iY xs).1 h3.1;simp [nl,h3,val,h4,bN]
   · have h5:val (x::xs)≠0:=by
      intro h6;simp only [val] at h6;exact h3 ⟨(iY xs).2 ae,ae⟩
     rw [mZ _ h5];simp only [nl,if_neg h3,val,List.take_succ_cons];rw [show (x+4294967296*val xs)%4294967296=x by omega,show (x+4294967296*val xs)/4294967296=val xs by omega,h1]
theorem gG (xs:List Nat) (h:Wf xs):nl xs=(ws (val xs)).length:=by
 rw [<-nP xs h,eZ,iX (jQ xs)]
theorem kz (xs:List Nat) (h:Wf xs):val (xs.take (nl xs))=val xs:=by rw [nP xs h,ax]
theorem F5 (n:Nat):nl (ws n)=(ws n).length:=by rw [gG _ (fV n),ax]
theorem aV (n k:Nat):(ws n).length<=k↔n<pw k:=by
 constructor
 · intro h;have h1:=cK (ws n) (fV n);rw [ax] at h1;exact iF h1 (jT h)
 · intro h
   induction k generalizing n with
   | zero=>rw [jf] at h;obtain rfl:n=0:=ae
           simp [bN]
   | succ k ih =>
     by_cases h0:n=0
     · subst h0;simp [bN]
     · rw [mZ n h0,mR];rw [bI] at h;have:=ih (n/4294967296) ae;omega
theorem Im (n k:Nat) (h1:pw k<=n) (h2:n<pw (k+1)):(ws n).length=k+1:=by
 have a:=(aV n (k+1)).2 h2;have b:¬ (ws n).length<=k:=fun h=>by have:=(aV n k).1 h;omega
 omega
theorem qQ (n:Nat) (h:n≠0):pw ((ws n).length-1)<=n:=by
 have h1:¬ (ws n).length<=(ws n).length-1:=by
  have:(ws n).length≠0:=by rw [mZ n h];simp
  omega
 rw [aV] at h1;omega
theorem gM (n:Nat):n<pw (ws n).length:=(aV n _).1 (aH _)
theorem bZ (n:Nat):(ws n).length=0↔n=0:=by
 constructor
 · intro h;have:=gM n;rw [h,jf] at this;omega
 · intro h;subst h;simp [bN]
theorem tZ (xs:List Nat) (k:Nat) (hk:k<=xs.length) (h0:∀ j,k<=j->j<xs.length->xs.getD j 0=0) (h1:k=0\/xs.getD (k-1) 0≠0):nl xs=k:=by
 induction xs generalizing k with
 | nil=>simp at hk;simp [nl,hk]
 | cons x xs ih =>
   cases k with
   | zero =>
     have hx:=h0 0 ae aW;have:nl xs=0:=ih 0 ae (fun j _ hj=>by have:=h0 (j+1) ae (by simp;omega);simpa using this) (.inl rfl);simp at hx;simp [nl,this,hx]
   | succ k =>
     cases k with
     | zero =>
       have:nl xs=0:=ih 0 ae (fun j _ hj=>by have:=h0 (j+1) ae (by simp;omega);simpa using this) (.inl rfl);simp at h1;simp [nl,this,h1]
     | succ k =>
       have:nl xs=k+1:=ih (k+1) (by simpa using hk) (fun j hj hj2=>by have:=h0 (j+1) ae (by simp;omega);simpa using this) (.inr (by simpa using h1));simp [nl,this]
theorem F6 (xs:List Nat) (h:nl xs≠0):xs.getD (nl xs-1) 0≠0:=by
 induction xs with
 | nil=>simp [nl] at h
 | cons x xs ih =>
   by_cases h1:nl xs=0
   · have hx:x≠0:=by intro hx;simp [nl,h1,hx] at h
     simp [nl,h1,hx]
   · have h2:¬ (nl xs=0/\x=0):=ae
     have:=ih h1;simp only [nl,if_neg h2];obtain ⟨m,hm⟩:∃ m,nl xs=m+1:=⟨nl xs-1,ae⟩;rw [hm] at this |-;simpa using this
end
section
open Go.RowKit
theorem hid {p:Prop}(h:p):Hid p:=h
def U (n:Nat):Value:=.int .u32 (n:Int)
def Own (w:World) (g:Nat) (L:List Nat):Prop:=w.heap[g]?=some (.cells (L.map U).toArray 147 (0,0))
theorem Own.lt {w:World}{g:Nat}{L:List Nat}(h:Own w g L):g<w.heap.size:=(fJ.1 h).1
theorem Own.cell {w:World}{g:Nat}{L:List Nat}(h:Own w g L) (i:Nat) (hi:i<L.length):w.cell? ⟨g,i,none⟩=some (.int .u32 ((L.getD i 0:Nat):Int)):=by
 unfold Own at h;simp [World.cell?,h,U,hi]
theorem Own.frozen {w:World}{g:Nat}{L:List Nat}(h:Own w g L) (i:Nat):w.frozen? ⟨g,i,none⟩=false:=by
 unfold Own at h;simp [World.frozen?,h]
theorem Own.set {w:World}{g:Nat}{L:List Nat}(h:Own w g L) (i x:Nat):Own (w.setCell ⟨g,i,none⟩ (.int .u32 (x:Int))) g (L.set i x):=by
 unfold Own at h |-;simp only [World.setCell,jM,h];simp [U,List.map_set]
theorem Own.setOther {w:World}{g:Nat}{L:List Nat}(h:Own w g L) {a:Addr}(ha:a.block≠g) (u:Value):Own (w.setCell a u) g L:=by
 unfold Own at h |-;rw [Below.heap_setCell _ _ _ _ (fun e=>ha e.symm)];exact h
theorem Own.alloc {w:World}{g:Nat}{L:List Nat}(h:Own w g L) (o:Obj):Own (w.alloc o) g L:=by
 have:=h.lt;unfold Own at h |-;rw [Below.heap_alloc _ _ _ this];exact h
theorem Own.drew {w:World}{g:Nat}{L:List Nat}(h:Own w g L):Own w.drew g L:=h
theorem Own.below {w w':World}{g B:Nat}{L:List Nat}(h:Own w g L) (hb:Below B w w') (hg:g<B):Own w' g L:=by
 unfold Own at h |-;rw [hb.block g hg];exact h
structure But (g:Nat) (w w':World):Prop where
 os:w'.os=w.os
 tape:w'.tape=w.tape
 output:w'.output=w.output
 size:w.heap.size<=w'.heap.size
 block:∀ k,k<w.heap.size->k≠g->w'.heap[k]?=w.heap[k]?
theorem But.refl (g:Nat) (w:World):But g w w:=⟨rfl,rfl,rfl,aH _,fun _ _ _=>rfl⟩
theorem But.trans {g:Nat}{a b c:World}(h:But g a b) (k:But g b c):But g a c :=
 ⟨k.os.trans h.os,k.tape.trans h.tape,k.output.trans h.output,dD h.size k.size,fun i hi hg=>(k.block i (iF hi h.size) hg).trans (h.block i hi hg)⟩
theorem But.drew {g:Nat}{a w:World}(h:But g a w):But g a w.drew:=⟨h.os,h.tape,h.output,h.size,h.block⟩
theorem But.set {g:Nat}{a w:World}(h:But g a w) (i:Nat) (u:Value):But g a (w.setCell ⟨g,i,none⟩ u) :=
 h.trans ⟨rfl,rfl,rfl,by simp [World.setCell],fun k _ hk=>Below.heap_setCell _ _ _ _ hk⟩
theorem But.of_below {g:Nat}{a w w':World}(h:But g a w) (hb:Below w.heap.size w w'):But g a w' :=
 h.trans ⟨hb.os,hb.tape,hb.output,hb.size,fun k hk _=>hb.block k hk⟩
theorem But.below {g B:Nat}{a w w':World}(h:Below B a w) (hb:But g w w') (hB:B<=w.heap.size) (hg:B<=g):Below B a w' :=
 h.trans ⟨hb.os,hb.tape,hb.output,hb.size,fun k hk=>hb.block k ae ae⟩
def Rd (B:Nat) (w:World) (ao:Option Addr) (xs:List Nat):Prop :=
 xs≠[]->∃ b off,b<B/\ao=some ⟨b,off,none⟩/\∀ i,i<xs.length->w.cell? ⟨b,off+i,none⟩=some (.int .u32 ((xs.getD i 0:Nat):Int))
theorem Rd.nil (B:Nat) (w:World) (ao:Option Addr):Rd B w ao []:=fun h=>absurd rfl h
theorem Rd.below {B:Nat}{w w':World}{ao:Option Addr}{xs:List Nat}(h:Rd B w ao xs) (hb:Below B w w'):Rd B w' ao xs:=by
 intro hx;obtain ⟨b,off,hlt,rfl,hc⟩:=h hx;exact ⟨b,off,hlt,rfl,fun i hi=>(hb.cell (p:=⟨b,off+i,none⟩) hlt).trans (hc i hi)⟩
theorem Rd.but {B g:Nat}{w w':World}{ao:Option Addr}{xs:List Nat}(h:Rd B w ao xs) (hb:But g w w') (hB:B<=w.heap.size) (hg:B<=g):Rd B w' ao xs :=
 h.below (But.below (ak _ _) hb hB hg)
theorem Rd.mono {B B':Nat}{w:World}{ao:Option Addr}{xs:List Nat}(h:Rd B w ao xs) (hB:B<=B'):Rd B' w ao xs:=by
 intro hx;obtain ⟨b,off,hlt,rfl,hc⟩:=h hx;exact ⟨b,off,ae,rfl,hc⟩
theorem Rd.take {B:Nat}{w:World}{ao:Option Addr}{xs:List Nat}(h:Rd B w ao xs) (k:Nat):Rd B w ao (xs.take k):=by
 intro hx;have hx':xs≠[]:=by intro e;subst e;simp at hx
 obtain ⟨b,off,hlt,rfl,hc⟩:=h hx';refine ⟨b,off,hlt,rfl,fun i hi=>?_⟩;simp only [eZ] at hi;rw [hc i ae];simp [eQ,show i<k by omega]
theorem Rd.gJ {w:World}{g:Nat}{L:List Nat}(h:Own w g L) (off n:Nat):Rd (g+1) w (some ⟨g,off,none⟩) ((L.drop off).take n):=by
 intro _;refine ⟨g,off,ae,rfl,fun i hi=>?_⟩;simp only [eZ,pW] at hi;rw [h.cell _ ae];simp [eQ,show i<n by omega]
def Nt (lo:Nat) (w:World) (v:Value) (X:Nat):Prop:=w.ownsRow lo 147 1 v (ws X).length ((ws X).map U)
theorem Nt.nil (lo:Nat) (w:World):Nt lo w (.slice none 0 0) 0:=by
 unfold Nt;rw [bN];exact Ay _ _ _ _
theorem Nt.gJ {lo:Nat}{w:World}{g:Nat}{L:List Nat}(h:Own w g L) (hlo:lo<=g) (hL:Wf L) (hm:L.length<=maxLen) :
 Nt lo w (.slice (some ⟨g,0,none⟩) (nl L) L.length) (val L):=by
 unfold Nt;have e:=nP L hL;have hn:=jQ L;rw [<-e];refine ⟨aW,.inr ⟨g,L.length,(L.map U).toArray,?_,hlo,h,?_,hm,aW,aW⟩⟩
 · simp [iX hn]
 · simp;omega
theorem Nt.shape {lo:Nat}{w:World}{v:Value}{X:Nat}(h:Nt lo w v X):∃ ao cap,v=.slice ao (ws X).length cap/\(ws X).length<=cap/\cap<=maxLen/\Rd w.heap.size w ao (ws X):=by
 rcases h.2 with ⟨rfl,h0⟩|⟨g,cap,cur,rfl,hlo,hg,hn,hm,hs,ht⟩
 · refine ⟨none,0,by rw [h0],ae,by unfold maxLen;omega,?_⟩;have:ws X=[]:=Dx.1 h0;rw [this];exact Rd.nil _ _ _
 · refine ⟨_,cap,rfl,hn,hm,fun _=>⟨g,0,(fJ.1 hg).1,rfl,fun i hi=>?_⟩⟩;have:=h.cells (g:=g) (by simp [Value.ownBlock]) i (U ((ws X).getD i 0)) (by simp [hi]);have e:(⟨g,0,none⟩:Addr).add i=⟨g,0+i,none⟩:=by unfold Addr.add;split <;> simp_all
   rw [e] at this;simpa [U] using this
theorem Nt.below {lo:Nat}{w w':World}{v:Value}{X:Nat}(h:Nt lo w v X) (hb:Below w.heap.size w w'):Nt lo w' v X:=by
 refine ⟨h.1,?_⟩;rcases h.2 with hn|⟨g,cap,cur,rfl,hlo,hg,rest⟩
 · exact .inl hn
 · refine .inr ⟨g,cap,cur,rfl,hlo,?_,rest⟩;rw [hb.block g (fJ.1 hg).1];exact hg
theorem Nt.mono {lo lo':Nat}{w:World}{v:Value}{X:Nat}(h:Nt lo w v X) (hl:lo'<=lo):Nt lo' w v X:=by
 refine ⟨h.1,?_⟩;rcases h.2 with hn|⟨g,cap,cur,rfl,hlo,rest⟩
 · exact .inl hn
 · exact .inr ⟨g,cap,cur,rfl,ae,rest⟩
theorem Tryz.uf:(Tryz.prog.info? 147).map (fun i=>(i.zero,i.size,i.bytes))=some (some (.int .u32 0),1,4):=by kernel_rfl
def Fs (B:Nat) (w:World) (ao:Option Addr) (xs:List Nat):Prop :=
 xs≠[]->∃ b off,b<B/\ao=some ⟨b,off,none⟩/\∀ i,i<xs.length->w.cell? ⟨b,off+i,none⟩=some (.float .f64 (xs.getD i 0))
theorem Fs.at {B:Nat}{w w':World}{ao:Option Addr}{xs:List Nat}(h:Fs B w ao xs) (hb:Below B w w') (i:Nat) (hi:i<xs.length):∃ b off,ao=some ⟨b,off,none⟩/\w'.cell? ⟨b,off+i,none⟩=some (.float .f64 (xs.getD i 0)):=by
 obtain ⟨b,off,h1,h2,h3⟩:=h (by intro e;subst e;simp at hi);exact ⟨b,off,h2,(hb.cell (p:=⟨b,off+i,none⟩) h1).trans (h3 i hi)⟩
theorem Fs.below {B:Nat}{w w':World}{ao:Option Addr}{xs:List Nat}(h:Fs B w ao xs) (hb:Below B w w'):Fs B w' ao xs:=by
 intro hne;obtain ⟨b,off,h1,h2,h3⟩:=h hne;exact ⟨b,off,h1,h2,fun i hi=>(hb.cell (p:=⟨b,off+i,none⟩) h1).trans (h3 i hi)⟩
theorem Fs.mono {B B':Nat}{w:World}{ao:Option Addr}{xs:List Nat}(h:Fs B w ao xs) (hb:B<=B'):Fs B' w ao xs:=by
 intro hne;obtain ⟨b,off,h1,h2,h3⟩:=h hne;exact ⟨b,off,iF h1 hb,h2,h3⟩
def iZ (xs:List Nat):Prop:=∀ x ∈ xs,x<18446744073709551616
theorem iZ.get {xs:List Nat}(h:iZ xs) (i:Nat):xs.getD i 0<18446744073709551616:=by
 by_cases hi:i<xs.length
 · rw [eQ,fF hi];exact h _ (mP hi)
 · rw [eQ,mQ ae];simp
theorem dV (xs:List Nat) (ao:Option Addr) (n cap B:Nat) (w:World) (hn:n=xs.length) (hc:n<=cap) (hm:n<=9223372036854775807) (hR:Rd B w ao xs) :
 Calls Tryz.prog 127 #[.slice ao n cap] w fun r w'=>r=.returned (.slice ao (nl xs) cap)/\w'=w:=by
 by_cases hx:xs=[]
 · subst hx;simp at hn;subst hn;go_enter Tryz.func127,Tryz.ntmps127;go_wp2
   go_loopg [0] 0 (fun g s wr=>s=.slice ao 0 cap/\wr=w)
   case atStart=>exact ⟨rfl,rfl⟩
   case round =>
    obtain ⟨rfl,rfl⟩:=hrel;go_wp2;go_ret;exact ⟨rfl,rfl⟩
 · obtain ⟨b,off,hB,rfl,hcell⟩:=hR hx;have HN:Aside (n=xs.length):=hn;clear hn hR hx;go_enter Tryz.func127,Tryz.ntmps127;go_wp2
   go_loopg [0] n (fun g s wr=>g<=n/\s=.slice (some ⟨b,off,none⟩) g cap/\wr=w/\Aside (∀ j,g<=j->j<n->xs.getD j 0=0))
   case atStart=>exact ⟨aH _,rfl,rfl,fun j h1 h2=>by omega⟩
   case round =>
    obtain ⟨hk,rfl,rfl,hz⟩:=hrel
    by_cases hk0:gk=0
    · subst hk0;go_wp2;go_ret;rw [tZ xs 0 ae (fun j h1 h2=>hz.o j h1 (by have:=HN.o;omega)) (.inl rfl)];exact ⟨rfl,rfl⟩
    · obtain ⟨k,rfl⟩:∃ k,gk=k+1:=⟨gk-1,ae⟩;have hcx:=hcell k (by have:=HN.o;omega);obtain ⟨x,fH⟩:∃ x:Nat,xs.getD k 0=x:=⟨_,rfl⟩;rw [fH] at hcx;have HX:Aside (xs.getD k 0=x):=fH;clear fH hcell hk0
      by_cases h0:x=0
      · subst h0;go_wp2;go_roundg k
        case measure=>omega
        case rel =>
         refine ⟨ae,rfl,rfl,fun j h1 h2=>?_⟩
         by_cases hj:j=k
         · subst hj;exact HX.o
         · exact hz.o j ae h2
      · go_wp2;go_ret;rw [tZ xs (k+1) (by have:=HN.o;omega) (fun j h1 h2=>hz.o j h1 (by have:=HN.o;omega)) (.inr (by have:=HX.o;rw [lg,this];exact h0))];exact ⟨rfl,rfl⟩
theorem ni (xs:List Nat) (ao:Option Addr) (n cap B:Nat) (w:World) (hn:n=xs.length) (hm:n<=9223372036854775807) (hR:Rd B w ao xs) :
 Calls Tryz.prog 167 #[.slice ao n cap] w fun r w'=>r=.returned (.int .i64 (nl xs:Nat))/\w'=w:=by
 by_cases hx:xs=[]
 · subst hx;simp at hn;subst hn;go_enter Tryz.func167,Tryz.ntmps167;go_wp2
   go_loopg [3] 0 (fun g s wr=>s=.int .i64 0/\wr=w)
   case atStart=>exact ⟨rfl,rfl⟩
   case round =>
    obtain ⟨rfl,rfl⟩:=hrel;go_wp2;go_ret;exact ⟨rfl,rfl⟩
 · obtain ⟨b,off,hB,rfl,hcell⟩:=hR hx;have HN:Aside (n=xs.length):=hn;clear hn hR hx;go_enter Tryz.func167,Tryz.ntmps167;go_wp2
   go_loopg [3] n (fun g s wr=>g<=n/\s=.int .i64 (g:Nat)/\wr=w/\Aside (∀ j,g<=j->j<n->xs.getD j 0=0))
   case atStart=>exact ⟨aH _,rfl,rfl,fun j h1 h2=>by omega⟩
   case round =>
    obtain ⟨hk,rfl,rfl,hz⟩:=hrel
    by_cases hk0:gk=0
    · subst hk0;go_wp2;go_ret;rw [tZ xs 0 ae (fun j h1 h2=>hz.o j h1 (by have:=HN.o;omega)) (.inl rfl)];exact ⟨rfl,rfl⟩
    · obtain ⟨k,rfl⟩:∃ k,gk=k+1:=⟨gk-1,ae⟩;have hcx:=hcell k (by have:=HN.o;omega);obtain ⟨x,fH⟩:∃ x:Nat,xs.getD k 0=x:=⟨_,rfl⟩;rw [fH] at hcx;have HX:Aside (xs.getD k 0=x):=fH;clear fH hcell hk0
      by_cases h0:x=0
      · subst h0;go_wp2;go_roundg k
        case measure=>omega
        case rel =>
         refine ⟨ae,by go_num,rfl,fun j h1 h2=>?_⟩
         by_cases hj:j=k
         · subst hj;exact HX.o
         · exact hz.o j ae h2
      · go_wp2;go_ret;rw [tZ xs (k+1) (by have:=HN.o;omega) (fun j h1 h2=>hz.o j h1 (by have:=HN.o;omega)) (.inr (by have:=HX.o;rw [lg,this];exact h0))];exact ⟨rfl,rfl⟩
theorem nQ (n:Int):IntKind.u32.wrap n=n%4294967296:=by simp [IntKind.wrap,IntKind.signed,IntKind.bits]
theorem ofInt32 (a:Nat) (ha:a<4294967296):(BitVec.ofInt 32 (a:Int)).toNat=a:=by
 rw [BitVec.ofInt_natCast,BitVec.toNat_ofNat];exact jk ae
theorem F7 (a b:Nat) (ha:a<4294967296) (hb:b<4294967296):bits .and .u32 (a:Int) (b:Int)=((a &&& b:Nat):Int):=by
 have hx:a &&& b<2^32:=Nat.and_lt_two_pow _ ae;show IntKind.u32.wrap ((BitVec.ofInt 32 (a:Int) &&& BitVec.ofInt 32 (b:Int)).toNat:Int)=_;rw [BitVec.toNat_and,ofInt32 a ha,ofInt32 b hb,nQ];omega
theorem Wv (a b:Nat) (ha:a<4294967296) (hb:b<4294967296):bits .or .u32 (a:Int) (b:Int)=((a ||| b:Nat):Int):=by
 have hx:a ||| b<2^32:=Nat.or_lt_two_pow ae ae
 show IntKind.u32.wrap ((BitVec.ofInt 32 (a:Int) ||| BitVec.ofInt 32 (b:Int)).toNat:Int)=_;rw [BitVec.toNat_or,ofInt32 a ha,ofInt32 b hb,nQ];omega
theorem Ls (a b:Nat) (ha:a<4294967296) (hb:b<4294967296):bits .xor .u32 (a:Int) (b:Int)=((a ^^^ b:Nat):Int):=by
 have hx:a ^^^ b<2^32:=Nat.xor_lt_two_pow ae ae;show IntKind.u32.wrap ((BitVec.ofInt 32 (a:Int) ^^^ BitVec.ofInt 32 (b:Int)).toNat:Int)=_;rw [BitVec.toNat_xor,ofInt32 a ha,ofInt32 b hb,nQ];omega
theorem DU (x y c d:Nat) (hx:x<4294967296) (hy:y<4294967296) (hc:c<=1) (hd:(d:Int)=((x:Int)-y-c)%4294967296) :
 (((4294967295 ^^^ x) &&& y) ||| ((4294967295 ^^^ (x ^^^ y)) &&& d))/2147483648=if x<y+c then 1 else 0:=by
 have e:∀ n:Nat,n/2147483648=n >>> 31:=fun n=>by rw [Nat.shiftRight_eq_div_pow]
 rw [e,Nat.shiftRight_or_distrib,Nat.shiftRight_and_distrib,Nat.shiftRight_and_distrib,Dy,Dy,Dy,<-e,<-e,<-e,<-e];have hd2:d<4294967296:=ae
 have h1:x/2147483648=0\/x/2147483648=1:=ae
 have h2:y/2147483648=0\/y/2147483648=1:=ae
 have h3:d/2147483648=0\/d/2147483648=1:=ae
 rw [show 4294967295/2147483648=1 from rfl];rcases h1 with h1|h1 <;> rcases h2 with h2|h2 <;> rcases h3 with h3|h3 <;> rw [h1,h2,h3] <;> split <;> first|rfl|(exfalso;omega)
theorem DV (x y c:Nat) (hx:x<4294967296) (hy:y<4294967296) (hc:c<=1) :
 bits BinOp.or IntKind.u32 (bits BinOp.and IntKind.u32 (bits BinOp.xor IntKind.u32 IntKind.u32.max x) y)
  (bits BinOp.and IntKind.u32
   (bits BinOp.xor IntKind.u32 IntKind.u32.max (bits BinOp.xor IntKind.u32 x y))
   (((x:Int)-y-c)%4294967296)) /
  2147483648=((if x<y+c then 1 else 0:Nat):Int):=by
 obtain ⟨d,hd⟩:∃ d:Nat,(d:Int)=((x:Int)-y-c)%4294967296:=⟨(((x:Int)-y-c)%4294967296).toNat,ae⟩;have hd2:d<4294967296:=ae
 have hm:IntKind.u32.max=((4294967295:Nat):Int):=aO
 have hn:∀ a b:Nat,a<4294967296->b<4294967296->a ^^^ b<4294967296:=fun a b ha hb=>Nat.xor_lt_two_pow (n:=32) ha hb;have ha:∀ a b:Nat,b<4294967296->a &&& b<4294967296:=fun a b hb=>Nat.and_lt_two_pow (n:=32) a hb
 rw [hm,Ls x y hx hy,Ls _ _ aO hx,Ls _ _ aO (hn _ _ hx hy),F7 _ _ (hn _ _ aO hx) hy,<-hd,F7 _ _ (hn _ _ aO (hn _ _ hx hy)) hd2,
  Wv _ _ (ha _ _ hy) (ha _ _ hd2),<-DU x y c d hx hy hc hd]
 omega
theorem Io (x y c:Int) (w:World) (hx:0<=x) (hx2:x<4294967296) (hy:0<=y) (hy2:y<4294967296) (hc:0<=c) (hc2:c<=1) :
 Calls Tryz.prog 239 #[.int .u32 x,.int .u32 y,.int .u32 c] w fun r w'=>r=.returned (.tuple #[.int .u32 ((x+y+c)%4294967296),.int .u32 ((x+y+c)/4294967296)])/\w'=w:=by
 go_enter Tryz.func239,Tryz.ntmps239;go_wp2
 go_ret2
 exact ⟨rfl,rfl⟩
theorem Iq (x y c s d:Nat) (w:World) (hx:x<4294967296) (hy:y<4294967296) (hc:c<=1) (hs:s=(x+y+c)%4294967296) (hd:d=(x+y+c)/4294967296) :
 Calls Tryz.prog 239 #[.int .u32 (x:Int),.int .u32 (y:Int),.int .u32 (c:Int)] w fun r w'=>r=.returned (.tuple #[.int .u32 (s:Int),.int .u32 (d:Int)])/\w'=w:=by
 have h:=Io x y c w ae ae ae ae ae ae;rw [show ((x:Int)+y+c)%4294967296=(s:Int) by omega,show ((x:Int)+y+c)/4294967296=(d:Int) by omega] at h;exact h
theorem Ir (x y c bo:Int) (w:World) (hx:0<=x) (hx2:x<4294967296) (hy:0<=y) (hy2:y<4294967296) (hc:0<=c) (hc2:c<=1)
 (hb:bits BinOp.or IntKind.u32 (bits BinOp.and IntKind.u32 (bits BinOp.xor IntKind.u32 IntKind.u32.max x) y)
  (bits BinOp.and IntKind.u32
   (bits BinOp.xor IntKind.u32 IntKind.u32.max (bits BinOp.xor IntKind.u32 x y))
   ((x-y-c)%4294967296)) /
  2147483648=bo) :
 Calls Tryz.prog 233 #[.int .u32 x,.int .u32 y,.int .u32 c] w fun r w'=>r=.returned (.tuple #[.int .u32 ((x-y-c)%4294967296),.int .u32 bo])/\w'=w:=by
 go_enter Tryz.func233,Tryz.ntmps233;go_wp2
 all_goals first | (go_ret2;exact ⟨rfl,rfl⟩) | skip
theorem xE (x y c s d:Nat) (w:World) (hx:x<4294967296) (hy:y<4294967296) (hc:c<=1) (hs:(s:Int)=((x:Int)-y-c)%4294967296) (hd:d=if x<y+c then 1 else 0) :
 Calls Tryz.prog 233 #[.int .u32 (x:Int),.int .u32 (y:Int),.int .u32 (c:Int)] w fun r w'=>r=.returned (.tuple #[.int .u32 (s:Int),.int .u32 (d:Int)])/\w'=w:=by
 have h:=Ir x y c d w ae ae ae ae ae ae (by rw [DV x y c hx hy hc,<-hd]);rw [<-hs] at h;exact h
theorem uH (n:Nat) (ao:Option Addr) (cap:Nat) (w:World) :
 Calls Tryz.prog 172 #[.slice ao n cap] w fun r w'=>r=.returned (.bool (decide ((8192:Int)<(n:Int))))/\w'=w:=by
 go_enter Tryz.func172,Tryz.ntmps172;go_wp2;go_ret;exact ⟨rfl,rfl⟩
theorem nk (n:Nat) (ao:Option Addr) (cap:Nat) (w:World) :
 Calls Tryz.prog 180 #[.slice ao n cap] w fun r w'=>r=.returned (if 8192<n then .tuple #[.slice none 0 0,.int .i64 2] else .tuple #[.slice ao n cap,.int .i64 0])/\w'=w:=by
 by_cases h:8192<n
 · rw [if_pos h];have hl:=uH n ao cap;have h':(8192:Int)<(n:Int):=ae
   simp only [h',decide_true] at hl;have H:Hid (∀ w,_):=hl;clear hl;go_enter Tryz.func180,Tryz.ntmps180;go_wp2_with fail;refine (H.o _).mono ?_;rintro r w1 ⟨rfl,rfl⟩;go_wp2
   go_ret2
   exact ⟨rfl,rfl⟩
 · rw [if_neg h];have hl:=uH n ao cap;have h':¬ (8192:Int)<(n:Int):=ae
   simp only [h',decide_false] at hl;have H:Hid (∀ w,_):=hl;clear hl;go_enter Tryz.func180,Tryz.ntmps180;go_wp2_with fail;refine (H.o _).mono ?_;rintro r w1 ⟨rfl,rfl⟩;go_wp2
   go_ret2
   exact ⟨rfl,rfl⟩
theorem Px (x:Int) (w:World):Calls Tryz.prog 202 #[.int .i64 x] w fun r w'=>r=.returned (.bool false)/\w'=w:=by
 go_enter Tryz.func202,Tryz.ntmps202;go_wp2;go_ret;exact ⟨rfl,rfl⟩
theorem Py (x:Int) (w:World):Calls Tryz.prog 232 #[.int .u32 x] w fun r w'=>r=.returned (.bool false)/\w'=w:=by
 go_enter Tryz.func232,Tryz.ntmps232;go_wp2;go_ret;exact ⟨rfl,rfl⟩
def bE (x y:Nat):Int:=if x<y then -1 else if y<x then 1 else 0
theorem Iu (x y:Nat) (w:World):Calls Tryz.prog 155 #[.int .i64 (x:Int),.int .i64 (y:Int)] w fun r w'=>r=.returned (.int .i64 (bE x y))/\w'=w:=by
 have H:Hid (∀ x w,_):=Px
 by_cases h:x<y
 · have e:bE x y=-1:=by simp [bE,h]
   rw [e];clear e;go_enter Tryz.func155,Tryz.ntmps155;go_wp2_with fail;refine (H.o _ _).mono ?_;rintro r w1 ⟨rfl,rfl⟩;go_wp2_with fail;refine (H.o _ _).mono ?_;rintro r w1 ⟨rfl,rfl⟩;go_wp2;go_ret;exact ⟨rfl,rfl⟩
 · by_cases h2:y<x
   · have e:bE x y=1:=by simp [bE,h,h2]
     rw [e];clear e;go_enter Tryz.func155,Tryz.ntmps155;go_wp2_with fail;refine (H.o _ _).mono ?_;rintro r w1 ⟨rfl,rfl⟩;go_wp2_with fail;refine (H.o _ _).mono ?_;rintro r w1 ⟨rfl,rfl⟩;go_wp2;go_ret;exact ⟨rfl,rfl⟩
   · have e:bE x y=0:=by simp [bE,h,h2]
     rw [e];clear e;go_enter Tryz.func155,Tryz.ntmps155;go_wp2_with fail;refine (H.o _ _).mono ?_;rintro r w1 ⟨rfl,rfl⟩;go_wp2_with fail;refine (H.o _ _).mono ?_;rintro r w1 ⟨rfl,rfl⟩;go_wp2;go_ret;exact ⟨rfl,rfl⟩
theorem xG (x y:Nat) (w:World):Calls Tryz.prog 215 #[.int .u32 (x:Int),.int .u32 (y:Int)] w fun r w'=>r=.returned (.int .i64 (bE x y))/\w'=w:=by
 have H:Hid (∀ x w,_):=Py
 by_cases h:x<y
 · have e:bE x y=-1:=by simp [bE,h]
   rw [e];clear e;go_enter Tryz.func215,Tryz.ntmps215;go_wp2_with fail;refine (H.o _ _).mono ?_;rintro r w1 ⟨rfl,rfl⟩;go_wp2_with fail;refine (H.o _ _).mono ?_;rintro r w1 ⟨rfl,rfl⟩;go_wp2;go_ret;exact ⟨rfl,rfl⟩
 · by_cases h2:y<x
   · have e:bE x y=1:=by simp [bE,h,h2]
     rw [e];clear e;go_enter Tryz.func215,Tryz.ntmps215;go_wp2_with fail;refine (H.o _ _).mono ?_;rintro r w1 ⟨rfl,rfl⟩;go_wp2_with fail;refine (H.o _ _).mono ?_;rintro r w1 ⟨rfl,rfl⟩;go_wp2;go_ret;exact ⟨rfl,rfl⟩
   · have e:bE x y=0:=by simp [bE,h,h2]
     rw [e];clear e;go_enter Tryz.func215,Tryz.ntmps215;go_wp2_with fail;refine (H.o _ _).mono ?_;rintro r w1 ⟨rfl,rfl⟩;go_wp2_with fail;refine (H.o _ _).mono ?_;rintro r w1 ⟨rfl,rfl⟩;go_wp2;go_ret;exact ⟨rfl,rfl⟩
end
section
def sg (L:List Nat) (off k:Nat):Nat:=val ((L.drop off).take k)
theorem dO (L:List Nat) (off:Nat):sg L off 0=0:=by simp [sg,val]
theorem bJ (L:List Nat) (off k:Nat) (h:off+k<L.length):sg L off (k+1)=sg L off k+pw k*L.getD (off+k) 0:=by
 unfold sg;rw [iK _ _ (by simp;omega)];simp [eQ]
theorem kC (L:List Nat) (off k:Nat) (h:off<L.length):sg L off (k+1)=L.getD off 0+4294967296*sg L (off+1) k:=by
 unfold sg;rw [List.drop_eq_getElem_cons h,List.take_succ_cons,val,eQ,fF h];rfl
theorem dH (L:List Nat):sg L 0 L.length=val L:=by simp [sg]
theorem iT (L:List Nat) (off k m:Nat) (h:off+k+m<=L.length):sg L off (k+m)=sg L off k+pw k*sg L (off+k) m:=by
 induction m with
 | zero=>simp [dO]
 | succ m ih =>
   rw [<-mU,bJ L off (k+m) ae,bJ L (off+k) m ae,ih ae,qP,mG,<-mU off k m];simp only [aU,mU]
theorem qa (L M:List Nat) (off k:Nat) (hl:M.length=L.length) (h:off+k<=L.length) (he:∀ j,off<=j->j<off+k->M.getD j 0=L.getD j 0):sg M off k=sg L off k:=by
 induction k with
 | zero=>simp [dO]
 | succ k ih=>rw [bJ M off k ae,bJ L off k ae,ih ae (fun j h1 h2=>he j h1 ae),he (off+k) ae ae]
theorem Az (L:List Nat) (i j x:Nat):(L.set i x).getD j 0=if i=j/\j<L.length then x else L.getD j 0:=by
 simp only [eQ,List.getElem?_set]
 by_cases h:i=j
 · subst h
   by_cases h2:i<L.length
   · simp [h2]
   · simp [h2]
 · simp [h]
theorem gU (L:List Nat) (i x:Nat) (h:i<L.length):(L.set i x).getD i 0=x:=by rw [Az,if_pos ⟨rfl,h⟩]
theorem getD_set_ne (L:List Nat) (i j x:Nat) (h:i≠j):(L.set i x).getD j 0=L.getD j 0:=by rw [Az,if_neg (fun e=>h e.1)]
theorem l7 (L:List Nat) (off k i x:Nat) (h:off+k<=i) (hl:off+k<=L.length):sg (L.set i x) off k=sg L off k :=
 qa L _ off k aW hl (fun j _ h2=>getD_set_ne _ _ _ _ ae)
theorem qc (L:List Nat) (off k i x:Nat) (h:i<off) (hl:off+k<=L.length):sg (L.set i x) off k=sg L off k :=
 qa L _ off k aW hl (fun j h1 _=>getD_set_ne _ _ _ _ ae)
theorem bT (L:List Nat) (off k x:Nat) (h:off+k<L.length):sg (L.set (off+k) x) off (k+1)=sg L off k+pw k*x:=by
 rw [bJ _ _ _ (by simp;omega),gU _ _ _ h,l7 _ _ _ _ _ ae ae]
theorem mJ (L:List Nat) (off k:Nat) (hw:Wf L) (h:off+k<=L.length):sg L off k<pw k:=by
 have:=cK _ ((hw.drop off).take k);simp only [eZ,pW] at this;rw [iX ae] at this;exact this
theorem jG (L:List Nat) (k:Nat):sg L 0 k=val (L.take k):=by simp [sg]
theorem uI (n i:Nat):(List.replicate n 0).getD i 0=0:=by
 simp only [eQ,Dz];split <;> rfl
theorem qd (n off k:Nat):sg (List.replicate n 0) off k=0:=by
 unfold sg;rw [Ag,List.take_replicate,j5]
def Out (L M:List Nat) (off n:Nat):Prop:=M.length=L.length/\∀ j,(j<off\/off+n<=j)->M.getD j 0=L.getD j 0
theorem Out.refl (L:List Nat) (off n:Nat):Out L L off n:=⟨rfl,fun _ _=>rfl⟩
theorem Out.set {L M:List Nat}{off n:Nat}(h:Out L M off n) (i x:Nat) (h1:off<=i) (h2:i<off+n):Out L (M.set i x) off n :=
 ⟨by simp [h.1],fun j hj=>by rw [getD_set_ne _ _ _ _ ae];exact h.2 j hj⟩
theorem Out.mono {L M:List Nat}{off n k:Nat}(h:Out L M off n) (hk:n<=k):Out L M off k:=⟨h.1,fun j hj=>h.2 j ae⟩
theorem Out.trans {L M K:List Nat}{off n:Nat}(h:Out L M off n) (k:Out M K off n):Out L K off n:=⟨k.1.trans h.1,fun j hj=>(k.2 j hj).trans (h.2 j hj)⟩
theorem Out.below {L M:List Nat}{off n:Nat}(h:Out L M off n) (a k:Nat) (h1:a+k<=off) (h2:a+k<=L.length):sg M a k=sg L a k:=qa L M a k h.1 h2 (fun j _ hj=>h.2 j ae)
theorem Out.above {L M:List Nat}{off n:Nat}(h:Out L M off n) (a k:Nat) (h1:off+n<=a) (h2:a+k<=L.length):sg M a k=sg L a k:=qa L M a k h.1 h2 (fun j hj _=>h.2 j ae)
theorem o9 (p a b V c x y s d:Nat) (h:V+c*p=a+b) (e:s+d*4294967296=x+y+c):V+p*s+d*(4294967296*p)=(a+p*x)+(b+p*y):=by
 have:p*(s+d*4294967296)=p*(x+y+c):=by rw [e]
 grind
theorem Lu {L M:List Nat}{off k n V:Nat}(hk:k<=n) (hn:off+n<=L.length) (ho:Out L M off k) (h:sg M off k=sg L off k+V):sg M off n=sg L off n+V:=by
 obtain ⟨d,rfl⟩:∃ d,n=k+d:=⟨n-k,ae⟩;have h1:=iT M off k d (by rw [ho.1];omega);have h2:=iT L off k d ae;have h3:=ho.above (off+k) d ae ae;rw [h1,h2,h3];omega
theorem uJ (p a b V c x y q s d:Nat) (h:V+c*p=a+b*q) (e:s+d*4294967296=y*q+x+c):V+p*s+d*(4294967296*p)=(a+p*x)+(b+p*y)*q:=by
 have:p*(s+d*4294967296)=p*(y*q+x+c):=by rw [e]
 grind
theorem qR (x y:Nat) (hx:x<4294967296) (hy:y<4294967296):x*y<=18446744065119617025:=by
 have:x*y<=4294967295*4294967295:=kM ae ae;omega
theorem uK (p a b V c x y q s d:Nat) (h:V+b*q=a+c*p) (e:s+y*q+c=x+d*4294967296):V+p*s+(b+p*y)*q=(a+p*x)+d*(4294967296*p):=by
 have:p*(s+y*q+c)=p*(x+d*4294967296):=by rw [e]
 grind
theorem Lv (X Q q x d l l2:Nat) (h:X=Q*d+l) (e:l*4294967296+x=q*d+l2):x+4294967296*X=(q+4294967296*Q)*d+l2:=by
 subst h
 grind
theorem nu (p a b V c x y s d:Nat) (h:V+b=a+c*p) (e:s+y+c=x+d*4294967296):V+p*s+(b+p*y)=(a+p*x)+d*(4294967296*p):=by
 have:p*(s+y+c)=p*(x+d*4294967296):=by rw [e]
 grind
theorem Iw {L M:List Nat}{off k n V:Nat}(hk:k<=n) (hn:off+n<=L.length) (ho:Out L M off k) (h:sg M off k+V=sg L off k):sg M off n+V=sg L off n:=by
 obtain ⟨d,rfl⟩:∃ d,n=k+d:=⟨n-k,ae⟩;have h1:=iT M off k d (by rw [ho.1];omega);have h2:=iT L off k d ae;have h3:=ho.above (off+k) d ae ae;rw [h1,h2,h3];omega
end
section
open Go.RowKit
theorem nR (l x:Nat) (hl:l<4294967296) (hx:x<4294967296):bits BinOp.or IntKind.u64 ((l:Int)*4294967296) (x:Int)=((l*4294967296+x:Nat):Int):=by
 have e:((l:Int)*4294967296)=((l*4294967296:Nat):Int):=by simp only [fq];rfl
 rw [e,bits_or_u64_nat _ _ ae ae];have:=DC (i:=32) (b:=x) ae l;have e2:2^32*l=l*4294967296:=by rw [dh]
 rw [e2] at this;rw [this]
theorem Pz (L:List Nat) (g off n cap q:Nat) (w:World)
 (hO:Own w g L) (hoff:off+n<=L.length) (hcap:n<=cap) (hbig:n<=4611686018427387904) (hL:Wf L) (hq:q<4294967296) (hq0:0<q) :
 Calls Tryz.prog 236 #[.slice (some ⟨g,off,none⟩) n cap,.int .u32 (q:Nat)] w fun r w' =>
  ∃ M,∃ c:Nat,r=.returned (.int .u32 (c:Nat))/\c<q/\Own w' g M/\Wf M/\Out L M off n/\sg L off n=sg M off n*q+c/\But g w w':=by
 have HR:Aside (Wf L/\off+n<=L.length):=⟨hL,hoff⟩;have HO:Hid (Own w g L):=hO;clear hL hO hoff;go_enter Tryz.func236,Tryz.ntmps236;go_wp2
 go_loopg [5,6] n (fun k c i wr=>∃ (cv:Nat) (M:List Nat),k<=n/\c=.int .u64 (cv:Nat)/\cv<q/\i=.int .i64 ((k:Int)-1) /\
  Hid (Own wr g M)/\Aside (Wf M/\Out L M (off+k) (n-k)/\sg L (off+k) (n-k)=sg M (off+k) (n-k)*q+cv/\But g w wr))
 case atStart=>exact ⟨0,L,aH _,rfl,hq0,rfl,HO,HR.o.1,Out.refl _ _ _,by simp [dO],But.refl _ _⟩
 case round =>
  obtain ⟨cv,M,hk,rfl,hcv,rfl,HM,HA⟩:=hrel
  by_cases hk0:gk=0
  · subst hk0;go_wp2;go_ret;obtain ⟨bu,eO,hMs,aG⟩:=HA.o;exact ⟨M,cv,rfl,hcv,HM.o,bu,eO,hMs,aG⟩
  · obtain ⟨k,rfl⟩:∃ k,gk=k+1:=⟨gk-1,ae⟩;obtain ⟨hL,hoff⟩:=HR.o;obtain ⟨bu,eO,hMs,aG⟩:=HA.o;have hgc:=HM.o.cell (off+k) (by rw [eO.1];omega);have hgf:=HM.o.frozen (off+k);obtain ⟨x,hx⟩:∃ x:Nat,M.getD (off+k) 0=x:=⟨_,rfl⟩;have hxl:x<4294967296:=hx ▸ bu.get _;rw [hx] at hgc;obtain ⟨t,ht⟩:∃ t:Nat,t=cv*4294967296+x:=⟨_,rfl⟩;have e1:bits BinOp.or IntKind.u64 ((cv:Int)*4294967296) (x:Int)=(t:Int):=by rw [nR cv x ae hxl,ht]
    have ht2:(t:Int)<18446744073709551616:=ae
    have ZM:t/q<4294967296:=by
     rw [uC hq0];have:cv*4294967296+4294967296<=q*4294967296:=ae
     omega
    obtain ⟨s,hs⟩:∃ s:Nat,s=t/q:=⟨_,rfl⟩;obtain ⟨d,hd⟩:∃ d:Nat,d=t%q:=⟨_,rfl⟩;have e2:(t:Int)/(q:Int)=(s:Int):=by rw [hs];simp
    have e3:(t:Int)%(q:Int)=(d:Int):=by rw [hd];simp
    have hs2:s<4294967296:=ae
    have hdq:d<q:=by rw [hd];exact jl _ hq0
    have HX:Aside (M.getD (off+k) 0=x/\cv*4294967296+x=s*q+d):=⟨hx,by rw [hs,hd,<-ht,dh];exact (oJ t q).symm⟩;clear hx hs hd hL hoff bu eO hMs aG ht hk0 ZM;go_wp2
    go_region
    all_goals (
     go_wp2;go_roundg k
     case measure=>omega
     case rel =>
      obtain ⟨hx,he⟩:=HX.o;obtain ⟨hL,hoff⟩:=HR.o;obtain ⟨bu,eO,hMs,aG⟩:=HA.o;have hx2:L.getD (off+k) 0=x:=by rw [<-hx];exact (eO.2 _ ae).symm
      refine ⟨d,M.set (off+k) s,ae,by first | rfl | rw [e3],hdq,by first | go_num | (congr 1;omega),(HM.o.set (off+k) s).drew,bu.set _ _ hs2,⟨by simp [eO.1],fun j hj=>?_⟩,?_,(aG.set (off+k) _).drew⟩
      · by_cases hj2:j=off+k
        · omega
        · rw [getD_set_ne _ _ _ _ (fun e=>hj2 e.symm)];exact eO.2 j ae
      · obtain ⟨r,hr⟩:∃ r,n-k=r+1:=⟨n-(k+1),ae⟩;have hr2:n-(k+1)=r:=ae
        rw [hr2] at hMs;rw [hr,kC L _ _ ae,kC _ _ _ (by simp [eO.1];omega),gU _ _ _ (by rw [eO.1];omega),qc _ _ _ _ _ ae (by rw [eO.1];omega),hx2]
        exact Lv _ _ _ _ _ _ _ hMs he)
theorem jU (rest:Nat) (h:rest<32):2^rest*2^(32-rest)=4294967296:=by
 rw [<-aR,show rest+(32-rest)=32 by omega]
theorem TC (x y rest:Nat) (hr:rest<32) (hx:x<2^rest):x ||| (y*2^rest%4294967296)=x+y*2^rest%4294967296:=by
 have e:y*2^rest%4294967296=2^rest*(y%2^(32-rest)):=by
  rw [<-jU rest hr,dh y,Nat.mul_mod_mul_left]
 rw [e,Nat.or_comm,<-DC hx,mV]
theorem TE (y rest:Nat) (hy:y<4294967296):y*2^rest/4294967296<2^rest:=by
 rw [uC aO,dh];exact w9 hy (bK _)
theorem pg (rest:Nat) (h:rest<32):2^rest<=2147483648:=by
 have:2^rest<=2^31:=fE aO ae;omega
theorem Ww (y rest:Nat) (hy:y<4294967296) (hr:rest<32):y*2^rest<18446744073709551616:=by
 have h:=pg rest hr;have:y*2^rest<=4294967295*2147483648:=kM ae h;omega
theorem nS (n:Int) (h0:0<=n) (h1:n<18446744073709551616):IntKind.u64.wrap n=n:=by
 rw [ky];omega
theorem l9 (words rest:Nat):2^(32*words+rest)=pw words*2^rest:=by
 rw [aR,mW];rfl
theorem PD (p S x t q b s d y r:Nat) (hS:S+p*x=b*r) (ht:t=y*r) (hs:s=x+t%4294967296) (hd:d=t/4294967296):S+p*s+4294967296*p*d=(b+p*y)*r:=by
 have e:t%4294967296+4294967296*d=t:=by rw [hd];exact Nat.mod_add_div _ _
 have e2:p*s+4294967296*p*d=p*x+p*t:=by
  have:p*(s+4294967296*d)=p*(x+t):=by rw [hs];congr 1;omega
  grind
 have e3:(b+p*y)*r=b*r+p*t:=by rw [ht];grind
 omega
def Wb (w:World) (g:Nat) (L:List Nat):Prop:=w.heap[g]?=some (.cells (L.map U).toArray 161 (0,0))
theorem Wb.lt {w:World}{g:Nat}{L:List Nat}(h:Wb w g L):g<w.heap.size:=(fJ.1 h).1
theorem Wb.cell {w:World}{g:Nat}{L:List Nat}(h:Wb w g L) (i:Nat) (hi:i<L.length):w.cell? ⟨g,i,none⟩=some (.int .u32 ((L.getD i 0:Nat):Int)):=by
 unfold Wb at h;simp only [World.cell?,h];simp [U,eQ,fF hi]
theorem Wb.frozen {w:World}{g:Nat}{L:List Nat}(h:Wb w g L) (i:Nat):w.frozen? ⟨g,i,none⟩=false:=by
 unfold Wb at h;simp [World.frozen?,h]
theorem Wb.set {w:World}{g:Nat}{L:List Nat}(h:Wb w g L) (i x:Nat):Wb (w.setCell ⟨g,i,none⟩ (.int .u32 (x:Int))) g (L.set i x):=by
 unfold Wb at h |-;simp [World.setCell,jM,h,List.map_set,U]
theorem Wb.drew {w:World}{g:Nat}{L:List Nat}(h:Wb w g L):Wb w.drew g L:=h
def PB:Nat:=pw 133
theorem TF:0<PB:=iI 133
attribute [irreducible] PB
theorem nT {L:List Nat}(hl:L.length=133) (hw:Wf L):val L<PB:=by
 have:=cK L hw;rw [hl] at this;unfold PB;exact this
theorem F8 (L:List Nat) (i x:Nat) (h:i<L.length):val (L.set i x)+L.getD i 0*pw i=val L+x*pw i:=by
 have h1:=dM L i (jN h);have h2:=dM (L.set i x) i (by simp;omega);rw [dz L i h] at h1;rw [dz (L.set i x) i (by simp;omega),gU _ _ _ h] at h2;have e1:(L.set i x).take i=L.take i:=by rw [List.take_set];exact List.set_eq_of_length_le (by simp;omega)
 have e2:(L.set i x).drop (i+1)=L.drop (i+1):=by rw [List.drop_set,if_pos ae]
 rw [e1,e2] at h2;rw [h2,h1]
 grind
theorem Lx (M:List Nat) (i c T s d:Nat) (h:i<M.length) (e:s+d*4294967296=c+M.getD i 0) (hT:val M+c*pw i=T):val (M.set i s)+d*pw (i+1)=T:=by
 have h1:=F8 M i s h;rw [bI];have e2:(s+d*4294967296)*pw i=(c+M.getD i 0)*pw i:=by rw [e]
 rw [fU,fU,aU] at e2;omega
theorem xH (M:List Nat) (i c T R s lo hi b:Nat) (h:i<M.length) (e:s+lo=M.getD i 0+b*4294967296) (hc:c=lo+hi*4294967296) (hT:val M+T=R+c*pw i):val (M.set i s)+T=R+(hi+b)*pw (i+1):=by
 have h1:=F8 M i s h;rw [bI];have e2:(s+lo)*pw i=(M.getD i 0+b*4294967296)*pw i:=by rw [e]
 have e3:c*pw i=(lo+hi*4294967296)*pw i:=by rw [hc]
 rw [fU,fU,aU] at e2;rw [fU,aU] at e3;rw [fU];omega
theorem DY (i:Nat):pw i=2^(32*i):=by unfold pw;rw [mW]
theorem sJ (n p:Nat):n*2^(p%32)*pw (p/32)=n*2^p:=by
 rw [DY,aU,<-aR,Nat.mod_add_div]
theorem F9 (M:List Nat) (c T:Nat) (hl:M.length=133) (hw:Wf M) (h:val M+c*pw 133=T):val M=T%PB:=by
 have:=nT hl hw;have e:pw 133=PB:=by unfold PB;rfl
 rw [<-h,e,dh,xc,jk this]
theorem AJ (M:List Nat) (c T R:Nat) (hl:M.length=133) (hw:Wf M) (h:val M+T=R+c*pw 133):(val M:Int)=((R:Int)-(T:Int))%(PB:Int):=by
 have h1:=nT hl hw;have e:pw 133=PB:=by unfold PB;rfl
 rw [e] at h
 have h2:(R:Int)-(T:Int)=(val M:Int)+(PB:Int)*(-(c:Int)):=by
  have:((val M+T:Nat):Int)=((R+c*PB:Nat):Int):=by rw [h]
  simp only [Ah,fq] at this;rw [Int.mul_neg,Int.mul_comm];omega
 rw [h2,Int.add_mul_emod_self_left,xe ae ae]
theorem qU (n q:Nat) (hn:n<4294967296) (hq:q<32):n*2^q<9223372036854775808:=by
 have h1:2^q<=2147483648:=by
  have:=fE (n:=2) aO (show q<=31 by omega);simpa using this
 calc n*2^q<=4294967295*2147483648:=kM ae h1
  _<_:=aO
theorem AQ (n p:Nat) (hn:n<4294967296):IntKind.u64.wrap ((n:Int)*2^(p%32))=((n*2^(p%32):Nat):Int):=by
 have h1:=qU n (p%32) hn (jl _ aO);have e:((n:Int)*2^(p%32))=((n*2^(p%32):Nat):Int):=by simp
 rw [e];exact nS _ ae ae
theorem LA (L:List Nat) (g n p:Nat) (w:World) (hW:Wb w g L) (hl:L.length=133) (hL:Wf L) (hn:n<4294967296) (hp:p<4256) :
 Calls Tryz.prog 220 #[.pointer (some ⟨g,0,none⟩),.int .u32 (n:Nat),.int .i64 (p:Nat)] w fun r w' =>
  r=.returned (.tuple #[])/\∃ M,Wb w' g M/\M.length=133/\Wf M/\val M=(val L+n*2^p)%PB/\But g w w':=by
 have HR:Aside (Wf L/\L.length=133):=⟨hL,hl⟩;have HO:Hid (Wb w g L):=hW;clear hL hW hl;go_enter Tryz.func220,Tryz.ntmps220;go_wp2
 go_loopg [6,7] 133 (fun k c i wr=>∃ (cv iv:Nat) (M:List Nat),133<=k+iv/\iv<=133/\c=.int .u64 (cv:Nat)/\cv<9223372036854775808/\i=.int .i64 (iv:Nat) /\
  Hid (Wb wr g M)/\Aside (Wf M/\M.length=133/\val M+cv*pw iv=val L+n*2^p/\But g w wr))
 case atStart =>
  exact ⟨n*2^(p%32),p/32,L,ae,ae,by rw [AQ n p hn],qU n _ hn (jl _ aO),aW,HO,HR.o.1,HR.o.2,by rw [sJ],But.refl _ _⟩
 case round =>
  obtain ⟨cv,iv,M,hk,hi,rfl,hcv,rfl,HM,HA⟩:=hrel
  by_cases h1:iv=133
  · subst h1;go_wp2;refine bodyPost_end (v:=.tuple #[]) (by simp [results,Tryz.results220,go_sem]) rfl ?_;obtain ⟨bu,dx,hMs,aG⟩:=HA.o;exact ⟨rfl,M,HM.o,dx,bu,F9 M cv _ dx bu hMs,aG⟩
  by_cases h2:cv=0
  · subst h2;have h3:(iv:Int)<133:=ae
    go_wp2;refine bodyPost_end (v:=.tuple #[]) (by simp [results,Tryz.results220,go_sem]) rfl ?_;obtain ⟨bu,dx,hMs,aG⟩:=HA.o;exact ⟨rfl,M,HM.o,dx,bu,F9 M 0 _ dx bu (by rw [<-hMs];simp),aG⟩
  · have h3:iv<133:=ae
    have h4:0<cv:=ae
    obtain ⟨bu,dx,hMs,aG⟩:=HA.o;have hgc:=HM.o.cell iv ae;have hgf:=HM.o.frozen iv;obtain ⟨x,hx⟩:∃ x:Nat,M.getD iv 0=x:=⟨_,rfl⟩;have hxl:x<4294967296:=hx ▸ bu.get _;rw [hx] at hgc;have HX:Aside (M.getD iv 0=x):=hx;clear hx bu dx hMs aG h1 h2;obtain ⟨k,rfl⟩:∃ k,gk=k+1:=⟨gk-1,ae⟩;go_wp2;go_roundg k
    case measure=>omega
    case rel =>
     obtain ⟨bu,dx,hMs,aG⟩:=HA.o;have e1:((cv:Int)+(x:Int))%4294967296=(((cv+x)%4294967296:Nat):Int):=ae
     have e2:((cv:Int)+(x:Int))/4294967296=(((cv+x)/4294967296:Nat):Int):=ae
     rw [e1];exact ⟨(cv+x)/4294967296,iv+1,M.set iv ((cv+x)%4294967296),ae,ae,by rw [e2],ae,aW,HM.o.set iv _,bu.set _ _ (jl _ aO),by simp [dx],Lx M iv cv _ _ _ ae (by rw [HX.o];omega) hMs,aG.set iv _⟩
theorem Iy (L:List Nat) (g n p:Nat) (w:World) (hW:Wb w g L) (hl:L.length=133) (hL:Wf L) (hn:n<4294967296) (hp:p<4256) :
 Calls Tryz.prog 219 #[.pointer (some ⟨g,0,none⟩),.int .u32 (n:Nat),.int .i64 (p:Nat)] w fun r w' =>
  r=.returned (.tuple #[])/\∃ M,Wb w' g M/\M.length=133/\Wf M/\(val M:Int)=((val L:Int)-((n*2^p:Nat):Int))%(PB:Int)/\But g w w':=by
 have HR:Aside (Wf L/\L.length=133):=⟨hL,hl⟩;have HO:Hid (Wb w g L):=hW;clear hL hW hl;go_enter Tryz.func219,Tryz.ntmps219;go_wp2
 go_loopg [6,7] 133 (fun k c i wr=>∃ (cv iv:Nat) (M:List Nat),133<=k+iv/\iv<=133/\c=.int .u64 (cv:Nat)/\cv<9223372036854775808/\i=.int .i64 (iv:Nat) /\
  Hid (Wb wr g M)/\Aside (Wf M/\M.length=133/\val M+n*2^p=val L+cv*pw iv/\But g w wr))
 case atStart =>
  exact ⟨n*2^(p%32),p/32,L,ae,ae,by rw [AQ n p hn],qU n _ hn (jl _ aO),aW,HO,HR.o.1,HR.o.2,by rw [sJ],But.refl _ _⟩
 case round =>
  obtain ⟨cv,iv,M,hk,hi,rfl,hcv,rfl,HM,HA⟩:=hrel
  by_cases h1:iv=133
  · subst h1;go_wp2;refine bodyPost_end (v:=.tuple #[]) (by simp [results,Tryz.results219,go_sem]) rfl ?_;obtain ⟨bu,dx,hMs,aG⟩:=HA.o;exact ⟨rfl,M,HM.o,dx,bu,AJ M cv _ _ dx bu hMs,aG⟩
  by_cases h2:cv=0
  · subst h2;have h3:(iv:Int)<133:=ae
    go_wp2;refine bodyPost_end (v:=.tuple #[]) (by simp [results,Tryz.results219,go_sem]) rfl ?_;obtain ⟨bu,dx,hMs,aG⟩:=HA.o;exact ⟨rfl,M,HM.o,dx,bu,AJ M 0 _ _ dx bu (by rw [hMs];simp),aG⟩
  · have h3:iv<133:=ae
    have h4:0<cv:=ae
    obtain ⟨bu,dx,hMs,aG⟩:=HA.o;have hgc:=HM.o.cell iv ae;have hgf:=HM.o.frozen iv;obtain ⟨x,hx⟩:∃ x:Nat,M.getD iv 0=x:=⟨_,rfl⟩;have hxl:x<4294967296:=hx ▸ bu.get _;rw [hx] at hgc;obtain ⟨lo,hlo⟩:∃ lo:Nat,cv%4294967296=lo:=⟨_,rfl⟩;obtain ⟨hi',hhi⟩:∃ hi':Nat,cv/4294967296=hi':=⟨_,rfl⟩;have e1:(cv:Int)%4294967296=(lo:Int):=ae
    have e2:(cv:Int)/4294967296=(hi':Int):=ae
    have b1:lo<4294967296:=ae
    have b2:hi'<2147483648:=ae
    have HX:Aside (M.getD iv 0=x/\cv=lo+hi'*4294967296):=⟨hx,ae⟩;clear hx bu dx hMs aG h1 h2 hlo hhi;obtain ⟨k,rfl⟩:∃ k,gk=k+1:=⟨gk-1,ae⟩
    by_cases hlt:x<lo
    · have h5:decide (x<lo)=true:=by simp [hlt]
      go_wp2
      go_region
      all_goals (
       go_wp2;go_roundg k
       case measure=>omega
       case rel =>
        obtain ⟨bu,dx,hMs,aG⟩:=HA.o;have e3:((x:Int)-(lo:Int))%4294967296=((x+4294967296-lo:Nat):Int):=ae
        rw [e3]
        exact ⟨hi'+1,iv+1,M.set iv (x+4294967296-lo),ae,ae,aW,ae,aW,(HM.o.set iv _).drew,bu.set _ _ ae,by simp [dx],xH M iv cv _ _ _ lo hi' 1 ae (by rw [HX.o.1];omega) HX.o.2 hMs,(aG.set iv _).drew⟩)
    · have h5:decide (x<lo)=false:=by simp [hlt]
      go_wp2
      go_region
      all_goals (
       go_wp2;go_roundg k
       case measure=>omega
       case rel =>
        obtain ⟨bu,dx,hMs,aG⟩:=HA.o;have e3:((x:Int)-(lo:Int))=((x-lo:Nat):Int):=ae
        rw [e3]
        exact ⟨hi',iv+1,M.set iv (x-lo),ae,ae,aW,ae,aW,(HM.o.set iv _).drew,bu.set _ _ ae,by simp [dx],by have:=xH M iv cv _ _ (x-lo) lo hi' 0 ae (by rw [HX.o.1];omega) HX.o.2 hMs;simpa using this,(aG.set iv _).drew⟩)
end
section
theorem Iz (b o t1 t2 l u2 T:Nat) (hT:o*t1+l=T) (h:o*t2<=l*b+u2):o*(t1*b+t2)<=T*b+u2:=by
 subst hT;have e:o*(t1*b+t2)=o*t1*b+o*t2:=by grind
 have e2:(o*t1+l)*b=o*t1*b+l*b:=by grind
 omega
theorem AU (b o t1 t2 l u2 T:Nat) (hT:o*t1+l=T) (h:l*b+u2<o*t2):T*b+u2<o*(t1*b+t2):=by
 subst hT;have e:o*(t1*b+t2)=o*t1*b+o*t2:=by grind
 have e2:(o*t1+l)*b=o*t1*b+l*b:=by grind
 omega
theorem AZ (b t1 t2 u2 T:Nat) (h1:0<t1) (h2:u2<b):T*b+u2<(T/t1+1)*(t1*b+t2):=by
 have h:=Nat.lt_div_mul_add (a:=T) (b:=t1) h1;have h3:T+1<=(T/t1+1)*t1:=by rw [fU,iq];omega
 have h4:(T+1)*b<=(T/t1+1)*t1*b:=gF _ h3;have e:(T/t1+1)*(t1*b+t2)=(T/t1+1)*t1*b+(T/t1+1)*t2:=by grind
 rw [fU,iq] at h4;omega
theorem sM (b o t1 t2 l u2 T:Nat) (hT:o*t1+l=T) (hl:b<=l) (hT2:T<t1*b+b) (ht:t2<b) (h1:0<t1):o<b/\o*t2<=l*b+u2:=by
 have ho:o<b:=by
  by_cases h:o<b
  · exact h
  · exfalso;have:b*t1<=o*t1:=gF _ ae;rw [dh b] at this;omega
 have h2:o*t2<=b*b:=kM ae ae;have h3:b*b<=l*b:=gF _ hl;exact ⟨ho,ae⟩
theorem D5 (b o D W P u v U V:Nat) (hP:0<P) (hU:U=W*P+u) (hu:u<P) (hV:V=D*P+v) (hv:v<P) (h1:o*D<=W) (h2:b<=o+1\/W<(o+1)*D) (hlt:U<V*b) (ho:o<b) (hD:b<=D) :
 U<(o+1)*V/\o*V<=U+V:=by
 constructor
 · rcases h2 with h2 | h2
   · obtain rfl:b=o+1:=ae
     rw [dh];exact hlt
   · have h3:(W+1)*P<=(o+1)*D*P:=gF _ h2;have h4:(o+1)*V=(o+1)*D*P+(o+1)*v:=by rw [hV];grind
     rw [fU] at h3;omega
 · rcases o with _ | o
   · omega
   · have h3:(o+1)*D*P<=W*P:=gF _ h1;have h4:(o+1)*V=(o+1)*D*P+o*v+v:=by rw [hV];grind
     have h5:o*v<=D*P:=kM ae ae;omega
theorem IC (b P t1 t2 u0 u1 u2 u v U V:Nat) (hU:U=((u0*b+u1)*b+u2)*P+u) (hV:V=(t1*b+t2)*P+v) (hv:v<P) (ht:t2<b) (hlt:U<V*b):u0<=t1:=by
 by_cases h:u0<=t1
 · exact h
 · exfalso;have h1:(t1*b+t2+1)*P<=(t1+1)*b*P:=gF _ (by rw [fU,iq];omega)
   have h2:V<(t1+1)*b*P:=by
    rw [fU,iq] at h1;omega
   have h3:V*b<=(t1+1)*b*P*b:=gF _ ae;have h4:(t1+1)*(b*P*b)<=u0*(b*P*b):=gF _ ae;have h5:(t1+1)*b*P*b=(t1+1)*(b*P*b):=by grind
   have h6:U=u0*(b*P*b)+(u1*b+u2)*P+u:=by rw [hU];grind
   omega
theorem Ga (L:List Nat) (off k:Nat) (hL:Wf L) (h:off+(k+2)<=L.length):sg L off (k+2)=(L.getD (off+(k+1)) 0*4294967296+L.getD (off+k) 0)*pw k+sg L off k/\sg L off k<pw k:=by
 refine ⟨?_,mJ L off k hL ae⟩;rw [show k+2=k+1+1 by omega,bJ L off (k+1) ae,bJ L off k ae,bI]
 grind
theorem IE (L:List Nat) (off k:Nat) (hL:Wf L) (h:off+(k+3)<=L.length):sg L off (k+3)=((L.getD (off+(k+2)) 0*4294967296+L.getD (off+(k+1)) 0)*4294967296+L.getD (off+k) 0)*pw k+sg L off k/\sg L off k<pw k:=by
 refine ⟨?_,mJ L off k hL ae⟩;rw [show k+3=k+2+1 by omega,bJ L off (k+2) ae,(Ga L off k hL ae).1,show k+2=k+1+1 by omega,bI,bI]
 grind
end
section
open Go.RowKit
set_option maxRecDepth 20000 in
theorem IG (L bs:List Nat) (g off cap:Nat) (ao:Option Addr) (n bz B:Nat) (w:World) (k:Nat) (hnk:n=k+2)
 (hO:Own w g L) (hoff:off+(k+3)<=L.length) (hm:k+2=bs.length) (hcap:n+1<=cap) (hbig:n<=4611686018427387904) (hL:Wf L) (hb:Wf bs) (hR:Rd B w ao bs)
 (htop:2147483648<=bs.getD (k+1) 0) (hlt:sg L off (k+3)<val bs*4294967296) :
 Calls Tryz.prog 240 #[.slice (some ⟨g,off,none⟩) (n+1) cap,.slice ao n bz] w fun r w' =>
  ∃ o:Nat,r=.returned (.int .u32 (o:Nat))/\o<4294967296/\sg L off (k+3)<(o+1)*val bs/\o*val bs<=sg L off (k+3)+val bs/\Below w.heap.size w w':=by
 obtain ⟨b,eX,Gb,rfl,hbc⟩:=hR (by intro e;subst e;simp at hm);have c1:=hbc (k+1) ae;have c2:=hbc k ae;have d0:=hO.cell (off+(k+2)) ae;have d1:=hO.cell (off+(k+1)) ae;have d2:=hO.cell (off+k) ae;have en1:k+1=n-1:=ae
 have en2:eX+k=eX+(n-2):=ae
 have en3:off+k=off+(n-2):=ae
 have en4:off+(k+2)=off+n:=ae
 have en5:off+(k+1)=off+(n-1):=ae
 have en6:eX+(k+1)=eX+(n-1):=ae
 have hn2:2<=n:=ae
 have b1:=hb.get (k+1);have b2:=hb.get k;have l0:=hL.get (off+(k+2));have l1:=hL.get (off+(k+1));have l2:=hL.get (off+k);obtain ⟨eU,hu⟩:=IE L off k hL hoff;obtain ⟨eV,hv⟩:=Ga bs 0 k hb ae;rw [dI,dI,show k+2=bs.length from hm,dH] at eV;have HN:=(ay hnk);clear en1;generalize bs.getD (k+1) 0=t1 at *;generalize bs.getD k 0=t2 at *;generalize L.getD (off+(k+2)) 0=u0 at *;generalize L.getD (off+(k+1)) 0=u1 at *;generalize L.getD (off+k) 0=u2 at *;generalize sg L off (k+3)=U at *;generalize val bs=V at *;generalize sg L off k=u at *;generalize sg bs 0 k=v at *;rw [en6] at c1;rw [en2] at c2;rw [en4] at d0;rw [en5] at d1;rw [en3] at d2;have hu0:u0<=t1:=IC 4294967296 (pw k) t1 t2 u0 u1 u2 u v U V eU eV hv b2 hlt;have hlt1:0<t1:=ae
 obtain ⟨T,hT⟩:=ah (u0*4294967296+u1);have eT:bits BinOp.or IntKind.u64 ((u0:Int)*4294967296) (u1:Int)=(T:Int):=by rw [nR u0 u1 l0 l1,hT]
 obtain ⟨o0,ho0⟩:=ah (T/t1);obtain ⟨r0,hr0⟩:=ah (T%t1);have eo:(T:Int)/(t1:Int)=(o0:Int):=by rw [ho0];simp
 have er:(T:Int)%(t1:Int)=(r0:Int):=by rw [hr0];simp
 have hTl:(T:Int)<18446744073709551616:=ae
 have hr0l:r0<t1:=by rw [hr0];exact jl _ hlt1
 have Gc:o0*t1+r0=T:=by rw [ho0,hr0,dh];exact oJ T t1
 have Gf:T*4294967296+u2<(o0+1)*(t1*4294967296+t2):=by rw [ho0];exact AZ 4294967296 t1 t2 u2 T hlt1 l2
 have ho0l:(o0:Int)<18446744073709551616:=by have:o0<=T:=by rw [ho0];exact oL _ _
                                             omega
 have HH:=(ow hu0 hT eU hu eV hv Gc Gf hlt htop);clear en2 en3 en4 en5 en6 hnk;clear hT ho0 hr0 eU hu eV hv Gc Gf hlt hR hbc hm hb hL hO hoff htop;go_enter Tryz.func240,Tryz.ntmps240;go_wp2
 go_big_region
 go_wp2
 go_big_region
 go_wp2;have hbw:=mM w _ c2;have hgw:=mM w _ d2
 go_loopg [8,9] o0 (fun gk o l wr=>∃ lv:Nat,o=.int .u64 (gk:Nat)/\l=.int .u64 (lv:Nat)/\lv<4294967296/\Hid (Below w.heap.size w wr) /\
  Aside (gk*t1+lv=T/\(4294967296<=gk+1\/T*4294967296+u2<(gk+1)*(t1*4294967296+t2))))
 case atStart=>exact ⟨r0,by first | rfl | rw [eo],by first | rfl | rw [er],ae,by first | exact (ak _ _).drew.drew | exact (ak _ _).drew | exact ak _ _,HH.o.r6.1,.inr HH.o.r7.1⟩
 case round =>
  obtain ⟨lv,rfl,rfl,hlv,HB,HA⟩:=hrel;have c2':wr.cell? ⟨b,eX+(n-2),none⟩=some (.int .u32 (t2:Int)):=(HB.o.cell (p:=⟨b,eX+(n-2),none⟩) hbw).trans c2;have d2':wr.cell? ⟨g,off+(n-2),none⟩=some (.int .u32 (u2:Int)):=(HB.o.cell (p:=⟨g,off+(n-2),none⟩) hgw).trans d2;clear c2 d2 c1 d0 d1 hTl eo er;obtain ⟨hu0,hT,eU,hu,eV,hv,Gc,Gf,hlt,htop⟩:=HH.o;obtain ⟨hsum,hmax⟩:=HA.o;have hTb:T<t1*4294967296+4294967296:=ae
  have hgb:gk<=4294967297:=by
   by_cases h:gk<=4294967297
   · exact h
   · exfalso;have:4294967298*t1<=gk*t1:=gF _ ae;omega
  have HE:Aside (∀ o l,o*t1+l=T->o*t2<=l*4294967296+u2->o<4294967296->(4294967296<=o+1\/T*4294967296+u2<(o+1)*(t1*4294967296+t2))->U<(o+1)*V/\o*V<=U+V):=by
   intro o l h1 h2 h3 h4;rw [<-hT] at eU;exact D5 4294967296 o _ _ (pw k) u v U V (iI k) eU hu eV hv (Iz 4294967296 o t1 t2 l u2 T h1 h2) h4 hlt h3 ae
  have HT:=(ay hTb);clear hu0 hT eU hu eV hv Gc Gf hlt htop hsum hmax hTb;have hgbi:(gk:Int)<=4294967297:=ae
  by_cases hbig2:4294967295<gk
  · have hg1:(4294967295:Int)<(gk:Int):=ae
    by_cases hl2:lv+t1<=4294967295
    · have hl3:(lv:Int)+(t1:Int)<=4294967295:=ae
      have hl4:decide ((4294967295:Int)<(lv:Int)+(t1:Int))=false:=decide_eq_false ae;have HG:=(jK hbig2 hl2 hgb hlv);clear hbig2 hl2 hgb;go_wp2
      go_big_region
      all_goals (
       go_wp2;go_roundg (gk-1)
       case measure=>have:=HG.o.1;omega
       case rel =>
        obtain ⟨hsum,hmax⟩:=HA.o;obtain ⟨hbig2,hl2,hgb,hlv⟩:=HG.o;refine ⟨lv+t1,by first | go_num | (congr 1;omega),by first | rfl | go_num,ae,HB.o.drew,?_,.inl ae⟩;obtain ⟨o,rfl⟩:∃ o,gk=o+1:=⟨gk-1,ae⟩;rw [lg];rw [fU] at hsum
        omega)
    · have hl3:(4294967295:Int)<(lv:Int)+(t1:Int):=ae
      go_wp2
      go_big_region
      all_goals (
       go_wp2;go_ret;obtain ⟨hsum,hmax⟩:=HA.o;obtain ⟨o,rfl⟩:∃ o,gk=o+1:=⟨gk-1,ae⟩;have hs2:o*t1+(lv+t1)=T:=by rw [fU] at hsum;omega
       obtain ⟨hb1,hb2⟩:=sM 4294967296 o t1 t2 (lv+t1) u2 T hs2 ae HT.o b2 hlt1;obtain ⟨h1,h2⟩:=HE.o o (lv+t1) hs2 hb2 hb1 (.inl ae);refine ⟨o,?_,hb1,h1,h2,HB.o.drew⟩
       exact congrArg (fun z=>Ending.returned (Value.int IntKind.u32 z)) ae)
  · have hg1:(gk:Int)<=4294967295:=ae
    have hg2:decide ((4294967295:Int)<(gk:Int))=false:=by simp;omega
    have hp0:gk*t2<=4294967295*4294967295:=kM ae ae;have hp2:(gk:Int)*(t2:Int)<=18446744065119617025:=by rw [<-fq];omega
    have hp1:0<=(gk:Int)*(t2:Int):=by rw [<-fq];omega
    obtain ⟨lu,VW⟩:=ah (lv*4294967296+u2);have eL:bits BinOp.or IntKind.u64 ((lv:Int)*4294967296) (u2:Int)=(lu:Int):=by rw [nR lv u2 hlv l2,VW]
    have HL:=(ay VW)
    by_cases hmore:lu<gk*t2
    · have hm1:(lu:Int)<(gk:Int)*(t2:Int):=by rw [<-fq];omega
      have hgk0:0<gk:=by
       rcases jO gk with h|h
       · subst h;rw [dZ] at hmore;omega
       · exact h
      by_cases hl2:lv+t1<=4294967295
      · have hl3:(lv:Int)+(t1:Int)<=4294967295:=ae
        have hl4:decide ((4294967295:Int)<(lv:Int)+(t1:Int))=false:=decide_eq_false ae;have HG:=(gZ hbig2 hl2 hgb hlv hmore);clear VW hp0 hbig2 hl2 hgb hmore;go_wp2
        go_big_region
        all_goals (
         go_wp2;go_roundg (gk-1)
         case measure=>omega
         case rel =>
          obtain ⟨hsum,hmax⟩:=HA.o;obtain ⟨hbig2,hl2,hgb,hlv,hmore⟩:=HG.o;have hno:=AU 4294967296 gk t1 t2 lv u2 T hsum (by rw [<-HL.o];exact hmore);refine ⟨lv+t1,by first | go_num | (congr 1;omega),by first | rfl | go_num,ae,HB.o.drew,?_,.inr ?_⟩
          · obtain ⟨o,rfl⟩:∃ o,gk=o+1:=⟨gk-1,ae⟩;rw [lg];rw [fU] at hsum;omega
          · rw [show gk-1+1=gk by omega];exact hno)
      · have hl3:(4294967295:Int)<(lv:Int)+(t1:Int):=ae
        clear VW hp0;go_wp2
        go_big_region
        all_goals (
         go_wp2;go_ret;obtain ⟨hsum,hmax⟩:=HA.o;have hno:=AU 4294967296 gk t1 t2 lv u2 T hsum (by rw [<-HL.o];exact hmore);obtain ⟨o,rfl⟩:∃ o,gk=o+1:=⟨gk-1,ae⟩;have hs2:o*t1+(lv+t1)=T:=by rw [fU] at hsum;omega
         obtain ⟨hb1,hb2⟩:=sM 4294967296 o t1 t2 (lv+t1) u2 T hs2 ae HT.o b2 hlt1;obtain ⟨h1,h2⟩:=HE.o o (lv+t1) hs2 hb2 hb1 (.inr hno);refine ⟨o,?_,hb1,h1,h2,HB.o.drew⟩
         exact congrArg (fun z=>Ending.returned (Value.int IntKind.u32 z)) ae)
    · have hm1:(gk:Int)*(t2:Int)<=(lu:Int):=by rw [<-fq];omega
      have hm2:decide ((lu:Int)<(gk:Int)*(t2:Int))=false:=decide_eq_false ae;have HG:=(jK hbig2 hgb hlv hmore);clear VW hp0 hbig2 hgb hmore;go_wp2
      go_big_region
      all_goals (
       go_wp2;go_ret;obtain ⟨hsum,hmax⟩:=HA.o;obtain ⟨hbig2,hgb,hlv,hmore⟩:=HG.o;obtain ⟨h1,h2⟩:=HE.o gk lv hsum (by rw [<-HL.o];omega) ae hmax;refine ⟨gk,?_,ae,h1,h2,HB.o.drew⟩
       first | rfl | exact congrArg (fun z=>Ending.returned (Value.int IntKind.u32 z)) ae)
theorem qV (L bs:List Nat) (g off n cap:Nat) (ao:Option Addr) (m bz B:Nat) (w:World)
 (hO:Own w g L) (hoff:off+n<=L.length) (hm:m=bs.length) (D6:m<=n) (hcap:n<=cap) (hbig:n<=4611686018427387904) (hL:Wf L) (hb:Wf bs) (hR:Rd B w ao bs) (hB:B<=g) :
 Calls Tryz.prog 231 #[.slice (some ⟨g,off,none⟩) n cap,.slice ao m bz] w fun r w' =>
  ∃ M c,r=.returned (.int .u32 (c:Nat))/\c<=1/\Own w' g M/\Wf M/\Out L M off n/\sg M off n+c*pw n=sg L off n+val bs/\But g w w':=by
 have HR:Aside (Rd B w ao bs/\m=bs.length/\Wf bs/\Wf L/\off+n<=L.length):=⟨hR,hm,hb,hL,hoff⟩;have HO:Hid (Own w g L):=hO;have A8:Hid (∀ x y c s d w,_->_->_->_->_->_):=Iq;clear hR hm hb hL hO hoff;go_enter Tryz.func231,Tryz.ntmps231;go_wp2
 go_loopg [5,11] m (fun gk c i wr=>∃ (k cv:Nat) (M:List Nat),gk+k=m/\c=.int .u32 (cv:Nat)/\cv<=1/\i=.int .i64 (k:Nat) /\
  Hid (Own wr g M)/\Aside (Wf M/\Out L M off k/\sg M off k+cv*pw k=sg L off k+sg bs 0 k/\But g w wr))
 case atStart=>exact ⟨0,0,L,ae,rfl,ae,rfl,HO,HR.o.r3.1,Out.refl _ _ _,by simp [dO],But.refl _ _⟩
 case round =>
  obtain ⟨k,cv,M,wD,rfl,hcv,rfl,HM,HA⟩:=hrel
  by_cases hk:k<m
  · obtain ⟨hR,hm,hb,hL,hoff⟩:=HR.o;obtain ⟨bu,eO,hMs,aG⟩:=HA.o;obtain ⟨b,eX,Gb,rfl,hbc⟩:=hR (by intro e;subst e;simp at hm;omega)
    have hbk:wr.cell? ⟨b,eX+k,none⟩=some (.int .u32 ((bs.getD k 0:Nat):Int)):=by
     have h1:=aG.block b (mM w ⟨b,eX+k,none⟩ (hbc k ae)) ae;exact (wF (a:=⟨b,eX+k,none⟩) h1).trans (hbc k ae)
    have hgc:=HM.o.cell (off+k) (by rw [eO.1];omega);have hgf:=HM.o.frozen (off+k);obtain ⟨x,hx⟩:∃ x:Nat,M.getD (off+k) 0=x:=⟨_,rfl⟩;obtain ⟨y,hy⟩:∃ y:Nat,bs.getD k 0=y:=⟨_,rfl⟩;have hxl:x<4294967296:=hx ▸ bu.get _;have hyl:y<4294967296:=hy ▸ hb.get _;rw [hx] at hgc;rw [hy] at hbk;obtain ⟨s,hs⟩:∃ s:Nat,s=(x+y+cv)%4294967296:=⟨_,rfl⟩;obtain ⟨d,hd⟩:∃ d:Nat,d=(x+y+cv)/4294967296:=⟨_,rfl⟩;have HX:Aside (M.getD (off+k) 0=x/\bs.getD k 0=y/\s=(x+y+cv)%4294967296/\d=(x+y+cv)/4294967296):=⟨hx,hy,hs,hd⟩;clear hx hy hs hd hR hm hb hL hoff bu eO hMs aG hbc;go_wp2_with fail;refine (A8.o x y cv s d _ hxl hyl hcv HX.o.r2.1 HX.o.r3).mono ?_;rintro r w1 ⟨rfl,rfl⟩;go_wp2;go_roundg (gk-1)
    case measure=>omega
    case rel =>
     obtain ⟨hx,hy,hs,hd⟩:=HX.o;obtain ⟨hR,hm,hb,hL,hoff⟩:=HR.o;obtain ⟨bu,eO,hMs,aG⟩:=HA.o;refine ⟨k+1,d,M.set (off+k) s,ae,rfl,ae,by go_num,HM.o.set _ _,bu.set _ _ ae,(eO.mono ae).set _ _ ae ae,?_,aG.set _ _⟩;rw [bT _ _ _ _ (by rw [eO.1];omega),bJ L off k ae,bJ bs 0 k ae,dI,hy,bI];have e:L.getD (off+k) 0=x:=by rw [<-hx];exact (eO.2 _ ae).symm
     rw [e];exact o9 _ _ _ _ _ _ _ _ _ hMs ae
  · obtain rfl:k=m:=ae
    have HA2:Aside (Wf M/\Out L M off k/\sg M off k+cv*pw k=sg L off k+val bs/\But g w wr):=by
     obtain ⟨hR,hm,hb,hL,hoff⟩:=HR.o;obtain ⟨bu,eO,hMs,aG⟩:=HA.o;refine ⟨bu,eO,?_,aG⟩;rw [hMs,hm,dH]
    clear HA wD HO hk;go_wp2
    go_loopg [5,8] (n-k) (fun g2 c i w2=>∃ (j cv:Nat) (M:List Nat),g2+j=n/\k<=j/\c=.int .u32 (cv:Nat)/\cv<=1/\i=.int .i64 (j:Nat) /\
     Hid (Own w2 g M)/\Aside (Wf M/\Out L M off j/\sg M off j+cv*pw j=sg L off j+val bs/\But g w w2))
    case atStart=>exact ⟨k,cv,M,ae,aH _,rfl,hcv,rfl,HM,HA2.o⟩
    case round =>
     clear HM HA2 hcv;obtain ⟨j,cv,M,hgj,hkj,rfl,hcv,rfl,HM,HA⟩:=hrel
     by_cases hj:j<n
     · by_cases h0:cv=0
       · subst h0;go_wp2;go_ret;obtain ⟨hR,hm,hb,hL,hoff⟩:=HR.o;obtain ⟨bu,eO,hMs,aG⟩:=HA.o;refine ⟨M,0,rfl,ae,HM.o,bu,eO.mono ae,?_,aG⟩;rw [dZ,iw] at hMs |-;exact Lu ae ae eO hMs
       · obtain rfl:cv=1:=ae
         obtain ⟨hR,hm,hb,hL,hoff⟩:=HR.o;obtain ⟨bu,eO,hMs,aG⟩:=HA.o;have hgc:=HM.o.cell (off+j) (by rw [eO.1];omega);have hgf:=HM.o.frozen (off+j);obtain ⟨x,hx⟩:∃ x:Nat,M.getD (off+j) 0=x:=⟨_,rfl⟩;have hxl:x<4294967296:=hx ▸ bu.get _;rw [hx] at hgc;obtain ⟨s,hs⟩:∃ s:Nat,s=(x+0+1)%4294967296:=⟨_,rfl⟩;obtain ⟨d,hd⟩:∃ d:Nat,d=(x+0+1)/4294967296:=⟨_,rfl⟩;have HX:Aside (M.getD (off+j) 0=x/\s=(x+0+1)%4294967296/\d=(x+0+1)/4294967296):=⟨hx,hs,hd⟩;clear hx hs hd hR hm hb hL hoff bu eO hMs aG h0;go_wp2_with fail;refine (A8.o x 0 1 s d _ hxl ae ae HX.o.2.1 HX.o.r2).mono ?_;rintro r w1 ⟨rfl,rfl⟩;go_wp2;go_roundg (gk-1)
         case measure=>omega
         case rel =>
          obtain ⟨hx,hs,hd⟩:=HX.o;obtain ⟨hR,hm,hb,hL,hoff⟩:=HR.o;obtain ⟨bu,eO,hMs,aG⟩:=HA.o;refine ⟨j+1,d,M.set (off+j) s,ae,ae,rfl,ae,by go_num,HM.o.set _ _,bu.set _ _ ae,(eO.mono ae).set _ _ ae ae,?_,aG.set _ _⟩;rw [bT _ _ _ _ (by rw [eO.1];omega),bJ L off j ae,bI];have e:L.getD (off+j) 0=x:=by rw [<-hx];exact (eO.2 _ ae).symm
          rw [e];have:=o9 (pw j) _ _ _ _ x 0 s d hMs ae;omega
     · obtain rfl:j=n:=ae
       go_wp2;go_ret;obtain ⟨bu,eO,hMs,aG⟩:=HA.o;exact ⟨M,cv,rfl,hcv,HM.o,bu,eO,hMs,aG⟩
theorem wG (L bs:List Nat) (g off n cap:Nat) (ao:Option Addr) (m bz B q:Nat) (w:World)
 (hO:Own w g L) (hoff:off+n<=L.length) (hm:m=bs.length) (D6:n=m+1) (hcap:n<=cap) (hbig:n<=4611686018427387904) (hL:Wf L) (hb:Wf bs) (hR:Rd B w ao bs) (hB:B<=g) (hq:q<4294967296) :
 Calls Tryz.prog 241 #[.slice (some ⟨g,off,none⟩) n cap,.slice ao m bz,.int .u32 (q:Nat)] w fun r w' =>
  ∃ M,∃ c:Nat,r=.returned (.bool (decide (0<c)))/\c<=1/\Own w' g M/\Wf M/\Out L M off n/\sg M off n+val bs*q=sg L off n+c*pw n/\But g w w':=by
 have HR:Aside (Rd B w ao bs/\m=bs.length/\Wf bs/\Wf L/\off+n<=L.length/\n=m+1):=⟨hR,hm,hb,hL,hoff,D6⟩;have HO:Hid (Own w g L):=hO;have A8:Hid (∀ x y c s d w,_->_->_->_->_->_):=xE;have hmn1:m<n:=ae
 clear hR hm hb hL hO hoff D6;go_enter Tryz.func241,Tryz.ntmps241;go_wp2
 go_loopg [7,8,14] m (fun gk c bo i wr=>∃ (k cv bv:Nat) (M:List Nat),gk+k=m/\c=.int .u64 (cv:Nat)/\cv<4294967296/\bo=.int .u32 (bv:Nat)/\bv<=1/\i=.int .i64 (k:Nat) /\
  Hid (Own wr g M)/\Aside (Wf M/\Out L M off k/\sg M off k+sg bs 0 k*q=sg L off k+(cv+bv)*pw k/\But g w wr))
 case atStart=>exact ⟨0,0,0,L,ae,rfl,ae,rfl,ae,rfl,HO,HR.o.r3.1,Out.refl _ _ _,by simp [dO],But.refl _ _⟩
 case round =>
  obtain ⟨k,cv,bv,M,wD,rfl,hcv,rfl,hbv,rfl,HM,HA⟩:=hrel
  by_cases hk:k<m
  · obtain ⟨hR,hm,hb,hL,hoff,D6⟩:=HR.o;obtain ⟨bu,eO,hMs,aG⟩:=HA.o;obtain ⟨b,eX,Gb,rfl,hbc⟩:=hR (by intro e;subst e;simp at hm;omega)
    have hbk:wr.cell? ⟨b,eX+k,none⟩=some (.int .u32 ((bs.getD k 0:Nat):Int)):=by
     have h1:=aG.block b (mM w ⟨b,eX+k,none⟩ (hbc k ae)) ae;exact (wF (a:=⟨b,eX+k,none⟩) h1).trans (hbc k ae)
    have hgc:=HM.o.cell (off+k) (by rw [eO.1];omega);have hgf:=HM.o.frozen (off+k);obtain ⟨x,hx⟩:∃ x:Nat,M.getD (off+k) 0=x:=⟨_,rfl⟩;obtain ⟨y,hy⟩:∃ y:Nat,bs.getD k 0=y:=⟨_,rfl⟩;have hxl:x<4294967296:=hx ▸ bu.get _;have hyl:y<4294967296:=hy ▸ hb.get _;rw [hx] at hgc;rw [hy] at hbk;have hp0:=qR y q hyl hq;have hp2:(y:Int)*(q:Int)<=18446744065119617025:=by rw [<-fq];omega
    have hp1:0<=(y:Int)*(q:Int):=by rw [<-fq];omega
    obtain ⟨tl,htl⟩:∃ s:Nat,s=(y*q+cv)%4294967296:=⟨_,rfl⟩;obtain ⟨d,hd⟩:∃ d:Nat,d=(y*q+cv)/4294967296:=⟨_,rfl⟩;have e0:((y*q+cv:Nat):Int)=(y:Int)*q+cv:=by simp only [Ah,fq]
    have e1:((y:Int)*q+cv)%4294967296=(tl:Int):=by rw [<-e0];omega
    have e2:((y:Int)*q+cv)/4294967296=(d:Int):=by rw [<-e0];omega
    obtain ⟨s,hs⟩:∃ s:Nat,(s:Int)=((x:Int)-tl-bv)%4294967296:=⟨(((x:Int)-tl-bv)%4294967296).toNat,ae⟩;obtain ⟨bn,hbn⟩:∃ bn:Nat,bn=if x<tl+bv then 1 else 0:=⟨_,rfl⟩
    have ZN:tl<4294967296:=ae
    have HX:Aside (M.getD (off+k) 0=x/\bs.getD k 0=y/\tl+d*4294967296=y*q+cv/\d<4294967296/\(s:Int)=((x:Int)-tl-bv)%4294967296/\bn=if x<tl+bv then 1 else 0):=⟨hx,hy,ae,ae,hs,hbn⟩;clear hx hy hs hd hR hm hb hL hoff bu eO hMs aG hbc e0 hp0 hbn htl D6;go_wp2_with fail;refine (A8.o x tl bv s bn _ hxl ZN hbv HX.o.r4.1 HX.o.r5).mono ?_;rintro r w1 ⟨rfl,rfl⟩;go_wp2;go_roundg (gk-1)
    case measure=>omega
    case rel =>
     obtain ⟨hx,hy,he,hd,hs,hbn⟩:=HX.o;obtain ⟨hR,hm,hb,hL,hoff,D6⟩:=HR.o;obtain ⟨bu,eO,hMs,aG⟩:=HA.o;have TG:bn<=1:=by rw [hbn];split <;> omega
     have hsum:s+tl+bv=x+bn*4294967296:=by rw [hbn];split <;> omega
     refine ⟨k+1,d,bn,M.set (off+k) s,ae,rfl,hd,rfl,TG,by go_num,HM.o.set _ _,bu.set _ _ ae,(eO.mono ae).set _ _ ae ae,?_,aG.set _ _⟩;rw [bT _ _ _ _ (by rw [eO.1];omega),bJ L off k ae,bJ bs 0 k ae,dI,hy,bI];have e:L.getD (off+k) 0=x:=by rw [<-hx];exact (eO.2 _ ae).symm
     rw [e];exact uK _ _ _ _ _ _ _ _ _ _ hMs (by rw [fU];omega)
  · obtain rfl:k=m:=ae
    obtain ⟨hR,hm,hb,hL,hoff,D6⟩:=HR.o;obtain ⟨bu,eO,hMs,aG⟩:=HA.o;have hgc:=HM.o.cell (off+k) (by rw [eO.1];omega);have hgf:=HM.o.frozen (off+k);obtain ⟨x,hx⟩:∃ x:Nat,M.getD (off+k) 0=x:=⟨_,rfl⟩;have hxl:x<4294967296:=hx ▸ bu.get _;rw [hx] at hgc;obtain ⟨s,hs⟩:∃ s:Nat,(s:Int)=((x:Int)-cv-bv)%4294967296:=⟨(((x:Int)-cv-bv)%4294967296).toNat,ae⟩;obtain ⟨bn,hbn⟩:∃ bn:Nat,bn=if x<cv+bv then 1 else 0:=⟨_,rfl⟩
    have HX:Aside (M.getD (off+k) 0=x/\(s:Int)=((x:Int)-cv-bv)%4294967296/\bn=if x<cv+bv then 1 else 0):=⟨hx,hs,hbn⟩;clear hx hs hR hm hb hL hoff bu eO hMs aG hbn D6;go_wp2_with fail;refine (A8.o x cv bv s bn _ hxl hcv hbv HX.o.2.1 HX.o.r2).mono ?_;rintro r w1 ⟨rfl,rfl⟩;go_wp2;go_ret;obtain ⟨hx,hs,hbn⟩:=HX.o;obtain ⟨hR,hm,hb,hL,hoff,D6⟩:=HR.o;obtain ⟨bu,eO,hMs,aG⟩:=HA.o;have TG:bn<=1:=by rw [hbn];split <;> omega
    have hsum:s+cv+bv=x+bn*4294967296:=by rw [hbn];split <;> omega
    refine ⟨M.set (off+k) s,bn,rfl,TG,HM.o.set _ _,bu.set _ _ ae,(eO.mono ae).set _ _ ae ae,?_,aG.set _ _⟩;subst D6;rw [bT _ _ _ _ (by rw [eO.1];omega),bJ L off k ae,bI];have e:L.getD (off+k) 0=x:=by rw [<-hx];exact (eO.2 _ ae).symm
    rw [e];have h2:=uK (pw k) _ _ _ _ x 0 q s bn hMs ae;rw [mX,iw,hm,dH] at h2;exact hm ▸ h2
theorem LB (U V P o c m:Nat) (h1:m+V*o=U+c*P) (hc:c<=1) (h2:U<(o+1)*V) (h3:o*V<=U+V) (hm:m<P) (hV:V<=P) (h0:c=0):m=U-o*V/\m<V/\U=o*V+m:=by
 subst h0;rw [dh V] at h1;rw [fU,iq] at h2;refine ⟨ae,ae,ae⟩
theorem II (U V P o c m M d:Nat) (h1:m+V*(o+1)=U+1*P) (h2:U<(o+1+1)*V) (h3:(o+1)*V<=U+V) (hm:m<P) (hM:M<P) (hb:M+d*P=m+V) (hd:d<=1) (hU:U<V*4294967296) (Sz:V*4294967296<=P*4294967296) (hV:V<=P) :
 U=o*V+M/\M<V:=by
 rw [iq] at h1;have e:V*(o+1)=o*V+V:=by grind
 rw [e] at h1;rw [fU,iq] at h3;rcases (by omega:d=0\/d=1) with rfl|rfl
 · exfalso;rw [dZ] at hb;omega
 · rw [iq] at hb;constructor
   · omega
   · omega
theorem A9 (L bs:List Nat) (g off cap:Nat) (ao:Option Addr) (n bz B:Nat) (w:World) (k:Nat) (hnk:n=k+2)
 (hO:Own w g L) (hoff:off+(k+3)<=L.length) (hm:k+2=bs.length) (hcap:n+1<=cap) (hbig:n+1<=4611686018427387904) (hL:Wf L) (hb:Wf bs) (hR:Rd B w ao bs) (hB:B<=g)
 (htop:2147483648<=bs.getD (k+1) 0) (hlt:sg L off (k+3)<val bs*4294967296) :
 Calls Tryz.prog 238 #[.slice (some ⟨g,off,none⟩) (n+1) cap,.slice ao n bz] w fun r w' =>
  ∃ o:Nat,∃ M,r=.returned (.int .u32 (o:Nat))/\o<4294967296/\Own w' g M/\Wf M/\Out L M off (n+1)/\sg L off (n+1)=o*val bs+sg M off (n+1)/\sg M off (n+1)<val bs/\But g w w':=by
 have G:=hid (IG L bs g off cap ao n bz B w k hnk hO hoff hm hcap ae hL hb hR htop hlt);have HH:=(r9 hO hoff hm hL hb hR hlt hnk);clear hO hoff hm hL hb hR hlt hnk htop;go_enter Tryz.func238,Tryz.ntmps238;go_wp2_with fail;refine G.o.mono ?_;rintro r w1 ⟨o,rfl,ho,h2,h3,hbel⟩;obtain ⟨hO,hoff,hm,hL,hb,hR,hlt,hnk⟩:=HH.o;have hg:=hO.lt;have lU:=hO.below hbel hg;have Ba:Rd B w1 ao bs:=hR.below (hbel.mono ae);have T:=hid (wG L bs g off (n+1) cap ao n bz B o w1 lU ae ae rfl hcap hbig hL hb Ba hB ho);have HI:=(fB h2 h3 hbel);clear hO hoff hm hL hb hR hlt hnk hg lU Ba h2 h3 hbel G;go_wp2_with fail;refine T.o.mono ?_;rintro r w2 ⟨M,c,rfl,hc,hO2,hM,hout,hsum,aG⟩;obtain ⟨hO,hoff,hm,hL,hb,hR,hlt,hnk⟩:=HH.o;obtain ⟨h2,h3,hbel⟩:=HI.o;have e3:k+3=n+1:=ae
 rw [e3] at h2 h3 hlt;have IJ:=mJ M off (n+1) hM (by rw [hout.1];omega);have Gg:=cK bs hb
 have Sz:val bs<=pw (n+1):=by
  have:=jT (show bs.length<=n+1 by omega);omega
 by_cases h0:c=0
 · obtain ⟨e,hlt2,hU⟩:=LB _ _ _ _ _ _ hsum hc h2 h3 IJ Sz h0;have HJ:=(rZ hO2 hM hout hU hlt2 aG hbel);subst h0;clear hO hoff hm hL hb hR hlt hnk h2 h3 hbel hO2 hM hout hsum aG IJ Gg Sz e hlt2 hU T HI e3 hc;go_wp2;go_ret;obtain ⟨hO2,hM,hout,hU,hlt2,aG,hbel⟩:=HJ.o;exact ⟨o,M,rfl,ho,hO2,hM,hout,hU,hlt2,(But.refl _ _).of_below hbel |>.trans aG⟩
 · obtain rfl:c=1:=ae
   have ho1:1<=o:=by
    rcases jO o with h|h
    · subst h;rw [mX] at hsum;have:=mJ L off (n+1) hL ae;omega
    · exact h
   obtain ⟨p,hp⟩:∃ p,o=p+1:=⟨o-1,ae⟩;have hR2:Rd B w2 ao bs:=(hR.below (hbel.mono (by have:=hO.lt;omega))).but aG (by have:=hbel.size;have:=hO.lt;omega) hB;have A:=hid (qV M bs g off (n+1) cap ao n bz B w2 hO2 (by rw [hout.1];omega) ae ae hcap hbig hM hb hR2 hB);have HJ:=(Il hM hout hsum aG hbel h2 h3 IJ Sz hlt hp);clear hO hoff hm hL hb hR hlt hnk h2 h3 hbel hO2 hM hout hsum aG IJ Gg Sz T HI hR2 h0 hp e3 hc;go_wp2_with fail;refine A.o.mono ?_;rintro r w3 ⟨M2,d,rfl,hd,hO3,hM2,hout2,Gh,qf⟩;have HK:=(jE hd hO3 hM2 hout2 Gh qf);clear hd hO3 hM2 hout2 Gh qf A;go_wp2;go_ret;obtain ⟨hM,hout,hsum,aG,hbel,h2,h3,IJ,Sz,hlt,hp⟩:=HJ.o;obtain ⟨hd,hO3,hM2,hout2,Gh,qf⟩:=HK.o;obtain ⟨hO,hoff,hm,hL,hb,hR,hlt',hnk⟩:=HH.o;have hm2:=mJ M2 off (n+1) hM2 (by rw [hout2.1,hout.1];omega);subst hp;obtain ⟨hU,hlt2⟩:=II _ _ _ p 1 _ _ d hsum h2 h3 IJ hm2 Gh hd hlt (gF _ Sz) Sz;refine ⟨p,M2,?_,ae,hO3,hM2,hout.trans hout2,hU,hlt2,(((But.refl _ _).of_below hbel).trans aG).trans qf⟩;exact congrArg (fun z=>Ending.returned (Value.int IntKind.u32 z)) ae
def bl (n:Nat):Nat:=if n=0 then 0 else n.log2+1
theorem dJ:bl 0=0:=rfl
theorem iL (n:Nat):n<2^bl n:=by
 unfold bl
 split
 · next h=>subst h;decide
 · exact Nat.lt_log2_self
theorem iG (n:Nat) (h:n≠0):2^(bl n-1)<=n:=by
 unfold bl;rw [if_neg h];exact Nat.log2_self_le h
theorem dL (n:Nat) (h:n≠0):0<bl n:=by unfold bl;rw [if_neg h];omega
theorem Bb (n k:Nat) (h1:2^k<=n) (h2:n<2^(k+1)):bl n=k+1:=by
 have hn:n≠0:=by have:=bK k;omega
 have a:k<bl n:=(jP (a:=2) aO).1 (iy h1 (iL n));have b:bl n-1<k+1:=(jP (a:=2) aO).1 (iy (iG n hn) h2);omega
theorem IK (x:Nat) (h:x<18446744073709551616):Lib.bitLen x=bl x:=by
 by_cases h0:x=0
 · subst h0;decide
 · obtain ⟨h1,h2,h3⟩:=Lib.bitLenAux_bounds 64 x h h0;obtain ⟨k,hk⟩:∃ k,Lib.bitLen x=k+1:=⟨Lib.bitLen x-1,by unfold Lib.bitLen;omega⟩;have hk':Lib.bitLenAux 64 x=k+1:=hk;rw [hk'] at h2 h3;rw [hk,Bb x k h2 h3]
theorem Wx (n:Nat) (h:n<Lib.len8tab.size):(Lib.len8tab[n]'h).toNat=Lib.bitLen n:=by
 have hn:n<256:=by rw [Lib.len8tab_size] at h;exact h
 have e:=Lib.len8_eq ⟨n,hn⟩;simp only [Lib.len8,oM] at e;rw [getElem?_pos Lib.len8tab n h] at e;exact Int.natCast_inj.1 (by simpa using e)
theorem yO (x i:Int) (c:Nat) (hc:c<=56) (hi:i<256) (hs:Lib.bitLen x.toNat=c+Lib.bitLen i.toNat) (hh:i.toNat<Lib.len8tab.size) (hi0:0<=i) :
 wrap64 ((c:Int)+wrap64 ((Lib.len8tab[i.toNat]'hh).toNat:Int))=(Lib.bitLen x.toNat:Int):=by
 have l:=Lib.bitLen_le8 ⟨i.toNat,ae⟩;simp only at l;rw [Wx,hs];unfold wrap64;omega
theorem LC (x:Int) (hi:x<256) (hi0:0<=x) (hh:x.toNat<Lib.len8tab.size) :
 wrap64 (wrap64 ((Lib.len8tab[x.toNat]'hh).toNat:Int))=(Lib.bitLen x.toNat:Int):=by
 have l:=Lib.bitLen_le8 ⟨x.toNat,ae⟩;simp only at l;rw [Wx];unfold wrap64;omega
set_option maxRecDepth 100000 in
theorem IL (x:Int) (w:World) (h0:0<=x) (h1:x<=4294967295) :
 Calls Tryz.prog 143 #[.int .u32 x] w fun e w'=>e=.returned (.int .i64 (Lib.bitLen x.toNat))/\w'=w:=by
 have hsz:Lib.len8tab.size=256:=Lib.len8tab_size;go_enter Tryz.func143,Tryz.ntmps143;go_wp2
 all_goals (go_ret;refine ⟨congrArg (fun z=>Ending.returned (Value.int IntKind.i64 z)) ?_,rfl⟩)
 · exact yO x (x/65536/256) 24 ae ae (by rw [Lib.bitLen_shift24 x.toNat ae ae,show (x/65536/256).toNat=x.toNat/16777216 by omega]) ae ae
 · exact yO x (x/65536) 16 ae ae (by rw [Lib.bitLen_shift16 x.toNat ae ae,show (x/65536).toNat=x.toNat/65536 by omega]) ae ae
 · exact yO x (x/256) 8 ae ae (by rw [Lib.bitLen_shift8 x.toNat ae ae,show (x/256).toNat=x.toNat/256 by omega]) ae ae
 · exact LC x ae ae ae
theorem xI (x:Nat) (w:World) (h:x<4294967296):Calls Tryz.prog 143 #[.int .u32 (x:Int)] w fun e w'=>e=.returned (.int .i64 (bl x:Nat))/\w'=w:=by
 have:=IL x w ae ae;rw [oM,IK x ae] at this;exact this
theorem ug (x:Nat) (h:x<4294967296):bl x<=32:=by
 by_cases h0:x=0
 · subst h0;decide
 · have:=iG x h0;have:2^(bl x-1)<2^32:=ae
   have:=(jP (a:=2) aO).1 this;omega
theorem D7 (x:Nat) (w:World) (h:x<4294967296):Calls Tryz.prog 237 #[.int .u32 (x:Int)] w fun e w'=>e=.returned (.int .i64 ((32-bl x:Nat):Int))/\w'=w:=by
 have H:=hid (xI x w h);have hb:=ug x h;obtain ⟨k,hk⟩:∃ k,bl x=k:=⟨_,rfl⟩;rw [hk] at H hb |-;clear hk;obtain ⟨z,hz⟩:=ah (32-k);have e:(32:Int)-(k:Int)=(z:Int):=ae
 rw [<-hz];clear hz;go_enter Tryz.func237,Tryz.ntmps237;go_wp2_with fail;refine H.o.mono ?_;rintro r w1 ⟨rfl,rfl⟩;go_wp2;go_ret;exact ⟨by first | rfl | rw [e],rfl⟩
end
end Go.Proofs.YtblkpkgebigojaaGreatDoor
