import Derived.Deep.LoopGhost
import Derived.Test.YtfmfhehbdfhnbaaGreatDoorProg
import Derived.WalkKit
import Derived.OwnWalk
import Derived.Below
import Derived.Laws.OwnMore
import Derived.Laws.CopyOwn
import Derived.Laws.Bits64b
import Derived.Deep.RegionWith
import Derived.Lib.Strings
import Derived.Lib.Slices
import Derived.Lib.Small
import Derived.Lib.Walk
import Derived.Lib.BitFns
import Derived.Lib.Tables
import Derived.Lib.ItoaNum
import Derived.Lib.TrailingZeros
import Derived.Deep.OwnRows
set_option linter.unusedVariables false
set_option linter.unusedSimpArgs false
set_option maxHeartbeats 16000000
set_option maxRecDepth 20000
namespace Go.Proofs.YtfmfhehbdfhnbaaGreatDoor
theorem ah {A:Sort _} (a:A):∃ x,x=a:=⟨a,rfl⟩
theorem aJ {a0 a1:Prop} (h0:a0) (h1:a1):Go.Aside (a0∧a1):=⟨h0,h1⟩
theorem aZ {a0 a1 a2:Prop} (h0:a0) (h1:a1) (h2:a2):Go.Aside (a0∧a1∧a2):=⟨h0,h1,h2⟩
theorem gK {a0 a1 a2 a3:Prop} (h0:a0) (h1:a1) (h2:a2) (h3:a3):Go.Aside (a0∧a1∧a2∧a3):=⟨h0,h1,h2,h3⟩
theorem eu {a0 a1 a2 a3 a4:Prop} (h0:a0) (h1:a1) (h2:a2) (h3:a3) (h4:a4):Go.Aside (a0∧a1∧a2∧a3∧a4):=⟨h0,h1,h2,h3,h4⟩
theorem iI {a0 a1 a2 a3 a4 a5:Prop} (h0:a0) (h1:a1) (h2:a2) (h3:a3) (h4:a4) (h5:a5):Go.Aside (a0∧a1∧a2∧a3∧a4∧a5):=⟨h0,h1,h2,h3,h4,h5⟩
theorem l7 {a0 a1 a2 a3 a4 a5 a6:Prop} (h0:a0) (h1:a1) (h2:a2) (h3:a3) (h4:a4) (h5:a5) (h6:a6):Go.Aside (a0∧a1∧a2∧a3∧a4∧a5∧a6):=⟨h0,h1,h2,h3,h4,h5,h6⟩
theorem rT {a0 a1 a2 a3 a4 a5 a6 a7:Prop} (h0:a0) (h1:a1) (h2:a2) (h3:a3) (h4:a4) (h5:a5) (h6:a6) (h7:a7):Go.Aside (a0∧a1∧a2∧a3∧a4∧a5∧a6∧a7):=⟨h0,h1,h2,h3,h4,h5,h6,h7⟩
theorem P7 {a0 a1 a2 a3 a4 a5 a6 a7 a8:Prop} (h0:a0) (h1:a1) (h2:a2) (h3:a3) (h4:a4) (h5:a5) (h6:a6) (h7:a7) (h8:a8):Go.Aside (a0∧a1∧a2∧a3∧a4∧a5∧a6∧a7∧a8):=⟨h0,h1,h2,h3,h4,h5,h6,h7,h8⟩
theorem y7 {a0 a1 a2 a3 a4 a5 a6 a7 a8 a9:Prop} (h0:a0) (h1:a1) (h2:a2) (h3:a3) (h4:a4) (h5:a5) (h6:a6) (h7:a7) (h8:a8) (h9:a9):Go.Aside (a0∧a1∧a2∧a3∧a4∧a5∧a6∧a7∧a8∧a9):=⟨h0,h1,h2,h3,h4,h5,h6,h7,h8,h9⟩
theorem UH {a0 a1 a2 a3 a4 a5 a6 a7 a8 a9 WB:Prop} (h0:a0) (h1:a1) (h2:a2) (h3:a3) (h4:a4) (h5:a5) (h6:a6) (h7:a7) (h8:a8) (h9:a9) (h10:WB):Go.Aside (a0∧a1∧a2∧a3∧a4∧a5∧a6∧a7∧a8∧a9∧WB):=⟨h0,h1,h2,h3,h4,h5,h6,h7,h8,h9,h10⟩
theorem Zo {a0 a1 a2 a3 a4 a5 a6 a7 a8 a9 WB WC:Prop} (h0:a0) (h1:a1) (h2:a2) (h3:a3) (h4:a4) (h5:a5) (h6:a6) (h7:a7) (h8:a8) (h9:a9) (h10:WB) (h11:WC):Go.Aside (a0∧a1∧a2∧a3∧a4∧a5∧a6∧a7∧a8∧a9∧WB∧WC):=⟨h0,h1,h2,h3,h4,h5,h6,h7,h8,h9,h10,h11⟩
theorem _root_.Go.Aside.o {p:Prop} (h:Go.Aside p):p:=h.out
theorem _root_.Go.RowKit.Hid.o {p:Prop} (h:Go.RowKit.Hid p):p:=h.out
theorem _root_.And.r2 {a0 a1 a2:Prop} (h:a0∧a1∧a2):a2:=h.2.2
theorem _root_.And.r3 {a0 a1 a2 a3:Prop} (h:a0∧a1∧a2∧a3):a3:=h.2.2.2
theorem _root_.And.r4 {a0 a1 a2 a3 a4:Prop} (h:a0∧a1∧a2∧a3∧a4):a4:=h.2.2.2.2
theorem _root_.And.r5 {a0 a1 a2 a3 a4 a5:Prop} (h:a0∧a1∧a2∧a3∧a4∧a5):a5:=h.2.2.2.2.2
theorem _root_.And.r6 {a0 a1 a2 a3 a4 a5 a6:Prop} (h:a0∧a1∧a2∧a3∧a4∧a5∧a6):a6:=h.2.2.2.2.2.2
theorem _root_.And.r7 {a0 a1 a2 a3 a4 a5 a6 a7:Prop} (h:a0∧a1∧a2∧a3∧a4∧a5∧a6∧a7):a7:=h.2.2.2.2.2.2.2
theorem _root_.And.r8 {a0 a1 a2 a3 a4 a5 a6 a7 a8:Prop} (h:a0∧a1∧a2∧a3∧a4∧a5∧a6∧a7∧a8):a8:=h.2.2.2.2.2.2.2.2
abbrev aC:=@Nat.le_refl
abbrev aL:=@Nat.pow_add
abbrev aN:=@Nat.mul_assoc
abbrev bu:=@Nat.two_pow_pos
abbrev df:=@Nat.mul_comm
abbrev dP:=@Nat.le_trans
abbrev dS:=@Nat.zero_add
abbrev fO:=@Nat.mul_le_mul_right
abbrev gY:=@Nat.pow_succ
abbrev gZ:=@Nat.ne_of_lt
abbrev eP:=@List.getD_eq_getElem?_getD
abbrev eQ:=@Nat.zero_mul
abbrev fo:=@Nat.mul_one
abbrev fq:=@Bool.false_eq_true
abbrev fu:=@Prod.mk.inj
abbrev fB:=@Nat.pow_le_pow_right
abbrev fC:=@Nat.pow_zero
abbrev fD:=@Nat.mul_lt_mul_of_pos_right
abbrev fF:=@Nat.add_mul
abbrev fU:=@Int.natCast_mul
abbrev gz:=@List.length_take
abbrev gD:=@Array.getElem?_eq_some_iff
abbrev gM:=@Nat.add_zero
abbrev gN:=@Nat.lt_of_le_of_lt
abbrev gP:=@Nat.mul_le_mul_left
abbrev gQ:=@Nat.div_eq_of_lt
abbrev ic:=@List.take_of_length_le
abbrev ik:=@Nat.mul_pos
abbrev iC:=@Nat.lt_of_lt_of_le
abbrev iD:=@Nat.one_mul
abbrev jf:=@Nat.min_eq_left
abbrev jv:=@Nat.mul_le_mul
abbrev jw:=@Nat.pow_lt_pow_iff_right
abbrev jG:=@Nat.mul_add
abbrev kD:=@Nat.add_sub_cancel
abbrev kE:=@Nat.pow_mul
abbrev kF:=@Nat.eq_zero_or_pos
abbrev kG:=@Bool.toNat_true
abbrev kH:=@Bool.toNat_false
abbrev kI:=@Nat.lt_or_ge
abbrev kJ:=@Nat.ne_of_gt
abbrev lC:=@Array.getElem?_modify
abbrev lD:=@Nat.mod_eq_of_lt
abbrev ma:=@Int.toNat_natCast
abbrev mf:=@Nat.pow_one
abbrev mg:=@Nat.le_of_lt
abbrev mh:=@Int.mul_assoc
abbrev nD:=@Nat.mod_lt
abbrev nE:=@Nat.div_le_self
abbrev nG:=@Nat.mul_zero
abbrev nH:=@Nat.div_div_eq_div_mul
abbrev nI:=@Nat.lt_trichotomy
abbrev nJ:=@Bool.false_and
abbrev nK:=@Nat.mul_lt_mul_right
abbrev nP:=@Nat.pow_pos
abbrev nQ:=@List.getElem?_eq_getElem
abbrev nR:=@List.getElem?_eq_none
abbrev nS:=@Nat.mul_mul_mul_comm
abbrev nT:=@Bool.and_eq_true
abbrev pI:=@List.length_drop
abbrev pJ:=@Nat.add_assoc
abbrev pK:=@Nat.div_add_mod
abbrev pM:=@Nat.add_comm
abbrev pO:=@Nat.eq_of_mul_eq_mul_right
abbrev pQ:=@Nat.zero_le
abbrev qD:=@List.length_cons
abbrev qE:=@Nat.div_lt_iff_lt_mul
abbrev qF:=@Nat.add_mul_div_left
abbrev qG:=@Nat.mul_lt_mul''
abbrev qH:=@Nat.le_div_iff_mul_le
abbrev qI:=@Nat.mul_pow
abbrev qJ:=@Bool.true_and
abbrev tT:=@Nat.div_one
abbrev tV:=@Int.compare_eq_lt
abbrev tX:=@Int.compare_eq_gt
abbrev tY:=@Int.compare_eq_eq
abbrev vJ:=@List.getElem_mem
abbrev xW:=@Nat.mul_lt_mul_of_pos_left
abbrev xX:=@Nat.mul_div_cancel_left
abbrev xY:=@List.drop_of_length_le
abbrev xZ:=@Nat.sub_self
abbrev x8:=@Nat.le_mul_of_pos_left
abbrev x9:=@List.append_assoc
abbrev yc:=@Nat.sub_le
abbrev yf:=@Nat.mul_right_comm
abbrev yg:=@Array.getElem?_setIfInBounds
abbrev yh:=@Bool.false_ne_true
abbrev yj:=@Bool.and_self
abbrev AZ:=@List.drop_replicate
abbrev A8:=@List.mem_map
abbrev A9:=@List.length_append
abbrev Ba:=@List.length_replicate
abbrev Bb:=@Nat.mul_succ
abbrev Bc:=@Int.le_of_lt
abbrev Be:=@List.eq_nil_of_length_eq_zero
abbrev Bf:=@List.take_append_of_le_length
abbrev Bg:=@Nat.lt_of_mul_lt_mul_right
abbrev Bh:=@Int.zero_add
abbrev Bi:=@Bool.and_false
abbrev Gd:=@Int.natCast_add
abbrev y8:=@List.map_append
abbrev y9:=@Nat.add_mul_mod_self_left
abbrev za:=@Nat.le_of_not_lt
abbrev zb:=@Nat.shiftLeft_eq
abbrev ze:=@Nat.sub_add_cancel
abbrev zf:=@Int.mul_lt_mul_of_pos_right
abbrev zg:=@Int.lt_of_mul_lt_mul_right
abbrev zh:=@List.size_toArray
abbrev zi:=@Array.length_toList
abbrev zk:=@List.length_nil
abbrev zl:=@List.getElem?_append_left
abbrev zm:=@Bool.eq_iff_iff
abbrev zn:=@Nat.testBit_lt_two_pow
abbrev zo:=@Option.isSome_iff_exists
abbrev zt:=@Classical.choose_spec
abbrev zu:=@List.all_eq_true
abbrev DL:=@List.take_succ_eq_append_getElem
abbrev DN:=@List.length_eq_zero_iff
abbrev DT:=@Nat.shiftRight_xor_distrib
abbrev DU:=@Nat.two_pow_add_eq_or_of_lt
abbrev DV:=@Nat.mod_two_eq_zero_or_one
abbrev DY:=@Nat.and_two_pow_sub_one_eq_mod
abbrev aF:=@Go.bodyPost_ret
abbrev aD:=@Go.RowKit.Below.refl
abbrev dL:=@Go.World.size_alloc
abbrev lh:=@Go.World.block_lt_of_cell?
abbrev ib:=@Go.heap_alloc_new
abbrev fP:=@Go.Calls.mono
abbrev kK:=@Go.IntKind.wrap_u64
abbrev zw:=@Go.World.cell?_of_block
abbrev zx:=@Go.IntKind.wrap_i64
abbrev Bj:=@Go.World.ownsRow_nil
abbrev pR:=@Go.RowKit.Below.drew
theorem ai {a b:Prop} (x:a) (y:b):a/\b:=⟨x,y⟩
theorem ak {a:Prop} (x:a):Aside a:=x
theorem af {p:Prop} (h:p:=by omega):p:=h
theorem au {p:Prop} (h:p:=by decide):p:=h
theorem dm {p:Prop} (h:p:=by kernel_rfl):p:=h
theorem aO {p:Prop} (h:p:=by simp):p:=h
section
def pw (k:Nat):Nat:=4294967296^k
theorem jg:pw 0=1:=by simp [pw]
theorem bK (k:Nat):pw (k+1)=4294967296*pw k:=by simp [pw,gY,df]
theorem qb (i k:Nat):pw (i+k)=pw i*pw k:=by simp [pw,aL]
theorem jQ (k:Nat):0<pw k:=nP au
theorem jE {i k:Nat}(h:i<=k):pw i<=pw k:=fB au h
def val:List Nat->Nat
 | []=>0
 | x::xs=>x+4294967296*val xs
def Wf (xs:List Nat):Prop:=∀ x ∈ xs,x<4294967296
theorem Wf.nil:Wf []:=by intro x hx;cases hx
theorem Wf.cons {x:Nat}{xs:List Nat}(hx:x<4294967296) (h:Wf xs):Wf (x::xs):=by
 intro y hy;cases hy with
 | head=>exact hx
 | tail _ hy=>exact h y hy
theorem Wf.head {x:Nat}{xs:List Nat}(h:Wf (x::xs)):x<4294967296:=h x aO
theorem Wf.tail {x:Nat}{xs:List Nat}(h:Wf (x::xs)):Wf xs:=fun y hy=>h y (by simp [hy])
theorem Wf.get {xs:List Nat}(h:Wf xs) (k:Nat):xs.getD k 0<4294967296:=by
 by_cases hk:k<xs.length
 · rw [eP,nQ hk];exact h _ (vJ hk)
 · rw [eP,nR af];decide
theorem Wf.take {xs:List Nat}(h:Wf xs) (k:Nat):Wf (xs.take k):=fun y hy=>h y (List.mem_of_mem_take hy)
theorem Wf.drop {xs:List Nat}(h:Wf xs) (k:Nat):Wf (xs.drop k):=fun y hy=>h y (List.mem_of_mem_drop hy)
theorem Wf.append {xs ys:List Nat}(h:Wf xs) (k:Wf ys):Wf (xs++ys):=by
 intro y hy;rcases List.mem_append.1 hy with hy | hy
 · exact h y hy
 · exact k y hy
theorem Wf.set {xs:List Nat}(h:Wf xs) (k x:Nat) (hx:x<4294967296):Wf (xs.set k x):=by
 intro y hy;rcases List.mem_or_eq_of_mem_set hy with hy | hy
 · exact h y hy
 · omega
theorem Wf.zeros (n:Nat):Wf (List.replicate n 0):=by intro y hy;have:=List.eq_of_mem_replicate hy;omega
theorem val_append (xs ys:List Nat):val (xs++ys)=val xs+pw xs.length*val ys:=by
 induction xs with
 | nil=>simp [val,jg]
 | cons x xs ih=>simp only [List.cons_append,val,ih,qD,bK];grind
theorem oz (n:Nat):val (List.replicate n 0)=0:=by
 induction n with
 | zero=>rfl
 | succ n ih=>simp [List.replicate_succ,val,ih]
theorem lK (xs:List Nat) (k:Nat) (hk:k<xs.length):val (xs.take (k+1))=val (xs.take k)+pw k*xs.getD k 0:=by
 rw [DL hk,val_append,gz,jf af,eP,nQ hk];simp [val]
theorem fJ (xs:List Nat) (k:Nat) (hk:k<=xs.length):val xs=val (xs.take k)+pw k*val (xs.drop k):=by
 have h:=val_append (xs.take k) (xs.drop k);rw [List.take_append_drop,gz,jf hk] at h;exact h
theorem dU (xs:List Nat) (k:Nat) (hk:k<xs.length):val (xs.drop k)=xs.getD k 0+4294967296*val (xs.drop (k+1)):=by
 rw [List.drop_eq_getElem_cons hk,val,eP,nQ hk];rfl
theorem dh (xs:List Nat) (h:Wf xs):val xs<pw xs.length:=by
 induction xs with
 | nil=>simp [val,jg]
 | cons x xs ih =>
   have h1:=ih h.tail;have h2:=h.head;simp only [val,qD,bK];omega
def ws (n:Nat):List Nat:=if h:n=0 then [] else n%4294967296::ws (n/4294967296)
termination_by n
decreasing_by omega
theorem bI:ws 0=[]:=by rw [ws];simp
theorem nU (n:Nat) (h:n≠0):ws n=n%4294967296::ws (n/4294967296):=by rw [ws];simp [h]
theorem aj (n:Nat):val (ws n)=n:=by
 induction n using Nat.strongRecOn with
 | _ n ih =>
   by_cases h:n=0
   · subst h;simp [bI,val]
   · rw [nU n h,val,ih (n/4294967296) af];omega
theorem dz (n:Nat):Wf (ws n):=by
 induction n using Nat.strongRecOn with
 | _ n ih =>
   by_cases h:n=0
   · subst h;rw [bI];exact Wf.nil
   · rw [nU n h];exact Wf.cons af (ih _ af)
def nl:List Nat->Nat
 | []=>0
 | x::xs=>if nl xs=0/\x=0 then 0 else nl xs+1
theorem jH (xs:List Nat):nl xs<=xs.length:=by
 induction xs with
 | nil=>simp [nl]
 | cons x xs ih=>simp only [nl,qD];split <;> omega
theorem iU (xs:List Nat):nl xs=0↔val xs=0:=by
 induction xs with
 | nil=>simp [nl,val]
 | cons x xs ih=>simp only [nl,val];split <;> omega
theorem mV (xs:List Nat) (h:Wf xs):xs.take (nl xs)=ws (val xs):=by
 induction xs with
 | nil=>simp [nl,val,bI]
 | cons x xs ih =>
   have h1:=ih h.tail;have h2:=h.head
   by_cases h3:nl xs=0/\x=0
   · have h4:=(iU xs).1 h3.1;simp [nl,h3,val,h4,bI]
   · have h5:val (x::xs)≠0:=by
      intro h6;simp only [val] at h6;exact h3 ⟨(iU xs).2 af,af⟩
     rw [nU _ h5];simp only [nl,if_neg h3,val,List.take_succ_cons];rw [show (x+4294967296*val xs)%4294967296=x by omega,show (x+4294967296*val xs)/4294967296=val xs by omega,h1]
theorem fH (xs:List Nat) (h:Wf xs):nl xs=(ws (val xs)).length:=by
 rw [<-mV xs h,gz,jf (jH xs)]
theorem kL (xs:List Nat) (h:Wf xs):val (xs.take (nl xs))=val xs:=by rw [mV xs h,aj]
theorem Gf (n:Nat):nl (ws n)=(ws n).length:=by rw [fH _ (dz n),aj]
theorem aP (n k:Nat):(ws n).length<=k↔n<pw k:=by
 constructor
 · intro h;have h1:=dh (ws n) (dz n);rw [aj] at h1;exact iC h1 (jE h)
 · intro h
   induction k generalizing n with
   | zero=>rw [jg] at h;obtain rfl:n=0:=af
           simp [bI]
   | succ k ih =>
     by_cases h0:n=0
     · subst h0;simp [bI]
     · rw [nU n h0,qD];rw [bK] at h;have:=ih (n/4294967296) af;omega
theorem Im (n k:Nat) (h1:pw k<=n) (h2:n<pw (k+1)):(ws n).length=k+1:=by
 have a:=(aP n (k+1)).2 h2;have b:¬ (ws n).length<=k:=fun h=>by have:=(aP n k).1 h;omega
 omega
theorem r9 (n:Nat) (h:n≠0):pw ((ws n).length-1)<=n:=by
 have h1:¬ (ws n).length<=(ws n).length-1:=by
  have:(ws n).length≠0:=by rw [nU n h];simp
  omega
 rw [aP] at h1;omega
theorem fV (n:Nat):n<pw (ws n).length:=(aP n _).1 (aC _)
theorem bz (n:Nat):(ws n).length=0↔n=0:=by
 constructor
 · intro h;have:=fV n;rw [h,jg] at this;omega
 · intro h;subst h;simp [bI]
theorem uZ (xs:List Nat) (k:Nat) (hk:k<=xs.length) (h0:∀ j,k<=j->j<xs.length->xs.getD j 0=0) (h1:k=0\/xs.getD (k-1) 0≠0):nl xs=k:=by
 induction xs generalizing k with
 | nil=>simp at hk;simp [nl,hk]
 | cons x xs ih =>
   cases k with
   | zero =>
     have hx:=h0 0 af aO;have:nl xs=0:=ih 0 af (fun j _ hj=>by have:=h0 (j+1) af (by simp;omega);simpa using this) (.inl rfl);simp at hx;simp [nl,this,hx]
   | succ k =>
     cases k with
     | zero =>
       have:nl xs=0:=ih 0 af (fun j _ hj=>by have:=h0 (j+1) af (by simp;omega);simpa using this) (.inl rfl);simp at h1;simp [nl,this,h1]
     | succ k =>
       have:nl xs=k+1:=ih (k+1) (by simpa using hk) (fun j hj hj2=>by have:=h0 (j+1) af (by simp;omega);simpa using this) (.inr (by simpa using h1));simp [nl,this]
theorem Gg (xs:List Nat) (h:nl xs≠0):xs.getD (nl xs-1) 0≠0:=by
 induction xs with
 | nil=>simp [nl] at h
 | cons x xs ih =>
   by_cases h1:nl xs=0
   · have hx:x≠0:=by intro hx;simp [nl,h1,hx] at h
     simp [nl,h1,hx]
   · have h2:¬ (nl xs=0/\x=0):=af
     have:=ih h1;simp only [nl,if_neg h2];obtain ⟨m,hm⟩:∃ m,nl xs=m+1:=⟨nl xs-1,af⟩;rw [hm] at this |-;simpa using this
end
section
open Go.RowKit
theorem hid {p:Prop}(h:p):Hid p:=h
def U (n:Nat):Value:=.int .u32 (n:Int)
def Own (w:World) (g:Nat) (L:List Nat):Prop:=w.heap[g]?=some (.cells (L.map U).toArray 51 (0,0))
theorem Own.lt {w:World}{g:Nat}{L:List Nat}(h:Own w g L):g<w.heap.size:=(gD.1 h).1
theorem Own.cell {w:World}{g:Nat}{L:List Nat}(h:Own w g L) (i:Nat) (hi:i<L.length):w.cell? ⟨g,i,none⟩=some (.int .u32 ((L.getD i 0:Nat):Int)):=by
 unfold Own at h;simp [World.cell?,h,U,hi]
theorem Own.frozen {w:World}{g:Nat}{L:List Nat}(h:Own w g L) (i:Nat):w.frozen? ⟨g,i,none⟩=false:=by
 unfold Own at h;simp [World.frozen?,h]
theorem Own.set {w:World}{g:Nat}{L:List Nat}(h:Own w g L) (i x:Nat):Own (w.setCell ⟨g,i,none⟩ (.int .u32 (x:Int))) g (L.set i x):=by
 unfold Own at h |-;simp only [World.setCell,lC,h];simp [U,List.map_set]
theorem Own.setOther {w:World}{g:Nat}{L:List Nat}(h:Own w g L) {a:Addr}(ha:a.block≠g) (u:Value):Own (w.setCell a u) g L:=by
 unfold Own at h |-;rw [Below.heap_setCell _ _ _ _ (fun e=>ha e.symm)];exact h
theorem Own.alloc {w:World}{g:Nat}{L:List Nat}(h:Own w g L) (o:Obj):Own (w.alloc o) g L:=by
 have:=h.lt;unfold Own at h |-;rw [Below.heap_alloc _ _ _ this];exact h
theorem Own.drew {w:World}{g:Nat}{L:List Nat}(h:Own w g L):Own w.drew g L:=h
theorem Own.below {w w':World}{g B:Nat}{L:List Nat}(h:Own w g L) (hb:Below B w w') (hg:g<B):Own w' g L:=by
 unfold Own at h |-;rw [hb.block g hg];exact h
structure But (g:Nat) (w w':World):Prop where
 os:w'.os=w.os
 tape:w'.tape=w.tape
 output:w'.output=w.output
 size:w.heap.size<=w'.heap.size
 block:∀ k,k<w.heap.size->k≠g->w'.heap[k]?=w.heap[k]?
theorem But.refl (g:Nat) (w:World):But g w w:=⟨rfl,rfl,rfl,aC _,fun _ _ _=>rfl⟩
theorem But.trans {g:Nat}{a b c:World}(h:But g a b) (k:But g b c):But g a c :=
 ⟨k.os.trans h.os,k.tape.trans h.tape,k.output.trans h.output,dP h.size k.size,fun i hi hg=>(k.block i (iC hi h.size) hg).trans (h.block i hi hg)⟩
theorem But.drew {g:Nat}{a w:World}(h:But g a w):But g a w.drew:=⟨h.os,h.tape,h.output,h.size,h.block⟩
theorem But.set {g:Nat}{a w:World}(h:But g a w) (i:Nat) (u:Value):But g a (w.setCell ⟨g,i,none⟩ u) :=
 h.trans ⟨rfl,rfl,rfl,by simp [World.setCell],fun k _ hk=>Below.heap_setCell _ _ _ _ hk⟩
theorem But.of_below {g:Nat}{a w w':World}(h:But g a w) (hb:Below w.heap.size w w'):But g a w' :=
 h.trans ⟨hb.os,hb.tape,hb.output,hb.size,fun k hk _=>hb.block k hk⟩
theorem But.below {g B:Nat}{a w w':World}(h:Below B a w) (hb:But g w w') (hB:B<=w.heap.size) (hg:B<=g):Below B a w' :=
 h.trans ⟨hb.os,hb.tape,hb.output,hb.size,fun k hk=>hb.block k af af⟩
def Rd (B:Nat) (w:World) (ao:Option Addr) (xs:List Nat):Prop :=
 xs≠[]->∃ b off,b<B/\ao=some ⟨b,off,none⟩/\∀ i,i<xs.length->w.cell? ⟨b,off+i,none⟩=some (.int .u32 ((xs.getD i 0:Nat):Int))
theorem Rd.nil (B:Nat) (w:World) (ao:Option Addr):Rd B w ao []:=fun h=>absurd rfl h
theorem Rd.below {B:Nat}{w w':World}{ao:Option Addr}{xs:List Nat}(h:Rd B w ao xs) (hb:Below B w w'):Rd B w' ao xs:=by
 intro hx;obtain ⟨b,off,hlt,rfl,hc⟩:=h hx;exact ⟨b,off,hlt,rfl,fun i hi=>(hb.cell (p:=⟨b,off+i,none⟩) hlt).trans (hc i hi)⟩
theorem Rd.but {B g:Nat}{w w':World}{ao:Option Addr}{xs:List Nat}(h:Rd B w ao xs) (hb:But g w w') (hB:B<=w.heap.size) (hg:B<=g):Rd B w' ao xs :=
 h.below (But.below (aD _ _) hb hB hg)
theorem Rd.mono {B B':Nat}{w:World}{ao:Option Addr}{xs:List Nat}(h:Rd B w ao xs) (hB:B<=B'):Rd B' w ao xs:=by
 intro hx;obtain ⟨b,off,hlt,rfl,hc⟩:=h hx;exact ⟨b,off,af,rfl,hc⟩
theorem Rd.take {B:Nat}{w:World}{ao:Option Addr}{xs:List Nat}(h:Rd B w ao xs) (k:Nat):Rd B w ao (xs.take k):=by
 intro hx;have hx':xs≠[]:=by intro e;subst e;simp at hx
 obtain ⟨b,off,hlt,rfl,hc⟩:=h hx';refine ⟨b,off,hlt,rfl,fun i hi=>?_⟩;simp only [gz] at hi;rw [hc i af];simp [eP,show i<k by omega]
theorem Rd.fM {w:World}{g:Nat}{L:List Nat}(h:Own w g L) (off n:Nat):Rd (g+1) w (some ⟨g,off,none⟩) ((L.drop off).take n):=by
 intro _;refine ⟨g,off,af,rfl,fun i hi=>?_⟩;simp only [gz,pI] at hi;rw [h.cell _ af];simp [eP,show i<n by omega]
def Nt (lo:Nat) (w:World) (v:Value) (X:Nat):Prop:=w.ownsRow lo 51 1 v (ws X).length ((ws X).map U)
theorem Nt.nil (lo:Nat) (w:World):Nt lo w (.slice none 0 0) 0:=by
 unfold Nt;rw [bI];exact Bj _ _ _ _
theorem Nt.fM {lo:Nat}{w:World}{g:Nat}{L:List Nat}(h:Own w g L) (hlo:lo<=g) (hL:Wf L) (hm:L.length<=maxLen) :
 Nt lo w (.slice (some ⟨g,0,none⟩) (nl L) L.length) (val L):=by
 unfold Nt;have e:=mV L hL;have hn:=jH L;rw [<-e];refine ⟨aO,.inr ⟨g,L.length,(L.map U).toArray,?_,hlo,h,?_,hm,aO,aO⟩⟩
 · simp [jf hn]
 · simp;omega
theorem Nt.shape {lo:Nat}{w:World}{v:Value}{X:Nat}(h:Nt lo w v X):∃ ao cap,v=.slice ao (ws X).length cap/\(ws X).length<=cap/\cap<=maxLen/\Rd w.heap.size w ao (ws X):=by
 rcases h.2 with ⟨rfl,h0⟩|⟨g,cap,cur,rfl,hlo,hg,hn,hm,hs,ht⟩
 · refine ⟨none,0,by rw [h0],af,by unfold maxLen;omega,?_⟩;have:ws X=[]:=DN.1 h0;rw [this];exact Rd.nil _ _ _
 · refine ⟨_,cap,rfl,hn,hm,fun _=>⟨g,0,(gD.1 hg).1,rfl,fun i hi=>?_⟩⟩;have:=h.cells (g:=g) (by simp [Value.ownBlock]) i (U ((ws X).getD i 0)) (by simp [hi]);have e:(⟨g,0,none⟩:Addr).add i=⟨g,0+i,none⟩:=by unfold Addr.add;split <;> simp_all
   rw [e] at this;simpa [U] using this
theorem Nt.below {lo:Nat}{w w':World}{v:Value}{X:Nat}(h:Nt lo w v X) (hb:Below w.heap.size w w'):Nt lo w' v X:=by
 refine ⟨h.1,?_⟩;rcases h.2 with hn|⟨g,cap,cur,rfl,hlo,hg,rest⟩
 · exact .inl hn
 · refine .inr ⟨g,cap,cur,rfl,hlo,?_,rest⟩;rw [hb.block g (gD.1 hg).1];exact hg
theorem Nt.mono {lo lo':Nat}{w:World}{v:Value}{X:Nat}(h:Nt lo w v X) (hl:lo'<=lo):Nt lo' w v X:=by
 refine ⟨h.1,?_⟩;rcases h.2 with hn|⟨g,cap,cur,rfl,hlo,rest⟩
 · exact .inl hn
 · exact .inr ⟨g,cap,cur,rfl,af,rest⟩
theorem Tryz.D5:(Tryz.prog.info? 51).map (fun i=>(i.zero,i.size,i.bytes))=some (some (.int .u32 0),1,4):=by kernel_rfl
def Fs (B:Nat) (w:World) (ao:Option Addr) (xs:List Nat):Prop :=
 xs≠[]->∃ b off,b<B/\ao=some ⟨b,off,none⟩/\∀ i,i<xs.length->w.cell? ⟨b,off+i,none⟩=some (.float .f64 (xs.getD i 0))
theorem Fs.at {B:Nat}{w w':World}{ao:Option Addr}{xs:List Nat}(h:Fs B w ao xs) (hb:Below B w w') (i:Nat) (hi:i<xs.length):∃ b off,ao=some ⟨b,off,none⟩/\w'.cell? ⟨b,off+i,none⟩=some (.float .f64 (xs.getD i 0)):=by
 obtain ⟨b,off,h1,h2,h3⟩:=h (by intro e;subst e;simp at hi);exact ⟨b,off,h2,(hb.cell (p:=⟨b,off+i,none⟩) h1).trans (h3 i hi)⟩
theorem Fs.below {B:Nat}{w w':World}{ao:Option Addr}{xs:List Nat}(h:Fs B w ao xs) (hb:Below B w w'):Fs B w' ao xs:=by
 intro hne;obtain ⟨b,off,h1,h2,h3⟩:=h hne;exact ⟨b,off,h1,h2,fun i hi=>(hb.cell (p:=⟨b,off+i,none⟩) h1).trans (h3 i hi)⟩
theorem Fs.mono {B B':Nat}{w:World}{ao:Option Addr}{xs:List Nat}(h:Fs B w ao xs) (hb:B<=B'):Fs B' w ao xs:=by
 intro hne;obtain ⟨b,off,h1,h2,h3⟩:=h hne;exact ⟨b,off,iC h1 hb,h2,h3⟩
def nN (xs:List Nat):Prop:=∀ x ∈ xs,x<18446744073709551616
theorem nN.get {xs:List Nat}(h:nN xs) (i:Nat):xs.getD i 0<18446744073709551616:=by
 by_cases hi:i<xs.length
 · rw [eP,nQ hi];exact h _ (vJ hi)
 · rw [eP,nR af];simp
theorem dV (xs:List Nat) (ao:Option Addr) (n cap B:Nat) (w:World) (hn:n=xs.length) (hc:n<=cap) (hm:n<=9223372036854775807) (hR:Rd B w ao xs) :
 Calls Tryz.prog 129 #[.slice ao n cap] w fun r w'=>r=.returned (.slice ao (nl xs) cap)/\w'=w:=by
 by_cases hx:xs=[]
 · subst hx;simp at hn;subst hn;go_enter Tryz.func129,Tryz.ntmps129;go_wp2
   go_loopg [0] 0 (fun g s wr=>s=.slice ao 0 cap/\wr=w)
   case atStart=>exact ⟨rfl,rfl⟩
   case round =>
    obtain ⟨rfl,rfl⟩:=hrel;go_wp2;go_ret;exact ⟨rfl,rfl⟩
 · obtain ⟨b,off,hB,rfl,hcell⟩:=hR hx;have HN:Aside (n=xs.length):=hn;clear hn hR hx;go_enter Tryz.func129,Tryz.ntmps129;go_wp2
   go_loopg [0] n (fun g s wr=>g<=n/\s=.slice (some ⟨b,off,none⟩) g cap/\wr=w/\Aside (∀ j,g<=j->j<n->xs.getD j 0=0))
   case atStart=>exact ⟨aC _,rfl,rfl,fun j h1 h2=>by omega⟩
   case round =>
    obtain ⟨hk,rfl,rfl,hz⟩:=hrel
    by_cases hk0:gk=0
    · subst hk0;go_wp2;go_ret;rw [uZ xs 0 af (fun j h1 h2=>hz.o j h1 (by have:=HN.o;omega)) (.inl rfl)];exact ⟨rfl,rfl⟩
    · obtain ⟨k,rfl⟩:∃ k,gk=k+1:=⟨gk-1,af⟩;have hcx:=hcell k (by have:=HN.o;omega);obtain ⟨x,fZ⟩:∃ x:Nat,xs.getD k 0=x:=⟨_,rfl⟩;rw [fZ] at hcx;have HX:Aside (xs.getD k 0=x):=fZ;clear fZ hcell hk0
      by_cases h0:x=0
      · subst h0;go_wp2;go_roundg k
        case measure=>omega
        case rel =>
         refine ⟨af,rfl,rfl,fun j h1 h2=>?_⟩
         by_cases hj:j=k
         · subst hj;exact HX.o
         · exact hz.o j af h2
      · go_wp2;go_ret;rw [uZ xs (k+1) (by have:=HN.o;omega) (fun j h1 h2=>hz.o j h1 (by have:=HN.o;omega)) (.inr (by have:=HX.o;rw [kD,this];exact h0))];exact ⟨rfl,rfl⟩
theorem nV (xs:List Nat) (ao:Option Addr) (n cap B:Nat) (w:World) (hn:n=xs.length) (hm:n<=9223372036854775807) (hR:Rd B w ao xs) :
 Calls Tryz.prog 131 #[.slice ao n cap] w fun r w'=>r=.returned (.int .i64 (nl xs:Nat))/\w'=w:=by
 by_cases hx:xs=[]
 · subst hx;simp at hn;subst hn;go_enter Tryz.func131,Tryz.ntmps131;go_wp2
   go_loopg [3] 0 (fun g s wr=>s=.int .i64 0/\wr=w)
   case atStart=>exact ⟨rfl,rfl⟩
   case round =>
    obtain ⟨rfl,rfl⟩:=hrel;go_wp2;go_ret;exact ⟨rfl,rfl⟩
 · obtain ⟨b,off,hB,rfl,hcell⟩:=hR hx;have HN:Aside (n=xs.length):=hn;clear hn hR hx;go_enter Tryz.func131,Tryz.ntmps131;go_wp2
   go_loopg [3] n (fun g s wr=>g<=n/\s=.int .i64 (g:Nat)/\wr=w/\Aside (∀ j,g<=j->j<n->xs.getD j 0=0))
   case atStart=>exact ⟨aC _,rfl,rfl,fun j h1 h2=>by omega⟩
   case round =>
    obtain ⟨hk,rfl,rfl,hz⟩:=hrel
    by_cases hk0:gk=0
    · subst hk0;go_wp2;go_ret;rw [uZ xs 0 af (fun j h1 h2=>hz.o j h1 (by have:=HN.o;omega)) (.inl rfl)];exact ⟨rfl,rfl⟩
    · obtain ⟨k,rfl⟩:∃ k,gk=k+1:=⟨gk-1,af⟩;have hcx:=hcell k (by have:=HN.o;omega);obtain ⟨x,fZ⟩:∃ x:Nat,xs.getD k 0=x:=⟨_,rfl⟩;rw [fZ] at hcx;have HX:Aside (xs.getD k 0=x):=fZ;clear fZ hcell hk0
      by_cases h0:x=0
      · subst h0;go_wp2;go_roundg k
        case measure=>omega
        case rel =>
         refine ⟨af,by go_num,rfl,fun j h1 h2=>?_⟩
         by_cases hj:j=k
         · subst hj;exact HX.o
         · exact hz.o j af h2
      · go_wp2;go_ret;rw [uZ xs (k+1) (by have:=HN.o;omega) (fun j h1 h2=>hz.o j h1 (by have:=HN.o;omega)) (.inr (by have:=HX.o;rw [kD,this];exact h0))];exact ⟨rfl,rfl⟩
theorem si (n:Int):IntKind.u32.wrap n=n%4294967296:=by simp [IntKind.wrap,IntKind.signed,IntKind.bits]
theorem ofInt32 (a:Nat) (ha:a<4294967296):(BitVec.ofInt 32 (a:Int)).toNat=a:=by
 rw [BitVec.ofInt_natCast,BitVec.toNat_ofNat];exact lD af
theorem Gh (a b:Nat) (ha:a<4294967296) (hb:b<4294967296):bits .and .u32 (a:Int) (b:Int)=((a &&& b:Nat):Int):=by
 have hx:a &&& b<2^32:=Nat.and_lt_two_pow _ af;show IntKind.u32.wrap ((BitVec.ofInt 32 (a:Int) &&& BitVec.ofInt 32 (b:Int)).toNat:Int)=_;rw [BitVec.toNat_and,ofInt32 a ha,ofInt32 b hb,si];omega
theorem WE (a b:Nat) (ha:a<4294967296) (hb:b<4294967296):bits .or .u32 (a:Int) (b:Int)=((a ||| b:Nat):Int):=by
 have hx:a ||| b<2^32:=Nat.or_lt_two_pow af af
 show IntKind.u32.wrap ((BitVec.ofInt 32 (a:Int) ||| BitVec.ofInt 32 (b:Int)).toNat:Int)=_;rw [BitVec.toNat_or,ofInt32 a ha,ofInt32 b hb,si];omega
theorem Lu (a b:Nat) (ha:a<4294967296) (hb:b<4294967296):bits .xor .u32 (a:Int) (b:Int)=((a ^^^ b:Nat):Int):=by
 have hx:a ^^^ b<2^32:=Nat.xor_lt_two_pow af af;show IntKind.u32.wrap ((BitVec.ofInt 32 (a:Int) ^^^ BitVec.ofInt 32 (b:Int)).toNat:Int)=_;rw [BitVec.toNat_xor,ofInt32 a ha,ofInt32 b hb,si];omega
theorem D6 (x y c d:Nat) (hx:x<4294967296) (hy:y<4294967296) (hc:c<=1) (hd:(d:Int)=((x:Int)-y-c)%4294967296) :
 (((4294967295 ^^^ x) &&& y) ||| ((4294967295 ^^^ (x ^^^ y)) &&& d))/2147483648=if x<y+c then 1 else 0:=by
 have e:∀ n:Nat,n/2147483648=n >>> 31:=fun n=>by rw [Nat.shiftRight_eq_div_pow]
 rw [e,Nat.shiftRight_or_distrib,Nat.shiftRight_and_distrib,Nat.shiftRight_and_distrib,DT,DT,DT,<-e,<-e,<-e,<-e];have hd2:d<4294967296:=af
 have h1:x/2147483648=0\/x/2147483648=1:=af
 have h2:y/2147483648=0\/y/2147483648=1:=af
 have h3:d/2147483648=0\/d/2147483648=1:=af
 rw [show 4294967295/2147483648=1 from rfl];rcases h1 with h1|h1 <;> rcases h2 with h2|h2 <;> rcases h3 with h3|h3 <;> rw [h1,h2,h3] <;> split <;> first|rfl|(exfalso;omega)
theorem D8 (x y c:Nat) (hx:x<4294967296) (hy:y<4294967296) (hc:c<=1) :
 bits BinOp.or IntKind.u32 (bits BinOp.and IntKind.u32 (bits BinOp.xor IntKind.u32 IntKind.u32.max x) y)
  (bits BinOp.and IntKind.u32
   (bits BinOp.xor IntKind.u32 IntKind.u32.max (bits BinOp.xor IntKind.u32 x y))
   (((x:Int)-y-c)%4294967296)) /
  2147483648=((if x<y+c then 1 else 0:Nat):Int):=by
 obtain ⟨d,hd⟩:∃ d:Nat,(d:Int)=((x:Int)-y-c)%4294967296:=⟨(((x:Int)-y-c)%4294967296).toNat,af⟩;have hd2:d<4294967296:=af
 have hm:IntKind.u32.max=((4294967295:Nat):Int):=au
 have hn:∀ a b:Nat,a<4294967296->b<4294967296->a ^^^ b<4294967296:=fun a b ha hb=>Nat.xor_lt_two_pow (n:=32) ha hb;have ha:∀ a b:Nat,b<4294967296->a &&& b<4294967296:=fun a b hb=>Nat.and_lt_two_pow (n:=32) a hb
 rw [hm,Lu x y hx hy,Lu _ _ au hx,Lu _ _ au (hn _ _ hx hy),Gh _ _ (hn _ _ au hx) hy,<-hd,Gh _ _ (hn _ _ au (hn _ _ hx hy)) hd2,
  WE _ _ (ha _ _ hy) (ha _ _ hd2),<-D6 x y c d hx hy hc hd]
 omega
theorem Io (x y c:Int) (w:World) (hx:0<=x) (hx2:x<4294967296) (hy:0<=y) (hy2:y<4294967296) (hc:0<=c) (hc2:c<=1) :
 Calls Tryz.prog 194 #[.int .u32 x,.int .u32 y,.int .u32 c] w fun r w'=>r=.returned (.tuple #[.int .u32 ((x+y+c)%4294967296),.int .u32 ((x+y+c)/4294967296)])/\w'=w:=by
 go_enter Tryz.func194,Tryz.ntmps194;go_wp2
 go_ret2
 exact ⟨rfl,rfl⟩
theorem Ip (x y c s d:Nat) (w:World) (hx:x<4294967296) (hy:y<4294967296) (hc:c<=1) (hs:s=(x+y+c)%4294967296) (hd:d=(x+y+c)/4294967296) :
 Calls Tryz.prog 194 #[.int .u32 (x:Int),.int .u32 (y:Int),.int .u32 (c:Int)] w fun r w'=>r=.returned (.tuple #[.int .u32 (s:Int),.int .u32 (d:Int)])/\w'=w:=by
 have h:=Io x y c w af af af af af af;rw [show ((x:Int)+y+c)%4294967296=(s:Int) by omega,show ((x:Int)+y+c)/4294967296=(d:Int) by omega] at h;exact h
theorem Iq (x y c bo:Int) (w:World) (hx:0<=x) (hx2:x<4294967296) (hy:0<=y) (hy2:y<4294967296) (hc:0<=c) (hc2:c<=1)
 (hb:bits BinOp.or IntKind.u32 (bits BinOp.and IntKind.u32 (bits BinOp.xor IntKind.u32 IntKind.u32.max x) y)
  (bits BinOp.and IntKind.u32
   (bits BinOp.xor IntKind.u32 IntKind.u32.max (bits BinOp.xor IntKind.u32 x y))
   ((x-y-c)%4294967296)) /
  2147483648=bo) :
 Calls Tryz.prog 181 #[.int .u32 x,.int .u32 y,.int .u32 c] w fun r w'=>r=.returned (.tuple #[.int .u32 ((x-y-c)%4294967296),.int .u32 bo])/\w'=w:=by
 go_enter Tryz.func181,Tryz.ntmps181;go_wp2
 all_goals first | (go_ret2;exact ⟨rfl,rfl⟩) | skip
theorem yl (x y c s d:Nat) (w:World) (hx:x<4294967296) (hy:y<4294967296) (hc:c<=1) (hs:(s:Int)=((x:Int)-y-c)%4294967296) (hd:d=if x<y+c then 1 else 0) :
 Calls Tryz.prog 181 #[.int .u32 (x:Int),.int .u32 (y:Int),.int .u32 (c:Int)] w fun r w'=>r=.returned (.tuple #[.int .u32 (s:Int),.int .u32 (d:Int)])/\w'=w:=by
 have h:=Iq x y c d w af af af af af af (by rw [D8 x y c hx hy hc,<-hd]);rw [<-hs] at h;exact h
theorem vL (n:Nat) (ao:Option Addr) (cap:Nat) (w:World) :
 Calls Tryz.prog 134 #[.slice ao n cap] w fun r w'=>r=.returned (.bool (decide ((8192:Int)<(n:Int))))/\w'=w:=by
 go_enter Tryz.func134,Tryz.ntmps134;go_wp2;go_ret;exact ⟨rfl,rfl⟩
theorem nW (n:Nat) (ao:Option Addr) (cap:Nat) (w:World) :
 Calls Tryz.prog 135 #[.slice ao n cap] w fun r w'=>r=.returned (if 8192<n then .tuple #[.slice none 0 0,.int .i64 2] else .tuple #[.slice ao n cap,.int .i64 0])/\w'=w:=by
 by_cases h:8192<n
 · rw [if_pos h];have hl:=vL n ao cap;have h':(8192:Int)<(n:Int):=af
   simp only [h',decide_true] at hl;have H:Hid (∀ w,_):=hl;clear hl;go_enter Tryz.func135,Tryz.ntmps135;go_wp2_with fail;refine (H.o _).mono ?_;rintro r w1 ⟨rfl,rfl⟩;go_wp2
   go_ret2
   exact ⟨rfl,rfl⟩
 · rw [if_neg h];have hl:=vL n ao cap;have h':¬ (8192:Int)<(n:Int):=af
   simp only [h',decide_false] at hl;have H:Hid (∀ w,_):=hl;clear hl;go_enter Tryz.func135,Tryz.ntmps135;go_wp2_with fail;refine (H.o _).mono ?_;rintro r w1 ⟨rfl,rfl⟩;go_wp2
   go_ret2
   exact ⟨rfl,rfl⟩
theorem P8 (x:Int) (w:World):Calls Tryz.prog 192 #[.int .i64 x] w fun r w'=>r=.returned (.bool false)/\w'=w:=by
 go_enter Tryz.func192,Tryz.ntmps192;go_wp2;go_ret;exact ⟨rfl,rfl⟩
theorem P9 (x:Int) (w:World):Calls Tryz.prog 193 #[.int .u32 x] w fun r w'=>r=.returned (.bool false)/\w'=w:=by
 go_enter Tryz.func193,Tryz.ntmps193;go_wp2;go_ret;exact ⟨rfl,rfl⟩
def aY (x y:Nat):Int:=if x<y then -1 else if y<x then 1 else 0
theorem Ir (x y:Nat) (w:World):Calls Tryz.prog 179 #[.int .i64 (x:Int),.int .i64 (y:Int)] w fun r w'=>r=.returned (.int .i64 (aY x y))/\w'=w:=by
 have H:Hid (∀ x w,_):=P8
 by_cases h:x<y
 · have e:aY x y=-1:=by simp [aY,h]
   rw [e];clear e;go_enter Tryz.func179,Tryz.ntmps179;go_wp2_with fail;refine (H.o _ _).mono ?_;rintro r w1 ⟨rfl,rfl⟩;go_wp2_with fail;refine (H.o _ _).mono ?_;rintro r w1 ⟨rfl,rfl⟩;go_wp2;go_ret;exact ⟨rfl,rfl⟩
 · by_cases h2:y<x
   · have e:aY x y=1:=by simp [aY,h,h2]
     rw [e];clear e;go_enter Tryz.func179,Tryz.ntmps179;go_wp2_with fail;refine (H.o _ _).mono ?_;rintro r w1 ⟨rfl,rfl⟩;go_wp2_with fail;refine (H.o _ _).mono ?_;rintro r w1 ⟨rfl,rfl⟩;go_wp2;go_ret;exact ⟨rfl,rfl⟩
   · have e:aY x y=0:=by simp [aY,h,h2]
     rw [e];clear e;go_enter Tryz.func179,Tryz.ntmps179;go_wp2_with fail;refine (H.o _ _).mono ?_;rintro r w1 ⟨rfl,rfl⟩;go_wp2_with fail;refine (H.o _ _).mono ?_;rintro r w1 ⟨rfl,rfl⟩;go_wp2;go_ret;exact ⟨rfl,rfl⟩
theorem ym (x y:Nat) (w:World):Calls Tryz.prog 180 #[.int .u32 (x:Int),.int .u32 (y:Int)] w fun r w'=>r=.returned (.int .i64 (aY x y))/\w'=w:=by
 have H:Hid (∀ x w,_):=P9
 by_cases h:x<y
 · have e:aY x y=-1:=by simp [aY,h]
   rw [e];clear e;go_enter Tryz.func180,Tryz.ntmps180;go_wp2_with fail;refine (H.o _ _).mono ?_;rintro r w1 ⟨rfl,rfl⟩;go_wp2_with fail;refine (H.o _ _).mono ?_;rintro r w1 ⟨rfl,rfl⟩;go_wp2;go_ret;exact ⟨rfl,rfl⟩
 · by_cases h2:y<x
   · have e:aY x y=1:=by simp [aY,h,h2]
     rw [e];clear e;go_enter Tryz.func180,Tryz.ntmps180;go_wp2_with fail;refine (H.o _ _).mono ?_;rintro r w1 ⟨rfl,rfl⟩;go_wp2_with fail;refine (H.o _ _).mono ?_;rintro r w1 ⟨rfl,rfl⟩;go_wp2;go_ret;exact ⟨rfl,rfl⟩
   · have e:aY x y=0:=by simp [aY,h,h2]
     rw [e];clear e;go_enter Tryz.func180,Tryz.ntmps180;go_wp2_with fail;refine (H.o _ _).mono ?_;rintro r w1 ⟨rfl,rfl⟩;go_wp2_with fail;refine (H.o _ _).mono ?_;rintro r w1 ⟨rfl,rfl⟩;go_wp2;go_ret;exact ⟨rfl,rfl⟩
end
section
def sg (L:List Nat) (off k:Nat):Nat:=val ((L.drop off).take k)
theorem dW (L:List Nat) (off:Nat):sg L off 0=0:=by simp [sg,val]
theorem bJ (L:List Nat) (off k:Nat) (h:off+k<L.length):sg L off (k+1)=sg L off k+pw k*L.getD (off+k) 0:=by
 unfold sg;rw [lK _ _ (by simp;omega)];simp [eP]
theorem kP (L:List Nat) (off k:Nat) (h:off<L.length):sg L off (k+1)=L.getD off 0+4294967296*sg L (off+1) k:=by
 unfold sg;rw [List.drop_eq_getElem_cons h,List.take_succ_cons,val,eP,nQ h];rfl
theorem dM (L:List Nat):sg L 0 L.length=val L:=by simp [sg]
theorem iM (L:List Nat) (off k m:Nat) (h:off+k+m<=L.length):sg L off (k+m)=sg L off k+pw k*sg L (off+k) m:=by
 induction m with
 | zero=>simp [dW]
 | succ m ih =>
   rw [<-pJ,bJ L off (k+m) af,bJ L (off+k) m af,ih af,qb,jG,<-pJ off k m];simp only [aN,pJ]
theorem qK (L M:List Nat) (off k:Nat) (hl:M.length=L.length) (h:off+k<=L.length) (he:∀ j,off<=j->j<off+k->M.getD j 0=L.getD j 0):sg M off k=sg L off k:=by
 induction k with
 | zero=>simp [dW]
 | succ k ih=>rw [bJ M off k af,bJ L off k af,ih af (fun j h1 h2=>he j h1 af),he (off+k) af af]
theorem Bn (L:List Nat) (i j x:Nat):(L.set i x).getD j 0=if i=j/\j<L.length then x else L.getD j 0:=by
 simp only [eP,List.getElem?_set]
 by_cases h:i=j
 · subst h
   by_cases h2:i<L.length
   · simp [h2]
   · simp [h2]
 · simp [h]
theorem iE (L:List Nat) (i x:Nat) (h:i<L.length):(L.set i x).getD i 0=x:=by rw [Bn,if_pos ⟨rfl,h⟩]
theorem getD_set_ne (L:List Nat) (i j x:Nat) (h:i≠j):(L.set i x).getD j 0=L.getD j 0:=by rw [Bn,if_neg (fun e=>h e.1)]
theorem mW (L:List Nat) (off k i x:Nat) (h:off+k<=i) (hl:off+k<=L.length):sg (L.set i x) off k=sg L off k :=
 qK L _ off k aO hl (fun j _ h2=>getD_set_ne _ _ _ _ af)
theorem qL (L:List Nat) (off k i x:Nat) (h:i<off) (hl:off+k<=L.length):sg (L.set i x) off k=sg L off k :=
 qK L _ off k aO hl (fun j h1 _=>getD_set_ne _ _ _ _ af)
theorem cB (L:List Nat) (off k x:Nat) (h:off+k<L.length):sg (L.set (off+k) x) off (k+1)=sg L off k+pw k*x:=by
 rw [bJ _ _ _ (by simp;omega),iE _ _ _ h,mW _ _ _ _ _ af af]
theorem nL (L:List Nat) (off k:Nat) (hw:Wf L) (h:off+k<=L.length):sg L off k<pw k:=by
 have:=dh _ ((hw.drop off).take k);simp only [gz,pI] at this;rw [jf af] at this;exact this
theorem jI (L:List Nat) (k:Nat):sg L 0 k=val (L.take k):=by simp [sg]
theorem vM (n i:Nat):(List.replicate n 0).getD i 0=0:=by
 simp only [eP,List.getElem?_replicate];split <;> rfl
theorem qM (n off k:Nat):sg (List.replicate n 0) off k=0:=by
 unfold sg;rw [AZ,List.take_replicate,oz]
def Out (L M:List Nat) (off n:Nat):Prop:=M.length=L.length/\∀ j,(j<off\/off+n<=j)->M.getD j 0=L.getD j 0
theorem Out.refl (L:List Nat) (off n:Nat):Out L L off n:=⟨rfl,fun _ _=>rfl⟩
theorem Out.set {L M:List Nat}{off n:Nat}(h:Out L M off n) (i x:Nat) (h1:off<=i) (h2:i<off+n):Out L (M.set i x) off n :=
 ⟨by simp [h.1],fun j hj=>by rw [getD_set_ne _ _ _ _ af];exact h.2 j hj⟩
theorem Out.mono {L M:List Nat}{off n k:Nat}(h:Out L M off n) (hk:n<=k):Out L M off k:=⟨h.1,fun j hj=>h.2 j af⟩
theorem Out.trans {L M K:List Nat}{off n:Nat}(h:Out L M off n) (k:Out M K off n):Out L K off n:=⟨k.1.trans h.1,fun j hj=>(k.2 j hj).trans (h.2 j hj)⟩
theorem Out.below {L M:List Nat}{off n:Nat}(h:Out L M off n) (a k:Nat) (h1:a+k<=off) (h2:a+k<=L.length):sg M a k=sg L a k:=qK L M a k h.1 h2 (fun j _ hj=>h.2 j af)
theorem Out.above {L M:List Nat}{off n:Nat}(h:Out L M off n) (a k:Nat) (h1:off+n<=a) (h2:a+k<=L.length):sg M a k=sg L a k:=qK L M a k h.1 h2 (fun j hj _=>h.2 j af)
theorem qc (p a b V c x y s d:Nat) (h:V+c*p=a+b) (e:s+d*4294967296=x+y+c):V+p*s+d*(4294967296*p)=(a+p*x)+(b+p*y):=by
 have:p*(s+d*4294967296)=p*(x+y+c):=by rw [e]
 grind
theorem Lv {L M:List Nat}{off k n V:Nat}(hk:k<=n) (hn:off+n<=L.length) (ho:Out L M off k) (h:sg M off k=sg L off k+V):sg M off n=sg L off n+V:=by
 obtain ⟨d,rfl⟩:∃ d,n=k+d:=⟨n-k,af⟩;have h1:=iM M off k d (by rw [ho.1];omega);have h2:=iM L off k d af;have h3:=ho.above (off+k) d af af;rw [h1,h2,h3];omega
theorem vN (p a b V c x y q s d:Nat) (h:V+c*p=a+b*q) (e:s+d*4294967296=y*q+x+c):V+p*s+d*(4294967296*p)=(a+p*x)+(b+p*y)*q:=by
 have:p*(s+d*4294967296)=p*(y*q+x+c):=by rw [e]
 grind
theorem sj (x y:Nat) (hx:x<4294967296) (hy:y<4294967296):x*y<=18446744065119617025:=by
 have:x*y<=4294967295*4294967295:=jv af af;omega
theorem vO (p a b V c x y q s d:Nat) (h:V+b*q=a+c*p) (e:s+y*q+c=x+d*4294967296):V+p*s+(b+p*y)*q=(a+p*x)+d*(4294967296*p):=by
 have:p*(s+y*q+c)=p*(x+d*4294967296):=by rw [e]
 grind
theorem Lx (X Q q x d l l2:Nat) (h:X=Q*d+l) (e:l*4294967296+x=q*d+l2):x+4294967296*X=(q+4294967296*Q)*d+l2:=by
 subst h
 grind
theorem nX (p a b V c x y s d:Nat) (h:V+b=a+c*p) (e:s+y+c=x+d*4294967296):V+p*s+(b+p*y)=(a+p*x)+d*(4294967296*p):=by
 have:p*(s+y+c)=p*(x+d*4294967296):=by rw [e]
 grind
theorem Iu {L M:List Nat}{off k n V:Nat}(hk:k<=n) (hn:off+n<=L.length) (ho:Out L M off k) (h:sg M off k+V=sg L off k):sg M off n+V=sg L off n:=by
 obtain ⟨d,rfl⟩:∃ d,n=k+d:=⟨n-k,af⟩;have h1:=iM M off k d (by rw [ho.1];omega);have h2:=iM L off k d af;have h3:=ho.above (off+k) d af af;rw [h1,h2,h3];omega
end
section
open Go.RowKit
theorem oF (l x:Nat) (hl:l<4294967296) (hx:x<4294967296):bits BinOp.or IntKind.u64 ((l:Int)*4294967296) (x:Int)=((l*4294967296+x:Nat):Int):=by
 have e:((l:Int)*4294967296)=((l*4294967296:Nat):Int):=by simp only [fU];rfl
 rw [e,bits_or_u64_nat _ _ af af];have:=DU (i:=32) (b:=x) af l;have e2:2^32*l=l*4294967296:=by rw [df]
 rw [e2] at this;rw [this]
theorem Qa (L:List Nat) (g off n cap q:Nat) (w:World)
 (hO:Own w g L) (hoff:off+n<=L.length) (hcap:n<=cap) (hbig:n<=4611686018427387904) (hL:Wf L) (hq:q<4294967296) (hq0:0<q) :
 Calls Tryz.prog 185 #[.slice (some ⟨g,off,none⟩) n cap,.int .u32 (q:Nat)] w fun r w' =>
  ∃ M,∃ c:Nat,r=.returned (.int .u32 (c:Nat))/\c<q/\Own w' g M/\Wf M/\Out L M off n/\sg L off n=sg M off n*q+c/\But g w w':=by
 have HR:Aside (Wf L/\off+n<=L.length):=⟨hL,hoff⟩;have HO:Hid (Own w g L):=hO;clear hL hO hoff;go_enter Tryz.func185,Tryz.ntmps185;go_wp2
 go_loopg [5,6] n (fun k c i wr=>∃ (cv:Nat) (M:List Nat),k<=n/\c=.int .u64 (cv:Nat)/\cv<q/\i=.int .i64 ((k:Int)-1) /\
  Hid (Own wr g M)/\Aside (Wf M/\Out L M (off+k) (n-k)/\sg L (off+k) (n-k)=sg M (off+k) (n-k)*q+cv/\But g w wr))
 case atStart=>exact ⟨0,L,aC _,rfl,hq0,rfl,HO,HR.o.1,Out.refl _ _ _,by simp [dW],But.refl _ _⟩
 case round =>
  obtain ⟨cv,M,hk,rfl,hcv,rfl,HM,HA⟩:=hrel
  by_cases hk0:gk=0
  · subst hk0;go_wp2;go_ret;obtain ⟨dA,fK,hMs,aH⟩:=HA.o;exact ⟨M,cv,rfl,hcv,HM.o,dA,fK,hMs,aH⟩
  · obtain ⟨k,rfl⟩:∃ k,gk=k+1:=⟨gk-1,af⟩;obtain ⟨hL,hoff⟩:=HR.o;obtain ⟨dA,fK,hMs,aH⟩:=HA.o;have hgc:=HM.o.cell (off+k) (by rw [fK.1];omega);have hgf:=HM.o.frozen (off+k);obtain ⟨x,hx⟩:∃ x:Nat,M.getD (off+k) 0=x:=⟨_,rfl⟩;have hxl:x<4294967296:=hx ▸ dA.get _;rw [hx] at hgc;obtain ⟨t,ht⟩:∃ t:Nat,t=cv*4294967296+x:=⟨_,rfl⟩;have e1:bits BinOp.or IntKind.u64 ((cv:Int)*4294967296) (x:Int)=(t:Int):=by rw [oF cv x af hxl,ht]
    have ht2:(t:Int)<18446744073709551616:=af
    have Zp:t/q<4294967296:=by
     rw [qE hq0];have:cv*4294967296+4294967296<=q*4294967296:=af
     omega
    obtain ⟨s,hs⟩:∃ s:Nat,s=t/q:=⟨_,rfl⟩;obtain ⟨d,hd⟩:∃ d:Nat,d=t%q:=⟨_,rfl⟩;have e2:(t:Int)/(q:Int)=(s:Int):=by rw [hs];simp
    have e3:(t:Int)%(q:Int)=(d:Int):=by rw [hd];simp
    have hs2:s<4294967296:=af
    have hdq:d<q:=by rw [hd];exact nD _ hq0
    have HX:Aside (M.getD (off+k) 0=x/\cv*4294967296+x=s*q+d):=⟨hx,by rw [hs,hd,<-ht,df];exact (pK t q).symm⟩;clear hx hs hd hL hoff dA fK hMs aH ht hk0 Zp;go_wp2
    go_region
    all_goals (
     go_wp2;go_roundg k
     case measure=>omega
     case rel =>
      obtain ⟨hx,he⟩:=HX.o;obtain ⟨hL,hoff⟩:=HR.o;obtain ⟨dA,fK,hMs,aH⟩:=HA.o;have hx2:L.getD (off+k) 0=x:=by rw [<-hx];exact (fK.2 _ af).symm
      refine ⟨d,M.set (off+k) s,af,by first | rfl | rw [e3],hdq,by first | go_num | (congr 1;omega),(HM.o.set (off+k) s).drew,dA.set _ _ hs2,⟨by simp [fK.1],fun j hj=>?_⟩,?_,(aH.set (off+k) _).drew⟩
      · by_cases hj2:j=off+k
        · omega
        · rw [getD_set_ne _ _ _ _ (fun e=>hj2 e.symm)];exact fK.2 j af
      · obtain ⟨r,hr⟩:∃ r,n-k=r+1:=⟨n-(k+1),af⟩;have hr2:n-(k+1)=r:=af
        rw [hr2] at hMs;rw [hr,kP L _ _ af,kP _ _ _ (by simp [fK.1];omega),iE _ _ _ (by rw [fK.1];omega),qL _ _ _ _ _ af (by rw [fK.1];omega),hx2]
        exact Lx _ _ _ _ _ _ _ hMs he)
theorem jY (rest:Nat) (h:rest<32):2^rest*2^(32-rest)=4294967296:=by
 rw [<-aL,show rest+(32-rest)=32 by omega]
theorem UI (x y rest:Nat) (hr:rest<32) (hx:x<2^rest):x ||| (y*2^rest%4294967296)=x+y*2^rest%4294967296:=by
 have e:y*2^rest%4294967296=2^rest*(y%2^(32-rest)):=by
  rw [<-jY rest hr,df y,Nat.mul_mod_mul_left]
 rw [e,Nat.or_comm,<-DU hx,pM]
theorem UJ (y rest:Nat) (hy:y<4294967296):y*2^rest/4294967296<2^rest:=by
 rw [qE au,df];exact xW hy (bu _)
theorem qd (rest:Nat) (h:rest<32):2^rest<=2147483648:=by
 have:2^rest<=2^31:=fB au af;omega
theorem WG (y rest:Nat) (hy:y<4294967296) (hr:rest<32):y*2^rest<18446744073709551616:=by
 have h:=qd rest hr;have:y*2^rest<=4294967295*2147483648:=jv af h;omega
theorem Iw (n:Int) (h0:0<=n) (h1:n<18446744073709551616):IntKind.u64.wrap n=n:=by
 rw [kK];omega
theorem lN (words rest:Nat):2^(32*words+rest)=pw words*2^rest:=by
 rw [aL,kE];rfl
theorem Qb (p S x t q b s d y r:Nat) (hS:S+p*x=b*r) (ht:t=y*r) (hs:s=x+t%4294967296) (hd:d=t/4294967296):S+p*s+4294967296*p*d=(b+p*y)*r:=by
 have e:t%4294967296+4294967296*d=t:=by rw [hd];exact Nat.mod_add_div _ _
 have e2:p*s+4294967296*p*d=p*x+p*t:=by
  have:p*(s+4294967296*d)=p*(x+t):=by rw [hs];congr 1;omega
  grind
 have e3:(b+p*y)*r=b*r+p*t:=by rw [ht];grind
 omega
end
section
theorem Iy (b o t1 t2 l u2 T:Nat) (hT:o*t1+l=T) (h:o*t2<=l*b+u2):o*(t1*b+t2)<=T*b+u2:=by
 subst hT;have e:o*(t1*b+t2)=o*t1*b+o*t2:=by grind
 have e2:(o*t1+l)*b=o*t1*b+l*b:=by grind
 omega
theorem Bo (b o t1 t2 l u2 T:Nat) (hT:o*t1+l=T) (h:l*b+u2<o*t2):T*b+u2<o*(t1*b+t2):=by
 subst hT;have e:o*(t1*b+t2)=o*t1*b+o*t2:=by grind
 have e2:(o*t1+l)*b=o*t1*b+l*b:=by grind
 omega
theorem Bp (b t1 t2 u2 T:Nat) (h1:0<t1) (h2:u2<b):T*b+u2<(T/t1+1)*(t1*b+t2):=by
 have h:=Nat.lt_div_mul_add (a:=T) (b:=t1) h1;have h3:T+1<=(T/t1+1)*t1:=by rw [fF,iD];omega
 have h4:(T+1)*b<=(T/t1+1)*t1*b:=fO _ h3;have e:(T/t1+1)*(t1*b+t2)=(T/t1+1)*t1*b+(T/t1+1)*t2:=by grind
 rw [fF,iD] at h4;omega
theorem tZ (b o t1 t2 l u2 T:Nat) (hT:o*t1+l=T) (hl:b<=l) (hT2:T<t1*b+b) (ht:t2<b) (h1:0<t1):o<b/\o*t2<=l*b+u2:=by
 have ho:o<b:=by
  by_cases h:o<b
  · exact h
  · exfalso;have:b*t1<=o*t1:=fO _ af;rw [df b] at this;omega
 have h2:o*t2<=b*b:=jv af af;have h3:b*b<=l*b:=fO _ hl;exact ⟨ho,af⟩
theorem D9 (b o D W P u v U V:Nat) (hP:0<P) (hU:U=W*P+u) (hu:u<P) (hV:V=D*P+v) (hv:v<P) (h1:o*D<=W) (h2:b<=o+1\/W<(o+1)*D) (hlt:U<V*b) (ho:o<b) (hD:b<=D) :
 U<(o+1)*V/\o*V<=U+V:=by
 constructor
 · rcases h2 with h2 | h2
   · obtain rfl:b=o+1:=af
     rw [df];exact hlt
   · have h3:(W+1)*P<=(o+1)*D*P:=fO _ h2;have h4:(o+1)*V=(o+1)*D*P+(o+1)*v:=by rw [hV];grind
     rw [fF] at h3;omega
 · rcases o with _ | o
   · omega
   · have h3:(o+1)*D*P<=W*P:=fO _ h1;have h4:(o+1)*V=(o+1)*D*P+o*v+v:=by rw [hV];grind
     have h5:o*v<=D*P:=jv af af;omega
theorem Iz (b P t1 t2 u0 u1 u2 u v U V:Nat) (hU:U=((u0*b+u1)*b+u2)*P+u) (hV:V=(t1*b+t2)*P+v) (hv:v<P) (ht:t2<b) (hlt:U<V*b):u0<=t1:=by
 by_cases h:u0<=t1
 · exact h
 · exfalso;have h1:(t1*b+t2+1)*P<=(t1+1)*b*P:=fO _ (by rw [fF,iD];omega)
   have h2:V<(t1+1)*b*P:=by
    rw [fF,iD] at h1;omega
   have h3:V*b<=(t1+1)*b*P*b:=fO _ af;have h4:(t1+1)*(b*P*b)<=u0*(b*P*b):=fO _ af;have h5:(t1+1)*b*P*b=(t1+1)*(b*P*b):=by grind
   have h6:U=u0*(b*P*b)+(u1*b+u2)*P+u:=by rw [hU];grind
   omega
theorem Gi (L:List Nat) (off k:Nat) (hL:Wf L) (h:off+(k+2)<=L.length):sg L off (k+2)=(L.getD (off+(k+1)) 0*4294967296+L.getD (off+k) 0)*pw k+sg L off k/\sg L off k<pw k:=by
 refine ⟨?_,nL L off k hL af⟩;rw [show k+2=k+1+1 by omega,bJ L off (k+1) af,bJ L off k af,bK]
 grind
theorem IC (L:List Nat) (off k:Nat) (hL:Wf L) (h:off+(k+3)<=L.length):sg L off (k+3)=((L.getD (off+(k+2)) 0*4294967296+L.getD (off+(k+1)) 0)*4294967296+L.getD (off+k) 0)*pw k+sg L off k/\sg L off k<pw k:=by
 refine ⟨?_,nL L off k hL af⟩;rw [show k+3=k+2+1 by omega,bJ L off (k+2) af,(Gi L off k hL af).1,show k+2=k+1+1 by omega,bK,bK]
 grind
end
section
open Go.RowKit
set_option maxRecDepth 20000 in
theorem IE (L bs:List Nat) (g off cap:Nat) (ao:Option Addr) (n aX B:Nat) (w:World) (k:Nat) (hnk:n=k+2)
 (hO:Own w g L) (hoff:off+(k+3)<=L.length) (hm:k+2=bs.length) (hcap:n+1<=cap) (hbig:n<=4611686018427387904) (hL:Wf L) (hb:Wf bs) (hR:Rd B w ao bs)
 (htop:2147483648<=bs.getD (k+1) 0) (hlt:sg L off (k+3)<val bs*4294967296) :
 Calls Tryz.prog 195 #[.slice (some ⟨g,off,none⟩) (n+1) cap,.slice ao n aX] w fun r w' =>
  ∃ o:Nat,r=.returned (.int .u32 (o:Nat))/\o<4294967296/\sg L off (k+3)<(o+1)*val bs/\o*val bs<=sg L off (k+3)+val bs/\Below w.heap.size w w':=by
 obtain ⟨b,fQ,K7,rfl,hbc⟩:=hR (by intro e;subst e;simp at hm);have c1:=hbc (k+1) af;have c2:=hbc k af;have d0:=hO.cell (off+(k+2)) af;have d1:=hO.cell (off+(k+1)) af;have d2:=hO.cell (off+k) af;have en1:k+1=n-1:=af
 have en2:fQ+k=fQ+(n-2):=af
 have en3:off+k=off+(n-2):=af
 have en4:off+(k+2)=off+n:=af
 have en5:off+(k+1)=off+(n-1):=af
 have en6:fQ+(k+1)=fQ+(n-1):=af
 have hn2:2<=n:=af
 have b1:=hb.get (k+1);have b2:=hb.get k;have l0:=hL.get (off+(k+2));have l1:=hL.get (off+(k+1));have l2:=hL.get (off+k);obtain ⟨eU,hu⟩:=IC L off k hL hoff;obtain ⟨eV,hv⟩:=Gi bs 0 k hb af;rw [dS,dS,show k+2=bs.length from hm,dM] at eV;have HN:=(ak hnk);clear en1;generalize bs.getD (k+1) 0=t1 at *;generalize bs.getD k 0=t2 at *;generalize L.getD (off+(k+2)) 0=u0 at *;generalize L.getD (off+(k+1)) 0=u1 at *;generalize L.getD (off+k) 0=u2 at *;generalize sg L off (k+3)=U at *;generalize val bs=V at *;generalize sg L off k=u at *;generalize sg bs 0 k=v at *;rw [en6] at c1;rw [en2] at c2;rw [en4] at d0;rw [en5] at d1;rw [en3] at d2;have hu0:u0<=t1:=Iz 4294967296 (pw k) t1 t2 u0 u1 u2 u v U V eU eV hv b2 hlt;have hlt1:0<t1:=af
 obtain ⟨T,hT⟩:=ah (u0*4294967296+u1);have eT:bits BinOp.or IntKind.u64 ((u0:Int)*4294967296) (u1:Int)=(T:Int):=by rw [oF u0 u1 l0 l1,hT]
 obtain ⟨o0,ho0⟩:=ah (T/t1);obtain ⟨r0,hr0⟩:=ah (T%t1);have eo:(T:Int)/(t1:Int)=(o0:Int):=by rw [ho0];simp
 have er:(T:Int)%(t1:Int)=(r0:Int):=by rw [hr0];simp
 have hTl:(T:Int)<18446744073709551616:=af
 have hr0l:r0<t1:=by rw [hr0];exact nD _ hlt1
 have Gj:o0*t1+r0=T:=by rw [ho0,hr0,df];exact pK T t1
 have Gl:T*4294967296+u2<(o0+1)*(t1*4294967296+t2):=by rw [ho0];exact Bp 4294967296 t1 t2 u2 T hlt1 l2
 have ho0l:(o0:Int)<18446744073709551616:=by have:o0<=T:=by rw [ho0];exact nE _ _
                                             omega
 have HH:=(y7 hu0 hT eU hu eV hv Gj Gl hlt htop);clear en2 en3 en4 en5 en6 hnk;clear hT ho0 hr0 eU hu eV hv Gj Gl hlt hR hbc hm hb hL hO hoff htop;go_enter Tryz.func195,Tryz.ntmps195;go_wp2
 go_big_region
 go_wp2
 go_big_region
 go_wp2;have hbw:=lh w _ c2;have hgw:=lh w _ d2
 go_loopg [8,9] o0 (fun gk o l wr=>∃ lv:Nat,o=.int .u64 (gk:Nat)/\l=.int .u64 (lv:Nat)/\lv<4294967296/\Hid (Below w.heap.size w wr) /\
  Aside (gk*t1+lv=T/\(4294967296<=gk+1\/T*4294967296+u2<(gk+1)*(t1*4294967296+t2))))
 case atStart=>exact ⟨r0,by first | rfl | rw [eo],by first | rfl | rw [er],af,by first | exact (aD _ _).drew.drew | exact (aD _ _).drew | exact aD _ _,HH.o.r6.1,.inr HH.o.r7.1⟩
 case round =>
  obtain ⟨lv,rfl,rfl,hlv,HB,HA⟩:=hrel;have c2':wr.cell? ⟨b,fQ+(n-2),none⟩=some (.int .u32 (t2:Int)):=(HB.o.cell (p:=⟨b,fQ+(n-2),none⟩) hbw).trans c2;have d2':wr.cell? ⟨g,off+(n-2),none⟩=some (.int .u32 (u2:Int)):=(HB.o.cell (p:=⟨g,off+(n-2),none⟩) hgw).trans d2;clear c2 d2 c1 d0 d1 hTl eo er;obtain ⟨hu0,hT,eU,hu,eV,hv,Gj,Gl,hlt,htop⟩:=HH.o;obtain ⟨hsum,hmax⟩:=HA.o;have hTb:T<t1*4294967296+4294967296:=af
  have hgb:gk<=4294967297:=by
   by_cases h:gk<=4294967297
   · exact h
   · exfalso;have:4294967298*t1<=gk*t1:=fO _ af;omega
  have HE:Aside (∀ o l,o*t1+l=T->o*t2<=l*4294967296+u2->o<4294967296->(4294967296<=o+1\/T*4294967296+u2<(o+1)*(t1*4294967296+t2))->U<(o+1)*V/\o*V<=U+V):=by
   intro o l h1 h2 h3 h4;rw [<-hT] at eU;exact D9 4294967296 o _ _ (pw k) u v U V (jQ k) eU hu eV hv (Iy 4294967296 o t1 t2 l u2 T h1 h2) h4 hlt h3 af
  have HT:=(ak hTb);clear hu0 hT eU hu eV hv Gj Gl hlt htop hsum hmax hTb;have hgbi:(gk:Int)<=4294967297:=af
  by_cases hbig2:4294967295<gk
  · have hg1:(4294967295:Int)<(gk:Int):=af
    by_cases hl2:lv+t1<=4294967295
    · have hl3:(lv:Int)+(t1:Int)<=4294967295:=af
      have hl4:decide ((4294967295:Int)<(lv:Int)+(t1:Int))=false:=decide_eq_false af;have HG:=(gK hbig2 hl2 hgb hlv);clear hbig2 hl2 hgb;go_wp2
      go_big_region
      all_goals (
       go_wp2;go_roundg (gk-1)
       case measure=>have:=HG.o.1;omega
       case rel =>
        obtain ⟨hsum,hmax⟩:=HA.o;obtain ⟨hbig2,hl2,hgb,hlv⟩:=HG.o;refine ⟨lv+t1,by first | go_num | (congr 1;omega),by first | rfl | go_num,af,HB.o.drew,?_,.inl af⟩;obtain ⟨o,rfl⟩:∃ o,gk=o+1:=⟨gk-1,af⟩;rw [kD];rw [fF] at hsum
        omega)
    · have hl3:(4294967295:Int)<(lv:Int)+(t1:Int):=af
      go_wp2
      go_big_region
      all_goals (
       go_wp2;go_ret;obtain ⟨hsum,hmax⟩:=HA.o;obtain ⟨o,rfl⟩:∃ o,gk=o+1:=⟨gk-1,af⟩;have hs2:o*t1+(lv+t1)=T:=by rw [fF] at hsum;omega
       obtain ⟨hb1,hb2⟩:=tZ 4294967296 o t1 t2 (lv+t1) u2 T hs2 af HT.o b2 hlt1;obtain ⟨h1,h2⟩:=HE.o o (lv+t1) hs2 hb2 hb1 (.inl af);refine ⟨o,?_,hb1,h1,h2,HB.o.drew⟩
       exact congrArg (fun z=>Ending.returned (Value.int IntKind.u32 z)) af)
  · have hg1:(gk:Int)<=4294967295:=af
    have hg2:decide ((4294967295:Int)<(gk:Int))=false:=by simp;omega
    have hp0:gk*t2<=4294967295*4294967295:=jv af af;have hp2:(gk:Int)*(t2:Int)<=18446744065119617025:=by rw [<-fU];omega
    have hp1:0<=(gk:Int)*(t2:Int):=by rw [<-fU];omega
    obtain ⟨lu,WI⟩:=ah (lv*4294967296+u2);have eL:bits BinOp.or IntKind.u64 ((lv:Int)*4294967296) (u2:Int)=(lu:Int):=by rw [oF lv u2 hlv l2,WI]
    have HL:=(ak WI)
    by_cases hmore:lu<gk*t2
    · have hm1:(lu:Int)<(gk:Int)*(t2:Int):=by rw [<-fU];omega
      have hgk0:0<gk:=by
       rcases kF gk with h|h
       · subst h;rw [eQ] at hmore;omega
       · exact h
      by_cases hl2:lv+t1<=4294967295
      · have hl3:(lv:Int)+(t1:Int)<=4294967295:=af
        have hl4:decide ((4294967295:Int)<(lv:Int)+(t1:Int))=false:=decide_eq_false af;have HG:=(eu hbig2 hl2 hgb hlv hmore);clear WI hp0 hbig2 hl2 hgb hmore;go_wp2
        go_big_region
        all_goals (
         go_wp2;go_roundg (gk-1)
         case measure=>omega
         case rel =>
          obtain ⟨hsum,hmax⟩:=HA.o;obtain ⟨hbig2,hl2,hgb,hlv,hmore⟩:=HG.o;have hno:=Bo 4294967296 gk t1 t2 lv u2 T hsum (by rw [<-HL.o];exact hmore);refine ⟨lv+t1,by first | go_num | (congr 1;omega),by first | rfl | go_num,af,HB.o.drew,?_,.inr ?_⟩
          · obtain ⟨o,rfl⟩:∃ o,gk=o+1:=⟨gk-1,af⟩;rw [kD];rw [fF] at hsum;omega
          · rw [show gk-1+1=gk by omega];exact hno)
      · have hl3:(4294967295:Int)<(lv:Int)+(t1:Int):=af
        clear WI hp0;go_wp2
        go_big_region
        all_goals (
         go_wp2;go_ret;obtain ⟨hsum,hmax⟩:=HA.o;have hno:=Bo 4294967296 gk t1 t2 lv u2 T hsum (by rw [<-HL.o];exact hmore);obtain ⟨o,rfl⟩:∃ o,gk=o+1:=⟨gk-1,af⟩;have hs2:o*t1+(lv+t1)=T:=by rw [fF] at hsum;omega
         obtain ⟨hb1,hb2⟩:=tZ 4294967296 o t1 t2 (lv+t1) u2 T hs2 af HT.o b2 hlt1;obtain ⟨h1,h2⟩:=HE.o o (lv+t1) hs2 hb2 hb1 (.inr hno);refine ⟨o,?_,hb1,h1,h2,HB.o.drew⟩
         exact congrArg (fun z=>Ending.returned (Value.int IntKind.u32 z)) af)
    · have hm1:(gk:Int)*(t2:Int)<=(lu:Int):=by rw [<-fU];omega
      have hm2:decide ((lu:Int)<(gk:Int)*(t2:Int))=false:=decide_eq_false af;have HG:=(gK hbig2 hgb hlv hmore);clear WI hp0 hbig2 hgb hmore;go_wp2
      go_big_region
      all_goals (
       go_wp2;go_ret;obtain ⟨hsum,hmax⟩:=HA.o;obtain ⟨hbig2,hgb,hlv,hmore⟩:=HG.o;obtain ⟨h1,h2⟩:=HE.o gk lv hsum (by rw [<-HL.o];omega) af hmax;refine ⟨gk,?_,af,h1,h2,HB.o.drew⟩
       first | rfl | exact congrArg (fun z=>Ending.returned (Value.int IntKind.u32 z)) af)
theorem su (L bs:List Nat) (g off n cap:Nat) (ao:Option Addr) (m aX B:Nat) (w:World)
 (hO:Own w g L) (hoff:off+n<=L.length) (hm:m=bs.length) (Ea:m<=n) (hcap:n<=cap) (hbig:n<=4611686018427387904) (hL:Wf L) (hb:Wf bs) (hR:Rd B w ao bs) (hB:B<=g) :
 Calls Tryz.prog 183 #[.slice (some ⟨g,off,none⟩) n cap,.slice ao m aX] w fun r w' =>
  ∃ M c,r=.returned (.int .u32 (c:Nat))/\c<=1/\Own w' g M/\Wf M/\Out L M off n/\sg M off n+c*pw n=sg L off n+val bs/\But g w w':=by
 have HR:Aside (Rd B w ao bs/\m=bs.length/\Wf bs/\Wf L/\off+n<=L.length):=⟨hR,hm,hb,hL,hoff⟩;have HO:Hid (Own w g L):=hO;have Bq:Hid (∀ x y c s d w,_->_->_->_->_->_):=Ip;clear hR hm hb hL hO hoff;go_enter Tryz.func183,Tryz.ntmps183;go_wp2
 go_loopg [5,11] m (fun gk c i wr=>∃ (k cv:Nat) (M:List Nat),gk+k=m/\c=.int .u32 (cv:Nat)/\cv<=1/\i=.int .i64 (k:Nat) /\
  Hid (Own wr g M)/\Aside (Wf M/\Out L M off k/\sg M off k+cv*pw k=sg L off k+sg bs 0 k/\But g w wr))
 case atStart=>exact ⟨0,0,L,af,rfl,af,rfl,HO,HR.o.r3.1,Out.refl _ _ _,by simp [dW],But.refl _ _⟩
 case round =>
  obtain ⟨k,cv,M,Gm,rfl,hcv,rfl,HM,HA⟩:=hrel
  by_cases hk:k<m
  · obtain ⟨hR,hm,hb,hL,hoff⟩:=HR.o;obtain ⟨dA,fK,hMs,aH⟩:=HA.o;obtain ⟨b,fQ,K7,rfl,hbc⟩:=hR (by intro e;subst e;simp at hm;omega)
    have hbk:wr.cell? ⟨b,fQ+k,none⟩=some (.int .u32 ((bs.getD k 0:Nat):Int)):=by
     have h1:=aH.block b (lh w ⟨b,fQ+k,none⟩ (hbc k af)) af;exact (zw (a:=⟨b,fQ+k,none⟩) h1).trans (hbc k af)
    have hgc:=HM.o.cell (off+k) (by rw [fK.1];omega);have hgf:=HM.o.frozen (off+k);obtain ⟨x,hx⟩:∃ x:Nat,M.getD (off+k) 0=x:=⟨_,rfl⟩;obtain ⟨y,hy⟩:∃ y:Nat,bs.getD k 0=y:=⟨_,rfl⟩;have hxl:x<4294967296:=hx ▸ dA.get _;have hyl:y<4294967296:=hy ▸ hb.get _;rw [hx] at hgc;rw [hy] at hbk;obtain ⟨s,hs⟩:∃ s:Nat,s=(x+y+cv)%4294967296:=⟨_,rfl⟩;obtain ⟨d,hd⟩:∃ d:Nat,d=(x+y+cv)/4294967296:=⟨_,rfl⟩;have HX:Aside (M.getD (off+k) 0=x/\bs.getD k 0=y/\s=(x+y+cv)%4294967296/\d=(x+y+cv)/4294967296):=⟨hx,hy,hs,hd⟩;clear hx hy hs hd hR hm hb hL hoff dA fK hMs aH hbc;go_wp2_with fail;refine (Bq.o x y cv s d _ hxl hyl hcv HX.o.r2.1 HX.o.r3).mono ?_;rintro r w1 ⟨rfl,rfl⟩;go_wp2;go_roundg (gk-1)
    case measure=>omega
    case rel =>
     obtain ⟨hx,hy,hs,hd⟩:=HX.o;obtain ⟨hR,hm,hb,hL,hoff⟩:=HR.o;obtain ⟨dA,fK,hMs,aH⟩:=HA.o;refine ⟨k+1,d,M.set (off+k) s,af,rfl,af,by go_num,HM.o.set _ _,dA.set _ _ af,(fK.mono af).set _ _ af af,?_,aH.set _ _⟩;rw [cB _ _ _ _ (by rw [fK.1];omega),bJ L off k af,bJ bs 0 k af,dS,hy,bK];have e:L.getD (off+k) 0=x:=by rw [<-hx];exact (fK.2 _ af).symm
     rw [e];exact qc _ _ _ _ _ _ _ _ _ hMs af
  · obtain rfl:k=m:=af
    have HA2:Aside (Wf M/\Out L M off k/\sg M off k+cv*pw k=sg L off k+val bs/\But g w wr):=by
     obtain ⟨hR,hm,hb,hL,hoff⟩:=HR.o;obtain ⟨dA,fK,hMs,aH⟩:=HA.o;refine ⟨dA,fK,?_,aH⟩;rw [hMs,hm,dM]
    clear HA Gm HO hk;go_wp2
    go_loopg [5,8] (n-k) (fun g2 c i w2=>∃ (j cv:Nat) (M:List Nat),g2+j=n/\k<=j/\c=.int .u32 (cv:Nat)/\cv<=1/\i=.int .i64 (j:Nat) /\
     Hid (Own w2 g M)/\Aside (Wf M/\Out L M off j/\sg M off j+cv*pw j=sg L off j+val bs/\But g w w2))
    case atStart=>exact ⟨k,cv,M,af,aC _,rfl,hcv,rfl,HM,HA2.o⟩
    case round =>
     clear HM HA2 hcv;obtain ⟨j,cv,M,hgj,hkj,rfl,hcv,rfl,HM,HA⟩:=hrel
     by_cases hj:j<n
     · by_cases h0:cv=0
       · subst h0;go_wp2;go_ret;obtain ⟨hR,hm,hb,hL,hoff⟩:=HR.o;obtain ⟨dA,fK,hMs,aH⟩:=HA.o;refine ⟨M,0,rfl,af,HM.o,dA,fK.mono af,?_,aH⟩;rw [eQ,gM] at hMs |-;exact Lv af af fK hMs
       · obtain rfl:cv=1:=af
         obtain ⟨hR,hm,hb,hL,hoff⟩:=HR.o;obtain ⟨dA,fK,hMs,aH⟩:=HA.o;have hgc:=HM.o.cell (off+j) (by rw [fK.1];omega);have hgf:=HM.o.frozen (off+j);obtain ⟨x,hx⟩:∃ x:Nat,M.getD (off+j) 0=x:=⟨_,rfl⟩;have hxl:x<4294967296:=hx ▸ dA.get _;rw [hx] at hgc;obtain ⟨s,hs⟩:∃ s:Nat,s=(x+0+1)%4294967296:=⟨_,rfl⟩;obtain ⟨d,hd⟩:∃ d:Nat,d=(x+0+1)/4294967296:=⟨_,rfl⟩;have HX:Aside (M.getD (off+j) 0=x/\s=(x+0+1)%4294967296/\d=(x+0+1)/4294967296):=⟨hx,hs,hd⟩;clear hx hs hd hR hm hb hL hoff dA fK hMs aH h0;go_wp2_with fail;refine (Bq.o x 0 1 s d _ hxl af af HX.o.2.1 HX.o.r2).mono ?_;rintro r w1 ⟨rfl,rfl⟩;go_wp2;go_roundg (gk-1)
         case measure=>omega
         case rel =>
          obtain ⟨hx,hs,hd⟩:=HX.o;obtain ⟨hR,hm,hb,hL,hoff⟩:=HR.o;obtain ⟨dA,fK,hMs,aH⟩:=HA.o;refine ⟨j+1,d,M.set (off+j) s,af,af,rfl,af,by go_num,HM.o.set _ _,dA.set _ _ af,(fK.mono af).set _ _ af af,?_,aH.set _ _⟩;rw [cB _ _ _ _ (by rw [fK.1];omega),bJ L off j af,bK];have e:L.getD (off+j) 0=x:=by rw [<-hx];exact (fK.2 _ af).symm
          rw [e];have:=qc (pw j) _ _ _ _ x 0 s d hMs af;omega
     · obtain rfl:j=n:=af
       go_wp2;go_ret;obtain ⟨dA,fK,hMs,aH⟩:=HA.o;exact ⟨M,cv,rfl,hcv,HM.o,dA,fK,hMs,aH⟩
theorem xH (L bs:List Nat) (g off n cap:Nat) (ao:Option Addr) (m aX B q:Nat) (w:World)
 (hO:Own w g L) (hoff:off+n<=L.length) (hm:m=bs.length) (Ea:n=m+1) (hcap:n<=cap) (hbig:n<=4611686018427387904) (hL:Wf L) (hb:Wf bs) (hR:Rd B w ao bs) (hB:B<=g) (hq:q<4294967296) :
 Calls Tryz.prog 196 #[.slice (some ⟨g,off,none⟩) n cap,.slice ao m aX,.int .u32 (q:Nat)] w fun r w' =>
  ∃ M,∃ c:Nat,r=.returned (.bool (decide (0<c)))/\c<=1/\Own w' g M/\Wf M/\Out L M off n/\sg M off n+val bs*q=sg L off n+c*pw n/\But g w w':=by
 have HR:Aside (Rd B w ao bs/\m=bs.length/\Wf bs/\Wf L/\off+n<=L.length/\n=m+1):=⟨hR,hm,hb,hL,hoff,Ea⟩;have HO:Hid (Own w g L):=hO;have Bq:Hid (∀ x y c s d w,_->_->_->_->_->_):=yl;have hmn1:m<n:=af
 clear hR hm hb hL hO hoff Ea;go_enter Tryz.func196,Tryz.ntmps196;go_wp2
 go_loopg [7,8,14] m (fun gk c bo i wr=>∃ (k cv bv:Nat) (M:List Nat),gk+k=m/\c=.int .u64 (cv:Nat)/\cv<4294967296/\bo=.int .u32 (bv:Nat)/\bv<=1/\i=.int .i64 (k:Nat) /\
  Hid (Own wr g M)/\Aside (Wf M/\Out L M off k/\sg M off k+sg bs 0 k*q=sg L off k+(cv+bv)*pw k/\But g w wr))
 case atStart=>exact ⟨0,0,0,L,af,rfl,af,rfl,af,rfl,HO,HR.o.r3.1,Out.refl _ _ _,by simp [dW],But.refl _ _⟩
 case round =>
  obtain ⟨k,cv,bv,M,Gm,rfl,hcv,rfl,hbv,rfl,HM,HA⟩:=hrel
  by_cases hk:k<m
  · obtain ⟨hR,hm,hb,hL,hoff,Ea⟩:=HR.o;obtain ⟨dA,fK,hMs,aH⟩:=HA.o;obtain ⟨b,fQ,K7,rfl,hbc⟩:=hR (by intro e;subst e;simp at hm;omega)
    have hbk:wr.cell? ⟨b,fQ+k,none⟩=some (.int .u32 ((bs.getD k 0:Nat):Int)):=by
     have h1:=aH.block b (lh w ⟨b,fQ+k,none⟩ (hbc k af)) af;exact (zw (a:=⟨b,fQ+k,none⟩) h1).trans (hbc k af)
    have hgc:=HM.o.cell (off+k) (by rw [fK.1];omega);have hgf:=HM.o.frozen (off+k);obtain ⟨x,hx⟩:∃ x:Nat,M.getD (off+k) 0=x:=⟨_,rfl⟩;obtain ⟨y,hy⟩:∃ y:Nat,bs.getD k 0=y:=⟨_,rfl⟩;have hxl:x<4294967296:=hx ▸ dA.get _;have hyl:y<4294967296:=hy ▸ hb.get _;rw [hx] at hgc;rw [hy] at hbk;have hp0:=sj y q hyl hq;have hp2:(y:Int)*(q:Int)<=18446744065119617025:=by rw [<-fU];omega
    have hp1:0<=(y:Int)*(q:Int):=by rw [<-fU];omega
    obtain ⟨tl,htl⟩:∃ s:Nat,s=(y*q+cv)%4294967296:=⟨_,rfl⟩;obtain ⟨d,hd⟩:∃ d:Nat,d=(y*q+cv)/4294967296:=⟨_,rfl⟩;have e0:((y*q+cv:Nat):Int)=(y:Int)*q+cv:=by simp only [Gd,fU]
    have e1:((y:Int)*q+cv)%4294967296=(tl:Int):=by rw [<-e0];omega
    have e2:((y:Int)*q+cv)/4294967296=(d:Int):=by rw [<-e0];omega
    obtain ⟨s,hs⟩:∃ s:Nat,(s:Int)=((x:Int)-tl-bv)%4294967296:=⟨(((x:Int)-tl-bv)%4294967296).toNat,af⟩;obtain ⟨bn,hbn⟩:∃ bn:Nat,bn=if x<tl+bv then 1 else 0:=⟨_,rfl⟩
    have Zq:tl<4294967296:=af
    have HX:Aside (M.getD (off+k) 0=x/\bs.getD k 0=y/\tl+d*4294967296=y*q+cv/\d<4294967296/\(s:Int)=((x:Int)-tl-bv)%4294967296/\bn=if x<tl+bv then 1 else 0):=⟨hx,hy,af,af,hs,hbn⟩;clear hx hy hs hd hR hm hb hL hoff dA fK hMs aH hbc e0 hp0 hbn htl Ea;go_wp2_with fail;refine (Bq.o x tl bv s bn _ hxl Zq hbv HX.o.r4.1 HX.o.r5).mono ?_;rintro r w1 ⟨rfl,rfl⟩;go_wp2;go_roundg (gk-1)
    case measure=>omega
    case rel =>
     obtain ⟨hx,hy,he,hd,hs,hbn⟩:=HX.o;obtain ⟨hR,hm,hb,hL,hoff,Ea⟩:=HR.o;obtain ⟨dA,fK,hMs,aH⟩:=HA.o;have UK:bn<=1:=by rw [hbn];split <;> omega
     have hsum:s+tl+bv=x+bn*4294967296:=by rw [hbn];split <;> omega
     refine ⟨k+1,d,bn,M.set (off+k) s,af,rfl,hd,rfl,UK,by go_num,HM.o.set _ _,dA.set _ _ af,(fK.mono af).set _ _ af af,?_,aH.set _ _⟩;rw [cB _ _ _ _ (by rw [fK.1];omega),bJ L off k af,bJ bs 0 k af,dS,hy,bK];have e:L.getD (off+k) 0=x:=by rw [<-hx];exact (fK.2 _ af).symm
     rw [e];exact vO _ _ _ _ _ _ _ _ _ _ hMs (by rw [fF];omega)
  · obtain rfl:k=m:=af
    obtain ⟨hR,hm,hb,hL,hoff,Ea⟩:=HR.o;obtain ⟨dA,fK,hMs,aH⟩:=HA.o;have hgc:=HM.o.cell (off+k) (by rw [fK.1];omega);have hgf:=HM.o.frozen (off+k);obtain ⟨x,hx⟩:∃ x:Nat,M.getD (off+k) 0=x:=⟨_,rfl⟩;have hxl:x<4294967296:=hx ▸ dA.get _;rw [hx] at hgc;obtain ⟨s,hs⟩:∃ s:Nat,(s:Int)=((x:Int)-cv-bv)%4294967296:=⟨(((x:Int)-cv-bv)%4294967296).toNat,af⟩;obtain ⟨bn,hbn⟩:∃ bn:Nat,bn=if x<cv+bv then 1 else 0:=⟨_,rfl⟩
    have HX:Aside (M.getD (off+k) 0=x/\(s:Int)=((x:Int)-cv-bv)%4294967296/\bn=if x<cv+bv then 1 else 0):=⟨hx,hs,hbn⟩;clear hx hs hR hm hb hL hoff dA fK hMs aH hbn Ea;go_wp2_with fail;refine (Bq.o x cv bv s bn _ hxl hcv hbv HX.o.2.1 HX.o.r2).mono ?_;rintro r w1 ⟨rfl,rfl⟩;go_wp2;go_ret;obtain ⟨hx,hs,hbn⟩:=HX.o;obtain ⟨hR,hm,hb,hL,hoff,Ea⟩:=HR.o;obtain ⟨dA,fK,hMs,aH⟩:=HA.o;have UK:bn<=1:=by rw [hbn];split <;> omega
    have hsum:s+cv+bv=x+bn*4294967296:=by rw [hbn];split <;> omega
    refine ⟨M.set (off+k) s,bn,rfl,UK,HM.o.set _ _,dA.set _ _ af,(fK.mono af).set _ _ af af,?_,aH.set _ _⟩;subst Ea;rw [cB _ _ _ _ (by rw [fK.1];omega),bJ L off k af,bK];have e:L.getD (off+k) 0=x:=by rw [<-hx];exact (fK.2 _ af).symm
    rw [e];have h2:=vO (pw k) _ _ _ _ x 0 q s bn hMs af;rw [nG,gM,hm,dM] at h2;exact hm ▸ h2
theorem LA (U V P o c m:Nat) (h1:m+V*o=U+c*P) (hc:c<=1) (h2:U<(o+1)*V) (h3:o*V<=U+V) (hm:m<P) (hV:V<=P) (h0:c=0):m=U-o*V/\m<V/\U=o*V+m:=by
 subst h0;rw [df V] at h1;rw [fF,iD] at h2;refine ⟨af,af,af⟩
theorem IG (U V P o c m M d:Nat) (h1:m+V*(o+1)=U+1*P) (h2:U<(o+1+1)*V) (h3:(o+1)*V<=U+V) (hm:m<P) (hM:M<P) (hb:M+d*P=m+V) (hd:d<=1) (hU:U<V*4294967296) (TS:V*4294967296<=P*4294967296) (hV:V<=P) :
 U=o*V+M/\M<V:=by
 rw [iD] at h1;have e:V*(o+1)=o*V+V:=by grind
 rw [e] at h1;rw [fF,iD] at h3;rcases (by omega:d=0\/d=1) with rfl|rfl
 · exfalso;rw [eQ] at hb;omega
 · rw [iD] at hb;constructor
   · omega
   · omega
theorem Br (L bs:List Nat) (g off cap:Nat) (ao:Option Addr) (n aX B:Nat) (w:World) (k:Nat) (hnk:n=k+2)
 (hO:Own w g L) (hoff:off+(k+3)<=L.length) (hm:k+2=bs.length) (hcap:n+1<=cap) (hbig:n+1<=4611686018427387904) (hL:Wf L) (hb:Wf bs) (hR:Rd B w ao bs) (hB:B<=g)
 (htop:2147483648<=bs.getD (k+1) 0) (hlt:sg L off (k+3)<val bs*4294967296) :
 Calls Tryz.prog 187 #[.slice (some ⟨g,off,none⟩) (n+1) cap,.slice ao n aX] w fun r w' =>
  ∃ o:Nat,∃ M,r=.returned (.int .u32 (o:Nat))/\o<4294967296/\Own w' g M/\Wf M/\Out L M off (n+1)/\sg L off (n+1)=o*val bs+sg M off (n+1)/\sg M off (n+1)<val bs/\But g w w':=by
 have G:=hid (IE L bs g off cap ao n aX B w k hnk hO hoff hm hcap af hL hb hR htop hlt);have HH:=(rT hO hoff hm hL hb hR hlt hnk);clear hO hoff hm hL hb hR hlt hnk htop;go_enter Tryz.func187,Tryz.ntmps187;go_wp2_with fail;refine G.o.mono ?_;rintro r w1 ⟨o,rfl,ho,h2,h3,hbel⟩;obtain ⟨hO,hoff,hm,hL,hb,hR,hlt,hnk⟩:=HH.o;have hg:=hO.lt;have mU:=hO.below hbel hg;have uf:Rd B w1 ao bs:=hR.below (hbel.mono af);have T:=hid (xH L bs g off (n+1) cap ao n aX B o w1 mU af af rfl hcap hbig hL hb uf hB ho);have HI:=(aZ h2 h3 hbel);clear hO hoff hm hL hb hR hlt hnk hg mU uf h2 h3 hbel G;go_wp2_with fail;refine T.o.mono ?_;rintro r w2 ⟨M,c,rfl,hc,hO2,hM,hout,hsum,aH⟩;obtain ⟨hO,hoff,hm,hL,hb,hR,hlt,hnk⟩:=HH.o;obtain ⟨h2,h3,hbel⟩:=HI.o;have e3:k+3=n+1:=af
 rw [e3] at h2 h3 hlt;have xI:=nL M off (n+1) hM (by rw [hout.1];omega);have Gn:=dh bs hb
 have TS:val bs<=pw (n+1):=by
  have:=jE (show bs.length<=n+1 by omega);omega
 by_cases h0:c=0
 · obtain ⟨e,hlt2,hU⟩:=LA _ _ _ _ _ _ hsum hc h2 h3 xI TS h0;have HJ:=(l7 hO2 hM hout hU hlt2 aH hbel);subst h0;clear hO hoff hm hL hb hR hlt hnk h2 h3 hbel hO2 hM hout hsum aH xI Gn TS e hlt2 hU T HI e3 hc;go_wp2;go_ret;obtain ⟨hO2,hM,hout,hU,hlt2,aH,hbel⟩:=HJ.o;exact ⟨o,M,rfl,ho,hO2,hM,hout,hU,hlt2,(But.refl _ _).of_below hbel |>.trans aH⟩
 · obtain rfl:c=1:=af
   have ho1:1<=o:=by
    rcases kF o with h|h
    · subst h;rw [nG] at hsum;have:=nL L off (n+1) hL af;omega
    · exact h
   obtain ⟨p,hp⟩:∃ p,o=p+1:=⟨o-1,af⟩;have hR2:Rd B w2 ao bs:=(hR.below (hbel.mono (by have:=hO.lt;omega))).but aH (by have:=hbel.size;have:=hO.lt;omega) hB;have A:=hid (su M bs g off (n+1) cap ao n aX B w2 hO2 (by rw [hout.1];omega) af af hcap hbig hM hb hR2 hB);have HJ:=(UH hM hout hsum aH hbel h2 h3 xI TS hlt hp);clear hO hoff hm hL hb hR hlt hnk h2 h3 hbel hO2 hM hout hsum aH xI Gn TS T HI hR2 h0 hp e3 hc;go_wp2_with fail;refine A.o.mono ?_;rintro r w3 ⟨M2,d,rfl,hd,hO3,hM2,hout2,Gp,qN⟩;have HK:=(iI hd hO3 hM2 hout2 Gp qN);clear hd hO3 hM2 hout2 Gp qN A;go_wp2;go_ret;obtain ⟨hM,hout,hsum,aH,hbel,h2,h3,xI,TS,hlt,hp⟩:=HJ.o;obtain ⟨hd,hO3,hM2,hout2,Gp,qN⟩:=HK.o;obtain ⟨hO,hoff,hm,hL,hb,hR,hlt',hnk⟩:=HH.o;have hm2:=nL M2 off (n+1) hM2 (by rw [hout2.1,hout.1];omega);subst hp;obtain ⟨hU,hlt2⟩:=IG _ _ _ p 1 _ _ d hsum h2 h3 xI hm2 Gp hd hlt (fO _ TS) TS;refine ⟨p,M2,?_,af,hO3,hM2,hout.trans hout2,hU,hlt2,(((But.refl _ _).of_below hbel).trans aH).trans qN⟩;exact congrArg (fun z=>Ending.returned (Value.int IntKind.u32 z)) af
def bl (n:Nat):Nat:=if n=0 then 0 else n.log2+1
theorem dG:bl 0=0:=rfl
theorem il (n:Nat):n<2^bl n:=by
 unfold bl
 split
 · next h=>subst h;decide
 · exact Nat.lt_log2_self
theorem gT (n:Nat) (h:n≠0):2^(bl n-1)<=n:=by
 unfold bl;rw [if_neg h];exact Nat.log2_self_le h
theorem dI (n:Nat) (h:n≠0):0<bl n:=by unfold bl;rw [if_neg h];omega
theorem Bt (n k:Nat) (h1:2^k<=n) (h2:n<2^(k+1)):bl n=k+1:=by
 have hn:n≠0:=by have:=bu k;omega
 have a:k<bl n:=(jw (a:=2) au).1 (gN h1 (il n));have b:bl n-1<k+1:=(jw (a:=2) au).1 (gN (gT n hn) h2);omega
theorem yn (x:Nat) (h:x<18446744073709551616):Lib.bitLen x=bl x:=by
 by_cases h0:x=0
 · subst h0;decide
 · obtain ⟨h1,h2,h3⟩:=Lib.bitLenAux_bounds 64 x h h0;obtain ⟨k,hk⟩:∃ k,Lib.bitLen x=k+1:=⟨Lib.bitLen x-1,by unfold Lib.bitLen;omega⟩;have hk':Lib.bitLenAux 64 x=k+1:=hk;rw [hk'] at h2 h3;rw [hk,Bt x k h2 h3]
theorem WJ (n:Nat) (h:n<Lib.len8tab.size):(Lib.len8tab[n]'h).toNat=Lib.bitLen n:=by
 have hn:n<256:=by rw [Lib.len8tab_size] at h;exact h
 have e:=Lib.len8_eq ⟨n,hn⟩;simp only [Lib.len8,ma] at e;rw [getElem?_pos Lib.len8tab n h] at e;exact Int.natCast_inj.1 (by simpa using e)
theorem jF (x i:Int) (c:Nat) (hc:c<=56) (hi:i<256) (hs:Lib.bitLen x.toNat=c+Lib.bitLen i.toNat) (hh:i.toNat<Lib.len8tab.size) (hi0:0<=i) :
 wrap64 ((c:Int)+wrap64 ((Lib.len8tab[i.toNat]'hh).toNat:Int))=(Lib.bitLen x.toNat:Int):=by
 have l:=Lib.bitLen_le8 ⟨i.toNat,af⟩;simp only at l;rw [WJ,hs];unfold wrap64;omega
theorem Bu (x:Int) (hi:x<256) (hi0:0<=x) (hh:x.toNat<Lib.len8tab.size) :
 wrap64 (wrap64 ((Lib.len8tab[x.toNat]'hh).toNat:Int))=(Lib.bitLen x.toNat:Int):=by
 have l:=Lib.bitLen_le8 ⟨x.toNat,af⟩;simp only at l;rw [WJ];unfold wrap64;omega
set_option maxRecDepth 100000 in
theorem II (x:Int) (w:World) (h0:0<=x) (h1:x<=4294967295) :
 Calls Tryz.prog 130 #[.int .u32 x] w fun e w'=>e=.returned (.int .i64 (Lib.bitLen x.toNat))/\w'=w:=by
 have hsz:Lib.len8tab.size=256:=Lib.len8tab_size;go_enter Tryz.func130,Tryz.ntmps130;go_wp2
 all_goals (go_ret;refine ⟨congrArg (fun z=>Ending.returned (Value.int IntKind.i64 z)) ?_,rfl⟩)
 · exact jF x (x/65536/256) 24 af af (by rw [Lib.bitLen_shift24 x.toNat af af,show (x/65536/256).toNat=x.toNat/16777216 by omega]) af af
 · exact jF x (x/65536) 16 af af (by rw [Lib.bitLen_shift16 x.toNat af af,show (x/65536).toNat=x.toNat/65536 by omega]) af af
 · exact jF x (x/256) 8 af af (by rw [Lib.bitLen_shift8 x.toNat af af,show (x/256).toNat=x.toNat/256 by omega]) af af
 · exact Bu x af af af
theorem yo (x:Nat) (w:World) (h:x<4294967296):Calls Tryz.prog 130 #[.int .u32 (x:Int)] w fun e w'=>e=.returned (.int .i64 (bl x:Nat))/\w'=w:=by
 have:=II x w af af;rw [ma,yn x af] at this;exact this
theorem ve (x:Nat) (h:x<4294967296):bl x<=32:=by
 by_cases h0:x=0
 · subst h0;decide
 · have:=gT x h0;have:2^(bl x-1)<2^32:=af
   have:=(jw (a:=2) au).1 this;omega
theorem Eb (x:Nat) (w:World) (h:x<4294967296):Calls Tryz.prog 186 #[.int .u32 (x:Int)] w fun e w'=>e=.returned (.int .i64 ((32-bl x:Nat):Int))/\w'=w:=by
 have H:=hid (yo x w h);have hb:=ve x h;obtain ⟨k,hk⟩:∃ k,bl x=k:=⟨_,rfl⟩;rw [hk] at H hb |-;clear hk;obtain ⟨z,hz⟩:=ah (32-k);have e:(32:Int)-(k:Int)=(z:Int):=af
 rw [<-hz];clear hz;go_enter Tryz.func186,Tryz.ntmps186;go_wp2_with fail;refine H.o.mono ?_;rintro r w1 ⟨rfl,rfl⟩;go_wp2;go_ret;exact ⟨by first | rfl | rw [e],rfl⟩
set_option maxRecDepth 100000 in
theorem IJ (x:Int) (w:World) (h0:0<=x) (h1:x<=18446744073709551615) :
 Calls Tryz.prog 191 #[.int .u64 x] w fun e w'=>e=.returned (.int .i64 (Lib.bitLen x.toNat))/\w'=w:=by
 have hsz:Lib.len8tab.size=256:=Lib.len8tab_size;go_enter Tryz.func191,Tryz.ntmps191;go_wp2
 all_goals (go_ret;refine ⟨congrArg (fun z=>Ending.returned (Value.int IntKind.i64 z)) ?_,rfl⟩)
 · exact jF x (x/4294967296/65536/256) 56 af af (by rw [Lib.bitLen_shift56 x.toNat af af,show (x/4294967296/65536/256).toNat=x.toNat/72057594037927936 by omega]) af af
 · exact jF x (x/4294967296/65536) 48 af af (by rw [Lib.bitLen_shift48 x.toNat af af,show (x/4294967296/65536).toNat=x.toNat/281474976710656 by omega]) af af
 · exact jF x (x/4294967296/256) 40 af af (by rw [Lib.bitLen_shift40 x.toNat af af,show (x/4294967296/256).toNat=x.toNat/1099511627776 by omega]) af af
 · exact jF x (x/4294967296) 32 af af (by rw [Lib.bitLen_shift32 x.toNat af af,show (x/4294967296).toNat=x.toNat/4294967296 by omega]) af af
 · exact jF x (x/65536/256) 24 af af (by rw [Lib.bitLen_shift24 x.toNat af af,show (x/65536/256).toNat=x.toNat/16777216 by omega]) af af
 · exact jF x (x/65536) 16 af af (by rw [Lib.bitLen_shift16 x.toNat af af,show (x/65536).toNat=x.toNat/65536 by omega]) af af
 · exact jF x (x/256) 8 af af (by rw [Lib.bitLen_shift8 x.toNat af af,show (x/256).toNat=x.toNat/256 by omega]) af af
 · exact Bu x af af af
theorem LC (x:Nat) (w:World) (h:x<18446744073709551616):Calls Tryz.prog 178 #[.int .u64 (x:Int)] w fun e w'=>e=.returned (.int .i64 (bl x:Nat))/\w'=w:=by
 have:=IJ x w af af;rw [ma,yn x af] at this;have H:=hid this;clear this;go_enter Tryz.func178,Tryz.ntmps178;go_wp2_with fail;refine H.o.mono ?_;rintro r w1 ⟨rfl,rfl⟩;go_wp2;go_ret;exact ⟨rfl,rfl⟩
def dJ (w:World):Prop:=∀ j,j<32->w.cell? ⟨1,j,none⟩=some (.int .u8 (Lib.deBruijn32tab.getD j 0))
theorem dJ.below {B:Nat}{w w':World}(h:dJ w) (hb:Below B w w') (hB:1<B):dJ w':=fun j hj=>(hb.cell (p:=⟨1,j,none⟩) hB).trans (h j hj)
theorem dJ.pos {w:World}(h:dJ w):1<w.heap.size:=lh w ⟨1,0,none⟩ (h 0 au)
theorem dJ.belows {w w':World}(h:dJ w) (hb:Below w.heap.size w w'):dJ w':=h.below hb h.pos
theorem Qc (x k idx:Nat) (w:World) (hx0:((x:Int)==0)=false)
 (key:bits BinOp.and IntKind.u32 (x:Int) (-(x:Int)%4294967296)*125613361%4294967296/134217728=(idx:Int))
 (hi:idx<32) (hk:k<32) (hcell:w.cell? ⟨1,idx,none⟩=some (.int .u8 k)) :
 Calls Tryz.prog 165 #[.int .u32 x] w fun e w'=>e=.returned (.int .i64 k)/\w'=w:=by
 go_enter Tryz.func165,Tryz.ntmps165
 go_wp2_with (simp only [key])
 go_ret;exact ⟨rfl,rfl⟩
theorem UL (x a:Nat) (hx:x<4294967296) (hx0:x≠0) (hlow:x &&& (4294967296-x)=a) :
 bits BinOp.and IntKind.u32 (x:Int) (-(x:Int)%4294967296)*125613361%4294967296/134217728=((a*125613361%4294967296/134217728:Nat):Int):=by
 rw [show -(x:Int)%4294967296=((4294967296-x:Nat):Int) by omega,Gh x _ hx af,hlow];omega
theorem UM (x:Nat) (hx:x<4294967296) (hx0:x≠0) (w:World) (hT:dJ w) :
 Calls Tryz.prog 165 #[.int .u32 (x:Int)] w fun e w'=>e=.returned (.int .i64 (Lib.ctz 32 x:Nat))/\w'=w:=by
 obtain ⟨hlow,hk⟩:=Lib.lowest_bit 32 x hx0 hx;obtain ⟨hi,htab⟩:=Lib.deBruijn32_at _ hk;have hcell:=hT _ hi;rw [htab] at hcell;exact Qc x _ _ w (by simp;omega) (UL x _ hx hx0 hlow) hi hk hcell
def lo (n:Nat):Nat:=if h:n=0 then 0 else if n%2=1 then 0 else lo (n/2)+1
termination_by n
decreasing_by omega
theorem zy:lo 0=0:=by rw [lo];simp
theorem LF (m:Nat):lo (2*m+1)=0:=by rw [lo];simp
theorem Gq (i m:Nat):lo (2^i*(2*m+1))=i:=by
 induction i with
 | zero=>rw [fC,iD];exact LF m
 | succ i ih =>
   have h:2^(i+1)*(2*m+1)=2*(2^i*(2*m+1)):=by rw [gY];grind
   have hp:0<2^i*(2*m+1):=ik (bu i) af;rw [h,lo,dif_neg af,if_neg af,xX _ au,ih]
theorem LH (xs:List Nat) (k:Nat) (hx:Wf xs) (hk:k<xs.length) (h0:sg xs 0 k=0) (hw:xs.getD k 0≠0):lo (val xs)=32*k+Lib.ctz 32 (xs.getD k 0):=by
 have hl:=hx.get k;obtain ⟨m,hm,hc⟩:=Lib.ctzFrom_spec 32 (xs.getD k 0) af hl;have hcz:Lib.ctz 32 (xs.getD k 0)=Lib.ctzFrom 32 (xs.getD k 0):=by simp only [Lib.ctz,if_neg hw]
 rw [hcz];obtain ⟨c,hc'⟩:∃ c,Lib.ctzFrom 32 (xs.getD k 0)=c:=⟨_,rfl⟩;rw [hc'] at hm hc |-;have e:=fJ xs k af;rw [<-jI,h0,dS,dU xs k hk,hm] at e
 have e2:4294967296=2^c*(2*2^(31-c)):=by
  rw [<-aN,df (2^c) 2,aN,<-aL,show c+(31-c)=31 by omega]
 have e3:val xs=2^(32*k+c)*(2*(m+2^(31-c)*val (xs.drop (k+1)))+1):=by
  rw [e,aL,kE];have:(2^32:Nat)^k=pw k:=rfl;rw [this];have:4294967296*val (xs.drop (k+1))=2^c*(2*2^(31-c))*val (xs.drop (k+1)):=by rw [<-e2]
  rw [this]
  grind
 rw [e3,Gq]
theorem Qd (xs:List Nat) (ao:Option Addr) (n cap B:Nat) (w:World) (hn:n=xs.length) (hm:n<=70368744177664) (hx:Wf xs) (hR:Rd B w ao xs) (hT:dJ w) :
 Calls Tryz.prog 127 #[.slice ao n cap] w fun r w'=>r=.returned (.int .i64 (lo (val xs):Nat))/\w'=w:=by
 have HT:=(hid hT);have HR:=(aZ hR hn hx);clear hR hn hx hT;go_enter Tryz.func127,Tryz.ntmps127;go_wp2
 go_loopg [7] n (fun gk i wr=>∃ k:Nat,gk+k=n/\i=.int .i64 (k:Nat)/\wr=w/\Aside (sg xs 0 k=0))
 case atStart=>exact ⟨0,af,rfl,rfl,dW _ _⟩
 case round =>
  obtain ⟨k,Gm,rfl,rfl,HA⟩:=hrel
  by_cases hk:k<n
  · obtain ⟨hR,hn,hx⟩:=HR.o;obtain ⟨b,fQ,K7,rfl,hbc⟩:=hR (by intro e;subst e;simp at hn;omega);have hbk:=hbc k af;obtain ⟨x,fZ⟩:∃ x:Nat,xs.getD k 0=x:=⟨_,rfl⟩;have hxl:x<4294967296:=fZ ▸ hx.get _;rw [fZ] at hbk
    by_cases h0:x=0
    · subst h0;have HX:=(ak fZ);clear fZ hR hn hx hbc;go_wp2;go_roundg (gk-1)
      case measure=>omega
      case rel =>
       obtain ⟨hR,hn,hx⟩:=HR.o;refine ⟨k+1,af,by go_num,rfl,?_⟩;have h1:=HA.o;rw [Aside,bJ xs 0 k af,dS,HX.o,h1];omega
    · have hz:=LH xs k hx af HA.o (by rw [fZ];exact h0);rw [fZ] at hz;obtain ⟨hc,hc32⟩:=Lib.lowest_bit 32 x h0 hxl;have H:=hid (UM x hxl h0 wr HT.o);obtain ⟨c,hcc⟩:∃ c,Lib.ctz 32 x=c:=⟨_,rfl⟩;rw [hcc] at H hz hc32;have HZ:=(ak hz);clear fZ hR hn hx hbc hc hz hcc;go_wp2_with fail;refine H.o.mono ?_;rintro r w1 ⟨rfl,rfl⟩;go_wp2;go_ret;rw [HZ.o];exact ⟨congrArg (fun z=>Ending.returned (Value.int IntKind.i64 z)) af,rfl⟩
  · obtain rfl:k=n:=af
    obtain ⟨hR,hn,hx⟩:=HR.o;have h1:=HA.o;have h2:val xs=0:=by rw [<-dM,<-hn];exact h1
    have H2:=(ak h2);clear hR hn hx h1 h2 HA HR;go_wp2;go_ret;rw [H2.o,zy];exact ⟨rfl,rfl⟩
theorem dw (z:Int) (n:Nat) (hz:z=(n:Int)) (hn:n<=70368744177664) (w:World) :
 (Instr.makeSlice 23 (.int .i64 z) (.int .i64 z)).run Tryz.prog w=.ok (.slice (some ⟨w.heap.size,0,none⟩) n n) (w.alloc (.cells (madeCells #[.int .u32 0] n) 51)):=by
 subst hz;exact run_make_row' 23 51 (.int .u32 0) 4 Tryz.underlying23 Tryz.D5 rfl .i64 .i64 n af af w
theorem Own.made (w:World) (n:Nat):Own (w.alloc (.cells (madeCells #[.int .u32 0] n) 51)) w.heap.size (List.replicate n 0):=by
 unfold Own;have h1:=ib w (.cells (madeCells #[.int .u32 0] n) 51);rw [h1];congr 2;apply Array.toList_inj.1;rw [toList_madeCells_one];simp [U]
theorem Rd.drop {B:Nat}{w:World}{b off:Nat}{xs:List Nat}(h:Rd B w (some ⟨b,off,none⟩) xs) (k:Nat):Rd B w (some ⟨b,off+k,none⟩) (xs.drop k):=by
 intro hx;have hx':xs≠[]:=by intro e;subst e;simp at hx
 obtain ⟨b',off',hlt,e,hc⟩:=h hx'
 cases e
 refine ⟨b,off+k,hlt,rfl,fun i hi=>?_⟩;simp only [pI] at hi;rw [pJ,hc (k+i) af];simp [eP]
theorem iN (w:World) (g dLen dCap:Nat) (ao:Option Addr) (sLen sCap B:Nat) (ty:TypeId)
 (L xs:List Nat) (hO:Own w g L) (hL:dLen<=L.length) (hx:sLen=xs.length) (hR:Rd B w ao xs) (hle:sLen<=dLen) :
 ∃ w',(Builtin.copy_ #[23,23] ty #[.slice (some ⟨g,0,none⟩) dLen dCap,.slice ao sLen sCap]).run Tryz.prog w=.ok (.int .i64 (sLen:Int)) w'/\Own w' g (xs++L.drop sLen)/\But g w w':=by
 subst hx;have hmin:Nat.min xs.length dLen=xs.length:=jf hle
 by_cases h0:xs=[]
 · subst h0;exact ⟨w,run_copy_none (P:=Tryz.prog) w 23 23 ty 51 _ _ _ _ _ _ Tryz.underlying23 dm (by simp at hmin |-),by simpa using hO,But.refl _ _⟩
 · obtain ⟨b,off,hlt,rfl,hc⟩:=hR h0;have hadd:∀ j,(⟨b,off,none⟩:Addr).add j=⟨b,off+j,none⟩:=by intro j;unfold Addr.add;split <;> simp_all
   have hrun:=run_copy_row (P:=Tryz.prog) w 23 23 ty 51 g 0 dLen dCap ⟨b,off,none⟩ xs.length sCap (L.map U).toArray 51 (xs.map U) Tryz.underlying23 dm hO (by rw [hmin];simp) (by
    intro j v hv;rw [hadd]
    have hj:j<xs.length:=by
     have:=(List.getElem?_eq_some_iff.1 hv).1;simpa using this
    rw [hc j hj];simp [hj,U] at hv
    simp [hj,<-hv]) (by simp;omega) (by
    intro v hv;obtain ⟨n,_,rfl⟩:=A8.1 hv
    rfl)
   refine ⟨w.setRow g (((xs++L.drop xs.length).map U)).toArray,?_,setRow_heap w g _ _ 51 _ hO,⟨rfl,rfl,rfl,by simp [World.setRow],fun k _ hk=>setRow_other w g k _ hk⟩⟩;simpa [y8,List.map_drop,goInt] using hrun
end
end Go.Proofs.YtfmfhehbdfhnbaaGreatDoor
