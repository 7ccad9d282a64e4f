import Derived.Deep.LoopGhost
import Derived.Test.YtjppdacikihpdaaGreatDoorProg
import Derived.WalkKit
import Derived.OwnWalk
import Derived.Below
import Derived.Laws.OwnMore
import Derived.Laws.CopyOwn
import Derived.Laws.Bits64b
import Derived.Deep.RegionWith
import Derived.Lib.Strings
import Derived.Lib.Slices
import Derived.Lib.Small
import Derived.Lib.Walk
import Derived.Lib.BitFns
import Derived.Lib.Tables
import Derived.Lib.ItoaNum
import Derived.Lib.TrailingZeros
set_option linter.unusedVariables false
set_option linter.unusedSimpArgs false
set_option maxHeartbeats 16000000
set_option maxRecDepth 20000
namespace Go.Proofs.YtjppdacikihpdaaGreatDoor
abbrev An (w:Go.World):Go.World->Prop:=Go.RowKit.Below w.heap.size w
abbrev As:=Go.Calls Tryz.prog
abbrev Ax (f:Go.FuncId) (a:Array Go.Value) (w:Go.World) (v:Go.Value):Prop:=Go.Calls Tryz.prog f a w λr w'=>r=.returned v/\w'=w
abbrev At (f:Go.FuncId) (a:Array Go.Value) (w:Go.World) (v:Go.Value):Prop:=Go.Calls Tryz.prog f a w λr w'=>r=.returned v/\An w w'
abbrev zD3:Array Go.Value:=#[.bool false,.slice none 0 0,.int .i64 0]
theorem ah{A:Sort _}(a:A):∃x,x=a:=⟨a,rfl⟩
theorem bA{a0 a1:Prop}(h0:a0)(h1:a1):Go.Aside (a0∧a1):=⟨h0,h1⟩
theorem gp{a0 a1 a2:Prop}(h0:a0)(h1:a1)(h2:a2):Go.Aside (a0∧a1∧a2):=⟨h0,h1,h2⟩
theorem iN{a0 a1 a2 a3:Prop}(h0:a0)(h1:a1)(h2:a2)(h3:a3):Go.Aside (a0∧a1∧a2∧a3):=⟨h0,h1,h2,h3⟩
theorem gy{a0 a1 a2 a3 a4:Prop}(h0:a0)(h1:a1)(h2:a2)(h3:a3)(h4:a4):Go.Aside (a0∧a1∧a2∧a3∧a4):=⟨h0,h1,h2,h3,h4⟩
theorem kz{a0 a1 a2 a3 a4 a5:Prop}(h0:a0)(h1:a1)(h2:a2)(h3:a3)(h4:a4)(h5:a5):Go.Aside (a0∧a1∧a2∧a3∧a4∧a5):=⟨h0,h1,h2,h3,h4,h5⟩
theorem Ew{a0 a1 a2 a3 a4 a5 a6:Prop}(h0:a0)(h1:a1)(h2:a2)(h3:a3)(h4:a4)(h5:a5)(h6:a6):Go.Aside (a0∧a1∧a2∧a3∧a4∧a5∧a6):=⟨h0,h1,h2,h3,h4,h5,h6⟩
theorem Ck{a0 a1 a2 a3 a4 a5 a6 a7:Prop}(h0:a0)(h1:a1)(h2:a2)(h3:a3)(h4:a4)(h5:a5)(h6:a6)(h7:a7):Go.Aside (a0∧a1∧a2∧a3∧a4∧a5∧a6∧a7):=⟨h0,h1,h2,h3,h4,h5,h6,h7⟩
theorem QC{a0 a1 a2 a3 a4 a5 a6 a7 a8:Prop}(h0:a0)(h1:a1)(h2:a2)(h3:a3)(h4:a4)(h5:a5)(h6:a6)(h7:a7)(h8:a8):Go.Aside (a0∧a1∧a2∧a3∧a4∧a5∧a6∧a7∧a8):=⟨h0,h1,h2,h3,h4,h5,h6,h7,h8⟩
theorem Cm{a0 a1 a2 a3 a4 a5 a6 a7 a8 a9:Prop}(h0:a0)(h1:a1)(h2:a2)(h3:a3)(h4:a4)(h5:a5)(h6:a6)(h7:a7)(h8:a8)(h9:a9):Go.Aside (a0∧a1∧a2∧a3∧a4∧a5∧a6∧a7∧a8∧a9):=⟨h0,h1,h2,h3,h4,h5,h6,h7,h8,h9⟩
theorem Zz{a0 a1 a2 a3 a4 a5 a6 a7 a8 a9 YT:Prop}(h0:a0)(h1:a1)(h2:a2)(h3:a3)(h4:a4)(h5:a5)(h6:a6)(h7:a7)(h8:a8)(h9:a9)(h10:YT):Go.Aside (a0∧a1∧a2∧a3∧a4∧a5∧a6∧a7∧a8∧a9∧YT):=⟨h0,h1,h2,h3,h4,h5,h6,h7,h8,h9,h10⟩
theorem qs12{a0 a1 a2 a3 a4 a5 a6 a7 a8 a9 YT a11:Prop}(h0:a0)(h1:a1)(h2:a2)(h3:a3)(h4:a4)(h5:a5)(h6:a6)(h7:a7)(h8:a8)(h9:a9)(h10:YT)(h11:a11):Go.Aside (a0∧a1∧a2∧a3∧a4∧a5∧a6∧a7∧a8∧a9∧YT∧a11):=⟨h0,h1,h2,h3,h4,h5,h6,h7,h8,h9,h10,h11⟩
theorem qs14{a0 a1 a2 a3 a4 a5 a6 a7 a8 a9 YT a11 a12 a13:Prop}(h0:a0)(h1:a1)(h2:a2)(h3:a3)(h4:a4)(h5:a5)(h6:a6)(h7:a7)(h8:a8)(h9:a9)(h10:YT)(h11:a11)(h12:a12)(h13:a13):Go.Aside (a0∧a1∧a2∧a3∧a4∧a5∧a6∧a7∧a8∧a9∧YT∧a11∧a12∧a13):=⟨h0,h1,h2,h3,h4,h5,h6,h7,h8,h9,h10,h11,h12,h13⟩
theorem _root_.Go.Aside.o{p:Prop}(h:Go.Aside p):p:=h.out
theorem _root_.Go.RowKit.Hid.o{p:Prop}(h:Go.RowKit.Hid p):p:=h.out
theorem _root_.And.r2{a0 a1 a2:Prop}(h:a0∧a1∧a2):a2:=h.2.2
theorem _root_.And.r3{a0 a1 a2 a3:Prop}(h:a0∧a1∧a2∧a3):a3:=h.2.2.2
theorem _root_.And.r4{a0 a1 a2 a3 a4:Prop}(h:a0∧a1∧a2∧a3∧a4):a4:=h.2.2.2.2
theorem _root_.And.r5{a0 a1 a2 a3 a4 a5:Prop}(h:a0∧a1∧a2∧a3∧a4∧a5):a5:=h.2.2.2.2.2
theorem _root_.And.r6{a0 a1 a2 a3 a4 a5 a6:Prop}(h:a0∧a1∧a2∧a3∧a4∧a5∧a6):a6:=h.2.2.2.2.2.2
theorem _root_.And.r7{a0 a1 a2 a3 a4 a5 a6 a7:Prop}(h:a0∧a1∧a2∧a3∧a4∧a5∧a6∧a7):a7:=h.2.2.2.2.2.2.2
theorem _root_.And.r8{a0 a1 a2 a3 a4 a5 a6 a7 a8:Prop}(h:a0∧a1∧a2∧a3∧a4∧a5∧a6∧a7∧a8):a8:=h.2.2.2.2.2.2.2.2
abbrev aA:=@Nat.le_refl
abbrev aP:=@Nat.pow_add
abbrev aQ:=@Nat.mul_assoc
abbrev aY:=@List.getElem?_eq_getElem
abbrev bF:=@List.getD_eq_getElem?_getD
abbrev bG:=@Nat.two_pow_pos
abbrev cK:=@Nat.mul_comm
abbrev dA:=@Nat.zero_add
abbrev dB:=@Nat.le_trans
abbrev fT:=@Nat.add_mul
abbrev dL:=@Nat.mul_le_mul_right
abbrev dQ:=@Array.getElem?_eq_some_iff
abbrev dS:=@Nat.pow_succ
abbrev eD:=@Int.natCast_mul
abbrev eF:=@List.take_of_length_le
abbrev eQ:=@Nat.mul_one
abbrev eX:=@Bool.false_eq_true
abbrev fe:=@Nat.zero_mul
abbrev fD:=@Nat.pow_le_pow_right
abbrev fG:=@Nat.mul_le_mul_left
abbrev fJ:=@List.length_take
abbrev fK:=@Nat.mul_lt_mul_of_pos_right
abbrev fO:=@Nat.pow_zero
abbrev fU:=@Nat.le_of_lt
abbrev gz:=@Array.getElem?_modify
abbrev gD:=@Bool.toNat_true
abbrev gF:=@Bool.toNat_false
abbrev gQ:=@List.getElem_mem
abbrev gT:=@Nat.lt_of_lt_of_le
abbrev gU:=@List.length_append
abbrev ik:=@Nat.one_mul
abbrev il:=@Nat.add_zero
abbrev iq:=@Nat.div_eq_of_lt
abbrev iB:=@Nat.mod_lt
abbrev iC:=@Nat.lt_of_le_of_lt
abbrev iD:=@List.getElem?_eq_some_iff
abbrev iE:=@Nat.lt_or_ge
abbrev iQ:=@Nat.min_eq_left
abbrev iR:=@Nat.ne_of_lt
abbrev jh:=@Nat.mul_pos
abbrev jy:=@List.map_append
abbrev jL:=@Nat.mod_eq_of_lt
abbrev jM:=@Prod.mk.inj
abbrev kF:=@Nat.mul_le_mul
abbrev kG:=@Nat.eq_zero_or_pos
abbrev kH:=@Nat.pow_lt_pow_iff_right
abbrev kI:=@Nat.mul_lt_mul_right
abbrev kJ:=@List.mem_cons_of_mem
abbrev kK:=@List.mem_cons_self
abbrev lC:=@Int.toNat_natCast
abbrev lD:=@Nat.zero_le
abbrev mq:=@Nat.le_of_not_lt
abbrev mr:=@Nat.pow_one
abbrev mD:=@Int.mul_assoc
abbrev mX:=@Nat.add_sub_cancel
abbrev mY:=@List.getElem?_map
abbrev mZ:=@List.length_map
abbrev ni:=@Nat.lt_trichotomy
abbrev oo:=@Nat.add_assoc
abbrev oq:=@Nat.mul_add
abbrev oz:=@Nat.div_add_mod
abbrev oC:=@Int.natAbs_natCast
abbrev oN:=@List.getElem?_eq_none
abbrev oO:=@List.length_cons
abbrev oU:=@List.length_drop
abbrev oV:=@Nat.add_comm
abbrev o7:=@Nat.pow_mul
abbrev o8:=@Nat.div_le_self
abbrev o9:=@Nat.mul_zero
abbrev pg:=@List.mem_cons
abbrev pq:=@List.getElem?_append_right
abbrev pz:=@Nat.eq_of_mul_eq_mul_right
abbrev pE:=@Nat.ne_of_gt
abbrev rE:=@List.mem_map
abbrev rF:=@List.eq_nil_of_length_eq_zero
abbrev rG:=@List.append_assoc
abbrev rH:=@Nat.mul_mul_mul_comm
abbrev sO:=@List.map_set
abbrev sP:=@Nat.add_mul_div_left
abbrev sQ:=@List.getElem?_append_left
abbrev sU:=@List.length_pos_iff
abbrev wy:=@Nat.pow_pos
abbrev wz:=@Int.emod_eq_of_lt
abbrev wB:=@Nat.mul_div_cancel_left
abbrev wC:=@Nat.div_div_eq_div_mul
abbrev wD:=@List.drop_of_length_le
abbrev wE:=@Nat.sub_self
abbrev wF:=@Int.compare_eq_lt
abbrev wG:=@Int.compare_eq_gt
abbrev wH:=@Int.compare_eq_eq
abbrev xM:=@Nat.div_lt_iff_lt_mul
abbrev xN:=@List.length_replicate
abbrev xO:=@Bool.eq_iff_iff
abbrev xP:=@Nat.lt_of_mul_lt_mul_right
abbrev xQ:=@List.mem_range
abbrev Ao:=@Nat.mul_lt_mul_of_pos_left
abbrev Aq:=@Nat.add_mul_mod_self_left
abbrev Ar:=@List.mem_singleton
abbrev Au:=@Nat.mul_right_comm
abbrev Aw:=@Nat.mul_pow
abbrev uI:=@Bool.false_ne_true
abbrev uJ:=@List.length_singleton
abbrev uK:=@List.mem_append_right
abbrev xR:=@List.mem_of_mem_take
abbrev xS:=@List.mem_of_mem_drop
abbrev xU:=@List.take_succ_eq_append_getElem
abbrev xV:=@List.getElem?_set
abbrev xW:=@List.drop_replicate
abbrev xX:=@Int.natCast_add
abbrev xY:=@Option.isSome_iff_exists
abbrev xZ:=@Int.le_of_lt
abbrev x8:=@Nat.mul_lt_mul''
abbrev yc:=@Bool.false_or
abbrev yf:=@List.any_eq_true
abbrev yh:=@Bool.and_eq_true
abbrev yj:=@Array.getElem?_eq_none
abbrev yl:=@Nat.le_div_iff_mul_le
abbrev ym:=@Classical.choose_spec
abbrev yn:=@Nat.le_mul_of_pos_left
abbrev yo:=@List.set_comm
abbrev yt:=@List.pairwise_iff_getElem
abbrev yw:=@List.set_append_right
abbrev yx:=@List.length_range
abbrev yz:=@List.mem_append_left
abbrev Cn:=@List.mem_append
abbrev Co:=@List.replicate_succ
abbrev Cq:=@List.drop_eq_getElem_cons
abbrev Cr:=@List.append_nil
abbrev Cs:=@Nat.shiftLeft_eq
abbrev Ct:=@Nat.sub_add_cancel
abbrev Cu:=@Int.mul_lt_mul_of_pos_right
abbrev Cv:=@Int.lt_of_mul_lt_mul_right
abbrev Cw:=@List.size_toArray
abbrev Cx:=@Array.length_toList
abbrev Cy:=@List.length_nil
abbrev Cz:=@List.take_append_of_le_length
abbrev CE:=@Nat.mul_eq_zero
abbrev CF:=@List.length_set
abbrev CG:=@List.mem_iff_getElem
abbrev CJ:=@Option.getD_some
abbrev CL:=@List.Perm.eq_of_pairwise
abbrev CS:=@List.pairwise_cons
abbrev IC:=@List.take_append_drop
abbrev IE:=@List.length_eq_zero_iff
abbrev IG:=@Nat.shiftRight_xor_distrib
abbrev II:=@List.getElem?_replicate
abbrev IJ:=@Nat.two_pow_add_eq_or_of_lt
abbrev IK:=@Nat.add_sub_cancel_left
abbrev IL:=@Nat.mod_two_eq_zero_or_one
abbrev IM:=@Nat.and_two_pow_sub_one_eq_mod
abbrev IP:=@List.countP_le_length
abbrev aH:=@Go.bodyPost_ret
abbrev aD:=@Go.RowKit.Below.refl
abbrev uL:=@Go.World.size_alloc
abbrev qZ:=@Go.World.block_lt_of_cell?
abbrev iF:=@Go.heap_alloc_new
abbrev eG:=@Go.Calls.mono
abbrev kC:=@Go.IntKind.wrap_u64
abbrev sV:=@Go.World.cell?_of_block
abbrev QD:=@Go.IntKind.wrap_i64
abbrev yA:=@Go.World.ownsRow_nil
abbrev iG:=@Go.RowKit.Below.drew
theorem ai{a b:Prop}(x:a)(y:b):a/\b:=⟨x,y⟩
theorem ak{a:Prop}(x:a):Aside a:=x
theorem ae{p:Prop}(h:p:=by omega):p:=h
theorem aM{p:Prop}(h:p:=by decide):p:=h
theorem mW{p:Prop}(h:p:=by kernel_rfl):p:=h
theorem aN{p:Prop}(h:p:=by simp):p:=h
section
def pw(k:Nat):Nat:=4294967296^k
theorem jA:pw 0=1:=by simp[pw]
theorem bK(k:Nat):pw (k+1)=4294967296*pw k:=by simp[pw,dS,cK]
theorem uM(i k:Nat):pw (i+k)=pw i*pw k:=by simp[pw,aP]
theorem iU(k:Nat):0<pw k:=wy aM
theorem kM{i k:Nat}(h:i<=k):pw i<=pw k:=fD aM h
def val:List Nat->Nat
 | []=>0
 | x::xs=>x+4294967296*val xs
def Wf(xs:List Nat):Prop:=∀x ∈ xs,x<4294967296
theorem Wf.nil:Wf []:=by intro x hx;cases hx
theorem Wf.cons{x:Nat}{xs:List Nat}(hx:x<4294967296)(h:Wf xs):Wf (x::xs):=by
 intro y hy;cases hy with
 | head=>exact hx
 | tail _ hy=>exact h y hy
theorem Wf.head{x:Nat}{xs:List Nat}(h:Wf (x::xs)):x<4294967296:=h x aN
theorem Wf.tail{x:Nat}{xs:List Nat}(h:Wf (x::xs)):Wf xs:=λy hy=>h y (by simp[hy])
theorem Qbs{P:Prop}(h:P:=by
 by_cases hk:k<xs.length
 . rw[bF,aY hk];exact h _ (gQ hk)
 . rw[bF,oN ae];decide):P:=h
theorem Wf.get{xs:List Nat}(h:Wf xs)(k:Nat):xs.getD k 0<4294967296:=by
 exact Qbs
theorem Wf.take{xs:List Nat}(h:Wf xs)(k:Nat):Wf (xs.take k):=λy hy=>h y (xR hy)
theorem Wf.drop{xs:List Nat}(h:Wf xs)(k:Nat):Wf (xs.drop k):=λy hy=>h y (xS hy)
theorem Wf.append{xs ys:List Nat}(h:Wf xs)(k:Wf ys):Wf (xs++ys):=by
 intro y hy;rcases Cn.1 hy with hy | hy
 . exact h y hy
 . exact k y hy
theorem Wf.set{xs:List Nat}(h:Wf xs)(k x:Nat)(hx:x<4294967296):Wf (xs.set k x):=by
 intro y hy;rcases List.mem_or_eq_of_mem_set hy with hy | hy
 . exact h y hy
 . omega
theorem Wf.zeros(n:Nat):Wf (List.replicate n 0):=by intro y hy;have:=List.eq_of_mem_replicate hy;omega
theorem val_append(xs ys:List Nat):val (xs++ys)=val xs+pw xs.length*val ys:=by
 induction xs with
 | nil=>simp[val,jA]
 | cons x xs ih=>simp only[List.cons_append,val,ih,oO,bK];grind
theorem kX(n:Nat):val (List.replicate n 0)=0:=by
 induction n with
 | zero=>rfl
 | succ n ih=>simp[Co,val,ih]
theorem iV(xs:List Nat)(k:Nat)(hk:k<xs.length):val (xs.take (k+1))=val (xs.take k)+pw k*xs.getD k 0:=by
 rw[xU hk,val_append,fJ,iQ ae,bF,aY hk];simp[val]
theorem dU(xs:List Nat)(k:Nat)(hk:k<=xs.length):val xs=val (xs.take k)+pw k*val (xs.drop k):=by
 have h:=val_append (xs.take k) (xs.drop k);rw[IC,fJ,iQ hk] at h;exact h
theorem dz(xs:List Nat)(k:Nat)(hk:k<xs.length):val (xs.drop k)=xs.getD k 0+4294967296*val (xs.drop (k+1)):=by
 rw[Cq hk,val,bF,aY hk];rfl
theorem dh(xs:List Nat)(h:Wf xs):val xs<pw xs.length:=by
 induction xs with
 | nil=>simp[val,jA]
 | cons x xs ih =>
   have h1:=ih h.tail;have h2:=h.head;simp only[val,oO,bK];omega
def ws(n:Nat):List Nat:=if h:n=0 then[] else n%4294967296::ws (n/4294967296)
termination_by n
decreasing_by omega
theorem cB:ws 0=[]:=by rw[ws];simp
theorem pF(n:Nat)(h:n≠0):ws n=n%4294967296::ws (n/4294967296):=by rw[ws];simp[h]
theorem aB(n:Nat):val (ws n)=n:=by
 induction n using Nat.strongRecOn with
 | _ n ih =>
   by_cases h:n=0
   . subst h;simp[cB,val]
   . rw[pF n h,val,ih (n/4294967296) ae];omega
theorem gG(n:Nat):Wf (ws n):=by
 induction n using Nat.strongRecOn with
 | _ n ih =>
   by_cases h:n=0
   . subst h;rw[cB];exact Wf.nil
   . rw[pF n h];exact Wf.cons ae (ih _ ae)
def nl:List Nat->Nat
 | []=>0
 | x::xs=>if nl xs=0/\x=0 then 0 else nl xs+1
theorem kL(xs:List Nat):nl xs<=xs.length:=by
 induction xs with
 | nil=>simp[nl]
 | cons x xs ih=>simp only[nl,oO];split <;> omega
theorem jk(xs:List Nat):nl xs=0↔val xs=0:=by
 induction xs with
 | nil=>simp[nl,val]
 | cons x xs ih=>simp only[nl,val];split <;> omega
theorem qx(xs:List Nat)(h:Wf xs):xs.take (nl xs)=ws (val xs):=by
 induction xs with
 | nil=>simp[nl,val,cB]
 | cons x xs ih =>
   have h1:=ih h.tail;have h2:=h.head
   by_cases h3:nl xs=0/\x=0
   . have h4:=(jk xs).1 h3.1;simp[nl,h3,val,h4,cB]
   . have h5:val (x::xs)≠0:=by
      intro h6;simp only[val] at h6;exact h3 ⟨(jk xs).2 ae,ae⟩
     rw[pF _ h5];simp only[nl,if_neg h3,val,List.take_succ_cons];rw[show(x+4294967296*val xs)%4294967296=x by omega,show(x+4294967296*val xs)/4294967296=val xs by omega,h1]
theorem gI(xs:List Nat)(h:Wf xs):nl xs=(ws (val xs)).length:=by
 rw[<-qx xs h,fJ,iQ (kL xs)]
theorem lG(xs:List Nat)(h:Wf xs):val (xs.take (nl xs))=val xs:=by rw[qx xs h,aB]
theorem KO(n:Nat):nl (ws n)=(ws n).length:=by rw[gI _ (gG n),aB]
theorem aS(n k:Nat):(ws n).length<=k↔n<pw k:=by
 constructor
 . intro h;have h1:=dh (ws n) (gG n);rw[aB] at h1;exact gT h1 (kM h)
 . intro h
   induction k generalizing n with
   | zero=>rw[jA] at h;obtain rfl:n=0:=ae
           simp[cB]
   | succ k ih =>
     by_cases h0:n=0
     . subst h0;simp[cB]
     . rw[pF n h0,oO];rw[bK] at h;have:=ih (n/4294967296) ae;omega
theorem ML(n k:Nat)(h1:pw k<=n)(h2:n<pw (k+1)):(ws n).length=k+1:=by
 have a:=(aS n (k+1)).2 h2;have b:¬ (ws n).length<=k:=λh=>by have:=(aS n k).1 h;omega
 omega
theorem uN(n:Nat)(h:n≠0):pw ((ws n).length-1)<=n:=by
 have h1:¬ (ws n).length<=(ws n).length-1:=by
  have:(ws n).length≠0:=by rw[pF n h];simp
  omega
 rw[aS] at h1;omega
theorem gZ(n:Nat):n<pw (ws n).length:=(aS n _).1 (aA _)
theorem bT(n:Nat):(ws n).length=0↔n=0:=by
 constructor
 . intro h;have:=gZ n;rw[h,jA] at this;omega
 . intro h;subst h;simp[cB]
theorem xn(xs:List Nat)(k:Nat)(hk:k<=xs.length)(h0:∀j,k<=j->j<xs.length->xs.getD j 0=0)(h1:k=0\/xs.getD (k-1) 0≠0):nl xs=k:=by
 induction xs generalizing k with
 | nil=>simp at hk;simp[nl,hk]
 | cons x xs ih =>
   cases k with
   | zero =>
     have hx:=h0 0 ae aN;have:nl xs=0:=ih 0 ae (λj _ hj=>by have:=h0 (j+1) ae (by simp;omega);simpa using this) (.inl rfl);simp at hx;simp[nl,this,hx]
   | succ k =>
     cases k with
     | zero =>
       have:nl xs=0:=ih 0 ae (λj _ hj=>by have:=h0 (j+1) ae (by simp;omega);simpa using this) (.inl rfl);simp at h1;simp[nl,this,h1]
     | succ k =>
       have:nl xs=k+1:=ih (k+1) (by simpa using hk) (λj hj hj2=>by have:=h0 (j+1) ae (by simp;omega);simpa using this) (.inr (by simpa using h1));simp[nl,this]
theorem KP(xs:List Nat)(h:nl xs≠0):xs.getD (nl xs-1) 0≠0:=by
 induction xs with
 | nil=>simp[nl] at h
 | cons x xs ih =>
   by_cases h1:nl xs=0
   . have hx:x≠0:=by intro hx;simp[nl,h1,hx] at h
     simp[nl,h1,hx]
   . have h2:¬ (nl xs=0/\x=0):=ae
     have:=ih h1;simp only[nl,if_neg h2];obtain⟨m,hm⟩:∃m,nl xs=m+1:=⟨nl xs-1,ae⟩;rw[hm] at this |-;simpa using this
end
section
open Go.RowKit
theorem hid{p:Prop}(h:p):Hid p:=h
def U(n:Nat):Value:=.int .u32 (n:Int)
def Own(w:World)(g:Nat)(L:List Nat):Prop:=w.heap[g]?=some (.cells (L.map U).toArray 162 (0,0))
theorem Own.lt{w:World}{g:Nat}{L:List Nat}(h:Own w g L):g<w.heap.size:=(dQ.1 h).1
theorem Own.cell{w:World}{g:Nat}{L:List Nat}(h:Own w g L)(i:Nat)(hi:i<L.length):w.cell? ⟨g,i,none⟩=some (.int .u32 ((L.getD i 0:Nat):Int)):=by
 unfold Own at h;simp[World.cell?,h,U,hi]
theorem Own.frozen{w:World}{g:Nat}{L:List Nat}(h:Own w g L)(i:Nat):w.frozen? ⟨g,i,none⟩=false:=by
 unfold Own at h;simp[World.frozen?,h]
theorem Own.set{w:World}{g:Nat}{L:List Nat}(h:Own w g L)(i x:Nat):Own (w.setCell ⟨g,i,none⟩ (.int .u32 (x:Int))) g (L.set i x):=by
 unfold Own at h |-;simp only[World.setCell,gz,h];simp[U,sO]
theorem Own.setOther{w:World}{g:Nat}{L:List Nat}(h:Own w g L){a:Addr}(ha:a.block≠g)(u:Value):Own (w.setCell a u) g L:=by
 unfold Own at h |-;rw[Below.heap_setCell _ _ _ _ (λe=>ha e.symm)];exact h
theorem Own.alloc{w:World}{g:Nat}{L:List Nat}(h:Own w g L)(o:Obj):Own (w.alloc o) g L:=by
 have:=h.lt;unfold Own at h |-;rw[Below.heap_alloc _ _ _ this];exact h
theorem Own.drew{w:World}{g:Nat}{L:List Nat}(h:Own w g L):Own w.drew g L:=h
theorem Own.below{w w':World}{g B:Nat}{L:List Nat}(h:Own w g L)(hb:Below B w w')(hg:g<B):Own w' g L:=by
 unfold Own at h |-;rw[hb.block g hg];exact h
structure But (g:Nat) (w w':World):Prop where
 os:w'.os=w.os
 tape:w'.tape=w.tape
 output:w'.output=w.output
 size:w.heap.size<=w'.heap.size
 block:∀k,k<w.heap.size->k≠g->w'.heap[k]?=w.heap[k]?
theorem But.refl(g:Nat)(w:World):But g w w:=⟨rfl,rfl,rfl,aA _,λ_ _ _=>rfl⟩
theorem But.trans{g:Nat}{a b c:World}(h:But g a b)(k:But g b c):But g a c :=
 ⟨k.os.trans h.os,k.tape.trans h.tape,k.output.trans h.output,dB h.size k.size,λi hi hg=>(k.block i (gT hi h.size) hg).trans (h.block i hi hg)⟩
theorem But.drew{g:Nat}{a w:World}(h:But g a w):But g a w.drew:=⟨h.os,h.tape,h.output,h.size,h.block⟩
theorem But.set{g:Nat}{a w:World}(h:But g a w)(i:Nat)(u:Value):But g a (w.setCell ⟨g,i,none⟩ u) :=
 h.trans ⟨rfl,rfl,rfl,by simp[World.setCell],λk _ hk=>Below.heap_setCell _ _ _ _ hk⟩
theorem But.of_below{g:Nat}{a w w':World}(h:But g a w)(hb:An w w'):But g a w' :=
 h.trans ⟨hb.os,hb.tape,hb.output,hb.size,λk hk _=>hb.block k hk⟩
theorem But.below{g B:Nat}{a w w':World}(h:Below B a w)(hb:But g w w')(hB:B<=w.heap.size)(hg:B<=g):Below B a w' :=
 h.trans ⟨hb.os,hb.tape,hb.output,hb.size,λk hk=>hb.block k ae ae⟩
def Rd(B:Nat)(w:World)(ao:Option Addr)(xs:List Nat):Prop :=
 xs≠[]->∃b off,b<B/\ao=some ⟨b,off,none⟩/\∀i,i<xs.length->w.cell? ⟨b,off+i,none⟩=some (.int .u32 ((xs.getD i 0:Nat):Int))
theorem Rd.nil(B:Nat)(w:World)(ao:Option Addr):Rd B w ao []:=λh=>absurd rfl h
theorem Qap{P:Prop}(h:P:=by
 intro hx;obtain⟨b,off,hlt,rfl,hc⟩:=h hx;exact⟨b,off,hlt,rfl,λi hi=>(hb.cell (p:=⟨b,off+i,none⟩) hlt).trans (hc i hi)⟩):P:=h
theorem Rd.below{B:Nat}{w w':World}{ao:Option Addr}{xs:List Nat}(h:Rd B w ao xs)(hb:Below B w w'):Rd B w' ao xs:=by
 exact Qap
theorem Rd.but{B g:Nat}{w w':World}{ao:Option Addr}{xs:List Nat}(h:Rd B w ao xs)(hb:But g w w')(hB:B<=w.heap.size)(hg:B<=g):Rd B w' ao xs :=
 h.below (But.below (aD _ _) hb hB hg)
theorem Qb0{P:Prop}(h:P:=by
 intro hx;obtain⟨b,off,hlt,rfl,hc⟩:=h hx;exact⟨b,off,ae,rfl,hc⟩):P:=h
theorem Rd.mono{B B':Nat}{w:World}{ao:Option Addr}{xs:List Nat}(h:Rd B w ao xs)(hB:B<=B'):Rd B' w ao xs:=by
 exact Qb0
theorem Rd.take{B:Nat}{w:World}{ao:Option Addr}{xs:List Nat}(h:Rd B w ao xs)(k:Nat):Rd B w ao (xs.take k):=by
 intro hx;have hx':xs≠[]:=by intro e;subst e;simp at hx
 obtain⟨b,off,hlt,rfl,hc⟩:=h hx';refine⟨b,off,hlt,rfl,λi hi=>?_⟩;simp only[fJ] at hi;rw[hc i ae];simp[bF,show i<k by omega]
theorem Rd.gW{w:World}{g:Nat}{L:List Nat}(h:Own w g L)(off n:Nat):Rd (g+1) w (some ⟨g,off,none⟩) ((L.drop off).take n):=by
 intro _;refine⟨g,off,ae,rfl,λi hi=>?_⟩;simp only[fJ,oU] at hi;rw[h.cell _ ae];simp[bF,show i<n by omega]
def Nt(lo:Nat)(w:World)(v:Value)(X:Nat):Prop:=w.ownsRow lo 162 1 v (ws X).length ((ws X).map U)
theorem Nt.nil(lo:Nat)(w:World):Nt lo w (.slice none 0 0) 0:=by
 unfold Nt;rw[cB];exact yA _ _ _ _
theorem Nt.gW{lo:Nat}{w:World}{g:Nat}{L:List Nat}(h:Own w g L)(hlo:lo<=g)(hL:Wf L)(hm:L.length<=maxLen) :
 Nt lo w (.slice (some ⟨g,0,none⟩) (nl L) L.length) (val L):=by
 unfold Nt;have e:=qx L hL;have hn:=kL L;rw[<-e];refine⟨aN,.inr ⟨g,L.length,(L.map U).toArray,?_,hlo,h,?_,hm,aN,aN⟩⟩
 . simp[iQ hn]
 . simp;omega
theorem Nt.shape{lo:Nat}{w:World}{v:Value}{X:Nat}(h:Nt lo w v X):∃ao cap,v=.slice ao (ws X).length cap/\(ws X).length<=cap/\cap<=maxLen/\Rd w.heap.size w ao (ws X):=by
 rcases h.2 with ⟨rfl,h0⟩|⟨g,cap,cur,rfl,hlo,hg,hn,hm,hs,ht⟩
 . refine⟨none,0,by rw[h0],ae,by unfold maxLen;omega,?_⟩;have:ws X=[]:=IE.1 h0;rw[this];exact Rd.nil _ _ _
 . refine⟨_,cap,rfl,hn,hm,λ_=>⟨g,0,(dQ.1 hg).1,rfl,λi hi=>?_⟩⟩;have:=h.cells (g:=g) (by simp[Value.ownBlock]) i (U ((ws X).getD i 0)) (by simp[hi]);have e:(⟨g,0,none⟩:Addr).add i=⟨g,0+i,none⟩:=by unfold Addr.add;split <;> simp_all
   rw[e] at this;simpa [U] using this
theorem Nt.below{lo:Nat}{w w':World}{v:Value}{X:Nat}(h:Nt lo w v X)(hb:An w w'):Nt lo w' v X:=by
 refine⟨h.1,?_⟩;rcases h.2 with hn|⟨g,cap,cur,rfl,hlo,hg,rest⟩
 . exact .inl hn
 . refine .inr ⟨g,cap,cur,rfl,hlo,?_,rest⟩;rw[hb.block g (dQ.1 hg).1];exact hg
theorem jn{P:Prop}(h:P:=by
 refine⟨h.1,?_⟩;rcases h.2 with hn|⟨g,cap,cur,rfl,hlo,rest⟩
 . exact .inl hn
 . exact .inr ⟨g,cap,cur,rfl,ae,rest⟩):P:=h
theorem Nt.mono{lo lo':Nat}{w:World}{v:Value}{X:Nat}(h:Nt lo w v X)(hl:lo'<=lo):Nt lo' w v X:=by
 exact jn
theorem Tryz.xw:(Tryz.prog.info? 162).map (λi=>(i.zero,i.size,i.bytes))=some (some (.int .u32 0),1,4):=by kernel_rfl
def Fs(B:Nat)(w:World)(ao:Option Addr)(xs:List Nat):Prop :=
 xs≠[]->∃b off,b<B/\ao=some ⟨b,off,none⟩/\∀i,i<xs.length->w.cell? ⟨b,off+i,none⟩=some (.float .f64 (xs.getD i 0))
theorem Fs.at{B:Nat}{w w':World}{ao:Option Addr}{xs:List Nat}(h:Fs B w ao xs)(hb:Below B w w')(i:Nat)(hi:i<xs.length):∃b off,ao=some ⟨b,off,none⟩/\w'.cell? ⟨b,off+i,none⟩=some (.float .f64 (xs.getD i 0)):=by
 obtain⟨b,off,h1,h2,h3⟩:=h (by intro e;subst e;simp at hi);exact⟨b,off,h2,(hb.cell (p:=⟨b,off+i,none⟩) h1).trans (h3 i hi)⟩
theorem Fs.below{B:Nat}{w w':World}{ao:Option Addr}{xs:List Nat}(h:Fs B w ao xs)(hb:Below B w w'):Fs B w' ao xs:=by
 intro hne;obtain⟨b,off,h1,h2,h3⟩:=h hne;exact⟨b,off,h1,h2,λi hi=>(hb.cell (p:=⟨b,off+i,none⟩) h1).trans (h3 i hi)⟩
theorem Fs.mono{B B':Nat}{w:World}{ao:Option Addr}{xs:List Nat}(h:Fs B w ao xs)(hb:B<=B'):Fs B' w ao xs:=by
 intro hne;obtain⟨b,off,h1,h2,h3⟩:=h hne;exact⟨b,off,gT h1 hb,h2,h3⟩
theorem Fs.nil(B:Nat)(w:World)(ao:Option Addr):Fs B w ao []:=λh=>absurd rfl h
def jH(xs:List Nat):Prop:=∀x ∈ xs,x<18446744073709551616
theorem jH.get{xs:List Nat}(h:jH xs)(i:Nat):xs.getD i 0<18446744073709551616:=by
 by_cases hi:i<xs.length
 . rw[bF,aY hi];exact h _ (gQ hi)
 . rw[bF,oN ae];simp
theorem Xs{P:Prop}(h:P:=by
 exact⟨rfl,rfl⟩):P:=h
theorem Jx{P:Prop}(h:P:=by
 go_ret;exact⟨rfl,rfl⟩):P:=h
theorem fq(xs:List Nat)(ao:Option Addr)(n cap B:Nat)(w:World)(hn:n=xs.length)(hc:n<=cap)(hm:n<=9223372036854775807)(hR:Rd B w ao xs) :
 Ax 129 #[.slice ao n cap] w (.slice ao (nl xs) cap):=by
 by_cases hx:xs=[]
 . subst hx;simp at hn;subst hn;go_enter Tryz.func129,Tryz.ntmps129;go_wp2
   go_loopg [0] 0 (λg s wr=>s=.slice ao 0 cap/\wr=w)
   case atStart=>exact Xs
   case round =>
    obtain⟨rfl,rfl⟩:=hrel;go_wp2;exact Jx
 . obtain⟨b,off,hB,rfl,hcell⟩:=hR hx;have HN:Aside (n=xs.length):=hn;clear hn hR hx;go_enter Tryz.func129,Tryz.ntmps129;go_wp2
   go_loopg [0] n (λg s wr=>g<=n/\s=.slice (some ⟨b,off,none⟩) g cap/\wr=w/\Aside (∀j,g<=j->j<n->xs.getD j 0=0))
   case atStart=>exact⟨aA _,rfl,rfl,λj h1 h2=>by omega⟩
   case round =>
    obtain⟨hk,rfl,rfl,hz⟩:=hrel
    by_cases hk0:gk=0
    . subst hk0;go_wp2;go_ret;rw[xn xs 0 ae (λj h1 h2=>hz.o j h1 (by have:=HN.o;omega)) (.inl rfl)];exact Xs
    . obtain⟨k,rfl⟩:∃k,gk=k+1:=⟨gk-1,ae⟩;have hcx:=hcell k (by have:=HN.o;omega);obtain⟨x,fE⟩:∃x:Nat,xs.getD k 0=x:=⟨_,rfl⟩;rw[fE] at hcx;have HX:Aside (xs.getD k 0=x):=fE;clear fE hcell hk0
      by_cases h0:x=0
      . subst h0;go_wp2;go_roundg k
        case measure=>omega
        case rel =>
         refine⟨ae,rfl,rfl,λj h1 h2=>?_⟩
         by_cases hj:j=k
         . subst hj;exact HX.o
         . exact hz.o j ae h2
      . go_wp2;go_ret;rw[xn xs (k+1) (by have:=HN.o;omega) (λj h1 h2=>hz.o j h1 (by have:=HN.o;omega)) (.inr (by have:=HX.o;rw[mX,this];exact h0))];exact Xs
theorem pG(xs:List Nat)(ao:Option Addr)(n cap B:Nat)(w:World)(hn:n=xs.length)(hm:n<=9223372036854775807)(hR:Rd B w ao xs) :
 Ax 168 #[.slice ao n cap] w (.int .i64 (nl xs:Nat)):=by
 by_cases hx:xs=[]
 . subst hx;simp at hn;subst hn;go_enter Tryz.func168,Tryz.ntmps168;go_wp2
   go_loopg [3] 0 (λg s wr=>s=.int .i64 0/\wr=w)
   case atStart=>exact Xs
   case round =>
    obtain⟨rfl,rfl⟩:=hrel;go_wp2;exact Jx
 . obtain⟨b,off,hB,rfl,hcell⟩:=hR hx;have HN:Aside (n=xs.length):=hn;clear hn hR hx;go_enter Tryz.func168,Tryz.ntmps168;go_wp2
   go_loopg [3] n (λg s wr=>g<=n/\s=.int .i64 (g:Nat)/\wr=w/\Aside (∀j,g<=j->j<n->xs.getD j 0=0))
   case atStart=>exact⟨aA _,rfl,rfl,λj h1 h2=>by omega⟩
   case round =>
    obtain⟨hk,rfl,rfl,hz⟩:=hrel
    by_cases hk0:gk=0
    . subst hk0;go_wp2;go_ret;rw[xn xs 0 ae (λj h1 h2=>hz.o j h1 (by have:=HN.o;omega)) (.inl rfl)];exact Xs
    . obtain⟨k,rfl⟩:∃k,gk=k+1:=⟨gk-1,ae⟩;have hcx:=hcell k (by have:=HN.o;omega);obtain⟨x,fE⟩:∃x:Nat,xs.getD k 0=x:=⟨_,rfl⟩;rw[fE] at hcx;have HX:Aside (xs.getD k 0=x):=fE;clear fE hcell hk0
      by_cases h0:x=0
      . subst h0;go_wp2;go_roundg k
        case measure=>omega
        case rel =>
         refine⟨ae,by go_num,rfl,λj h1 h2=>?_⟩
         by_cases hj:j=k
         . subst hj;exact HX.o
         . exact hz.o j ae h2
      . go_wp2;go_ret;rw[xn xs (k+1) (by have:=HN.o;omega) (λj h1 h2=>hz.o j h1 (by have:=HN.o;omega)) (.inr (by have:=HX.o;rw[mX,this];exact h0))];exact Xs
theorem qy(n:Int):IntKind.u32.wrap n=n%4294967296:=by simp[IntKind.wrap,IntKind.signed,IntKind.bits]
theorem ofInt32(a:Nat)(ha:a<4294967296):(BitVec.ofInt 32 (a:Int)).toNat=a:=by
 rw[BitVec.ofInt_natCast,BitVec.toNat_ofNat];exact jL ae
theorem KQ(a b:Nat)(ha:a<4294967296)(hb:b<4294967296):bits .and .u32 (a:Int) (b:Int)=((a &&& b:Nat):Int):=by
 have hx:a &&& b<2^32:=Nat.and_lt_two_pow _ ae;show IntKind.u32.wrap ((BitVec.ofInt 32 (a:Int) &&& BitVec.ofInt 32 (b:Int)).toNat:Int)=_;rw[BitVec.toNat_and,ofInt32 a ha,ofInt32 b hb,qy];omega
theorem or32(a b:Nat)(ha:a<4294967296)(hb:b<4294967296):bits .or .u32 (a:Int) (b:Int)=((a ||| b:Nat):Int):=by
 have hx:a ||| b<2^32:=Nat.or_lt_two_pow ae ae
 show IntKind.u32.wrap ((BitVec.ofInt 32 (a:Int) ||| BitVec.ofInt 32 (b:Int)).toNat:Int)=_;rw[BitVec.toNat_or,ofInt32 a ha,ofInt32 b hb,qy];omega
theorem j8{P:Prop}(h:P:=by
 have hx:a ^^^ b<2^32:=Nat.xor_lt_two_pow ae ae;show IntKind.u32.wrap ((BitVec.ofInt 32 (a:Int) ^^^ BitVec.ofInt 32 (b:Int)).toNat:Int)=_;rw[BitVec.toNat_xor,ofInt32 a ha,ofInt32 b hb,qy];omega):P:=h
theorem QE(a b:Nat)(ha:a<4294967296)(hb:b<4294967296):bits .xor .u32 (a:Int) (b:Int)=((a ^^^ b:Nat):Int):=by
 exact j8
theorem IQ(x y c d:Nat)(hx:x<4294967296)(hy:y<4294967296)(hc:c<=1)(hd:(d:Int)=((x:Int)-y-c)%4294967296) :
 (((4294967295 ^^^ x) &&& y) ||| ((4294967295 ^^^ (x ^^^ y)) &&& d))/2147483648=if x<y+c then 1 else 0:=by
 have e:∀n:Nat,n/2147483648=n >>> 31:=λn=>by rw[Nat.shiftRight_eq_div_pow]
 rw[e,Nat.shiftRight_or_distrib,Nat.shiftRight_and_distrib,Nat.shiftRight_and_distrib,IG,IG,IG,<-e,<-e,<-e,<-e];have hd2:d<4294967296:=ae
 have h1:x/2147483648=0\/x/2147483648=1:=ae
 have h2:y/2147483648=0\/y/2147483648=1:=ae
 have h3:d/2147483648=0\/d/2147483648=1:=ae
 rw[show 4294967295/2147483648=1 from rfl];rcases h1 with h1|h1 <;> rcases h2 with h2|h2 <;> rcases h3 with h3|h3 <;> rw[h1,h2,h3] <;> split <;> first|rfl|(exfalso;omega)
theorem IU(x y c:Nat)(hx:x<4294967296)(hy:y<4294967296)(hc:c<=1) :
 bits BinOp.or IntKind.u32 (bits BinOp.and IntKind.u32 (bits BinOp.xor IntKind.u32 IntKind.u32.max x) y)
  (bits BinOp.and IntKind.u32
   (bits BinOp.xor IntKind.u32 IntKind.u32.max (bits BinOp.xor IntKind.u32 x y))
   (((x:Int)-y-c)%4294967296)) /
  2147483648=((if x<y+c then 1 else 0:Nat):Int):=by
 obtain⟨d,hd⟩:∃d:Nat,(d:Int)=((x:Int)-y-c)%4294967296:=⟨(((x:Int)-y-c)%4294967296).toNat,ae⟩;have hd2:d<4294967296:=ae
 have hm:IntKind.u32.max=((4294967295:Nat):Int):=aM
 have hn:∀a b:Nat,a<4294967296->b<4294967296->a ^^^ b<4294967296:=λa b ha hb=>Nat.xor_lt_two_pow (n:=32) ha hb;have ha:∀a b:Nat,b<4294967296->a &&& b<4294967296:=λa b hb=>Nat.and_lt_two_pow (n:=32) a hb
 rw[hm,QE x y hx hy,QE _ _ aM hx,QE _ _ aM (hn _ _ hx hy),KQ _ _ (hn _ _ aM hx) hy,<-hd,KQ _ _ (hn _ _ aM (hn _ _ hx hy)) hd2,
  or32 _ _ (ha _ _ hy) (ha _ _ hd2),<-IQ x y c d hx hy hc hd]
 omega
theorem MN(x y c:Int)(w:World)(hx:0<=x)(hx2:x<4294967296)(hy:0<=y)(hy2:y<4294967296)(hc:0<=c)(hc2:c<=1) :
 Ax 221 #[.int .u32 x,.int .u32 y,.int .u32 c] w (.tuple #[.int .u32 ((x+y+c)%4294967296),.int .u32 ((x+y+c)/4294967296)]):=by
 go_enter Tryz.func221,Tryz.ntmps221;go_wp2
 go_ret2
 exact⟨rfl,rfl⟩
theorem MO(x y c s d:Nat)(w:World)(hx:x<4294967296)(hy:y<4294967296)(hc:c<=1)(hs:s=(x+y+c)%4294967296)(hd:d=(x+y+c)/4294967296) :
 Ax 221 #[.int .u32 (x:Int),.int .u32 (y:Int),.int .u32 (c:Int)] w (.tuple #[.int .u32 (s:Int),.int .u32 (d:Int)]):=by
 have h:=MN x y c w ae ae ae ae ae ae;rw[show((x:Int)+y+c)%4294967296=(s:Int) by omega,show((x:Int)+y+c)/4294967296=(d:Int) by omega] at h;exact h
theorem MR (x y c bo:Int) (w:World) (hx:0<=x) (hx2:x<4294967296) (hy:0<=y) (hy2:y<4294967296) (hc:0<=c) (hc2:c<=1)
 (hb:bits BinOp.or IntKind.u32 (bits BinOp.and IntKind.u32 (bits BinOp.xor IntKind.u32 IntKind.u32.max x) y)
  (bits BinOp.and IntKind.u32
   (bits BinOp.xor IntKind.u32 IntKind.u32.max (bits BinOp.xor IntKind.u32 x y))
   ((x-y-c)%4294967296)) /
  2147483648=bo) :
 Ax 209 #[.int .u32 x,.int .u32 y,.int .u32 c] w (.tuple #[.int .u32 ((x-y-c)%4294967296),.int .u32 bo]):=by
 go_enter Tryz.func209,Tryz.ntmps209;go_wp2
 all_goals first | (go_ret2;exact⟨rfl,rfl⟩) | skip
theorem Ay(x y c s d:Nat)(w:World)(hx:x<4294967296)(hy:y<4294967296)(hc:c<=1)(hs:(s:Int)=((x:Int)-y-c)%4294967296)(hd:d=if x<y+c then 1 else 0) :
 Ax 209 #[.int .u32 (x:Int),.int .u32 (y:Int),.int .u32 (c:Int)] w (.tuple #[.int .u32 (s:Int),.int .u32 (d:Int)]):=by
 have h:=MR x y c d w ae ae ae ae ae ae (by rw[IU x y c hx hy hc,<-hd]);rw[<-hs] at h;exact h
theorem yB(n:Nat)(ao:Option Addr)(cap:Nat)(w:World) :
 Ax 130 #[.slice ao n cap] w (.bool (decide ((8192:Int)<(n:Int)))):=by
 go_enter Tryz.func130,Tryz.ntmps130;go_wp2;go_ret;exact⟨rfl,rfl⟩
theorem pI(n:Nat)(ao:Option Addr)(cap:Nat)(w:World) :
 Ax 176 #[.slice ao n cap] w (if 8192<n then .tuple #[.slice none 0 0,.int .i64 2] else .tuple #[.slice ao n cap,.int .i64 0]):=by
 by_cases h:8192<n
 . rw[if_pos h];have hl:=yB n ao cap;have h':(8192:Int)<(n:Int):=ae
   simp only[h',decide_true] at hl;have H:Hid (∀w,_):=hl;clear hl;go_enter Tryz.func176,Tryz.ntmps176;go_wp2_with fail;refine(H.o _).mono ?_;rintro r w1 ⟨rfl,rfl⟩;go_wp2
   go_ret2
   exact Xs
 . rw[if_neg h];have hl:=yB n ao cap;have h':¬ (8192:Int)<(n:Int):=ae
   simp only[h',decide_false] at hl;have H:Hid (∀w,_):=hl;clear hl;go_enter Tryz.func176,Tryz.ntmps176;go_wp2_with fail;refine(H.o _).mono ?_;rintro r w1 ⟨rfl,rfl⟩;go_wp2
   go_ret2
   exact Xs
theorem VB(x:Int)(w:World):Ax 159 #[.int .i64 x] w (.bool false):=by
 go_enter Tryz.func159,Tryz.ntmps159;go_wp2;exact Jx
theorem VC(x:Int)(w:World):Ax 208 #[.int .u32 x] w (.bool false):=by
 go_enter Tryz.func208,Tryz.ntmps208;go_wp2;exact Jx
def bI(x y:Nat):Int:=if x<y then -1 else if y<x then 1 else 0
theorem MU(x y:Nat)(w:World):Ax 100 #[.int .i64 (x:Int),.int .i64 (y:Int)] w (.int .i64 (bI x y)):=by
 have H:Hid (∀x w,_):=VB
 by_cases h:x<y
 . have e:bI x y=-1:=by simp[bI,h]
   rw[e];clear e;go_enter Tryz.func100,Tryz.ntmps100;go_wp2_with fail;refine(H.o _ _).mono ?_;rintro r w1 ⟨rfl,rfl⟩;go_wp2_with fail;refine(H.o _ _).mono ?_;rintro r w1 ⟨rfl,rfl⟩;go_wp2;exact Jx
 . by_cases h2:y<x
   . have e:bI x y=1:=by simp[bI,h,h2]
     rw[e];clear e;go_enter Tryz.func100,Tryz.ntmps100;go_wp2_with fail;refine(H.o _ _).mono ?_;rintro r w1 ⟨rfl,rfl⟩;go_wp2_with fail;refine(H.o _ _).mono ?_;rintro r w1 ⟨rfl,rfl⟩;go_wp2;exact Jx
   . have e:bI x y=0:=by simp[bI,h,h2]
     rw[e];clear e;go_enter Tryz.func100,Tryz.ntmps100;go_wp2_with fail;refine(H.o _ _).mono ?_;rintro r w1 ⟨rfl,rfl⟩;go_wp2_with fail;refine(H.o _ _).mono ?_;rintro r w1 ⟨rfl,rfl⟩;go_wp2;exact Jx
theorem Az(x y:Nat)(w:World):Ax 179 #[.int .u32 (x:Int),.int .u32 (y:Int)] w (.int .i64 (bI x y)):=by
 have H:Hid (∀x w,_):=VC
 by_cases h:x<y
 . have e:bI x y=-1:=by simp[bI,h]
   rw[e];clear e;go_enter Tryz.func179,Tryz.ntmps179;go_wp2_with fail;refine(H.o _ _).mono ?_;rintro r w1 ⟨rfl,rfl⟩;go_wp2_with fail;refine(H.o _ _).mono ?_;rintro r w1 ⟨rfl,rfl⟩;go_wp2;exact Jx
 . by_cases h2:y<x
   . have e:bI x y=1:=by simp[bI,h,h2]
     rw[e];clear e;go_enter Tryz.func179,Tryz.ntmps179;go_wp2_with fail;refine(H.o _ _).mono ?_;rintro r w1 ⟨rfl,rfl⟩;go_wp2_with fail;refine(H.o _ _).mono ?_;rintro r w1 ⟨rfl,rfl⟩;go_wp2;exact Jx
   . have e:bI x y=0:=by simp[bI,h,h2]
     rw[e];clear e;go_enter Tryz.func179,Tryz.ntmps179;go_wp2_with fail;refine(H.o _ _).mono ?_;rintro r w1 ⟨rfl,rfl⟩;go_wp2_with fail;refine(H.o _ _).mono ?_;rintro r w1 ⟨rfl,rfl⟩;go_wp2;exact Jx
end
section
def sg(L:List Nat)(off k:Nat):Nat:=val ((L.drop off).take k)
theorem dV(L:List Nat)(off:Nat):sg L off 0=0:=by simp[sg,val]
theorem bN(L:List Nat)(off k:Nat)(h:off+k<L.length):sg L off (k+1)=sg L off k+pw k*L.getD (off+k) 0:=by
 unfold sg;rw[iV _ _ (by simp;omega)];simp[bF]
theorem lI(L:List Nat)(off k:Nat)(h:off<L.length):sg L off (k+1)=L.getD off 0+4294967296*sg L (off+1) k:=by
 unfold sg;rw[Cq h,List.take_succ_cons,val,bF,aY h];rfl
theorem dJ(L:List Nat):sg L 0 L.length=val L:=by simp[sg]
theorem jc(L:List Nat)(off k m:Nat)(h:off+k+m<=L.length):sg L off (k+m)=sg L off k+pw k*sg L (off+k) m:=by
 induction m with
 | zero=>simp[dV]
 | succ m ih =>
   rw[<-oo,bN L off (k+m) ae,bN L (off+k) m ae,ih ae,uM,oq,<-oo off k m];simp only[aQ,oo]
theorem sZ(L M:List Nat)(off k:Nat)(hl:M.length=L.length)(h:off+k<=L.length)(he:∀j,off<=j->j<off+k->M.getD j 0=L.getD j 0):sg M off k=sg L off k:=by
 induction k with
 | zero=>simp[dV]
 | succ k ih=>rw[bN M off k ae,bN L off k ae,ih ae (λj h1 h2=>he j h1 ae),he (off+k) ae ae]
theorem EJ(L:List Nat)(i j x:Nat):(L.set i x).getD j 0=if i=j/\j<L.length then x else L.getD j 0:=by
 simp only[bF,xV]
 by_cases h:i=j
 . subst h
   by_cases h2:i<L.length
   . simp[h2]
   . simp[h2]
 . simp[h]
theorem ib(L:List Nat)(i x:Nat)(h:i<L.length):(L.set i x).getD i 0=x:=by rw[EJ,if_pos ⟨rfl,h⟩]
theorem getD_set_ne(L:List Nat)(i j x:Nat)(h:i≠j):(L.set i x).getD j 0=L.getD j 0:=by rw[EJ,if_neg (λe=>h e.1)]
theorem nQ(L:List Nat)(off k i x:Nat)(h:off+k<=i)(hl:off+k<=L.length):sg (L.set i x) off k=sg L off k :=
 sZ L _ off k aN hl (λj _ h2=>getD_set_ne _ _ _ _ ae)
theorem tq(L:List Nat)(off k i x:Nat)(h:i<off)(hl:off+k<=L.length):sg (L.set i x) off k=sg L off k :=
 sZ L _ off k aN hl (λj h1 _=>getD_set_ne _ _ _ _ ae)
theorem bZ(L:List Nat)(off k x:Nat)(h:off+k<L.length):sg (L.set (off+k) x) off (k+1)=sg L off k+pw k*x:=by
 rw[bN _ _ _ (by simp;omega),ib _ _ _ h,nQ _ _ _ _ _ ae ae]
theorem oF(L:List Nat)(off k:Nat)(hw:Wf L)(h:off+k<=L.length):sg L off k<pw k:=by
 have:=dh _ ((hw.drop off).take k);simp only[fJ,oU] at this;rw[iQ ae] at this;exact this
theorem jY(L:List Nat)(k:Nat):sg L 0 k=val (L.take k):=by simp[sg]
theorem yC(n i:Nat):(List.replicate n 0).getD i 0=0:=by
 simp only[bF,II];split <;> rfl
theorem tC(n off k:Nat):sg (List.replicate n 0) off k=0:=by
 unfold sg;rw[xW,List.take_replicate,kX]
def Out(L M:List Nat)(off n:Nat):Prop:=M.length=L.length/\∀j,(j<off\/off+n<=j)->M.getD j 0=L.getD j 0
theorem Out.refl(L:List Nat)(off n:Nat):Out L L off n:=⟨rfl,λ_ _=>rfl⟩
theorem Out.set{L M:List Nat}{off n:Nat}(h:Out L M off n)(i x:Nat)(h1:off<=i)(h2:i<off+n):Out L (M.set i x) off n :=
 ⟨by simp[h.1],λj hj=>by rw[getD_set_ne _ _ _ _ ae];exact h.2 j hj⟩
theorem Out.mono{L M:List Nat}{off n k:Nat}(h:Out L M off n)(hk:n<=k):Out L M off k:=⟨h.1,λj hj=>h.2 j ae⟩
theorem Out.trans{L M K:List Nat}{off n:Nat}(h:Out L M off n)(k:Out M K off n):Out L K off n:=⟨k.1.trans h.1,λj hj=>(k.2 j hj).trans (h.2 j hj)⟩
theorem Out.below{L M:List Nat}{off n:Nat}(h:Out L M off n)(a k:Nat)(h1:a+k<=off)(h2:a+k<=L.length):sg M a k=sg L a k:=sZ L M a k h.1 h2 (λj _ hj=>h.2 j ae)
theorem Out.above{L M:List Nat}{off n:Nat}(h:Out L M off n)(a k:Nat)(h1:off+n<=a)(h2:a+k<=L.length):sg M a k=sg L a k:=sZ L M a k h.1 h2 (λj hj _=>h.2 j ae)
theorem rU(p a b V c x y s d:Nat)(h:V+c*p=a+b)(e:s+d*4294967296=x+y+c):V+p*s+d*(4294967296*p)=(a+p*x)+(b+p*y):=by
 have:p*(s+d*4294967296)=p*(x+y+c):=by rw[e]
 grind
theorem xt{P:Prop}(h:P:=by
 obtain⟨d,rfl⟩:∃d,n=k+d:=⟨n-k,ae⟩;have h1:=jc M off k d (by rw[ho.1];omega);have h2:=jc L off k d ae;have h3:=ho.above (off+k) d ae ae;rw[h1,h2,h3];omega):P:=h
theorem QF{L M:List Nat}{off k n V:Nat}(hk:k<=n)(hn:off+n<=L.length)(ho:Out L M off k)(h:sg M off k=sg L off k+V):sg M off n=sg L off n+V:=by
 exact xt
theorem yD(p a b V c x y q s d:Nat)(h:V+c*p=a+b*q)(e:s+d*4294967296=y*q+x+c):V+p*s+d*(4294967296*p)=(a+p*x)+(b+p*y)*q:=by
 have:p*(s+d*4294967296)=p*(y*q+x+c):=by rw[e]
 grind
theorem uO(x y:Nat)(hx:x<4294967296)(hy:y<4294967296):x*y<=18446744065119617025:=by
 have:x*y<=4294967295*4294967295:=kF ae ae;omega
theorem yE(p a b V c x y q s d:Nat)(h:V+b*q=a+c*p)(e:s+y*q+c=x+d*4294967296):V+p*s+(b+p*y)*q=(a+p*x)+d*(4294967296*p):=by
 have:p*(s+y*q+c)=p*(x+d*4294967296):=by rw[e]
 grind
theorem QG(X Q q x d l l2:Nat)(h:X=Q*d+l)(e:l*4294967296+x=q*d+l2):x+4294967296*X=(q+4294967296*Q)*d+l2:=by
 subst h
 grind
theorem pJ(p a b V c x y s d:Nat)(h:V+b=a+c*p)(e:s+y+c=x+d*4294967296):V+p*s+(b+p*y)=(a+p*x)+d*(4294967296*p):=by
 have:p*(s+y+c)=p*(x+d*4294967296):=by rw[e]
 grind
theorem MV{L M:List Nat}{off k n V:Nat}(hk:k<=n)(hn:off+n<=L.length)(ho:Out L M off k)(h:sg M off k+V=sg L off k):sg M off n+V=sg L off n:=by
 exact xt
end
section
open Go.RowKit
theorem qz(l x:Nat)(hl:l<4294967296)(hx:x<4294967296):bits BinOp.or IntKind.u64 ((l:Int)*4294967296) (x:Int)=((l*4294967296+x:Nat):Int):=by
 have e:((l:Int)*4294967296)=((l*4294967296:Nat):Int):=by simp only[eD];rfl
 rw[e,bits_or_u64_nat _ _ ae ae];have:=IJ (i:=32) (b:=x) ae l;have e2:2^32*l=l*4294967296:=by rw[cK]
 rw[e2] at this;rw[this]
theorem Qbo{P:Prop}(h:P:=by
 go_wp2;go_ret;obtain⟨bC,fH,hMs,aI⟩:=HA.o;exact⟨M,cv,rfl,hcv,HM.o,bC,fH,hMs,aI⟩):P:=h
theorem VD (L:List Nat) (g off n cap q:Nat) (w:World)
 (hO:Own w g L) (hoff:off+n<=L.length) (hcap:n<=cap) (hbig:n<=4611686018427387904) (hL:Wf L) (hq:q<4294967296) (hq0:0<q) :
 As 223 #[.slice (some ⟨g,off,none⟩) n cap,.int .u32 (q:Nat)] w λr w' =>
  ∃M,∃c:Nat,r=.returned (.int .u32 (c:Nat))/\c<q/\Own w' g M/\Wf M/\Out L M off n/\sg L off n=sg M off n*q+c/\But g w w':=by
 have HR:Aside (Wf L/\off+n<=L.length):=⟨hL,hoff⟩;have HO:Hid (Own w g L):=hO;clear hL hO hoff;go_enter Tryz.func223,Tryz.ntmps223;go_wp2
 go_loopg [5,6] n (λk c i wr=>∃(cv:Nat) (M:List Nat),k<=n/\c=.int .u64 (cv:Nat)/\cv<q/\i=.int .i64 ((k:Int)-1) /\
  Hid (Own wr g M)/\Aside (Wf M/\Out L M (off+k) (n-k)/\sg L (off+k) (n-k)=sg M (off+k) (n-k)*q+cv/\But g w wr))
 case atStart=>exact⟨0,L,aA _,rfl,hq0,rfl,HO,HR.o.1,Out.refl _ _ _,by simp[dV],But.refl _ _⟩
 case round =>
  obtain⟨cv,M,hk,rfl,hcv,rfl,HM,HA⟩:=hrel
  by_cases hk0:gk=0
  . subst hk0;exact Qbo
  . obtain⟨k,rfl⟩:∃k,gk=k+1:=⟨gk-1,ae⟩;obtain⟨hL,hoff⟩:=HR.o;obtain⟨bC,fH,hMs,aI⟩:=HA.o;have hgc:=HM.o.cell (off+k) (by rw[fH.1];omega);have hgf:=HM.o.frozen (off+k);obtain⟨x,hx⟩:∃x:Nat,M.getD (off+k) 0=x:=⟨_,rfl⟩;have hxl:x<4294967296:=hx ▸ bC.get _;rw[hx] at hgc;obtain⟨t,ht⟩:∃t:Nat,t=cv*4294967296+x:=⟨_,rfl⟩;have e1:bits BinOp.or IntKind.u64 ((cv:Int)*4294967296) (x:Int)=(t:Int):=by rw[qz cv x ae hxl,ht]
    have ht2:(t:Int)<18446744073709551616:=ae
    have hqlt:t/q<4294967296:=by
     rw[xM hq0];have:cv*4294967296+4294967296<=q*4294967296:=ae
     omega
    obtain⟨s,hs⟩:∃s:Nat,s=t/q:=⟨_,rfl⟩;obtain⟨d,hd⟩:∃d:Nat,d=t%q:=⟨_,rfl⟩;have e2:(t:Int)/(q:Int)=(s:Int):=by rw[hs];simp
    have e3:(t:Int)%(q:Int)=(d:Int):=by rw[hd];simp
    have hs2:s<4294967296:=ae
    have hdq:d<q:=by rw[hd];exact iB _ hq0
    have HX:Aside (M.getD (off+k) 0=x/\cv*4294967296+x=s*q+d):=⟨hx,by rw[hs,hd,<-ht,cK];exact(oz t q).symm⟩;clear hx hs hd hL hoff bC fH hMs aI ht hk0 hqlt;go_wp2
    go_region
    all_goals (
     go_wp2;go_roundg k
     case measure=>omega
     case rel =>
      obtain⟨hx,he⟩:=HX.o;obtain⟨hL,hoff⟩:=HR.o;obtain⟨bC,fH,hMs,aI⟩:=HA.o;have hx2:L.getD (off+k) 0=x:=by rw[<-hx];exact(fH.2 _ ae).symm
      refine⟨d,M.set (off+k) s,ae,by first | rfl | rw[e3],hdq,by first | go_num | (congr 1;omega),(HM.o.set (off+k) s).drew,bC.set _ _ hs2,⟨by simp[fH.1],λj hj=>?_⟩,?_,(aI.set (off+k) _).drew⟩
      . by_cases hj2:j=off+k
        . omega
        . rw[getD_set_ne _ _ _ _ (λe=>hj2 e.symm)];exact fH.2 j ae
      . obtain⟨r,hr⟩:∃r,n-k=r+1:=⟨n-(k+1),ae⟩;have hr2:n-(k+1)=r:=ae
        rw[hr2] at hMs;rw[hr,lI L _ _ ae,lI _ _ _ (by simp[fH.1];omega),ib _ _ _ (by rw[fH.1];omega),tq _ _ _ _ _ ae (by rw[fH.1];omega),hx2]
        exact QG _ _ _ _ _ _ _ hMs he)
theorem kN(rest:Nat)(h:rest<32):2^rest*2^(32-rest)=4294967296:=by
 rw[<-aP,show rest+(32-rest)=32 by omega]
theorem ZC(x y rest:Nat)(hr:rest<32)(hx:x<2^rest):x ||| (y*2^rest%4294967296)=x+y*2^rest%4294967296:=by
 have e:y*2^rest%4294967296=2^rest*(y%2^(32-rest)):=by
  rw[<-kN rest hr,cK y,Nat.mul_mod_mul_left]
 rw[e,Nat.or_comm,<-IJ hx,oV]
theorem ZE(y rest:Nat)(hy:y<4294967296):y*2^rest/4294967296<2^rest:=by
 rw[xM aM,cK];exact Ao hy (bG _)
theorem rV(rest:Nat)(h:rest<32):2^rest<=2147483648:=by
 have:2^rest<=2^31:=fD aM ae;omega
theorem up_lt(y rest:Nat)(hy:y<4294967296)(hr:rest<32):y*2^rest<18446744073709551616:=by
 have h:=rV rest hr;have:y*2^rest<=4294967295*2147483648:=kF ae h;omega
theorem qA(n:Int)(h0:0<=n)(h1:n<18446744073709551616):IntKind.u64.wrap n=n:=by
 rw[kC];omega
theorem nR(words rest:Nat):2^(32*words+rest)=pw words*2^rest:=by
 rw[aP,o7];rfl
theorem VE(p S x t q b s d y r:Nat)(hS:S+p*x=b*r)(ht:t=y*r)(hs:s=x+t%4294967296)(hd:d=t/4294967296):S+p*s+4294967296*p*d=(b+p*y)*r:=by
 have e:t%4294967296+4294967296*d=t:=by rw[hd];exact Nat.mod_add_div _ _
 have e2:p*s+4294967296*p*d=p*x+p*t:=by
  have:p*(s+4294967296*d)=p*(x+t):=by rw[hs];congr 1;omega
  grind
 have e3:(b+p*y)*r=b*r+p*t:=by rw[ht];grind
 omega
def Wb(w:World)(g:Nat)(L:List Nat):Prop:=w.heap[g]?=some (.cells (L.map U).toArray 198 (0,0))
theorem Wb.lt{w:World}{g:Nat}{L:List Nat}(h:Wb w g L):g<w.heap.size:=(dQ.1 h).1
theorem Wb.cell{w:World}{g:Nat}{L:List Nat}(h:Wb w g L)(i:Nat)(hi:i<L.length):w.cell? ⟨g,i,none⟩=some (.int .u32 ((L.getD i 0:Nat):Int)):=by
 unfold Wb at h;simp only[World.cell?,h];simp[U,bF,aY hi]
theorem Wb.frozen{w:World}{g:Nat}{L:List Nat}(h:Wb w g L)(i:Nat):w.frozen? ⟨g,i,none⟩=false:=by
 unfold Wb at h;simp[World.frozen?,h]
theorem Wb.set{w:World}{g:Nat}{L:List Nat}(h:Wb w g L)(i x:Nat):Wb (w.setCell ⟨g,i,none⟩ (.int .u32 (x:Int))) g (L.set i x):=by
 unfold Wb at h |-;simp[World.setCell,gz,h,sO,U]
theorem Wb.drew{w:World}{g:Nat}{L:List Nat}(h:Wb w g L):Wb w.drew g L:=h
def PB:Nat:=pw 133
theorem ZF:0<PB:=iU 133
attribute [irreducible] PB
theorem qB{L:List Nat}(hl:L.length=133)(hw:Wf L):val L<PB:=by
 have:=dh L hw;rw[hl] at this;unfold PB;exact this
theorem KT(L:List Nat)(i x:Nat)(h:i<L.length):val (L.set i x)+L.getD i 0*pw i=val L+x*pw i:=by
 have h1:=dU L i (fU h);have h2:=dU (L.set i x) i (by simp;omega);rw[dz L i h] at h1;rw[dz (L.set i x) i (by simp;omega),ib _ _ _ h] at h2;have e1:(L.set i x).take i=L.take i:=by rw[List.take_set];exact List.set_eq_of_length_le (by simp;omega)
 have e2:(L.set i x).drop (i+1)=L.drop (i+1):=by rw[List.drop_set,if_pos ae]
 rw[e1,e2] at h2;rw[h2,h1]
 grind
theorem QH(M:List Nat)(i c T s d:Nat)(h:i<M.length)(e:s+d*4294967296=c+M.getD i 0)(hT:val M+c*pw i=T):val (M.set i s)+d*pw (i+1)=T:=by
 have h1:=KT M i s h;rw[bK];have e2:(s+d*4294967296)*pw i=(c+M.getD i 0)*pw i:=by rw[e]
 rw[fT,fT,aQ] at e2;omega
theorem AB(M:List Nat)(i c T R s lo hi b:Nat)(h:i<M.length)(e:s+lo=M.getD i 0+b*4294967296)(hc:c=lo+hi*4294967296)(hT:val M+T=R+c*pw i):val (M.set i s)+T=R+(hi+b)*pw (i+1):=by
 have h1:=KT M i s h;rw[bK];have e2:(s+lo)*pw i=(M.getD i 0+b*4294967296)*pw i:=by rw[e]
 have e3:c*pw i=(lo+hi*4294967296)*pw i:=by rw[hc]
 rw[fT,fT,aQ] at e2;rw[fT,aQ] at e3;rw[fT];omega
theorem IV(i:Nat):pw i=2^(32*i):=by unfold pw;rw[o7]
theorem wI(n p:Nat):n*2^(p%32)*pw (p/32)=n*2^p:=by
 rw[IV,aQ,<-aP,Nat.mod_add_div]
theorem KU(M:List Nat)(c T:Nat)(hl:M.length=133)(hw:Wf M)(h:val M+c*pw 133=T):val M=T%PB:=by
 have:=qB hl hw;have e:pw 133=PB:=by unfold PB;rfl
 rw[<-h,e,cK,Aq,jL this]
theorem EL(M:List Nat)(c T R:Nat)(hl:M.length=133)(hw:Wf M)(h:val M+T=R+c*pw 133):(val M:Int)=((R:Int)-(T:Int))%(PB:Int):=by
 have h1:=qB hl hw;have e:pw 133=PB:=by unfold PB;rfl
 rw[e] at h
 have h2:(R:Int)-(T:Int)=(val M:Int)+(PB:Int)*(-(c:Int)):=by
  have:((val M+T:Nat):Int)=((R+c*PB:Nat):Int):=by rw[h]
  simp only[xX,eD] at this;rw[Int.mul_neg,Int.mul_comm];omega
 rw[h2,Int.add_mul_emod_self_left,wz ae ae]
theorem uP(n q:Nat)(hn:n<4294967296)(hq:q<32):n*2^q<9223372036854775808:=by
 have h1:2^q<=2147483648:=by
  have:=fD (n:=2) aM (show q<=31 by omega);simpa using this
 calc n*2^q<=4294967295*2147483648:=kF ae h1
  _<_:=aM
theorem EM(n p:Nat)(hn:n<4294967296):IntKind.u64.wrap ((n:Int)*2^(p%32))=((n*2^(p%32):Nat):Int):=by
 have h1:=uP n (p%32) hn (iB _ aM);have e:((n:Int)*2^(p%32))=((n*2^(p%32):Nat):Int):=by simp
 rw[e];exact qA _ ae ae
theorem Qax{P:Prop}(h:P:=by
 exact⟨n*2^(p%32),p/32,L,ae,ae,by rw[EM n p hn],uP n _ hn (iB _ aM),aN,HO,HR.o.1,HR.o.2,by rw[wI],But.refl _ _⟩):P:=h
theorem QI(L:List Nat)(g n p:Nat)(w:World)(hW:Wb w g L)(hl:L.length=133)(hL:Wf L)(hn:n<4294967296)(hp:p<4256) :
 As 219 #[.pointer (some ⟨g,0,none⟩),.int .u32 (n:Nat),.int .i64 (p:Nat)] w λr w' =>
  r=.returned (.tuple #[])/\∃M,Wb w' g M/\M.length=133/\Wf M/\val M=(val L+n*2^p)%PB/\But g w w':=by
 have HR:Aside (Wf L/\L.length=133):=⟨hL,hl⟩;have HO:Hid (Wb w g L):=hW;clear hL hW hl;go_enter Tryz.func219,Tryz.ntmps219;go_wp2
 go_loopg [6,7] 133 (λk c i wr=>∃(cv iv:Nat) (M:List Nat),133<=k+iv/\iv<=133/\c=.int .u64 (cv:Nat)/\cv<9223372036854775808/\i=.int .i64 (iv:Nat) /\
  Hid (Wb wr g M)/\Aside (Wf M/\M.length=133/\val M+cv*pw iv=val L+n*2^p/\But g w wr))
 case atStart =>
  exact Qax
 case round =>
  obtain⟨cv,iv,M,hk,hi,rfl,hcv,rfl,HM,HA⟩:=hrel
  by_cases h1:iv=133
  . subst h1;go_wp2;refine bodyPost_end (v:=.tuple #[]) (by simp[results,Tryz.results219,go_sem]) rfl ?_;obtain⟨bC,dx,hMs,aI⟩:=HA.o;exact⟨rfl,M,HM.o,dx,bC,KU M cv _ dx bC hMs,aI⟩
  by_cases h2:cv=0
  . subst h2;have h3:(iv:Int)<133:=ae
    go_wp2;refine bodyPost_end (v:=.tuple #[]) (by simp[results,Tryz.results219,go_sem]) rfl ?_;obtain⟨bC,dx,hMs,aI⟩:=HA.o;exact⟨rfl,M,HM.o,dx,bC,KU M 0 _ dx bC (by rw[<-hMs];simp),aI⟩
  . have h3:iv<133:=ae
    have h4:0<cv:=ae
    obtain⟨bC,dx,hMs,aI⟩:=HA.o;have hgc:=HM.o.cell iv ae;have hgf:=HM.o.frozen iv;obtain⟨x,hx⟩:∃x:Nat,M.getD iv 0=x:=⟨_,rfl⟩;have hxl:x<4294967296:=hx ▸ bC.get _;rw[hx] at hgc;have HX:Aside (M.getD iv 0=x):=hx;clear hx bC dx hMs aI h1 h2;obtain⟨k,rfl⟩:∃k,gk=k+1:=⟨gk-1,ae⟩;go_wp2;go_roundg k
    case measure=>omega
    case rel =>
     obtain⟨bC,dx,hMs,aI⟩:=HA.o;have e1:((cv:Int)+(x:Int))%4294967296=(((cv+x)%4294967296:Nat):Int):=ae
     have e2:((cv:Int)+(x:Int))/4294967296=(((cv+x)/4294967296:Nat):Int):=ae
     rw[e1];exact⟨(cv+x)/4294967296,iv+1,M.set iv ((cv+x)%4294967296),ae,ae,by rw[e2],ae,aN,HM.o.set iv _,bC.set _ _ (iB _ aM),by simp[dx],QH M iv cv _ _ _ ae (by rw[HX.o];omega) hMs,aI.set iv _⟩
theorem MW(L:List Nat)(g n p:Nat)(w:World)(hW:Wb w g L)(hl:L.length=133)(hL:Wf L)(hn:n<4294967296)(hp:p<4256) :
 As 218 #[.pointer (some ⟨g,0,none⟩),.int .u32 (n:Nat),.int .i64 (p:Nat)] w λr w' =>
  r=.returned (.tuple #[])/\∃M,Wb w' g M/\M.length=133/\Wf M/\(val M:Int)=((val L:Int)-((n*2^p:Nat):Int))%(PB:Int)/\But g w w':=by
 have HR:Aside (Wf L/\L.length=133):=⟨hL,hl⟩;have HO:Hid (Wb w g L):=hW;clear hL hW hl;go_enter Tryz.func218,Tryz.ntmps218;go_wp2
 go_loopg [6,7] 133 (λk c i wr=>∃(cv iv:Nat) (M:List Nat),133<=k+iv/\iv<=133/\c=.int .u64 (cv:Nat)/\cv<9223372036854775808/\i=.int .i64 (iv:Nat) /\
  Hid (Wb wr g M)/\Aside (Wf M/\M.length=133/\val M+n*2^p=val L+cv*pw iv/\But g w wr))
 case atStart =>
  exact Qax
 case round =>
  obtain⟨cv,iv,M,hk,hi,rfl,hcv,rfl,HM,HA⟩:=hrel
  by_cases h1:iv=133
  . subst h1;go_wp2;refine bodyPost_end (v:=.tuple #[]) (by simp[results,Tryz.results218,go_sem]) rfl ?_;obtain⟨bC,dx,hMs,aI⟩:=HA.o;exact⟨rfl,M,HM.o,dx,bC,EL M cv _ _ dx bC hMs,aI⟩
  by_cases h2:cv=0
  . subst h2;have h3:(iv:Int)<133:=ae
    go_wp2;refine bodyPost_end (v:=.tuple #[]) (by simp[results,Tryz.results218,go_sem]) rfl ?_;obtain⟨bC,dx,hMs,aI⟩:=HA.o;exact⟨rfl,M,HM.o,dx,bC,EL M 0 _ _ dx bC (by rw[hMs];simp),aI⟩
  . have h3:iv<133:=ae
    have h4:0<cv:=ae
    obtain⟨bC,dx,hMs,aI⟩:=HA.o;have hgc:=HM.o.cell iv ae;have hgf:=HM.o.frozen iv;obtain⟨x,hx⟩:∃x:Nat,M.getD iv 0=x:=⟨_,rfl⟩;have hxl:x<4294967296:=hx ▸ bC.get _;rw[hx] at hgc;obtain⟨lo,hlo⟩:∃lo:Nat,cv%4294967296=lo:=⟨_,rfl⟩;obtain⟨hi',hhi⟩:∃hi':Nat,cv/4294967296=hi':=⟨_,rfl⟩;have e1:(cv:Int)%4294967296=(lo:Int):=ae
    have e2:(cv:Int)/4294967296=(hi':Int):=ae
    have b1:lo<4294967296:=ae
    have b2:hi'<2147483648:=ae
    have HX:Aside (M.getD iv 0=x/\cv=lo+hi'*4294967296):=⟨hx,ae⟩;clear hx bC dx hMs aI h1 h2 hlo hhi;obtain⟨k,rfl⟩:∃k,gk=k+1:=⟨gk-1,ae⟩
    by_cases hlt:x<lo
    . have h5:decide (x<lo)=true:=by simp[hlt]
      go_wp2
      go_region
      all_goals (
       go_wp2;go_roundg k
       case measure=>omega
       case rel =>
        obtain⟨bC,dx,hMs,aI⟩:=HA.o;have e3:((x:Int)-(lo:Int))%4294967296=((x+4294967296-lo:Nat):Int):=ae
        rw[e3]
        exact⟨hi'+1,iv+1,M.set iv (x+4294967296-lo),ae,ae,aN,ae,aN,(HM.o.set iv _).drew,bC.set _ _ ae,by simp[dx],AB M iv cv _ _ _ lo hi' 1 ae (by rw[HX.o.1];omega) HX.o.2 hMs,(aI.set iv _).drew⟩)
    . have h5:decide (x<lo)=false:=by simp[hlt]
      go_wp2
      go_region
      all_goals (
       go_wp2;go_roundg k
       case measure=>omega
       case rel =>
        obtain⟨bC,dx,hMs,aI⟩:=HA.o;have e3:((x:Int)-(lo:Int))=((x-lo:Nat):Int):=ae
        rw[e3]
        exact⟨hi',iv+1,M.set iv (x-lo),ae,ae,aN,ae,aN,(HM.o.set iv _).drew,bC.set _ _ ae,by simp[dx],by have:=AB M iv cv _ _ (x-lo) lo hi' 0 ae (by rw[HX.o.1];omega) HX.o.2 hMs;simpa using this,(aI.set iv _).drew⟩)
end
section
theorem Qbk{P:Prop}(h:P:=by
 subst hT;have e:o*(t1*b+t2)=o*t1*b+o*t2:=by grind
 have e2:(o*t1+l)*b=o*t1*b+l*b:=by grind
 omega):P:=h
theorem M4(b o t1 t2 l u2 T:Nat)(hT:o*t1+l=T)(h:o*t2<=l*b+u2):o*(t1*b+t2)<=T*b+u2:=by
 exact Qbk
theorem EO(b o t1 t2 l u2 T:Nat)(hT:o*t1+l=T)(h:l*b+u2<o*t2):T*b+u2<o*(t1*b+t2):=by
 exact Qbk
theorem EP(b t1 t2 u2 T:Nat)(h1:0<t1)(h2:u2<b):T*b+u2<(T/t1+1)*(t1*b+t2):=by
 have h:=Nat.lt_div_mul_add (a:=T) (b:=t1) h1;have h3:T+1<=(T/t1+1)*t1:=by rw[fT,ik];omega
 have h4:(T+1)*b<=(T/t1+1)*t1*b:=dL _ h3;have e:(T/t1+1)*(t1*b+t2)=(T/t1+1)*t1*b+(T/t1+1)*t2:=by grind
 rw[fT,ik] at h4;omega
theorem wJ(b o t1 t2 l u2 T:Nat)(hT:o*t1+l=T)(hl:b<=l)(hT2:T<t1*b+b)(ht:t2<b)(h1:0<t1):o<b/\o*t2<=l*b+u2:=by
 have ho:o<b:=by
  by_cases h:o<b
  . exact h
  . exfalso;have:b*t1<=o*t1:=dL _ ae;rw[cK b] at this;omega
 have h2:o*t2<=b*b:=kF ae ae;have h3:b*b<=l*b:=dL _ hl;exact⟨ho,ae⟩
theorem IW(b o D W P u v U V:Nat)(hP:0<P)(hU:U=W*P+u)(hu:u<P)(hV:V=D*P+v)(hv:v<P)(h1:o*D<=W)(h2:b<=o+1\/W<(o+1)*D)(hlt:U<V*b)(ho:o<b)(hD:b<=D) :
 U<(o+1)*V/\o*V<=U+V:=by
 constructor
 . rcases h2 with h2 | h2
   . obtain rfl:b=o+1:=ae
     rw[cK];exact hlt
   . have h3:(W+1)*P<=(o+1)*D*P:=dL _ h2;have h4:(o+1)*V=(o+1)*D*P+(o+1)*v:=by rw[hV];grind
     rw[fT] at h3;omega
 . rcases o with _ | o
   . omega
   . have h3:(o+1)*D*P<=W*P:=dL _ h1;have h4:(o+1)*V=(o+1)*D*P+o*v+v:=by rw[hV];grind
     have h5:o*v<=D*P:=kF ae ae;omega
theorem M5(b P t1 t2 u0 u1 u2 u v U V:Nat)(hU:U=((u0*b+u1)*b+u2)*P+u)(hV:V=(t1*b+t2)*P+v)(hv:v<P)(ht:t2<b)(hlt:U<V*b):u0<=t1:=by
 by_cases h:u0<=t1
 . exact h
 . exfalso;have h1:(t1*b+t2+1)*P<=(t1+1)*b*P:=dL _ (by rw[fT,ik];omega)
   have h2:V<(t1+1)*b*P:=by
    rw[fT,ik] at h1;omega
   have h3:V*b<=(t1+1)*b*P*b:=dL _ ae;have h4:(t1+1)*(b*P*b)<=u0*(b*P*b):=dL _ ae;have h5:(t1+1)*b*P*b=(t1+1)*(b*P*b):=by grind
   have h6:U=u0*(b*P*b)+(u1*b+u2)*P+u:=by rw[hU];grind
   omega
theorem KV(L:List Nat)(off k:Nat)(hL:Wf L)(h:off+(k+2)<=L.length):sg L off (k+2)=(L.getD (off+(k+1)) 0*4294967296+L.getD (off+k) 0)*pw k+sg L off k/\sg L off k<pw k:=by
 refine⟨?_,oF L off k hL ae⟩;rw[show k+2=k+1+1 by omega,bN L off (k+1) ae,bN L off k ae,bK]
 grind
theorem M6(L:List Nat)(off k:Nat)(hL:Wf L)(h:off+(k+3)<=L.length):sg L off (k+3)=((L.getD (off+(k+2)) 0*4294967296+L.getD (off+(k+1)) 0)*4294967296+L.getD (off+k) 0)*pw k+sg L off k/\sg L off k<pw k:=by
 refine⟨?_,oF L off k hL ae⟩;rw[show k+3=k+2+1 by omega,bN L off (k+2) ae,(KV L off k hL ae).1,show k+2=k+1+1 by omega,bK,bK]
 grind
end
section
open Go.RowKit
set_option maxRecDepth 20000 in
theorem M7 (L bs:List Nat) (g off cap:Nat) (ao:Option Addr) (n bE B:Nat) (w:World) (k:Nat) (hnk:n=k+2)
 (hO:Own w g L) (hoff:off+(k+3)<=L.length) (hm:k+2=bs.length) (hcap:n+1<=cap) (hbig:n<=4611686018427387904) (hL:Wf L) (hb:Wf bs) (hR:Rd B w ao bs)
 (htop:2147483648<=bs.getD (k+1) 0) (hlt:sg L off (k+3)<val bs*4294967296) :
 As 229 #[.slice (some ⟨g,off,none⟩) (n+1) cap,.slice ao n bE] w λr w' =>
  ∃o:Nat,r=.returned (.int .u32 (o:Nat))/\o<4294967296/\sg L off (k+3)<(o+1)*val bs/\o*val bs<=sg L off (k+3)+val bs/\An w w':=by
 obtain⟨b,fI,KW,rfl,hbc⟩:=hR (by intro e;subst e;simp at hm);have c1:=hbc (k+1) ae;have c2:=hbc k ae;have d0:=hO.cell (off+(k+2)) ae;have d1:=hO.cell (off+(k+1)) ae;have d2:=hO.cell (off+k) ae;have en1:k+1=n-1:=ae
 have en2:fI+k=fI+(n-2):=ae
 have en3:off+k=off+(n-2):=ae
 have en4:off+(k+2)=off+n:=ae
 have en5:off+(k+1)=off+(n-1):=ae
 have en6:fI+(k+1)=fI+(n-1):=ae
 have hn2:2<=n:=ae
 have b1:=hb.get (k+1);have b2:=hb.get k;have l0:=hL.get (off+(k+2));have l1:=hL.get (off+(k+1));have l2:=hL.get (off+k);obtain⟨eU,hu⟩:=M6 L off k hL hoff;obtain⟨eV,hv⟩:=KV bs 0 k hb ae;rw[dA,dA,show k+2=bs.length from hm,dJ] at eV;have HN:=(ak hnk);clear en1;generalize bs.getD (k+1) 0=t1 at *;generalize bs.getD k 0=t2 at *;generalize L.getD (off+(k+2)) 0=u0 at *;generalize L.getD (off+(k+1)) 0=u1 at *;generalize L.getD (off+k) 0=u2 at *;generalize sg L off (k+3)=U at *;generalize val bs=V at *;generalize sg L off k=u at *;generalize sg bs 0 k=v at *;rw[en6] at c1;rw[en2] at c2;rw[en4] at d0;rw[en5] at d1;rw[en3] at d2;have hu0:u0<=t1:=M5 4294967296 (pw k) t1 t2 u0 u1 u2 u v U V eU eV hv b2 hlt;have hlt1:0<t1:=ae
 obtain⟨T,hT⟩:=ah (u0*4294967296+u1);have eT:bits BinOp.or IntKind.u64 ((u0:Int)*4294967296) (u1:Int)=(T:Int):=by rw[qz u0 u1 l0 l1,hT]
 obtain⟨o0,ho0⟩:=ah (T/t1);obtain⟨r0,hr0⟩:=ah (T%t1);have eo:(T:Int)/(t1:Int)=(o0:Int):=by rw[ho0];simp
 have er:(T:Int)%(t1:Int)=(r0:Int):=by rw[hr0];simp
 have hTl:(T:Int)<18446744073709551616:=ae
 have hr0l:r0<t1:=by rw[hr0];exact iB _ hlt1
 have KZ:o0*t1+r0=T:=by rw[ho0,hr0,cK];exact oz T t1
 have K8:T*4294967296+u2<(o0+1)*(t1*4294967296+t2):=by rw[ho0];exact EP 4294967296 t1 t2 u2 T hlt1 l2
 have ho0l:(o0:Int)<18446744073709551616:=by have:o0<=T:=by rw[ho0];exact o8 _ _
                                             omega
 have HH:=(Cm hu0 hT eU hu eV hv KZ K8 hlt htop);clear en2 en3 en4 en5 en6 hnk;clear hT ho0 hr0 eU hu eV hv KZ K8 hlt hR hbc hm hb hL hO hoff htop;go_enter Tryz.func229,Tryz.ntmps229;go_wp2
 go_big_region
 go_wp2
 go_big_region
 go_wp2;have hbw:=qZ w _ c2;have hgw:=qZ w _ d2
 go_loopg [8,9] o0 (λgk o l wr=>∃lv:Nat,o=.int .u64 (gk:Nat)/\l=.int .u64 (lv:Nat)/\lv<4294967296/\Hid (An w wr) /\
  Aside (gk*t1+lv=T/\(4294967296<=gk+1\/T*4294967296+u2<(gk+1)*(t1*4294967296+t2))))
 case atStart=>exact⟨r0,by first | rfl | rw[eo],by first | rfl | rw[er],ae,by first | exact(aD _ _).drew.drew | exact(aD _ _).drew | exact aD _ _,HH.o.r6.1,.inr HH.o.r7.1⟩
 case round =>
  obtain⟨lv,rfl,rfl,hlv,HB,HA⟩:=hrel;have c2':wr.cell? ⟨b,fI+(n-2),none⟩=some (.int .u32 (t2:Int)):=(HB.o.cell (p:=⟨b,fI+(n-2),none⟩) hbw).trans c2;have d2':wr.cell? ⟨g,off+(n-2),none⟩=some (.int .u32 (u2:Int)):=(HB.o.cell (p:=⟨g,off+(n-2),none⟩) hgw).trans d2;clear c2 d2 c1 d0 d1 hTl eo er;obtain⟨hu0,hT,eU,hu,eV,hv,KZ,K8,hlt,htop⟩:=HH.o;obtain⟨hsum,hmax⟩:=HA.o;have hTb:T<t1*4294967296+4294967296:=ae
  have hgb:gk<=4294967297:=by
   by_cases h:gk<=4294967297
   . exact h
   . exfalso;have:4294967298*t1<=gk*t1:=dL _ ae;omega
  have HE:Aside (∀o l,o*t1+l=T->o*t2<=l*4294967296+u2->o<4294967296->(4294967296<=o+1\/T*4294967296+u2<(o+1)*(t1*4294967296+t2))->U<(o+1)*V/\o*V<=U+V):=by
   intro o l h1 h2 h3 h4;rw[<-hT] at eU;exact IW 4294967296 o _ _ (pw k) u v U V (iU k) eU hu eV hv (M4 4294967296 o t1 t2 l u2 T h1 h2) h4 hlt h3 ae
  have HT:=(ak hTb);clear hu0 hT eU hu eV hv KZ K8 hlt htop hsum hmax hTb;have hgbi:(gk:Int)<=4294967297:=ae
  by_cases hbig2:4294967295<gk
  . have hg1:(4294967295:Int)<(gk:Int):=ae
    by_cases hl2:lv+t1<=4294967295
    . have hl3:(lv:Int)+(t1:Int)<=4294967295:=ae
      have hl4:decide ((4294967295:Int)<(lv:Int)+(t1:Int))=false:=decide_eq_false ae;have HG:=(iN hbig2 hl2 hgb hlv);clear hbig2 hl2 hgb;go_wp2
      go_big_region
      all_goals (
       go_wp2;go_roundg (gk-1)
       case measure=>have:=HG.o.1;omega
       case rel =>
        obtain⟨hsum,hmax⟩:=HA.o;obtain⟨hbig2,hl2,hgb,hlv⟩:=HG.o;refine⟨lv+t1,by first | go_num | (congr 1;omega),by first | rfl | go_num,ae,HB.o.drew,?_,.inl ae⟩;obtain⟨o,rfl⟩:∃o,gk=o+1:=⟨gk-1,ae⟩;rw[mX];rw[fT] at hsum
        omega)
    . have hl3:(4294967295:Int)<(lv:Int)+(t1:Int):=ae
      go_wp2
      go_big_region
      all_goals (
       go_wp2;go_ret;obtain⟨hsum,hmax⟩:=HA.o;obtain⟨o,rfl⟩:∃o,gk=o+1:=⟨gk-1,ae⟩;have hs2:o*t1+(lv+t1)=T:=by rw[fT] at hsum;omega
       obtain⟨hb1,hb2⟩:=wJ 4294967296 o t1 t2 (lv+t1) u2 T hs2 ae HT.o b2 hlt1;obtain⟨h1,h2⟩:=HE.o o (lv+t1) hs2 hb2 hb1 (.inl ae);refine⟨o,?_,hb1,h1,h2,HB.o.drew⟩
       exact congrArg (λz=>Ending.returned (Value.int IntKind.u32 z)) ae)
  . have hg1:(gk:Int)<=4294967295:=ae
    have hg2:decide ((4294967295:Int)<(gk:Int))=false:=by simp;omega
    have hp0:gk*t2<=4294967295*4294967295:=kF ae ae;have hp2:(gk:Int)*(t2:Int)<=18446744065119617025:=by rw[<-eD];omega
    have hp1:0<=(gk:Int)*(t2:Int):=by rw[<-eD];omega
    obtain⟨lu,hlu⟩:=ah (lv*4294967296+u2);have eL:bits BinOp.or IntKind.u64 ((lv:Int)*4294967296) (u2:Int)=(lu:Int):=by rw[qz lv u2 hlv l2,hlu]
    have HL:=(ak hlu)
    by_cases hmore:lu<gk*t2
    . have hm1:(lu:Int)<(gk:Int)*(t2:Int):=by rw[<-eD];omega
      have hgk0:0<gk:=by
       rcases kG gk with h|h
       . subst h;rw[fe] at hmore;omega
       . exact h
      by_cases hl2:lv+t1<=4294967295
      . have hl3:(lv:Int)+(t1:Int)<=4294967295:=ae
        have hl4:decide ((4294967295:Int)<(lv:Int)+(t1:Int))=false:=decide_eq_false ae;have HG:=(gy hbig2 hl2 hgb hlv hmore);clear hlu hp0 hbig2 hl2 hgb hmore;go_wp2
        go_big_region
        all_goals (
         go_wp2;go_roundg (gk-1)
         case measure=>omega
         case rel =>
          obtain⟨hsum,hmax⟩:=HA.o;obtain⟨hbig2,hl2,hgb,hlv,hmore⟩:=HG.o;have hno:=EO 4294967296 gk t1 t2 lv u2 T hsum (by rw[<-HL.o];exact hmore);refine⟨lv+t1,by first | go_num | (congr 1;omega),by first | rfl | go_num,ae,HB.o.drew,?_,.inr ?_⟩
          . obtain⟨o,rfl⟩:∃o,gk=o+1:=⟨gk-1,ae⟩;rw[mX];rw[fT] at hsum;omega
          . rw[show gk-1+1=gk by omega];exact hno)
      . have hl3:(4294967295:Int)<(lv:Int)+(t1:Int):=ae
        clear hlu hp0;go_wp2
        go_big_region
        all_goals (
         go_wp2;go_ret;obtain⟨hsum,hmax⟩:=HA.o;have hno:=EO 4294967296 gk t1 t2 lv u2 T hsum (by rw[<-HL.o];exact hmore);obtain⟨o,rfl⟩:∃o,gk=o+1:=⟨gk-1,ae⟩;have hs2:o*t1+(lv+t1)=T:=by rw[fT] at hsum;omega
         obtain⟨hb1,hb2⟩:=wJ 4294967296 o t1 t2 (lv+t1) u2 T hs2 ae HT.o b2 hlt1;obtain⟨h1,h2⟩:=HE.o o (lv+t1) hs2 hb2 hb1 (.inr hno);refine⟨o,?_,hb1,h1,h2,HB.o.drew⟩
         exact congrArg (λz=>Ending.returned (Value.int IntKind.u32 z)) ae)
    . have hm1:(gk:Int)*(t2:Int)<=(lu:Int):=by rw[<-eD];omega
      have hm2:decide ((lu:Int)<(gk:Int)*(t2:Int))=false:=decide_eq_false ae;have HG:=(iN hbig2 hgb hlv hmore);clear hlu hp0 hbig2 hgb hmore;go_wp2
      go_big_region
      all_goals (
       go_wp2;go_ret;obtain⟨hsum,hmax⟩:=HA.o;obtain⟨hbig2,hgb,hlv,hmore⟩:=HG.o;obtain⟨h1,h2⟩:=HE.o gk lv hsum (by rw[<-HL.o];omega) ae hmax;refine⟨gk,?_,ae,h1,h2,HB.o.drew⟩
       first | rfl | exact congrArg (λz=>Ending.returned (Value.int IntKind.u32 z)) ae)
theorem z6{P:Prop}(h:P:=by
 exact(sV (a:=⟨b,fI+k,none⟩) h1).trans (hbc k ae)):P:=h
theorem uQ (L bs:List Nat) (g off n cap:Nat) (ao:Option Addr) (m bE B:Nat) (w:World)
 (hO:Own w g L) (hoff:off+n<=L.length) (hm:m=bs.length) (IX:m<=n) (hcap:n<=cap) (hbig:n<=4611686018427387904) (hL:Wf L) (hb:Wf bs) (hR:Rd B w ao bs) (hB:B<=g) :
 As 207 #[.slice (some ⟨g,off,none⟩) n cap,.slice ao m bE] w λr w' =>
  ∃M c,r=.returned (.int .u32 (c:Nat))/\c<=1/\Own w' g M/\Wf M/\Out L M off n/\sg M off n+c*pw n=sg L off n+val bs/\But g w w':=by
 have HR:Aside (Rd B w ao bs/\m=bs.length/\Wf bs/\Wf L/\off+n<=L.length):=⟨hR,hm,hb,hL,hoff⟩;have HO:Hid (Own w g L):=hO;have ET:Hid (∀x y c s d w,_->_->_->_->_->_):=MO;clear hR hm hb hL hO hoff;go_enter Tryz.func207,Tryz.ntmps207;go_wp2
 go_loopg [5,11] m (λgk c i wr=>∃(k cv:Nat) (M:List Nat),gk+k=m/\c=.int .u32 (cv:Nat)/\cv<=1/\i=.int .i64 (k:Nat) /\
  Hid (Own wr g M)/\Aside (Wf M/\Out L M off k/\sg M off k+cv*pw k=sg L off k+sg bs 0 k/\But g w wr))
 case atStart=>exact⟨0,0,L,ae,rfl,ae,rfl,HO,HR.o.r3.1,Out.refl _ _ _,by simp[dV],But.refl _ _⟩
 case round =>
  obtain⟨k,cv,M,jo,rfl,hcv,rfl,HM,HA⟩:=hrel
  by_cases hk:k<m
  . obtain⟨hR,hm,hb,hL,hoff⟩:=HR.o;obtain⟨bC,fH,hMs,aI⟩:=HA.o;obtain⟨b,fI,KW,rfl,hbc⟩:=hR (by intro e;subst e;simp at hm;omega)
    have hbk:wr.cell? ⟨b,fI+k,none⟩=some (.int .u32 ((bs.getD k 0:Nat):Int)):=by
     have h1:=aI.block b (qZ w ⟨b,fI+k,none⟩ (hbc k ae)) ae;exact z6
    have hgc:=HM.o.cell (off+k) (by rw[fH.1];omega);have hgf:=HM.o.frozen (off+k);obtain⟨x,hx⟩:∃x:Nat,M.getD (off+k) 0=x:=⟨_,rfl⟩;obtain⟨y,hy⟩:∃y:Nat,bs.getD k 0=y:=⟨_,rfl⟩;have hxl:x<4294967296:=hx ▸ bC.get _;have hyl:y<4294967296:=hy ▸ hb.get _;rw[hx] at hgc;rw[hy] at hbk;obtain⟨s,hs⟩:∃s:Nat,s=(x+y+cv)%4294967296:=⟨_,rfl⟩;obtain⟨d,hd⟩:∃d:Nat,d=(x+y+cv)/4294967296:=⟨_,rfl⟩;have HX:Aside (M.getD (off+k) 0=x/\bs.getD k 0=y/\s=(x+y+cv)%4294967296/\d=(x+y+cv)/4294967296):=⟨hx,hy,hs,hd⟩;clear hx hy hs hd hR hm hb hL hoff bC fH hMs aI hbc;go_wp2_with fail;refine(ET.o x y cv s d _ hxl hyl hcv HX.o.r2.1 HX.o.r3).mono ?_;rintro r w1 ⟨rfl,rfl⟩;go_wp2;go_roundg (gk-1)
    case measure=>omega
    case rel =>
     obtain⟨hx,hy,hs,hd⟩:=HX.o;obtain⟨hR,hm,hb,hL,hoff⟩:=HR.o;obtain⟨bC,fH,hMs,aI⟩:=HA.o;refine⟨k+1,d,M.set (off+k) s,ae,rfl,ae,by go_num,HM.o.set _ _,bC.set _ _ ae,(fH.mono ae).set _ _ ae ae,?_,aI.set _ _⟩;rw[bZ _ _ _ _ (by rw[fH.1];omega),bN L off k ae,bN bs 0 k ae,dA,hy,bK];have e:L.getD (off+k) 0=x:=by rw[<-hx];exact(fH.2 _ ae).symm
     rw[e];exact rU _ _ _ _ _ _ _ _ _ hMs ae
  . obtain rfl:k=m:=ae
    have HA2:Aside (Wf M/\Out L M off k/\sg M off k+cv*pw k=sg L off k+val bs/\But g w wr):=by
     obtain⟨hR,hm,hb,hL,hoff⟩:=HR.o;obtain⟨bC,fH,hMs,aI⟩:=HA.o;refine⟨bC,fH,?_,aI⟩;rw[hMs,hm,dJ]
    clear HA jo HO hk;go_wp2
    go_loopg [5,8] (n-k) (λg2 c i w2=>∃(j cv:Nat) (M:List Nat),g2+j=n/\k<=j/\c=.int .u32 (cv:Nat)/\cv<=1/\i=.int .i64 (j:Nat) /\
     Hid (Own w2 g M)/\Aside (Wf M/\Out L M off j/\sg M off j+cv*pw j=sg L off j+val bs/\But g w w2))
    case atStart=>exact⟨k,cv,M,ae,aA _,rfl,hcv,rfl,HM,HA2.o⟩
    case round =>
     clear HM HA2 hcv;obtain⟨j,cv,M,hgj,hkj,rfl,hcv,rfl,HM,HA⟩:=hrel
     by_cases hj:j<n
     . by_cases h0:cv=0
       . subst h0;go_wp2;go_ret;obtain⟨hR,hm,hb,hL,hoff⟩:=HR.o;obtain⟨bC,fH,hMs,aI⟩:=HA.o;refine⟨M,0,rfl,ae,HM.o,bC,fH.mono ae,?_,aI⟩;rw[fe,il] at hMs |-;exact QF ae ae fH hMs
       . obtain rfl:cv=1:=ae
         obtain⟨hR,hm,hb,hL,hoff⟩:=HR.o;obtain⟨bC,fH,hMs,aI⟩:=HA.o;have hgc:=HM.o.cell (off+j) (by rw[fH.1];omega);have hgf:=HM.o.frozen (off+j);obtain⟨x,hx⟩:∃x:Nat,M.getD (off+j) 0=x:=⟨_,rfl⟩;have hxl:x<4294967296:=hx ▸ bC.get _;rw[hx] at hgc;obtain⟨s,hs⟩:∃s:Nat,s=(x+0+1)%4294967296:=⟨_,rfl⟩;obtain⟨d,hd⟩:∃d:Nat,d=(x+0+1)/4294967296:=⟨_,rfl⟩;have HX:Aside (M.getD (off+j) 0=x/\s=(x+0+1)%4294967296/\d=(x+0+1)/4294967296):=⟨hx,hs,hd⟩;clear hx hs hd hR hm hb hL hoff bC fH hMs aI h0;go_wp2_with fail;refine(ET.o x 0 1 s d _ hxl ae ae HX.o.2.1 HX.o.r2).mono ?_;rintro r w1 ⟨rfl,rfl⟩;go_wp2;go_roundg (gk-1)
         case measure=>omega
         case rel =>
          obtain⟨hx,hs,hd⟩:=HX.o;obtain⟨hR,hm,hb,hL,hoff⟩:=HR.o;obtain⟨bC,fH,hMs,aI⟩:=HA.o;refine⟨j+1,d,M.set (off+j) s,ae,ae,rfl,ae,by go_num,HM.o.set _ _,bC.set _ _ ae,(fH.mono ae).set _ _ ae ae,?_,aI.set _ _⟩;rw[bZ _ _ _ _ (by rw[fH.1];omega),bN L off j ae,bK];have e:L.getD (off+j) 0=x:=by rw[<-hx];exact(fH.2 _ ae).symm
          rw[e];have:=rU (pw j) _ _ _ _ x 0 s d hMs ae;omega
     . obtain rfl:j=n:=ae
       exact Qbo
theorem zZ (L bs:List Nat) (g off n cap:Nat) (ao:Option Addr) (m bE B q:Nat) (w:World)
 (hO:Own w g L) (hoff:off+n<=L.length) (hm:m=bs.length) (IX:n=m+1) (hcap:n<=cap) (hbig:n<=4611686018427387904) (hL:Wf L) (hb:Wf bs) (hR:Rd B w ao bs) (hB:B<=g) (hq:q<4294967296) :
 As 230 #[.slice (some ⟨g,off,none⟩) n cap,.slice ao m bE,.int .u32 (q:Nat)] w λr w' =>
  ∃M,∃c:Nat,r=.returned (.bool (decide (0<c)))/\c<=1/\Own w' g M/\Wf M/\Out L M off n/\sg M off n+val bs*q=sg L off n+c*pw n/\But g w w':=by
 have HR:Aside (Rd B w ao bs/\m=bs.length/\Wf bs/\Wf L/\off+n<=L.length/\n=m+1):=⟨hR,hm,hb,hL,hoff,IX⟩;have HO:Hid (Own w g L):=hO;have ET:Hid (∀x y c s d w,_->_->_->_->_->_):=Ay;have hmn1:m<n:=ae
 clear hR hm hb hL hO hoff IX;go_enter Tryz.func230,Tryz.ntmps230;go_wp2
 go_loopg [7,8,14] m (λgk c bo i wr=>∃(k cv bv:Nat) (M:List Nat),gk+k=m/\c=.int .u64 (cv:Nat)/\cv<4294967296/\bo=.int .u32 (bv:Nat)/\bv<=1/\i=.int .i64 (k:Nat) /\
  Hid (Own wr g M)/\Aside (Wf M/\Out L M off k/\sg M off k+sg bs 0 k*q=sg L off k+(cv+bv)*pw k/\But g w wr))
 case atStart=>exact⟨0,0,0,L,ae,rfl,ae,rfl,ae,rfl,HO,HR.o.r3.1,Out.refl _ _ _,by simp[dV],But.refl _ _⟩
 case round =>
  obtain⟨k,cv,bv,M,jo,rfl,hcv,rfl,hbv,rfl,HM,HA⟩:=hrel
  by_cases hk:k<m
  . obtain⟨hR,hm,hb,hL,hoff,IX⟩:=HR.o;obtain⟨bC,fH,hMs,aI⟩:=HA.o;obtain⟨b,fI,KW,rfl,hbc⟩:=hR (by intro e;subst e;simp at hm;omega)
    have hbk:wr.cell? ⟨b,fI+k,none⟩=some (.int .u32 ((bs.getD k 0:Nat):Int)):=by
     have h1:=aI.block b (qZ w ⟨b,fI+k,none⟩ (hbc k ae)) ae;exact z6
    have hgc:=HM.o.cell (off+k) (by rw[fH.1];omega);have hgf:=HM.o.frozen (off+k);obtain⟨x,hx⟩:∃x:Nat,M.getD (off+k) 0=x:=⟨_,rfl⟩;obtain⟨y,hy⟩:∃y:Nat,bs.getD k 0=y:=⟨_,rfl⟩;have hxl:x<4294967296:=hx ▸ bC.get _;have hyl:y<4294967296:=hy ▸ hb.get _;rw[hx] at hgc;rw[hy] at hbk;have hp0:=uO y q hyl hq;have hp2:(y:Int)*(q:Int)<=18446744065119617025:=by rw[<-eD];omega
    have hp1:0<=(y:Int)*(q:Int):=by rw[<-eD];omega
    obtain⟨tl,htl⟩:∃s:Nat,s=(y*q+cv)%4294967296:=⟨_,rfl⟩;obtain⟨d,hd⟩:∃d:Nat,d=(y*q+cv)/4294967296:=⟨_,rfl⟩;have e0:((y*q+cv:Nat):Int)=(y:Int)*q+cv:=by simp only[xX,eD]
    have e1:((y:Int)*q+cv)%4294967296=(tl:Int):=by rw[<-e0];omega
    have e2:((y:Int)*q+cv)/4294967296=(d:Int):=by rw[<-e0];omega
    obtain⟨s,hs⟩:∃s:Nat,(s:Int)=((x:Int)-tl-bv)%4294967296:=⟨(((x:Int)-tl-bv)%4294967296).toNat,ae⟩;obtain⟨bn,hbn⟩:∃bn:Nat,bn=if x<tl+bv then 1 else 0:=⟨_,rfl⟩
    have htl2:tl<4294967296:=ae
    have HX:Aside (M.getD (off+k) 0=x/\bs.getD k 0=y/\tl+d*4294967296=y*q+cv/\d<4294967296/\(s:Int)=((x:Int)-tl-bv)%4294967296/\bn=if x<tl+bv then 1 else 0):=⟨hx,hy,ae,ae,hs,hbn⟩;clear hx hy hs hd hR hm hb hL hoff bC fH hMs aI hbc e0 hp0 hbn htl IX;go_wp2_with fail;refine(ET.o x tl bv s bn _ hxl htl2 hbv HX.o.r4.1 HX.o.r5).mono ?_;rintro r w1 ⟨rfl,rfl⟩;go_wp2;go_roundg (gk-1)
    case measure=>omega
    case rel =>
     obtain⟨hx,hy,he,hd,hs,hbn⟩:=HX.o;obtain⟨hR,hm,hb,hL,hoff,IX⟩:=HR.o;obtain⟨bC,fH,hMs,aI⟩:=HA.o;have ZG:bn<=1:=by rw[hbn];split <;> omega
     have hsum:s+tl+bv=x+bn*4294967296:=by rw[hbn];split <;> omega
     refine⟨k+1,d,bn,M.set (off+k) s,ae,rfl,hd,rfl,ZG,by go_num,HM.o.set _ _,bC.set _ _ ae,(fH.mono ae).set _ _ ae ae,?_,aI.set _ _⟩;rw[bZ _ _ _ _ (by rw[fH.1];omega),bN L off k ae,bN bs 0 k ae,dA,hy,bK];have e:L.getD (off+k) 0=x:=by rw[<-hx];exact(fH.2 _ ae).symm
     rw[e];exact yE _ _ _ _ _ _ _ _ _ _ hMs (by rw[fT];omega)
  . obtain rfl:k=m:=ae
    obtain⟨hR,hm,hb,hL,hoff,IX⟩:=HR.o;obtain⟨bC,fH,hMs,aI⟩:=HA.o;have hgc:=HM.o.cell (off+k) (by rw[fH.1];omega);have hgf:=HM.o.frozen (off+k);obtain⟨x,hx⟩:∃x:Nat,M.getD (off+k) 0=x:=⟨_,rfl⟩;have hxl:x<4294967296:=hx ▸ bC.get _;rw[hx] at hgc;obtain⟨s,hs⟩:∃s:Nat,(s:Int)=((x:Int)-cv-bv)%4294967296:=⟨(((x:Int)-cv-bv)%4294967296).toNat,ae⟩;obtain⟨bn,hbn⟩:∃bn:Nat,bn=if x<cv+bv then 1 else 0:=⟨_,rfl⟩
    have HX:Aside (M.getD (off+k) 0=x/\(s:Int)=((x:Int)-cv-bv)%4294967296/\bn=if x<cv+bv then 1 else 0):=⟨hx,hs,hbn⟩;clear hx hs hR hm hb hL hoff bC fH hMs aI hbn IX;go_wp2_with fail;refine(ET.o x cv bv s bn _ hxl hcv hbv HX.o.2.1 HX.o.r2).mono ?_;rintro r w1 ⟨rfl,rfl⟩;go_wp2;go_ret;obtain⟨hx,hs,hbn⟩:=HX.o;obtain⟨hR,hm,hb,hL,hoff,IX⟩:=HR.o;obtain⟨bC,fH,hMs,aI⟩:=HA.o;have ZG:bn<=1:=by rw[hbn];split <;> omega
    have hsum:s+cv+bv=x+bn*4294967296:=by rw[hbn];split <;> omega
    refine⟨M.set (off+k) s,bn,rfl,ZG,HM.o.set _ _,bC.set _ _ ae,(fH.mono ae).set _ _ ae ae,?_,aI.set _ _⟩;subst IX;rw[bZ _ _ _ _ (by rw[fH.1];omega),bN L off k ae,bK];have e:L.getD (off+k) 0=x:=by rw[<-hx];exact(fH.2 _ ae).symm
    rw[e];have h2:=yE (pw k) _ _ _ _ x 0 q s bn hMs ae;rw[o9,il,hm,dJ] at h2;exact hm ▸ h2
theorem QJ(U V P o c m:Nat)(h1:m+V*o=U+c*P)(hc:c<=1)(h2:U<(o+1)*V)(h3:o*V<=U+V)(hm:m<P)(hV:V<=P)(h0:c=0):m=U-o*V/\m<V/\U=o*V+m:=by
 subst h0;rw[cK V] at h1;rw[fT,ik] at h2;refine⟨ae,ae,ae⟩
theorem M8(U V P o c m M d:Nat)(h1:m+V*(o+1)=U+1*P)(h2:U<(o+1+1)*V)(h3:(o+1)*V<=U+V)(hm:m<P)(hM:M<P)(hb:M+d*P=m+V)(hd:d<=1)(hU:U<V*4294967296)(YU:V*4294967296<=P*4294967296)(hV:V<=P) :
 U=o*V+M/\M<V:=by
 rw[ik] at h1;have e:V*(o+1)=o*V+V:=by grind
 rw[e] at h1;rw[fT,ik] at h3;rcases(by omega:d=0\/d=1) with rfl|rfl
 . exfalso;rw[fe] at hb;omega
 . rw[ik] at hb;constructor
   . omega
   . omega
theorem EW (L bs:List Nat) (g off cap:Nat) (ao:Option Addr) (n bE B:Nat) (w:World) (k:Nat) (hnk:n=k+2)
 (hO:Own w g L) (hoff:off+(k+3)<=L.length) (hm:k+2=bs.length) (hcap:n+1<=cap) (hbig:n+1<=4611686018427387904) (hL:Wf L) (hb:Wf bs) (hR:Rd B w ao bs) (hB:B<=g)
 (htop:2147483648<=bs.getD (k+1) 0) (hlt:sg L off (k+3)<val bs*4294967296) :
 As 225 #[.slice (some ⟨g,off,none⟩) (n+1) cap,.slice ao n bE] w λr w' =>
  ∃o:Nat,∃M,r=.returned (.int .u32 (o:Nat))/\o<4294967296/\Own w' g M/\Wf M/\Out L M off (n+1)/\sg L off (n+1)=o*val bs+sg M off (n+1)/\sg M off (n+1)<val bs/\But g w w':=by
 have G:=hid (M7 L bs g off cap ao n bE B w k hnk hO hoff hm hcap ae hL hb hR htop hlt);have HH:=(Ck hO hoff hm hL hb hR hlt hnk);clear hO hoff hm hL hb hR hlt hnk htop;go_enter Tryz.func225,Tryz.ntmps225;go_wp2_with fail;refine G.o.mono ?_;rintro r w1 ⟨o,rfl,ho,h2,h3,hbel⟩;obtain⟨hO,hoff,hm,hL,hb,hR,hlt,hnk⟩:=HH.o;have hg:=hO.lt;have kD:=hO.below hbel hg;have EZ:Rd B w1 ao bs:=hR.below (hbel.mono ae);have T:=hid (zZ L bs g off (n+1) cap ao n bE B o w1 kD ae ae rfl hcap hbig hL hb EZ hB ho);have HI:=(gp h2 h3 hbel);clear hO hoff hm hL hb hR hlt hnk hg kD EZ h2 h3 hbel G;go_wp2_with fail;refine T.o.mono ?_;rintro r w2 ⟨M,c,rfl,hc,hO2,hM,hout,hsum,aI⟩;obtain⟨hO,hoff,hm,hL,hb,hR,hlt,hnk⟩:=HH.o;obtain⟨h2,h3,hbel⟩:=HI.o;have e3:k+3=n+1:=ae
 rw[e3] at h2 h3 hlt;have IY:=oF M off (n+1) hM (by rw[hout.1];omega);have K9:=dh bs hb
 have YU:val bs<=pw (n+1):=by
  have:=kM (show bs.length<=n+1 by omega);omega
 by_cases h0:c=0
 . obtain⟨e,hlt2,hU⟩:=QJ _ _ _ _ _ _ hsum hc h2 h3 IY YU h0;have HJ:=(Ew hO2 hM hout hU hlt2 aI hbel);subst h0;clear hO hoff hm hL hb hR hlt hnk h2 h3 hbel hO2 hM hout hsum aI IY K9 YU e hlt2 hU T HI e3 hc;go_wp2;go_ret;obtain⟨hO2,hM,hout,hU,hlt2,aI,hbel⟩:=HJ.o;exact⟨o,M,rfl,ho,hO2,hM,hout,hU,hlt2,(But.refl _ _).of_below hbel |>.trans aI⟩
 . obtain rfl:c=1:=ae
   have ho1:1<=o:=by
    rcases kG o with h|h
    . subst h;rw[o9] at hsum;have:=oF L off (n+1) hL ae;omega
    . exact h
   obtain⟨p,hp⟩:∃p,o=p+1:=⟨o-1,ae⟩;have hR2:Rd B w2 ao bs:=(hR.below (hbel.mono (by have:=hO.lt;omega))).but aI (by have:=hbel.size;have:=hO.lt;omega) hB;have A:=hid (uQ M bs g off (n+1) cap ao n bE B w2 hO2 (by rw[hout.1];omega) ae ae hcap hbig hM hb hR2 hB);have HJ:=(Zz hM hout hsum aI hbel h2 h3 IY YU hlt hp);clear hO hoff hm hL hb hR hlt hnk h2 h3 hbel hO2 hM hout hsum aI IY K9 YU T HI hR2 h0 hp e3 hc;go_wp2_with fail;refine A.o.mono ?_;rintro r w3 ⟨M2,d,rfl,hd,hO3,hM2,hout2,Lb,tF⟩;have HK:=(kz hd hO3 hM2 hout2 Lb tF);clear hd hO3 hM2 hout2 Lb tF A;go_wp2;go_ret;obtain⟨hM,hout,hsum,aI,hbel,h2,h3,IY,YU,hlt,hp⟩:=HJ.o;obtain⟨hd,hO3,hM2,hout2,Lb,tF⟩:=HK.o;obtain⟨hO,hoff,hm,hL,hb,hR,hlt',hnk⟩:=HH.o;have hm2:=oF M2 off (n+1) hM2 (by rw[hout2.1,hout.1];omega);subst hp;obtain⟨hU,hlt2⟩:=M8 _ _ _ p 1 _ _ d hsum h2 h3 IY hm2 Lb hd hlt (dL _ YU) YU;refine⟨p,M2,?_,ae,hO3,hM2,hout.trans hout2,hU,hlt2,(((But.refl _ _).of_below hbel).trans aI).trans tF⟩;exact congrArg (λz=>Ending.returned (Value.int IntKind.u32 z)) ae
def bl(n:Nat):Nat:=if n=0 then 0 else n.log2+1
theorem dI:bl 0=0:=rfl
theorem iT(n:Nat):n<2^bl n:=by
 unfold bl
 split
 . next h=>subst h;decide
 . exact Nat.lt_log2_self
theorem iw(n:Nat)(h:n≠0):2^(bl n-1)<=n:=by
 unfold bl;rw[if_neg h];exact Nat.log2_self_le h
theorem dM(n:Nat)(h:n≠0):0<bl n:=by unfold bl;rw[if_neg h];omega
theorem E5(n k:Nat)(h1:2^k<=n)(h2:n<2^(k+1)):bl n=k+1:=by
 have hn:n≠0:=by have:=bG k;omega
 have a:k<bl n:=(kH (a:=2) aM).1 (iC h1 (iT n));have b:bl n-1<k+1:=(kH (a:=2) aM).1 (iC (iw n hn) h2);omega
theorem AJ(x:Nat)(h:x<18446744073709551616):Lib.bitLen x=bl x:=by
 by_cases h0:x=0
 . subst h0;decide
 . obtain⟨h1,h2,h3⟩:=Lib.bitLenAux_bounds 64 x h h0;obtain⟨k,hk⟩:∃k,Lib.bitLen x=k+1:=⟨Lib.bitLen x-1,by unfold Lib.bitLen;omega⟩;have hk':Lib.bitLenAux 64 x=k+1:=hk;rw[hk'] at h2 h3;rw[hk,E5 x k h2 h3]
theorem tab8(n:Nat)(h:n<Lib.len8tab.size):(Lib.len8tab[n]'h).toNat=Lib.bitLen n:=by
 have hn:n<256:=by rw[Lib.len8tab_size] at h;exact h
 have e:=Lib.len8_eq ⟨n,hn⟩;simp only[Lib.len8,lC] at e;rw[getElem?_pos Lib.len8tab n h] at e;exact Int.natCast_inj.1 (by simpa using e)
theorem jX(x i:Int)(c:Nat)(hc:c<=56)(hi:i<256)(hs:Lib.bitLen x.toNat=c+Lib.bitLen i.toNat)(hh:i.toNat<Lib.len8tab.size)(hi0:0<=i) :
 wrap64 ((c:Int)+wrap64 ((Lib.len8tab[i.toNat]'hh).toNat:Int))=(Lib.bitLen x.toNat:Int):=by
 have l:=Lib.bitLen_le8 ⟨i.toNat,ae⟩;simp only at l;rw[tab8,hs];unfold wrap64;omega
theorem E8(x:Int)(hi:x<256)(hi0:0<=x)(hh:x.toNat<Lib.len8tab.size) :
 wrap64 (wrap64 ((Lib.len8tab[x.toNat]'hh).toNat:Int))=(Lib.bitLen x.toNat:Int):=by
 have l:=Lib.bitLen_le8 ⟨x.toNat,ae⟩;simp only at l;rw[tab8];unfold wrap64;omega
set_option maxRecDepth 100000 in
theorem Na(x:Int)(w:World)(h0:0<=x)(h1:x<=4294967295) :
 As 138 #[.int .u32 x] w λe w'=>e=.returned (.int .i64 (Lib.bitLen x.toNat))/\w'=w:=by
 have hsz:Lib.len8tab.size=256:=Lib.len8tab_size;go_enter Tryz.func138,Tryz.ntmps138;go_wp2
 all_goals (go_ret;refine⟨congrArg (λz=>Ending.returned (Value.int IntKind.i64 z)) ?_,rfl⟩)
 . exact jX x (x/65536/256) 24 ae ae (by rw[Lib.bitLen_shift24 x.toNat ae ae,show(x/65536/256).toNat=x.toNat/16777216 by omega]) ae ae
 . exact jX x (x/65536) 16 ae ae (by rw[Lib.bitLen_shift16 x.toNat ae ae,show(x/65536).toNat=x.toNat/65536 by omega]) ae ae
 . exact jX x (x/256) 8 ae ae (by rw[Lib.bitLen_shift8 x.toNat ae ae,show(x/256).toNat=x.toNat/256 by omega]) ae ae
 . exact E8 x ae ae ae
theorem AQ(x:Nat)(w:World)(h:x<4294967296):As 138 #[.int .u32 (x:Int)] w λe w'=>e=.returned (.int .i64 (bl x:Nat))/\w'=w:=by
 have:=Na x w ae ae;rw[lC,AJ x ae] at this;exact this
theorem xx(x:Nat)(h:x<4294967296):bl x<=32:=by
 by_cases h0:x=0
 . subst h0;decide
 . have:=iw x h0;have:2^(bl x-1)<2^32:=ae
   have:=(kH (a:=2) aM).1 this;omega
theorem IZ(x:Nat)(w:World)(h:x<4294967296):As 224 #[.int .u32 (x:Int)] w λe w'=>e=.returned (.int .i64 ((32-bl x:Nat):Int))/\w'=w:=by
 have H:=hid (AQ x w h);have hb:=xx x h;obtain⟨k,hk⟩:∃k,bl x=k:=⟨_,rfl⟩;rw[hk] at H hb |-;clear hk;obtain⟨z,hz⟩:=ah (32-k);have e:(32:Int)-(k:Int)=(z:Int):=ae
 rw[<-hz];clear hz;go_enter Tryz.func224,Tryz.ntmps224;go_wp2_with fail;refine H.o.mono ?_;rintro r w1 ⟨rfl,rfl⟩;go_wp2;go_ret;exact⟨by first | rfl | rw[e],rfl⟩
end
end Go.Proofs.YtjppdacikihpdaaGreatDoor
