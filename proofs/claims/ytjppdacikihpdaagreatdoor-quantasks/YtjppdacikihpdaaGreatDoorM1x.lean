import Derived.Deep.LoopGhost
import Derived.Test.YtjppdacikihpdaaGreatDoorRows
import Derived.WalkKit
import Derived.OwnWalk
import Derived.Below
import Derived.Laws.OwnMore
import Derived.Laws.CopyOwn
import Derived.Laws.Bits64b
import Derived.Deep.RegionWith
import Derived.Lib.Strings
import Derived.Lib.Slices
import Derived.Lib.Small
import Derived.Lib.Walk
import Derived.Lib.BitFns
import Derived.Lib.Tables
import Derived.Lib.ItoaNum
import Derived.Lib.TrailingZeros
set_option linter.unusedVariables false
set_option linter.unusedSimpArgs false
set_option maxHeartbeats 16000000
set_option maxRecDepth 20000
namespace Go.Proofs.YtjppdacikihpdaaGreatDoor
theorem af{A:Sort _}(a:A):∃ x,x=a:=⟨a,rfl⟩
theorem aZ{a0 a1:Prop}(h0:a0)(h1:a1):Go.Aside (a0∧a1):=⟨h0,h1⟩
theorem fG{a0 a1 a2:Prop}(h0:a0)(h1:a1)(h2:a2):Go.Aside (a0∧a1∧a2):=⟨h0,h1,h2⟩
theorem iw{a0 a1 a2 a3:Prop}(h0:a0)(h1:a1)(h2:a2)(h3:a3):Go.Aside (a0∧a1∧a2∧a3):=⟨h0,h1,h2,h3⟩
theorem fM{a0 a1 a2 a3 a4:Prop}(h0:a0)(h1:a1)(h2:a2)(h3:a3)(h4:a4):Go.Aside (a0∧a1∧a2∧a3∧a4):=⟨h0,h1,h2,h3,h4⟩
theorem jD{a0 a1 a2 a3 a4 a5:Prop}(h0:a0)(h1:a1)(h2:a2)(h3:a3)(h4:a4)(h5:a5):Go.Aside (a0∧a1∧a2∧a3∧a4∧a5):=⟨h0,h1,h2,h3,h4,h5⟩
theorem Du{a0 a1 a2 a3 a4 a5 a6:Prop}(h0:a0)(h1:a1)(h2:a2)(h3:a3)(h4:a4)(h5:a5)(h6:a6):Go.Aside (a0∧a1∧a2∧a3∧a4∧a5∧a6):=⟨h0,h1,h2,h3,h4,h5,h6⟩
theorem Dh{a0 a1 a2 a3 a4 a5 a6 a7:Prop}(h0:a0)(h1:a1)(h2:a2)(h3:a3)(h4:a4)(h5:a5)(h6:a6)(h7:a7):Go.Aside (a0∧a1∧a2∧a3∧a4∧a5∧a6∧a7):=⟨h0,h1,h2,h3,h4,h5,h6,h7⟩
theorem Uc{a0 a1 a2 a3 a4 a5 a6 a7 a8:Prop}(h0:a0)(h1:a1)(h2:a2)(h3:a3)(h4:a4)(h5:a5)(h6:a6)(h7:a7)(h8:a8):Go.Aside (a0∧a1∧a2∧a3∧a4∧a5∧a6∧a7∧a8):=⟨h0,h1,h2,h3,h4,h5,h6,h7,h8⟩
theorem Ba{a0 a1 a2 a3 a4 a5 a6 a7 a8 a9:Prop}(h0:a0)(h1:a1)(h2:a2)(h3:a3)(h4:a4)(h5:a5)(h6:a6)(h7:a7)(h8:a8)(h9:a9):Go.Aside (a0∧a1∧a2∧a3∧a4∧a5∧a6∧a7∧a8∧a9):=⟨h0,h1,h2,h3,h4,h5,h6,h7,h8,h9⟩
theorem X9{a0 a1 a2 a3 a4 a5 a6 a7 a8 a9 a10:Prop}(h0:a0)(h1:a1)(h2:a2)(h3:a3)(h4:a4)(h5:a5)(h6:a6)(h7:a7)(h8:a8)(h9:a9)(h10:a10):Go.Aside (a0∧a1∧a2∧a3∧a4∧a5∧a6∧a7∧a8∧a9∧a10):=⟨h0,h1,h2,h3,h4,h5,h6,h7,h8,h9,h10⟩
theorem qs12{a0 a1 a2 a3 a4 a5 a6 a7 a8 a9 a10 a11:Prop}(h0:a0)(h1:a1)(h2:a2)(h3:a3)(h4:a4)(h5:a5)(h6:a6)(h7:a7)(h8:a8)(h9:a9)(h10:a10)(h11:a11):Go.Aside (a0∧a1∧a2∧a3∧a4∧a5∧a6∧a7∧a8∧a9∧a10∧a11):=⟨h0,h1,h2,h3,h4,h5,h6,h7,h8,h9,h10,h11⟩
theorem _root_.Go.Aside.o{p:Prop}(h:Go.Aside p):p:=h.out
theorem _root_.Go.RowKit.Hid.o{p:Prop}(h:Go.RowKit.Hid p):p:=h.out
theorem _root_.And.r2{a0 a1 a2:Prop}(h:a0∧a1∧a2):a2:=h.2.2
theorem _root_.And.r3{a0 a1 a2 a3:Prop}(h:a0∧a1∧a2∧a3):a3:=h.2.2.2
theorem _root_.And.r4{a0 a1 a2 a3 a4:Prop}(h:a0∧a1∧a2∧a3∧a4):a4:=h.2.2.2.2
theorem _root_.And.r5{a0 a1 a2 a3 a4 a5:Prop}(h:a0∧a1∧a2∧a3∧a4∧a5):a5:=h.2.2.2.2.2
theorem _root_.And.r6{a0 a1 a2 a3 a4 a5 a6:Prop}(h:a0∧a1∧a2∧a3∧a4∧a5∧a6):a6:=h.2.2.2.2.2.2
theorem _root_.And.r7{a0 a1 a2 a3 a4 a5 a6 a7:Prop}(h:a0∧a1∧a2∧a3∧a4∧a5∧a6∧a7):a7:=h.2.2.2.2.2.2.2
theorem _root_.And.r8{a0 a1 a2 a3 a4 a5 a6 a7 a8:Prop}(h:a0∧a1∧a2∧a3∧a4∧a5∧a6∧a7∧a8):a8:=h.2.2.2.2.2.2.2.2
abbrev ak:=@Nat.le_refl
abbrev aI:=@Nat.pow_add
abbrev aJ:=@Nat.mul_assoc
abbrev aU:=@Nat.two_pow_pos
abbrev bG:=@List.getD_eq_getElem?_getD
abbrev bJ:=@Nat.mul_comm
abbrev cO:=@Nat.zero_add
abbrev dx:=@List.getElem?_eq_getElem
abbrev dz:=@Nat.le_trans
abbrev fC:=@Nat.add_mul
abbrev di:=@Nat.mul_le_mul_right
abbrev dC:=@Nat.pow_succ
abbrev dK:=@Int.natCast_mul
abbrev dM:=@Nat.mul_one
abbrev dO:=@List.take_of_length_le
abbrev dP:=@Bool.false_eq_true
abbrev dS:=@Nat.zero_mul
abbrev eB:=@Nat.pow_le_pow_right
abbrev eO:=@Nat.mul_le_mul_left
abbrev eY:=@List.length_take
abbrev eZ:=@Array.getElem?_eq_some_iff
abbrev fe:=@Nat.mul_lt_mul_of_pos_right
abbrev fw:=@Nat.pow_zero
abbrev fD:=@Nat.le_of_lt
abbrev fH:=@Bool.toNat_true
abbrev fI:=@Bool.toNat_false
abbrev fZ:=@Nat.lt_of_lt_of_le
abbrev gI:=@Nat.one_mul
abbrev gJ:=@Nat.add_zero
abbrev gK:=@Nat.div_eq_of_lt
abbrev gN:=@Array.getElem?_modify
abbrev gP:=@Nat.mod_lt
abbrev gQ:=@Nat.lt_of_le_of_lt
abbrev gT:=@Nat.lt_or_ge
abbrev ik:=@Nat.min_eq_left
abbrev il:=@Nat.ne_of_lt
abbrev iA:=@Prod.mk.inj
abbrev iL:=@Nat.mul_pos
abbrev iY:=@Nat.mod_eq_of_lt
abbrev jG:=@Nat.mul_le_mul
abbrev jH:=@Nat.eq_zero_or_pos
abbrev jI:=@Nat.pow_lt_pow_iff_right
abbrev jJ:=@Nat.mul_lt_mul_right
abbrev j6:=@Int.toNat_natCast
abbrev kg:=@Nat.zero_le
abbrev kR:=@List.getElem_mem
abbrev kT:=@Nat.le_of_not_lt
abbrev kU:=@Nat.pow_one
abbrev kV:=@Int.mul_assoc
abbrev lZ:=@Nat.add_sub_cancel
abbrev l6:=@Nat.lt_trichotomy
abbrev mX:=@Nat.add_assoc
abbrev mY:=@Nat.mul_add
abbrev mZ:=@Nat.div_add_mod
abbrev ni:=@Int.natAbs_natCast
abbrev nk:=@List.mem_cons_of_mem
abbrev nu:=@List.mem_cons_self
abbrev nJ:=@List.getElem?_eq_none
abbrev nK:=@List.length_cons
abbrev nL:=@List.length_drop
abbrev nM:=@Nat.add_comm
abbrev nN:=@Nat.pow_mul
abbrev nO:=@Nat.div_le_self
abbrev nP:=@Nat.mul_zero
abbrev nQ:=@List.length_append
abbrev nR:=@Nat.eq_of_mul_eq_mul_right
abbrev nS:=@Nat.ne_of_gt
abbrev qw:=@List.getElem?_append_right
abbrev qx:=@Nat.mul_mul_mul_comm
abbrev qR:=@List.mem_map
abbrev qU:=@Nat.add_mul_div_left
abbrev uI:=@Nat.pow_pos
abbrev uJ:=@Int.emod_eq_of_lt
abbrev uK:=@Nat.mul_div_cancel_left
abbrev uL:=@List.getElem?_eq_some_iff
abbrev uM:=@Nat.div_div_eq_div_mul
abbrev uN:=@List.drop_of_length_le
abbrev uO:=@Nat.sub_self
abbrev uP:=@List.mem_cons
abbrev uQ:=@Int.compare_eq_lt
abbrev uR:=@Int.compare_eq_gt
abbrev uS:=@Int.compare_eq_eq
abbrev uT:=@List.eq_nil_of_length_eq_zero
abbrev uU:=@List.append_assoc
abbrev wy:=@Nat.div_lt_iff_lt_mul
abbrev wz:=@List.map_append
abbrev wB:=@List.length_replicate
abbrev wC:=@List.getElem?_map
abbrev wD:=@List.length_map
abbrev wE:=@Bool.eq_iff_iff
abbrev wF:=@Nat.lt_of_mul_lt_mul_right
abbrev wG:=@List.mem_range
abbrev wH:=@List.length_pos_iff
abbrev zo:=@Nat.mul_lt_mul_of_pos_left
abbrev zt:=@Nat.add_mul_mod_self_left
abbrev zu:=@List.getElem?_append_left
abbrev zw:=@List.mem_singleton
abbrev zx:=@Nat.mul_right_comm
abbrev zy:=@Nat.mul_pow
abbrev zA:=@Bool.false_ne_true
abbrev wI:=@List.mem_of_mem_take
abbrev wJ:=@List.mem_of_mem_drop
abbrev wK:=@List.take_succ_eq_append_getElem
abbrev wL:=@List.map_set
abbrev wM:=@List.drop_replicate
abbrev wN:=@Int.natCast_add
abbrev wO:=@Option.isSome_iff_exists
abbrev wR:=@Int.le_of_lt
abbrev wS:=@Nat.mul_lt_mul''
abbrev wT:=@Bool.false_or
abbrev wU:=@List.any_eq_true
abbrev wV:=@Bool.and_eq_true
abbrev wW:=@Array.getElem?_eq_none
abbrev wX:=@Nat.le_div_iff_mul_le
abbrev wY:=@Classical.choose_spec
abbrev wZ:=@Nat.le_mul_of_pos_left
abbrev xc:=@List.set_comm
abbrev xe:=@List.pairwise_iff_getElem
abbrev xh:=@List.length_range
abbrev Bb:=@List.replicate_succ
abbrev Bc:=@List.append_nil
abbrev Be:=@Nat.shiftLeft_eq
abbrev Bf:=@Nat.sub_add_cancel
abbrev Bg:=@Int.mul_lt_mul_of_pos_right
abbrev Bh:=@Int.lt_of_mul_lt_mul_right
abbrev Bi:=@List.size_toArray
abbrev Bj:=@Array.length_toList
abbrev Bn:=@List.length_nil
abbrev Bo:=@List.take_append_of_le_length
abbrev Bp:=@Nat.mul_eq_zero
abbrev Bq:=@Option.getD_some
abbrev Br:=@List.set_append_right
abbrev Bt:=@List.Perm.eq_of_pairwise
abbrev Gv:=@List.drop_eq_getElem_cons
abbrev Gw:=@List.length_eq_zero_iff
abbrev Gx:=@Nat.shiftRight_xor_distrib
abbrev Gy:=@List.getElem?_replicate
abbrev Gz:=@Nat.two_pow_add_eq_or_of_lt
abbrev GA:=@Nat.add_sub_cancel_left
abbrev GD:=@Nat.mod_two_eq_zero_or_one
abbrev GH:=@Nat.and_two_pow_sub_one_eq_mod
abbrev GI:=@List.countP_le_length
abbrev GJ:=@List.mem_iff_getElem
abbrev aB:=@Go.bodyPost_ret
abbrev ay:=@Go.RowKit.Below.refl
abbrev sF:=@Go.World.size_alloc
abbrev qh:=@Go.World.block_lt_of_cell?
abbrev gU:=@Go.heap_alloc_new
abbrev dL:=@Go.Calls.mono
abbrev jE:=@Go.IntKind.wrap_u64
abbrev qV:=@Go.World.cell?_of_block
abbrev Pg:=@Go.IntKind.wrap_i64
abbrev Bu:=@Go.World.ownsRow_nil
abbrev gW:=@Go.RowKit.Below.drew
theorem ai{a b:Prop}(x:a)(y:b):a/\b:=⟨x,y⟩
theorem ah{a:Prop}(x:a):Aside a:=x
section
def pw(k:Nat):Nat:=4294967296^k
theorem iQ:pw 0=1:=by simp[pw]
theorem bz(k:Nat):pw (k+1)=4294967296*pw k:=by simp[pw,dC,bJ]
theorem sG(i k:Nat):pw (i+k)=pw i*pw k:=by simp[pw,aI]
theorem iy(k:Nat):0<pw k:=uI (by decide)
theorem jO{i k:Nat}(h:i<=k):pw i<=pw k:=eB (by decide) h
def val:List Nat->Nat
 | []=>0
 | x::xs=>x+4294967296*val xs
def Wf(xs:List Nat):Prop:=∀ x ∈ xs,x<4294967296
theorem Wf.nil:Wf []:=by intro x hx;cases hx
theorem Wf.cons{x:Nat}{xs:List Nat}(hx:x<4294967296)(h:Wf xs):Wf (x::xs):=by
 intro y hy;cases hy with
 | head=>exact hx
 | tail _ hy=>exact h y hy
theorem Wf.head{x:Nat}{xs:List Nat}(h:Wf (x::xs)):x<4294967296:=h x (by simp)
theorem Wf.tail{x:Nat}{xs:List Nat}(h:Wf (x::xs)):Wf xs:=fun y hy=>h y (by simp[hy])
theorem Qbe{P:Prop}(h:P:=by
 by_cases hk:k<xs.length
 · rw[bG,dx hk];exact h _ (kR hk)
 · rw[bG,nJ (by omega)];decide):P:=h
theorem Wf.get{xs:List Nat}(h:Wf xs)(k:Nat):xs.getD k 0<4294967296:=by
 exact Qbe
theorem Wf.take{xs:List Nat}(h:Wf xs)(k:Nat):Wf (xs.take k):=fun y hy=>h y (wI hy)
theorem Wf.drop{xs:List Nat}(h:Wf xs)(k:Nat):Wf (xs.drop k):=fun y hy=>h y (wJ hy)
theorem Wf.append{xs ys:List Nat}(h:Wf xs)(k:Wf ys):Wf (xs++ys):=by
 intro y hy;rcases List.mem_append.1 hy with hy | hy
 · exact h y hy
 · exact k y hy
theorem Wf.set{xs:List Nat}(h:Wf xs)(k x:Nat)(hx:x<4294967296):Wf (xs.set k x):=by
 intro y hy;rcases List.mem_or_eq_of_mem_set hy with hy | hy
 · exact h y hy
 · omega
theorem Wf.zeros(n:Nat):Wf (List.replicate n 0):=by intro y hy;have:=List.eq_of_mem_replicate hy;omega
theorem val_append(xs ys:List Nat):val (xs++ys)=val xs+pw xs.length*val ys:=by
 induction xs with
 | nil=>simp[val,iQ]
 | cons x xs ih=>simp only[List.cons_append,val,ih,nK,bz];grind
theorem jV(n:Nat):val (List.replicate n 0)=0:=by
 induction n with
 | zero=>rfl
 | succ n ih=>simp[Bb,val,ih]
theorem iB(xs:List Nat)(k:Nat)(hk:k<xs.length):val (xs.take (k+1))=val (xs.take k)+pw k*xs.getD k 0:=by
 rw[wK hk,val_append,eY,ik (by omega),bG,dx hk];simp[val]
theorem dD(xs:List Nat)(k:Nat)(hk:k<=xs.length):val xs=val (xs.take k)+pw k*val (xs.drop k):=by
 have h:=val_append (xs.take k) (xs.drop k);rw[List.take_append_drop,eY,ik hk] at h;exact h
theorem bZ(xs:List Nat)(k:Nat)(hk:k<xs.length):val (xs.drop k)=xs.getD k 0+4294967296*val (xs.drop (k+1)):=by
 rw[Gv hk,val,bG,dx hk];rfl
theorem bN(xs:List Nat)(h:Wf xs):val xs<pw xs.length:=by
 induction xs with
 | nil=>simp[val,iQ]
 | cons x xs ih =>
   have h1:=ih h.tail;have h2:=h.head;simp only[val,nK,bz];omega
def ws(n:Nat):List Nat:=if h:n=0 then[] else n%4294967296::ws (n/4294967296)
termination_by n
decreasing_by omega
theorem bI:ws 0=[]:=by rw[ws];simp
theorem nT(n:Nat)(h:n≠0):ws n=n%4294967296::ws (n/4294967296):=by rw[ws];simp[h]
theorem au(n:Nat):val (ws n)=n:=by
 induction n using Nat.strongRecOn with
 | _ n ih =>
   by_cases h:n=0
   · subst h;simp[bI,val]
   · rw[nT n h,val,ih (n/4294967296) (by omega)];omega
theorem fJ(n:Nat):Wf (ws n):=by
 induction n using Nat.strongRecOn with
 | _ n ih =>
   by_cases h:n=0
   · subst h;rw[bI];exact Wf.nil
   · rw[nT n h];exact Wf.cons (by omega) (ih _ (by omega))
def nl:List Nat->Nat
 | []=>0
 | x::xs=>if nl xs=0/\x=0 then 0 else nl xs+1
theorem jK(xs:List Nat):nl xs<=xs.length:=by
 induction xs with
 | nil=>simp[nl]
 | cons x xs ih=>simp only[nl,nK];split <;> omega
theorem iM(xs:List Nat):nl xs=0↔val xs=0:=by
 induction xs with
 | nil=>simp[nl,val]
 | cons x xs ih=>simp only[nl,val];split <;> omega
theorem oV(xs:List Nat)(h:Wf xs):xs.take (nl xs)=ws (val xs):=by
 induction xs with
 | nil=>simp[nl,val,bI]
 | cons x xs ih =>
   have h1:=ih h.tail;have h2:=h.head
   by_cases h3:nl xs=0/\x=0
   · have h4:=(iM xs).1 h3.1;simp[nl,h3,val,h4,bI]
   · have h5:val (x::xs)≠0:=by
      intro h6;simp only[val] at h6;exact h3 ⟨(iM xs).2 (by omega),by omega⟩
     rw[nT _ h5];simp only[nl,if_neg h3,val,List.take_succ_cons];rw[show(x+4294967296*val xs)%4294967296=x by omega,show(x+4294967296*val xs)/4294967296=val xs by omega,h1]
theorem fO(xs:List Nat)(h:Wf xs):nl xs=(ws (val xs)).length:=by
 rw[<-oV xs h,eY,ik (jK xs)]
theorem ko(xs:List Nat)(h:Wf xs):val (xs.take (nl xs))=val xs:=by rw[oV xs h,au]
theorem JD(n:Nat):nl (ws n)=(ws n).length:=by rw[fO _ (fJ n),au]
theorem aL(n k:Nat):(ws n).length<=k↔n<pw k:=by
 constructor
 · intro h;have h1:=bN (ws n) (fJ n);rw[au] at h1;exact fZ h1 (jO h)
 · intro h
   induction k generalizing n with
   | zero=>rw[iQ] at h;obtain rfl:n=0:=by omega
           simp[bI]
   | succ k ih =>
     by_cases h0:n=0
     · subst h0;simp[bI]
     · rw[nT n h0,nK];rw[bz] at h;have:=ih (n/4294967296) (by omega);omega
theorem K9(n k:Nat)(h1:pw k<=n)(h2:n<pw (k+1)):(ws n).length=k+1:=by
 have a:=(aL n (k+1)).2 h2;have b:¬ (ws n).length<=k:=fun h=>by have:=(aL n k).1 h;omega
 omega
theorem sH(n:Nat)(h:n≠0):pw ((ws n).length-1)<=n:=by
 have h1:¬ (ws n).length<=(ws n).length-1:=by
  have:(ws n).length≠0:=by rw[nT n h];simp
  omega
 rw[aL] at h1;omega
theorem gz(n:Nat):n<pw (ws n).length:=(aL n _).1 (ak _)
theorem bE(n:Nat):(ws n).length=0↔n=0:=by
 constructor
 · intro h;have:=gz n;rw[h,iQ] at this;omega
 · intro h;subst h;simp[bI]
theorem vM(xs:List Nat)(k:Nat)(hk:k<=xs.length)(h0:∀ j,k<=j->j<xs.length->xs.getD j 0=0)(h1:k=0\/xs.getD (k-1) 0≠0):nl xs=k:=by
 induction xs generalizing k with
 | nil=>simp at hk;simp[nl,hk]
 | cons x xs ih =>
   cases k with
   | zero =>
     have hx:=h0 0 (by omega) (by simp);have:nl xs=0:=ih 0 (by omega) (fun j _ hj=>by have:=h0 (j+1) (by omega) (by simp;omega);simpa using this) (.inl rfl);simp at hx;simp[nl,this,hx]
   | succ k =>
     cases k with
     | zero =>
       have:nl xs=0:=ih 0 (by omega) (fun j _ hj=>by have:=h0 (j+1) (by omega) (by simp;omega);simpa using this) (.inl rfl);simp at h1;simp[nl,this,h1]
     | succ k =>
       have:nl xs=k+1:=ih (k+1) (by simpa using hk) (fun j hj hj2=>by have:=h0 (j+1) (by omega) (by simp;omega);simpa using this) (.inr (by simpa using h1));simp[nl,this]
theorem JE(xs:List Nat)(h:nl xs≠0):xs.getD (nl xs-1) 0≠0:=by
 induction xs with
 | nil=>simp[nl] at h
 | cons x xs ih =>
   by_cases h1:nl xs=0
   · have hx:x≠0:=by intro hx;simp[nl,h1,hx] at h
     simp[nl,h1,hx]
   · have h2:¬ (nl xs=0/\x=0):=by omega
     have:=ih h1;simp only[nl,if_neg h2];obtain⟨m,hm⟩:∃ m,nl xs=m+1:=⟨nl xs-1,by omega⟩;rw[hm] at this |-;simpa using this
end
section
open Go.RowKit
theorem hid{p:Prop}(h:p):Hid p:=h
def U(n:Nat):Value:=.int .u32 (n:Int)
def Own(w:World)(g:Nat)(L:List Nat):Prop:=w.heap[g]?=some (.cells (L.map U).toArray 162 (0,0))
theorem Own.lt{w:World}{g:Nat}{L:List Nat}(h:Own w g L):g<w.heap.size:=(eZ.1 h).1
theorem Own.cell{w:World}{g:Nat}{L:List Nat}(h:Own w g L)(i:Nat)(hi:i<L.length):w.cell? ⟨g,i,none⟩=some (.int .u32 ((L.getD i 0:Nat):Int)):=by
 unfold Own at h;simp[World.cell?,h,U,hi]
theorem Own.frozen{w:World}{g:Nat}{L:List Nat}(h:Own w g L)(i:Nat):w.frozen? ⟨g,i,none⟩=false:=by
 unfold Own at h;simp[World.frozen?,h]
theorem Own.set{w:World}{g:Nat}{L:List Nat}(h:Own w g L)(i x:Nat):Own (w.setCell ⟨g,i,none⟩ (.int .u32 (x:Int))) g (L.set i x):=by
 unfold Own at h |-;simp only[World.setCell,gN,h];simp[U,wL]
theorem Own.setOther{w:World}{g:Nat}{L:List Nat}(h:Own w g L){a:Addr}(ha:a.block≠g)(u:Value):Own (w.setCell a u) g L:=by
 unfold Own at h |-;rw[Below.heap_setCell _ _ _ _ (fun e=>ha e.symm)];exact h
theorem Own.alloc{w:World}{g:Nat}{L:List Nat}(h:Own w g L)(o:Obj):Own (w.alloc o) g L:=by
 have:=h.lt;unfold Own at h |-;rw[Below.heap_alloc _ _ _ this];exact h
theorem Own.drew{w:World}{g:Nat}{L:List Nat}(h:Own w g L):Own w.drew g L:=h
theorem Own.below{w w':World}{g B:Nat}{L:List Nat}(h:Own w g L)(hb:Below B w w')(hg:g<B):Own w' g L:=by
 unfold Own at h |-;rw[hb.block g hg];exact h
structure But (g:Nat) (w w':World):Prop where
 os:w'.os=w.os
 tape:w'.tape=w.tape
 output:w'.output=w.output
 size:w.heap.size<=w'.heap.size
 block:∀ k,k<w.heap.size->k≠g->w'.heap[k]?=w.heap[k]?
theorem But.refl(g:Nat)(w:World):But g w w:=⟨rfl,rfl,rfl,ak _,fun _ _ _=>rfl⟩
theorem But.trans{g:Nat}{a b c:World}(h:But g a b)(k:But g b c):But g a c :=
 ⟨k.os.trans h.os,k.tape.trans h.tape,k.output.trans h.output,dz h.size k.size,fun i hi hg=>(k.block i (fZ hi h.size) hg).trans (h.block i hi hg)⟩
theorem But.drew{g:Nat}{a w:World}(h:But g a w):But g a w.drew:=⟨h.os,h.tape,h.output,h.size,h.block⟩
theorem But.set{g:Nat}{a w:World}(h:But g a w)(i:Nat)(u:Value):But g a (w.setCell ⟨g,i,none⟩ u) :=
 h.trans ⟨rfl,rfl,rfl,by simp[World.setCell],fun k _ hk=>Below.heap_setCell _ _ _ _ hk⟩
theorem But.of_below{g:Nat}{a w w':World}(h:But g a w)(hb:Below w.heap.size w w'):But g a w' :=
 h.trans ⟨hb.os,hb.tape,hb.output,hb.size,fun k hk _=>hb.block k hk⟩
theorem But.below{g B:Nat}{a w w':World}(h:Below B a w)(hb:But g w w')(hB:B<=w.heap.size)(hg:B<=g):Below B a w' :=
 h.trans ⟨hb.os,hb.tape,hb.output,hb.size,fun k hk=>hb.block k (by omega) (by omega)⟩
def Rd(B:Nat)(w:World)(ao:Option Addr)(xs:List Nat):Prop :=
 xs≠[]->∃ b off,b<B/\ao=some ⟨b,off,none⟩/\∀ i,i<xs.length->w.cell? ⟨b,off+i,none⟩=some (.int .u32 ((xs.getD i 0:Nat):Int))
theorem Rd.nil(B:Nat)(w:World)(ao:Option Addr):Rd B w ao []:=fun h=>absurd rfl h
theorem Qak{P:Prop}(h:P:=by
 intro hx;obtain⟨b,off,hlt,rfl,hc⟩:=h hx;exact⟨b,off,hlt,rfl,fun i hi=>(hb.cell (p:=⟨b,off+i,none⟩) hlt).trans (hc i hi)⟩):P:=h
theorem Rd.below{B:Nat}{w w':World}{ao:Option Addr}{xs:List Nat}(h:Rd B w ao xs)(hb:Below B w w'):Rd B w' ao xs:=by
 exact Qak
theorem Rd.but{B g:Nat}{w w':World}{ao:Option Addr}{xs:List Nat}(h:Rd B w ao xs)(hb:But g w w')(hB:B<=w.heap.size)(hg:B<=g):Rd B w' ao xs :=
 h.below (But.below (ay _ _) hb hB hg)
theorem Qbp{P:Prop}(h:P:=by
 intro hx;obtain⟨b,off,hlt,rfl,hc⟩:=h hx;exact⟨b,off,by omega,rfl,hc⟩):P:=h
theorem Rd.mono{B B':Nat}{w:World}{ao:Option Addr}{xs:List Nat}(h:Rd B w ao xs)(hB:B<=B'):Rd B' w ao xs:=by
 exact Qbp
theorem Rd.take{B:Nat}{w:World}{ao:Option Addr}{xs:List Nat}(h:Rd B w ao xs)(k:Nat):Rd B w ao (xs.take k):=by
 intro hx;have hx':xs≠[]:=by intro e;subst e;simp at hx
 obtain⟨b,off,hlt,rfl,hc⟩:=h hx';refine⟨b,off,hlt,rfl,fun i hi=>?_⟩;simp only[eY] at hi;rw[hc i (by omega)];simp[bG,show i<k by omega]
theorem Rd.gm{w:World}{g:Nat}{L:List Nat}(h:Own w g L)(off n:Nat):Rd (g+1) w (some ⟨g,off,none⟩) ((L.drop off).take n):=by
 intro _;refine⟨g,off,by omega,rfl,fun i hi=>?_⟩;simp only[eY,nL] at hi;rw[h.cell _ (by omega)];simp[bG,show i<n by omega]
def Nt(lo:Nat)(w:World)(v:Value)(X:Nat):Prop:=w.ownsRow lo 162 1 v (ws X).length ((ws X).map U)
theorem Nt.nil(lo:Nat)(w:World):Nt lo w (.slice none 0 0) 0:=by
 unfold Nt;rw[bI];exact Bu _ _ _ _
theorem Nt.gm{lo:Nat}{w:World}{g:Nat}{L:List Nat}(h:Own w g L)(hlo:lo<=g)(hL:Wf L)(hm:L.length<=maxLen) :
 Nt lo w (.slice (some ⟨g,0,none⟩) (nl L) L.length) (val L):=by
 unfold Nt;have e:=oV L hL;have hn:=jK L;rw[<-e];refine⟨by simp,.inr ⟨g,L.length,(L.map U).toArray,?_,hlo,h,?_,hm,by simp,by simp⟩⟩
 · simp[ik hn]
 · simp;omega
theorem Nt.shape{lo:Nat}{w:World}{v:Value}{X:Nat}(h:Nt lo w v X):∃ ao cap,v=.slice ao (ws X).length cap/\(ws X).length<=cap/\cap<=maxLen/\Rd w.heap.size w ao (ws X):=by
 rcases h.2 with ⟨rfl,h0⟩|⟨g,cap,cur,rfl,hlo,hg,hn,hm,hs,ht⟩
 · refine⟨none,0,by rw[h0],by omega,by unfold maxLen;omega,?_⟩;have:ws X=[]:=Gw.1 h0;rw[this];exact Rd.nil _ _ _
 · refine⟨_,cap,rfl,hn,hm,fun _=>⟨g,0,(eZ.1 hg).1,rfl,fun i hi=>?_⟩⟩;have:=h.cells (g:=g) (by simp[Value.ownBlock]) i (U ((ws X).getD i 0)) (by simp[hi]);have e:(⟨g,0,none⟩:Addr).add i=⟨g,0+i,none⟩:=by unfold Addr.add;split <;> simp_all
   rw[e] at this;simpa [U] using this
theorem Nt.below{lo:Nat}{w w':World}{v:Value}{X:Nat}(h:Nt lo w v X)(hb:Below w.heap.size w w'):Nt lo w' v X:=by
 refine⟨h.1,?_⟩;rcases h.2 with hn|⟨g,cap,cur,rfl,hlo,hg,rest⟩
 · exact .inl hn
 · refine .inr ⟨g,cap,cur,rfl,hlo,?_,rest⟩;rw[hb.block g (eZ.1 hg).1];exact hg
theorem Qal{P:Prop}(h:P:=by
 refine⟨h.1,?_⟩;rcases h.2 with hn|⟨g,cap,cur,rfl,hlo,rest⟩
 · exact .inl hn
 · exact .inr ⟨g,cap,cur,rfl,by omega,rest⟩):P:=h
theorem Nt.mono{lo lo':Nat}{w:World}{v:Value}{X:Nat}(h:Nt lo w v X)(hl:lo'<=lo):Nt lo' w v X:=by
 exact Qal
theorem Tryz.vN:(Tryz.prog.info? 162).map (fun i=>(i.zero,i.size,i.bytes))=some (some (.int .u32 0),1,4):=by kernel_rfl
def Fs(B:Nat)(w:World)(ao:Option Addr)(xs:List Nat):Prop :=
 xs≠[]->∃ b off,b<B/\ao=some ⟨b,off,none⟩/\∀ i,i<xs.length->w.cell? ⟨b,off+i,none⟩=some (.float .f64 (xs.getD i 0))
theorem Fs.at{B:Nat}{w w':World}{ao:Option Addr}{xs:List Nat}(h:Fs B w ao xs)(hb:Below B w w')(i:Nat)(hi:i<xs.length):∃ b off,ao=some ⟨b,off,none⟩/\w'.cell? ⟨b,off+i,none⟩=some (.float .f64 (xs.getD i 0)):=by
 obtain⟨b,off,h1,h2,h3⟩:=h (by intro e;subst e;simp at hi);exact⟨b,off,h2,(hb.cell (p:=⟨b,off+i,none⟩) h1).trans (h3 i hi)⟩
theorem Fs.below{B:Nat}{w w':World}{ao:Option Addr}{xs:List Nat}(h:Fs B w ao xs)(hb:Below B w w'):Fs B w' ao xs:=by
 intro hne;obtain⟨b,off,h1,h2,h3⟩:=h hne;exact⟨b,off,h1,h2,fun i hi=>(hb.cell (p:=⟨b,off+i,none⟩) h1).trans (h3 i hi)⟩
theorem Fs.mono{B B':Nat}{w:World}{ao:Option Addr}{xs:List Nat}(h:Fs B w ao xs)(hb:B<=B'):Fs B' w ao xs:=by
 intro hne;obtain⟨b,off,h1,h2,h3⟩:=h hne;exact⟨b,off,fZ h1 hb,h2,h3⟩
theorem Fs.nil(B:Nat)(w:World)(ao:Option Addr):Fs B w ao []:=fun h=>absurd rfl h
def ja(xs:List Nat):Prop:=∀ x ∈ xs,x<18446744073709551616
theorem ja.get{xs:List Nat}(h:ja xs)(i:Nat):xs.getD i 0<18446744073709551616:=by
 by_cases hi:i<xs.length
 · rw[bG,dx hi];exact h _ (kR hi)
 · rw[bG,nJ (by omega)];simp
theorem XS{P:Prop}(h:P:=by
 exact⟨rfl,rfl⟩):P:=h
theorem Xs{P:Prop}(h:P:=by
 go_ret;exact⟨rfl,rfl⟩):P:=h
theorem dU(xs:List Nat)(ao:Option Addr)(n cap B:Nat)(w:World)(hn:n=xs.length)(hc:n<=cap)(hm:n<=9223372036854775807)(hR:Rd B w ao xs) :
 Calls Tryz.prog 129 #[.slice ao n cap] w fun r w'=>r=.returned (.slice ao (nl xs) cap)/\w'=w:=by
 by_cases hx:xs=[]
 · subst hx;simp at hn;subst hn;go_enter Tryz.func129,Tryz.ntmps129;go_wp2
   go_loopg [0] 0 (fun g s wr=>s=.slice ao 0 cap/\wr=w)
   case atStart=>exact XS
   case round =>
    obtain⟨rfl,rfl⟩:=hrel;go_wp2;exact Xs
 · obtain⟨b,off,hB,rfl,hcell⟩:=hR hx;have HN:Aside (n=xs.length):=hn;clear hn hR hx;go_enter Tryz.func129,Tryz.ntmps129;go_wp2
   go_loopg [0] n (fun g s wr=>g<=n/\s=.slice (some ⟨b,off,none⟩) g cap/\wr=w/\Aside (∀ j,g<=j->j<n->xs.getD j 0=0))
   case atStart=>exact⟨ak _,rfl,rfl,fun j h1 h2=>by omega⟩
   case round =>
    obtain⟨hk,rfl,rfl,hz⟩:=hrel
    by_cases hk0:gk=0
    · subst hk0;go_wp2;go_ret;rw[vM xs 0 (by omega) (fun j h1 h2=>hz.o j h1 (by have:=HN.o;omega)) (.inl rfl)];exact XS
    · obtain⟨k,rfl⟩:∃ k,gk=k+1:=⟨gk-1,by omega⟩;have hcx:=hcell k (by have:=HN.o;omega);obtain⟨x,eD⟩:∃ x:Nat,xs.getD k 0=x:=⟨_,rfl⟩;rw[eD] at hcx;have HX:Aside (xs.getD k 0=x):=eD;clear eD hcell hk0
      by_cases h0:x=0
      · subst h0;go_wp2;go_roundg k
        case measure=>omega
        case rel =>
         refine⟨by omega,rfl,rfl,fun j h1 h2=>?_⟩
         by_cases hj:j=k
         · subst hj;exact HX.o
         · exact hz.o j (by omega) h2
      · go_wp2;go_ret;rw[vM xs (k+1) (by have:=HN.o;omega) (fun j h1 h2=>hz.o j h1 (by have:=HN.o;omega)) (.inr (by have:=HX.o;rw[lZ,this];exact h0))];exact XS
theorem nU(xs:List Nat)(ao:Option Addr)(n cap B:Nat)(w:World)(hn:n=xs.length)(hm:n<=9223372036854775807)(hR:Rd B w ao xs) :
 Calls Tryz.prog 168 #[.slice ao n cap] w fun r w'=>r=.returned (.int .i64 (nl xs:Nat))/\w'=w:=by
 by_cases hx:xs=[]
 · subst hx;simp at hn;subst hn;go_enter Tryz.func168,Tryz.ntmps168;go_wp2
   go_loopg [3] 0 (fun g s wr=>s=.int .i64 0/\wr=w)
   case atStart=>exact XS
   case round =>
    obtain⟨rfl,rfl⟩:=hrel;go_wp2;exact Xs
 · obtain⟨b,off,hB,rfl,hcell⟩:=hR hx;have HN:Aside (n=xs.length):=hn;clear hn hR hx;go_enter Tryz.func168,Tryz.ntmps168;go_wp2
   go_loopg [3] n (fun g s wr=>g<=n/\s=.int .i64 (g:Nat)/\wr=w/\Aside (∀ j,g<=j->j<n->xs.getD j 0=0))
   case atStart=>exact⟨ak _,rfl,rfl,fun j h1 h2=>by omega⟩
   case round =>
    obtain⟨hk,rfl,rfl,hz⟩:=hrel
    by_cases hk0:gk=0
    · subst hk0;go_wp2;go_ret;rw[vM xs 0 (by omega) (fun j h1 h2=>hz.o j h1 (by have:=HN.o;omega)) (.inl rfl)];exact XS
    · obtain⟨k,rfl⟩:∃ k,gk=k+1:=⟨gk-1,by omega⟩;have hcx:=hcell k (by have:=HN.o;omega);obtain⟨x,eD⟩:∃ x:Nat,xs.getD k 0=x:=⟨_,rfl⟩;rw[eD] at hcx;have HX:Aside (xs.getD k 0=x):=eD;clear eD hcell hk0
      by_cases h0:x=0
      · subst h0;go_wp2;go_roundg k
        case measure=>omega
        case rel =>
         refine⟨by omega,by go_num,rfl,fun j h1 h2=>?_⟩
         by_cases hj:j=k
         · subst hj;exact HX.o
         · exact hz.o j (by omega) h2
      · go_wp2;go_ret;rw[vM xs (k+1) (by have:=HN.o;omega) (fun j h1 h2=>hz.o j h1 (by have:=HN.o;omega)) (.inr (by have:=HX.o;rw[lZ,this];exact h0))];exact XS
theorem o7(n:Int):IntKind.u32.wrap n=n%4294967296:=by simp[IntKind.wrap,IntKind.signed,IntKind.bits]
theorem ofInt32(a:Nat)(ha:a<4294967296):(BitVec.ofInt 32 (a:Int)).toNat=a:=by
 rw[BitVec.ofInt_natCast,BitVec.toNat_ofNat];exact iY (by omega)
theorem JF(a b:Nat)(ha:a<4294967296)(hb:b<4294967296):bits .and .u32 (a:Int) (b:Int)=((a &&& b:Nat):Int):=by
 have hx:a &&& b<2^32:=Nat.and_lt_two_pow _ (by omega);show IntKind.u32.wrap ((BitVec.ofInt 32 (a:Int) &&& BitVec.ofInt 32 (b:Int)).toNat:Int)=_;rw[BitVec.toNat_and,ofInt32 a ha,ofInt32 b hb,o7];omega
theorem or32(a b:Nat)(ha:a<4294967296)(hb:b<4294967296):bits .or .u32 (a:Int) (b:Int)=((a ||| b:Nat):Int):=by
 have hx:a ||| b<2^32:=Nat.or_lt_two_pow (by omega) (by omega)
 show IntKind.u32.wrap ((BitVec.ofInt 32 (a:Int) ||| BitVec.ofInt 32 (b:Int)).toNat:Int)=_;rw[BitVec.toNat_or,ofInt32 a ha,ofInt32 b hb,o7];omega
theorem jn{P:Prop}(h:P:=by
 have hx:a ^^^ b<2^32:=Nat.xor_lt_two_pow (by omega) (by omega);show IntKind.u32.wrap ((BitVec.ofInt 32 (a:Int) ^^^ BitVec.ofInt 32 (b:Int)).toNat:Int)=_;rw[BitVec.toNat_xor,ofInt32 a ha,ofInt32 b hb,o7];omega):P:=h
theorem Ph(a b:Nat)(ha:a<4294967296)(hb:b<4294967296):bits .xor .u32 (a:Int) (b:Int)=((a ^^^ b:Nat):Int):=by
 exact jn
theorem GK(x y c d:Nat)(hx:x<4294967296)(hy:y<4294967296)(hc:c<=1)(hd:(d:Int)=((x:Int)-y-c)%4294967296) :
 (((4294967295 ^^^ x) &&& y) ||| ((4294967295 ^^^ (x ^^^ y)) &&& d))/2147483648=if x<y+c then 1 else 0:=by
 have e:∀ n:Nat,n/2147483648=n >>> 31:=fun n=>by rw[Nat.shiftRight_eq_div_pow]
 rw[e,Nat.shiftRight_or_distrib,Nat.shiftRight_and_distrib,Nat.shiftRight_and_distrib,Gx,Gx,Gx,<-e,<-e,<-e,<-e];have hd2:d<4294967296:=by omega
 have h1:x/2147483648=0\/x/2147483648=1:=by omega
 have h2:y/2147483648=0\/y/2147483648=1:=by omega
 have h3:d/2147483648=0\/d/2147483648=1:=by omega
 rw[show 4294967295/2147483648=1 from rfl];rcases h1 with h1|h1 <;> rcases h2 with h2|h2 <;> rcases h3 with h3|h3 <;> rw[h1,h2,h3] <;> split <;> first|rfl|(exfalso;omega)
theorem GL(x y c:Nat)(hx:x<4294967296)(hy:y<4294967296)(hc:c<=1) :
 bits BinOp.or IntKind.u32 (bits BinOp.and IntKind.u32 (bits BinOp.xor IntKind.u32 IntKind.u32.max x) y)
  (bits BinOp.and IntKind.u32
   (bits BinOp.xor IntKind.u32 IntKind.u32.max (bits BinOp.xor IntKind.u32 x y))
   (((x:Int)-y-c)%4294967296)) /
  2147483648=((if x<y+c then 1 else 0:Nat):Int):=by
 obtain⟨d,hd⟩:∃ d:Nat,(d:Int)=((x:Int)-y-c)%4294967296:=⟨(((x:Int)-y-c)%4294967296).toNat,by omega⟩;have hd2:d<4294967296:=by omega
 have hm:IntKind.u32.max=((4294967295:Nat):Int):=by decide
 have hn:∀ a b:Nat,a<4294967296->b<4294967296->a ^^^ b<4294967296:=fun a b ha hb=>Nat.xor_lt_two_pow (n:=32) ha hb;have ha:∀ a b:Nat,b<4294967296->a &&& b<4294967296:=fun a b hb=>Nat.and_lt_two_pow (n:=32) a hb
 rw[hm,Ph x y hx hy,Ph _ _ (by decide) hx,Ph _ _ (by decide) (hn _ _ hx hy),JF _ _ (hn _ _ (by decide) hx) hy,<-hd,JF _ _ (hn _ _ (by decide) (hn _ _ hx hy)) hd2,
  or32 _ _ (ha _ _ hy) (ha _ _ hd2),<-GK x y c d hx hy hc hd]
 omega
theorem Lb(x y c:Int)(w:World)(hx:0<=x)(hx2:x<4294967296)(hy:0<=y)(hy2:y<4294967296)(hc:0<=c)(hc2:c<=1) :
 Calls Tryz.prog 221 #[.int .u32 x,.int .u32 y,.int .u32 c] w fun r w'=>r=.returned (.tuple #[.int .u32 ((x+y+c)%4294967296),.int .u32 ((x+y+c)/4294967296)])/\w'=w:=by
 go_enter Tryz.func221,Tryz.ntmps221;go_wp2
 go_ret2
 exact⟨rfl,rfl⟩
theorem Lc(x y c s d:Nat)(w:World)(hx:x<4294967296)(hy:y<4294967296)(hc:c<=1)(hs:s=(x+y+c)%4294967296)(hd:d=(x+y+c)/4294967296) :
 Calls Tryz.prog 221 #[.int .u32 (x:Int),.int .u32 (y:Int),.int .u32 (c:Int)] w fun r w'=>r=.returned (.tuple #[.int .u32 (s:Int),.int .u32 (d:Int)])/\w'=w:=by
 have h:=Lb x y c w (by omega) (by omega) (by omega) (by omega) (by omega) (by omega);rw[show((x:Int)+y+c)%4294967296=(s:Int) by omega,show((x:Int)+y+c)/4294967296=(d:Int) by omega] at h;exact h
theorem Ld (x y c bo:Int) (w:World) (hx:0<=x) (hx2:x<4294967296) (hy:0<=y) (hy2:y<4294967296) (hc:0<=c) (hc2:c<=1)
 (hb:bits BinOp.or IntKind.u32 (bits BinOp.and IntKind.u32 (bits BinOp.xor IntKind.u32 IntKind.u32.max x) y)
  (bits BinOp.and IntKind.u32
   (bits BinOp.xor IntKind.u32 IntKind.u32.max (bits BinOp.xor IntKind.u32 x y))
   ((x-y-c)%4294967296)) /
  2147483648=bo) :
 Calls Tryz.prog 209 #[.int .u32 x,.int .u32 y,.int .u32 c] w fun r w'=>r=.returned (.tuple #[.int .u32 ((x-y-c)%4294967296),.int .u32 bo])/\w'=w:=by
 go_enter Tryz.func209,Tryz.ntmps209;go_wp2
 all_goals first | (go_ret2;exact⟨rfl,rfl⟩) | skip
theorem zB(x y c s d:Nat)(w:World)(hx:x<4294967296)(hy:y<4294967296)(hc:c<=1)(hs:(s:Int)=((x:Int)-y-c)%4294967296)(hd:d=if x<y+c then 1 else 0) :
 Calls Tryz.prog 209 #[.int .u32 (x:Int),.int .u32 (y:Int),.int .u32 (c:Int)] w fun r w'=>r=.returned (.tuple #[.int .u32 (s:Int),.int .u32 (d:Int)])/\w'=w:=by
 have h:=Ld x y c d w (by omega) (by omega) (by omega) (by omega) (by omega) (by omega) (by rw[GL x y c hx hy hc,<-hd]);rw[<-hs] at h;exact h
theorem xk(n:Nat)(ao:Option Addr)(cap:Nat)(w:World) :
 Calls Tryz.prog 130 #[.slice ao n cap] w fun r w'=>r=.returned (.bool (decide ((8192:Int)<(n:Int))))/\w'=w:=by
 go_enter Tryz.func130,Tryz.ntmps130;go_wp2;go_ret;exact⟨rfl,rfl⟩
theorem nV(n:Nat)(ao:Option Addr)(cap:Nat)(w:World) :
 Calls Tryz.prog 176 #[.slice ao n cap] w fun r w'=>r=.returned (if 8192<n then .tuple #[.slice none 0 0,.int .i64 2] else .tuple #[.slice ao n cap,.int .i64 0])/\w'=w:=by
 by_cases h:8192<n
 · rw[if_pos h];have hl:=xk n ao cap;have h':(8192:Int)<(n:Int):=by omega
   simp only[h',decide_true] at hl;have H:Hid (∀ w,_):=hl;clear hl;go_enter Tryz.func176,Tryz.ntmps176;go_wp2_with fail;refine(H.o _).mono ?_;rintro r w1 ⟨rfl,rfl⟩;go_wp2
   go_ret2
   exact XS
 · rw[if_neg h];have hl:=xk n ao cap;have h':¬ (8192:Int)<(n:Int):=by omega
   simp only[h',decide_false] at hl;have H:Hid (∀ w,_):=hl;clear hl;go_enter Tryz.func176,Tryz.ntmps176;go_wp2_with fail;refine(H.o _).mono ?_;rintro r w1 ⟨rfl,rfl⟩;go_wp2
   go_ret2
   exact XS
theorem Uh(x:Int)(w:World):Calls Tryz.prog 159 #[.int .i64 x] w fun r w'=>r=.returned (.bool false)/\w'=w:=by
 go_enter Tryz.func159,Tryz.ntmps159;go_wp2;exact Xs
theorem Ui(x:Int)(w:World):Calls Tryz.prog 208 #[.int .u32 x] w fun r w'=>r=.returned (.bool false)/\w'=w:=by
 go_enter Tryz.func208,Tryz.ntmps208;go_wp2;exact Xs
def aW(x y:Nat):Int:=if x<y then -1 else if y<x then 1 else 0
theorem Lg(x y:Nat)(w:World):Calls Tryz.prog 100 #[.int .i64 (x:Int),.int .i64 (y:Int)] w fun r w'=>r=.returned (.int .i64 (aW x y))/\w'=w:=by
 have H:Hid (∀ x w,_):=Uh
 by_cases h:x<y
 · have e:aW x y=-1:=by simp[aW,h]
   rw[e];clear e;go_enter Tryz.func100,Tryz.ntmps100;go_wp2_with fail;refine(H.o _ _).mono ?_;rintro r w1 ⟨rfl,rfl⟩;go_wp2_with fail;refine(H.o _ _).mono ?_;rintro r w1 ⟨rfl,rfl⟩;go_wp2;exact Xs
 · by_cases h2:y<x
   · have e:aW x y=1:=by simp[aW,h,h2]
     rw[e];clear e;go_enter Tryz.func100,Tryz.ntmps100;go_wp2_with fail;refine(H.o _ _).mono ?_;rintro r w1 ⟨rfl,rfl⟩;go_wp2_with fail;refine(H.o _ _).mono ?_;rintro r w1 ⟨rfl,rfl⟩;go_wp2;exact Xs
   · have e:aW x y=0:=by simp[aW,h,h2]
     rw[e];clear e;go_enter Tryz.func100,Tryz.ntmps100;go_wp2_with fail;refine(H.o _ _).mono ?_;rintro r w1 ⟨rfl,rfl⟩;go_wp2_with fail;refine(H.o _ _).mono ?_;rintro r w1 ⟨rfl,rfl⟩;go_wp2;exact Xs
theorem zC(x y:Nat)(w:World):Calls Tryz.prog 179 #[.int .u32 (x:Int),.int .u32 (y:Int)] w fun r w'=>r=.returned (.int .i64 (aW x y))/\w'=w:=by
 have H:Hid (∀ x w,_):=Ui
 by_cases h:x<y
 · have e:aW x y=-1:=by simp[aW,h]
   rw[e];clear e;go_enter Tryz.func179,Tryz.ntmps179;go_wp2_with fail;refine(H.o _ _).mono ?_;rintro r w1 ⟨rfl,rfl⟩;go_wp2_with fail;refine(H.o _ _).mono ?_;rintro r w1 ⟨rfl,rfl⟩;go_wp2;exact Xs
 · by_cases h2:y<x
   · have e:aW x y=1:=by simp[aW,h,h2]
     rw[e];clear e;go_enter Tryz.func179,Tryz.ntmps179;go_wp2_with fail;refine(H.o _ _).mono ?_;rintro r w1 ⟨rfl,rfl⟩;go_wp2_with fail;refine(H.o _ _).mono ?_;rintro r w1 ⟨rfl,rfl⟩;go_wp2;exact Xs
   · have e:aW x y=0:=by simp[aW,h,h2]
     rw[e];clear e;go_enter Tryz.func179,Tryz.ntmps179;go_wp2_with fail;refine(H.o _ _).mono ?_;rintro r w1 ⟨rfl,rfl⟩;go_wp2_with fail;refine(H.o _ _).mono ?_;rintro r w1 ⟨rfl,rfl⟩;go_wp2;exact Xs
end
section
def sg(L:List Nat)(off k:Nat):Nat:=val ((L.drop off).take k)
theorem dF(L:List Nat)(off:Nat):sg L off 0=0:=by simp[sg,val]
theorem bA(L:List Nat)(off k:Nat)(h:off+k<L.length):sg L off (k+1)=sg L off k+pw k*L.getD (off+k) 0:=by
 unfold sg;rw[iB _ _ (by simp;omega)];simp[bG]
theorem kr(L:List Nat)(off k:Nat)(h:off<L.length):sg L off (k+1)=L.getD off 0+4294967296*sg L (off+1) k:=by
 unfold sg;rw[Gv h,List.take_succ_cons,val,bG,dx h];rfl
theorem dh(L:List Nat):sg L 0 L.length=val L:=by simp[sg]
theorem iH(L:List Nat)(off k m:Nat)(h:off+k+m<=L.length):sg L off (k+m)=sg L off k+pw k*sg L (off+k) m:=by
 induction m with
 | zero=>simp[dF]
 | succ m ih =>
   rw[<-mX,bA L off (k+m) (by omega),bA L (off+k) m (by omega),ih (by omega),sG,mY,<-mX off k m];simp only[aJ,mX]
theorem qW(L M:List Nat)(off k:Nat)(hl:M.length=L.length)(h:off+k<=L.length)(he:∀ j,off<=j->j<off+k->M.getD j 0=L.getD j 0):sg M off k=sg L off k:=by
 induction k with
 | zero=>simp[dF]
 | succ k ih=>rw[bA M off k (by omega),bA L off k (by omega),ih (by omega) (fun j h1 h2=>he j h1 (by omega)),he (off+k) (by omega) (by omega)]
theorem Dv(L:List Nat)(i j x:Nat):(L.set i x).getD j 0=if i=j/\j<L.length then x else L.getD j 0:=by
 simp only[bG,List.getElem?_set]
 by_cases h:i=j
 · subst h
   by_cases h2:i<L.length
   · simp[h2]
   · simp[h2]
 · simp[h]
theorem gD(L:List Nat)(i x:Nat)(h:i<L.length):(L.set i x).getD i 0=x:=by rw[Dv,if_pos ⟨rfl,h⟩]
theorem getD_set_ne(L:List Nat)(i j x:Nat)(h:i≠j):(L.set i x).getD j 0=L.getD j 0:=by rw[Dv,if_neg (fun e=>h e.1)]
theorem mI(L:List Nat)(off k i x:Nat)(h:off+k<=i)(hl:off+k<=L.length):sg (L.set i x) off k=sg L off k :=
 qW L _ off k (by simp) hl (fun j _ h2=>getD_set_ne _ _ _ _ (by omega))
theorem qX(L:List Nat)(off k i x:Nat)(h:i<off)(hl:off+k<=L.length):sg (L.set i x) off k=sg L off k :=
 qW L _ off k (by simp) hl (fun j h1 _=>getD_set_ne _ _ _ _ (by omega))
theorem bF(L:List Nat)(off k x:Nat)(h:off+k<L.length):sg (L.set (off+k) x) off (k+1)=sg L off k+pw k*x:=by
 rw[bA _ _ _ (by simp;omega),gD _ _ _ h,mI _ _ _ _ _ (by omega) (by omega)]
theorem nz(L:List Nat)(off k:Nat)(hw:Wf L)(h:off+k<=L.length):sg L off k<pw k:=by
 have:=bN _ ((hw.drop off).take k);simp only[eY,nL] at this;rw[ik (by omega)] at this;exact this
theorem jq(L:List Nat)(k:Nat):sg L 0 k=val (L.take k):=by simp[sg]
theorem xm(n i:Nat):(List.replicate n 0).getD i 0=0:=by
 simp only[bG,Gy];split <;> rfl
theorem qY(n off k:Nat):sg (List.replicate n 0) off k=0:=by
 unfold sg;rw[wM,List.take_replicate,jV]
def Out(L M:List Nat)(off n:Nat):Prop:=M.length=L.length/\∀ j,(j<off\/off+n<=j)->M.getD j 0=L.getD j 0
theorem Out.refl(L:List Nat)(off n:Nat):Out L L off n:=⟨rfl,fun _ _=>rfl⟩
theorem Out.set{L M:List Nat}{off n:Nat}(h:Out L M off n)(i x:Nat)(h1:off<=i)(h2:i<off+n):Out L (M.set i x) off n :=
 ⟨by simp[h.1],fun j hj=>by rw[getD_set_ne _ _ _ _ (by omega)];exact h.2 j hj⟩
theorem Out.mono{L M:List Nat}{off n k:Nat}(h:Out L M off n)(hk:n<=k):Out L M off k:=⟨h.1,fun j hj=>h.2 j (by omega)⟩
theorem Out.trans{L M K:List Nat}{off n:Nat}(h:Out L M off n)(k:Out M K off n):Out L K off n:=⟨k.1.trans h.1,fun j hj=>(k.2 j hj).trans (h.2 j hj)⟩
theorem Out.below{L M:List Nat}{off n:Nat}(h:Out L M off n)(a k:Nat)(h1:a+k<=off)(h2:a+k<=L.length):sg M a k=sg L a k:=qW L M a k h.1 h2 (fun j _ hj=>h.2 j (by omega))
theorem Out.above{L M:List Nat}{off n:Nat}(h:Out L M off n)(a k:Nat)(h1:off+n<=a)(h2:a+k<=L.length):sg M a k=sg L a k:=qW L M a k h.1 h2 (fun j hj _=>h.2 j (by omega))
theorem qD(p a b V c x y s d:Nat)(h:V+c*p=a+b)(e:s+d*4294967296=x+y+c):V+p*s+d*(4294967296*p)=(a+p*x)+(b+p*y):=by
 have:p*(s+d*4294967296)=p*(x+y+c):=by rw[e]
 grind
theorem jt{P:Prop}(h:P:=by
 obtain⟨d,rfl⟩:∃ d,n=k+d:=⟨n-k,by omega⟩;have h1:=iH M off k d (by rw[ho.1];omega);have h2:=iH L off k d (by omega);have h3:=ho.above (off+k) d (by omega) (by omega);rw[h1,h2,h3];omega):P:=h
theorem Pj{L M:List Nat}{off k n V:Nat}(hk:k<=n)(hn:off+n<=L.length)(ho:Out L M off k)(h:sg M off k=sg L off k+V):sg M off n=sg L off n+V:=by
 exact jt
theorem xn(p a b V c x y q s d:Nat)(h:V+c*p=a+b*q)(e:s+d*4294967296=y*q+x+c):V+p*s+d*(4294967296*p)=(a+p*x)+(b+p*y)*q:=by
 have:p*(s+d*4294967296)=p*(y*q+x+c):=by rw[e]
 grind
theorem sI(x y:Nat)(hx:x<4294967296)(hy:y<4294967296):x*y<=18446744065119617025:=by
 have:x*y<=4294967295*4294967295:=jG (by omega) (by omega);omega
theorem xw(p a b V c x y q s d:Nat)(h:V+b*q=a+c*p)(e:s+y*q+c=x+d*4294967296):V+p*s+(b+p*y)*q=(a+p*x)+d*(4294967296*p):=by
 have:p*(s+y*q+c)=p*(x+d*4294967296):=by rw[e]
 grind
theorem Pn(X Q q x d l l2:Nat)(h:X=Q*d+l)(e:l*4294967296+x=q*d+l2):x+4294967296*X=(q+4294967296*Q)*d+l2:=by
 subst h
 grind
theorem nW(p a b V c x y s d:Nat)(h:V+b=a+c*p)(e:s+y+c=x+d*4294967296):V+p*s+(b+p*y)=(a+p*x)+d*(4294967296*p):=by
 have:p*(s+y+c)=p*(x+d*4294967296):=by rw[e]
 grind
theorem Lh{L M:List Nat}{off k n V:Nat}(hk:k<=n)(hn:off+n<=L.length)(ho:Out L M off k)(h:sg M off k+V=sg L off k):sg M off n+V=sg L off n:=by
 exact jt
end
section
open Go.RowKit
theorem o8(l x:Nat)(hl:l<4294967296)(hx:x<4294967296):bits BinOp.or IntKind.u64 ((l:Int)*4294967296) (x:Int)=((l*4294967296+x:Nat):Int):=by
 have e:((l:Int)*4294967296)=((l*4294967296:Nat):Int):=by simp only[dK];rfl
 rw[e,bits_or_u64_nat _ _ (by omega) (by omega)];have:=Gz (i:=32) (b:=x) (by omega) l;have e2:2^32*l=l*4294967296:=by rw[bJ]
 rw[e2] at this;rw[this]
theorem Qbg{P:Prop}(h:P:=by
 go_wp2;go_ret;obtain⟨aR,eQ,hMs,aD⟩:=HA.o;exact⟨M,cv,rfl,hcv,HM.o,aR,eQ,hMs,aD⟩):P:=h
theorem Uj (L:List Nat) (g off n cap q:Nat) (w:World)
 (hO:Own w g L) (hoff:off+n<=L.length) (hcap:n<=cap) (hbig:n<=4611686018427387904) (hL:Wf L) (hq:q<4294967296) (hq0:0<q) :
 Calls Tryz.prog 223 #[.slice (some ⟨g,off,none⟩) n cap,.int .u32 (q:Nat)] w fun r w' =>
  ∃ M,∃ c:Nat,r=.returned (.int .u32 (c:Nat))/\c<q/\Own w' g M/\Wf M/\Out L M off n/\sg L off n=sg M off n*q+c/\But g w w':=by
 have HR:Aside (Wf L/\off+n<=L.length):=⟨hL,hoff⟩;have HO:Hid (Own w g L):=hO;clear hL hO hoff;go_enter Tryz.func223,Tryz.ntmps223;go_wp2
 go_loopg [5,6] n (fun k c i wr=>∃ (cv:Nat) (M:List Nat),k<=n/\c=.int .u64 (cv:Nat)/\cv<q/\i=.int .i64 ((k:Int)-1) /\
  Hid (Own wr g M)/\Aside (Wf M/\Out L M (off+k) (n-k)/\sg L (off+k) (n-k)=sg M (off+k) (n-k)*q+cv/\But g w wr))
 case atStart=>exact⟨0,L,ak _,rfl,hq0,rfl,HO,HR.o.1,Out.refl _ _ _,by simp[dF],But.refl _ _⟩
 case round =>
  obtain⟨cv,M,hk,rfl,hcv,rfl,HM,HA⟩:=hrel
  by_cases hk0:gk=0
  · subst hk0;exact Qbg
  · obtain⟨k,rfl⟩:∃ k,gk=k+1:=⟨gk-1,by omega⟩;obtain⟨hL,hoff⟩:=HR.o;obtain⟨aR,eQ,hMs,aD⟩:=HA.o;have hgc:=HM.o.cell (off+k) (by rw[eQ.1];omega);have hgf:=HM.o.frozen (off+k);obtain⟨x,hx⟩:∃ x:Nat,M.getD (off+k) 0=x:=⟨_,rfl⟩;have hxl:x<4294967296:=hx ▸ aR.get _;rw[hx] at hgc;obtain⟨t,ht⟩:∃ t:Nat,t=cv*4294967296+x:=⟨_,rfl⟩;have e1:bits BinOp.or IntKind.u64 ((cv:Int)*4294967296) (x:Int)=(t:Int):=by rw[o8 cv x (by omega) hxl,ht]
    have ht2:(t:Int)<18446744073709551616:=by omega
    have hqlt:t/q<4294967296:=by
     rw[wy hq0];have:cv*4294967296+4294967296<=q*4294967296:=by omega
     omega
    obtain⟨s,hs⟩:∃ s:Nat,s=t/q:=⟨_,rfl⟩;obtain⟨d,hd⟩:∃ d:Nat,d=t%q:=⟨_,rfl⟩;have e2:(t:Int)/(q:Int)=(s:Int):=by rw[hs];simp
    have e3:(t:Int)%(q:Int)=(d:Int):=by rw[hd];simp
    have hs2:s<4294967296:=by omega
    have hdq:d<q:=by rw[hd];exact gP _ hq0
    have HX:Aside (M.getD (off+k) 0=x/\cv*4294967296+x=s*q+d):=⟨hx,by rw[hs,hd,<-ht,bJ];exact(mZ t q).symm⟩;clear hx hs hd hL hoff aR eQ hMs aD ht hk0 hqlt;go_wp2
    go_region
    all_goals (
     go_wp2;go_roundg k
     case measure=>omega
     case rel =>
      obtain⟨hx,he⟩:=HX.o;obtain⟨hL,hoff⟩:=HR.o;obtain⟨aR,eQ,hMs,aD⟩:=HA.o;have hx2:L.getD (off+k) 0=x:=by rw[<-hx];exact(eQ.2 _ (by omega)).symm
      refine⟨d,M.set (off+k) s,by omega,by first | rfl | rw[e3],hdq,by first | go_num | (congr 1;omega),(HM.o.set (off+k) s).drew,aR.set _ _ hs2,⟨by simp[eQ.1],fun j hj=>?_⟩,?_,(aD.set (off+k) _).drew⟩
      · by_cases hj2:j=off+k
        · omega
        · rw[getD_set_ne _ _ _ _ (fun e=>hj2 e.symm)];exact eQ.2 j (by omega)
      · obtain⟨r,hr⟩:∃ r,n-k=r+1:=⟨n-(k+1),by omega⟩;have hr2:n-(k+1)=r:=by omega
        rw[hr2] at hMs;rw[hr,kr L _ _ (by omega),kr _ _ _ (by simp[eQ.1];omega),gD _ _ _ (by rw[eQ.1];omega),qX _ _ _ _ _ (by omega) (by rw[eQ.1];omega),hx2]
        exact Pn _ _ _ _ _ _ _ hMs he)
theorem jP(rest:Nat)(h:rest<32):2^rest*2^(32-rest)=4294967296:=by
 rw[<-aI,show rest+(32-rest)=32 by omega]
theorem Ya(x y rest:Nat)(hr:rest<32)(hx:x<2^rest):x ||| (y*2^rest%4294967296)=x+y*2^rest%4294967296:=by
 have e:y*2^rest%4294967296=2^rest*(y%2^(32-rest)):=by
  rw[<-jP rest hr,bJ y,Nat.mul_mod_mul_left]
 rw[e,Nat.or_comm,<-Gz hx,nM]
theorem Yb(y rest:Nat)(hy:y<4294967296):y*2^rest/4294967296<2^rest:=by
 rw[wy (by decide),bJ];exact zo hy (aU _)
theorem qE(rest:Nat)(h:rest<32):2^rest<=2147483648:=by
 have:2^rest<=2^31:=eB (by decide) (by omega);omega
theorem up_lt(y rest:Nat)(hy:y<4294967296)(hr:rest<32):y*2^rest<18446744073709551616:=by
 have h:=qE rest hr;have:y*2^rest<=4294967295*2147483648:=jG (by omega) h;omega
theorem o9(n:Int)(h0:0<=n)(h1:n<18446744073709551616):IntKind.u64.wrap n=n:=by
 rw[jE];omega
theorem mJ(words rest:Nat):2^(32*words+rest)=pw words*2^rest:=by
 rw[aI,nN];rfl
theorem Uk(p S x t q b s d y r:Nat)(hS:S+p*x=b*r)(ht:t=y*r)(hs:s=x+t%4294967296)(hd:d=t/4294967296):S+p*s+4294967296*p*d=(b+p*y)*r:=by
 have e:t%4294967296+4294967296*d=t:=by rw[hd];exact Nat.mod_add_div _ _
 have e2:p*s+4294967296*p*d=p*x+p*t:=by
  have:p*(s+4294967296*d)=p*(x+t):=by rw[hs];congr 1;omega
  grind
 have e3:(b+p*y)*r=b*r+p*t:=by rw[ht];grind
 omega
def Wb(w:World)(g:Nat)(L:List Nat):Prop:=w.heap[g]?=some (.cells (L.map U).toArray 198 (0,0))
theorem Wb.lt{w:World}{g:Nat}{L:List Nat}(h:Wb w g L):g<w.heap.size:=(eZ.1 h).1
theorem Wb.cell{w:World}{g:Nat}{L:List Nat}(h:Wb w g L)(i:Nat)(hi:i<L.length):w.cell? ⟨g,i,none⟩=some (.int .u32 ((L.getD i 0:Nat):Int)):=by
 unfold Wb at h;simp only[World.cell?,h];simp[U,bG,dx hi]
theorem Wb.frozen{w:World}{g:Nat}{L:List Nat}(h:Wb w g L)(i:Nat):w.frozen? ⟨g,i,none⟩=false:=by
 unfold Wb at h;simp[World.frozen?,h]
theorem Wb.set{w:World}{g:Nat}{L:List Nat}(h:Wb w g L)(i x:Nat):Wb (w.setCell ⟨g,i,none⟩ (.int .u32 (x:Int))) g (L.set i x):=by
 unfold Wb at h |-;simp[World.setCell,gN,h,wL,U]
theorem Wb.drew{w:World}{g:Nat}{L:List Nat}(h:Wb w g L):Wb w.drew g L:=h
def PB:Nat:=pw 133
theorem Yc:0<PB:=iy 133
attribute [irreducible] PB
theorem pg{L:List Nat}(hl:L.length=133)(hw:Wf L):val L<PB:=by
 have:=bN L hw;rw[hl] at this;unfold PB;exact this
theorem JG(L:List Nat)(i x:Nat)(h:i<L.length):val (L.set i x)+L.getD i 0*pw i=val L+x*pw i:=by
 have h1:=dD L i (fD h);have h2:=dD (L.set i x) i (by simp;omega);rw[bZ L i h] at h1;rw[bZ (L.set i x) i (by simp;omega),gD _ _ _ h] at h2;have e1:(L.set i x).take i=L.take i:=by rw[List.take_set];exact List.set_eq_of_length_le (by simp;omega)
 have e2:(L.set i x).drop (i+1)=L.drop (i+1):=by rw[List.drop_set,if_pos (by omega)]
 rw[e1,e2] at h2;rw[h2,h1]
 grind
theorem Po(M:List Nat)(i c T s d:Nat)(h:i<M.length)(e:s+d*4294967296=c+M.getD i 0)(hT:val M+c*pw i=T):val (M.set i s)+d*pw (i+1)=T:=by
 have h1:=JG M i s h;rw[bz];have e2:(s+d*4294967296)*pw i=(c+M.getD i 0)*pw i:=by rw[e]
 rw[fC,fC,aJ] at e2;omega
theorem zD(M:List Nat)(i c T R s lo hi b:Nat)(h:i<M.length)(e:s+lo=M.getD i 0+b*4294967296)(hc:c=lo+hi*4294967296)(hT:val M+T=R+c*pw i):val (M.set i s)+T=R+(hi+b)*pw (i+1):=by
 have h1:=JG M i s h;rw[bz];have e2:(s+lo)*pw i=(M.getD i 0+b*4294967296)*pw i:=by rw[e]
 have e3:c*pw i=(lo+hi*4294967296)*pw i:=by rw[hc]
 rw[fC,fC,aJ] at e2;rw[fC,aJ] at e3;rw[fC];omega
theorem GM(i:Nat):pw i=2^(32*i):=by unfold pw;rw[nN]
theorem uV(n p:Nat):n*2^(p%32)*pw (p/32)=n*2^p:=by
 rw[GM,aJ,<-aI,Nat.mod_add_div]
theorem JH(M:List Nat)(c T:Nat)(hl:M.length=133)(hw:Wf M)(h:val M+c*pw 133=T):val M=T%PB:=by
 have:=pg hl hw;have e:pw 133=PB:=by unfold PB;rfl
 rw[<-h,e,bJ,zt,iY this]
theorem Dw(M:List Nat)(c T R:Nat)(hl:M.length=133)(hw:Wf M)(h:val M+T=R+c*pw 133):(val M:Int)=((R:Int)-(T:Int))%(PB:Int):=by
 have h1:=pg hl hw;have e:pw 133=PB:=by unfold PB;rfl
 rw[e] at h
 have h2:(R:Int)-(T:Int)=(val M:Int)+(PB:Int)*(-(c:Int)):=by
  have:((val M+T:Nat):Int)=((R+c*PB:Nat):Int):=by rw[h]
  simp only[wN,dK] at this;rw[Int.mul_neg,Int.mul_comm];omega
 rw[h2,Int.add_mul_emod_self_left,uJ (by omega) (by omega)]
theorem sJ(n q:Nat)(hn:n<4294967296)(hq:q<32):n*2^q<9223372036854775808:=by
 have h1:2^q<=2147483648:=by
  have:=eB (n:=2) (by decide) (show q<=31 by omega);simpa using this
 calc n*2^q<=4294967295*2147483648:=jG (by omega) h1
  _<_:=by decide
theorem Dx(n p:Nat)(hn:n<4294967296):IntKind.u64.wrap ((n:Int)*2^(p%32))=((n*2^(p%32):Nat):Int):=by
 have h1:=sJ n (p%32) hn (gP _ (by decide));have e:((n:Int)*2^(p%32))=((n*2^(p%32):Nat):Int):=by simp
 rw[e];exact o9 _ (by omega) (by omega)
theorem Qaf{P:Prop}(h:P:=by
 exact⟨n*2^(p%32),p/32,L,by omega,by omega,by rw[Dx n p hn],sJ n _ hn (gP _ (by decide)),by simp,HO,HR.o.1,HR.o.2,by rw[uV],But.refl _ _⟩):P:=h
theorem Pp(L:List Nat)(g n p:Nat)(w:World)(hW:Wb w g L)(hl:L.length=133)(hL:Wf L)(hn:n<4294967296)(hp:p<4256) :
 Calls Tryz.prog 219 #[.pointer (some ⟨g,0,none⟩),.int .u32 (n:Nat),.int .i64 (p:Nat)] w fun r w' =>
  r=.returned (.tuple #[])/\∃ M,Wb w' g M/\M.length=133/\Wf M/\val M=(val L+n*2^p)%PB/\But g w w':=by
 have HR:Aside (Wf L/\L.length=133):=⟨hL,hl⟩;have HO:Hid (Wb w g L):=hW;clear hL hW hl;go_enter Tryz.func219,Tryz.ntmps219;go_wp2
 go_loopg [6,7] 133 (fun k c i wr=>∃ (cv iv:Nat) (M:List Nat),133<=k+iv/\iv<=133/\c=.int .u64 (cv:Nat)/\cv<9223372036854775808/\i=.int .i64 (iv:Nat) /\
  Hid (Wb wr g M)/\Aside (Wf M/\M.length=133/\val M+cv*pw iv=val L+n*2^p/\But g w wr))
 case atStart =>
  exact Qaf
 case round =>
  obtain⟨cv,iv,M,hk,hi,rfl,hcv,rfl,HM,HA⟩:=hrel
  by_cases h1:iv=133
  · subst h1;go_wp2;refine bodyPost_end (v:=.tuple #[]) (by simp[results,Tryz.results219,go_sem]) rfl ?_;obtain⟨aR,bT,hMs,aD⟩:=HA.o;exact⟨rfl,M,HM.o,bT,aR,JH M cv _ bT aR hMs,aD⟩
  by_cases h2:cv=0
  · subst h2;have h3:(iv:Int)<133:=by omega
    go_wp2;refine bodyPost_end (v:=.tuple #[]) (by simp[results,Tryz.results219,go_sem]) rfl ?_;obtain⟨aR,bT,hMs,aD⟩:=HA.o;exact⟨rfl,M,HM.o,bT,aR,JH M 0 _ bT aR (by rw[<-hMs];simp),aD⟩
  · have h3:iv<133:=by omega
    have h4:0<cv:=by omega
    obtain⟨aR,bT,hMs,aD⟩:=HA.o;have hgc:=HM.o.cell iv (by omega);have hgf:=HM.o.frozen iv;obtain⟨x,hx⟩:∃ x:Nat,M.getD iv 0=x:=⟨_,rfl⟩;have hxl:x<4294967296:=hx ▸ aR.get _;rw[hx] at hgc;have HX:Aside (M.getD iv 0=x):=hx;clear hx aR bT hMs aD h1 h2;obtain⟨k,rfl⟩:∃ k,gk=k+1:=⟨gk-1,by omega⟩;go_wp2;go_roundg k
    case measure=>omega
    case rel =>
     obtain⟨aR,bT,hMs,aD⟩:=HA.o;have e1:((cv:Int)+(x:Int))%4294967296=(((cv+x)%4294967296:Nat):Int):=by omega
     have e2:((cv:Int)+(x:Int))/4294967296=(((cv+x)/4294967296:Nat):Int):=by omega
     rw[e1];exact⟨(cv+x)/4294967296,iv+1,M.set iv ((cv+x)%4294967296),by omega,by omega,by rw[e2],by omega,by simp,HM.o.set iv _,aR.set _ _ (gP _ (by decide)),by simp[bT],Po M iv cv _ _ _ (by omega) (by rw[HX.o];omega) hMs,aD.set iv _⟩
theorem Li(L:List Nat)(g n p:Nat)(w:World)(hW:Wb w g L)(hl:L.length=133)(hL:Wf L)(hn:n<4294967296)(hp:p<4256) :
 Calls Tryz.prog 218 #[.pointer (some ⟨g,0,none⟩),.int .u32 (n:Nat),.int .i64 (p:Nat)] w fun r w' =>
  r=.returned (.tuple #[])/\∃ M,Wb w' g M/\M.length=133/\Wf M/\(val M:Int)=((val L:Int)-((n*2^p:Nat):Int))%(PB:Int)/\But g w w':=by
 have HR:Aside (Wf L/\L.length=133):=⟨hL,hl⟩;have HO:Hid (Wb w g L):=hW;clear hL hW hl;go_enter Tryz.func218,Tryz.ntmps218;go_wp2
 go_loopg [6,7] 133 (fun k c i wr=>∃ (cv iv:Nat) (M:List Nat),133<=k+iv/\iv<=133/\c=.int .u64 (cv:Nat)/\cv<9223372036854775808/\i=.int .i64 (iv:Nat) /\
  Hid (Wb wr g M)/\Aside (Wf M/\M.length=133/\val M+n*2^p=val L+cv*pw iv/\But g w wr))
 case atStart =>
  exact Qaf
 case round =>
  obtain⟨cv,iv,M,hk,hi,rfl,hcv,rfl,HM,HA⟩:=hrel
  by_cases h1:iv=133
  · subst h1;go_wp2;refine bodyPost_end (v:=.tuple #[]) (by simp[results,Tryz.results218,go_sem]) rfl ?_;obtain⟨aR,bT,hMs,aD⟩:=HA.o;exact⟨rfl,M,HM.o,bT,aR,Dw M cv _ _ bT aR hMs,aD⟩
  by_cases h2:cv=0
  · subst h2;have h3:(iv:Int)<133:=by omega
    go_wp2;refine bodyPost_end (v:=.tuple #[]) (by simp[results,Tryz.results218,go_sem]) rfl ?_;obtain⟨aR,bT,hMs,aD⟩:=HA.o;exact⟨rfl,M,HM.o,bT,aR,Dw M 0 _ _ bT aR (by rw[hMs];simp),aD⟩
  · have h3:iv<133:=by omega
    have h4:0<cv:=by omega
    obtain⟨aR,bT,hMs,aD⟩:=HA.o;have hgc:=HM.o.cell iv (by omega);have hgf:=HM.o.frozen iv;obtain⟨x,hx⟩:∃ x:Nat,M.getD iv 0=x:=⟨_,rfl⟩;have hxl:x<4294967296:=hx ▸ aR.get _;rw[hx] at hgc;obtain⟨lo,hlo⟩:∃ lo:Nat,cv%4294967296=lo:=⟨_,rfl⟩;obtain⟨hi',hhi⟩:∃ hi':Nat,cv/4294967296=hi':=⟨_,rfl⟩;have e1:(cv:Int)%4294967296=(lo:Int):=by omega
    have e2:(cv:Int)/4294967296=(hi':Int):=by omega
    have b1:lo<4294967296:=by omega
    have b2:hi'<2147483648:=by omega
    have HX:Aside (M.getD iv 0=x/\cv=lo+hi'*4294967296):=⟨hx,by omega⟩;clear hx aR bT hMs aD h1 h2 hlo hhi;obtain⟨k,rfl⟩:∃ k,gk=k+1:=⟨gk-1,by omega⟩
    by_cases hlt:x<lo
    · have h5:decide (x<lo)=true:=by simp[hlt]
      go_wp2
      go_region
      all_goals (
       go_wp2;go_roundg k
       case measure=>omega
       case rel =>
        obtain⟨aR,bT,hMs,aD⟩:=HA.o;have e3:((x:Int)-(lo:Int))%4294967296=((x+4294967296-lo:Nat):Int):=by omega
        rw[e3]
        exact⟨hi'+1,iv+1,M.set iv (x+4294967296-lo),by omega,by omega,by simp,by omega,by simp,(HM.o.set iv _).drew,aR.set _ _ (by omega),by simp[bT],zD M iv cv _ _ _ lo hi' 1 (by omega) (by rw[HX.o.1];omega) HX.o.2 hMs,(aD.set iv _).drew⟩)
    · have h5:decide (x<lo)=false:=by simp[hlt]
      go_wp2
      go_region
      all_goals (
       go_wp2;go_roundg k
       case measure=>omega
       case rel =>
        obtain⟨aR,bT,hMs,aD⟩:=HA.o;have e3:((x:Int)-(lo:Int))=((x-lo:Nat):Int):=by omega
        rw[e3]
        exact⟨hi',iv+1,M.set iv (x-lo),by omega,by omega,by simp,by omega,by simp,(HM.o.set iv _).drew,aR.set _ _ (by omega),by simp[bT],by have:=zD M iv cv _ _ (x-lo) lo hi' 0 (by omega) (by rw[HX.o.1];omega) HX.o.2 hMs;simpa using this,(aD.set iv _).drew⟩)
end
section
theorem Qba{P:Prop}(h:P:=by
 subst hT;have e:o*(t1*b+t2)=o*t1*b+o*t2:=by grind
 have e2:(o*t1+l)*b=o*t1*b+l*b:=by grind
 omega):P:=h
theorem Lj(b o t1 t2 l u2 T:Nat)(hT:o*t1+l=T)(h:o*t2<=l*b+u2):o*(t1*b+t2)<=T*b+u2:=by
 exact Qba
theorem Dy(b o t1 t2 l u2 T:Nat)(hT:o*t1+l=T)(h:l*b+u2<o*t2):T*b+u2<o*(t1*b+t2):=by
 exact Qba
theorem Dz(b t1 t2 u2 T:Nat)(h1:0<t1)(h2:u2<b):T*b+u2<(T/t1+1)*(t1*b+t2):=by
 have h:=Nat.lt_div_mul_add (a:=T) (b:=t1) h1;have h3:T+1<=(T/t1+1)*t1:=by rw[fC,gI];omega
 have h4:(T+1)*b<=(T/t1+1)*t1*b:=di _ h3;have e:(T/t1+1)*(t1*b+t2)=(T/t1+1)*t1*b+(T/t1+1)*t2:=by grind
 rw[fC,gI] at h4;omega
theorem uW(b o t1 t2 l u2 T:Nat)(hT:o*t1+l=T)(hl:b<=l)(hT2:T<t1*b+b)(ht:t2<b)(h1:0<t1):o<b/\o*t2<=l*b+u2:=by
 have ho:o<b:=by
  by_cases h:o<b
  · exact h
  · exfalso;have:b*t1<=o*t1:=di _ (by omega);rw[bJ b] at this;omega
 have h2:o*t2<=b*b:=jG (by omega) (by omega);have h3:b*b<=l*b:=di _ hl;exact⟨ho,by omega⟩
theorem GN(b o D W P u v U V:Nat)(hP:0<P)(hU:U=W*P+u)(hu:u<P)(hV:V=D*P+v)(hv:v<P)(h1:o*D<=W)(h2:b<=o+1\/W<(o+1)*D)(hlt:U<V*b)(ho:o<b)(hD:b<=D) :
 U<(o+1)*V/\o*V<=U+V:=by
 constructor
 · rcases h2 with h2 | h2
   · obtain rfl:b=o+1:=by omega
     rw[bJ];exact hlt
   · have h3:(W+1)*P<=(o+1)*D*P:=di _ h2;have h4:(o+1)*V=(o+1)*D*P+(o+1)*v:=by rw[hV];grind
     rw[fC] at h3;omega
 · rcases o with _ | o
   · omega
   · have h3:(o+1)*D*P<=W*P:=di _ h1;have h4:(o+1)*V=(o+1)*D*P+o*v+v:=by rw[hV];grind
     have h5:o*v<=D*P:=jG (by omega) (by omega);omega
theorem Ll(b P t1 t2 u0 u1 u2 u v U V:Nat)(hU:U=((u0*b+u1)*b+u2)*P+u)(hV:V=(t1*b+t2)*P+v)(hv:v<P)(ht:t2<b)(hlt:U<V*b):u0<=t1:=by
 by_cases h:u0<=t1
 · exact h
 · exfalso;have h1:(t1*b+t2+1)*P<=(t1+1)*b*P:=di _ (by rw[fC,gI];omega)
   have h2:V<(t1+1)*b*P:=by
    rw[fC,gI] at h1;omega
   have h3:V*b<=(t1+1)*b*P*b:=di _ (by omega);have h4:(t1+1)*(b*P*b)<=u0*(b*P*b):=di _ (by omega);have h5:(t1+1)*b*P*b=(t1+1)*(b*P*b):=by grind
   have h6:U=u0*(b*P*b)+(u1*b+u2)*P+u:=by rw[hU];grind
   omega
theorem JI(L:List Nat)(off k:Nat)(hL:Wf L)(h:off+(k+2)<=L.length):sg L off (k+2)=(L.getD (off+(k+1)) 0*4294967296+L.getD (off+k) 0)*pw k+sg L off k/\sg L off k<pw k:=by
 refine⟨?_,nz L off k hL (by omega)⟩;rw[show k+2=k+1+1 by omega,bA L off (k+1) (by omega),bA L off k (by omega),bz]
 grind
theorem Lm(L:List Nat)(off k:Nat)(hL:Wf L)(h:off+(k+3)<=L.length):sg L off (k+3)=((L.getD (off+(k+2)) 0*4294967296+L.getD (off+(k+1)) 0)*4294967296+L.getD (off+k) 0)*pw k+sg L off k/\sg L off k<pw k:=by
 refine⟨?_,nz L off k hL (by omega)⟩;rw[show k+3=k+2+1 by omega,bA L off (k+2) (by omega),(JI L off k hL (by omega)).1,show k+2=k+1+1 by omega,bz,bz]
 grind
end
section
open Go.RowKit
set_option maxRecDepth 20000 in
theorem Lp (L bs:List Nat) (g off cap:Nat) (ao:Option Addr) (n aS B:Nat) (w:World) (k:Nat) (hnk:n=k+2)
 (hO:Own w g L) (hoff:off+(k+3)<=L.length) (hm:k+2=bs.length) (hcap:n+1<=cap) (hbig:n<=4611686018427387904) (hL:Wf L) (hb:Wf bs) (hR:Rd B w ao bs)
 (htop:2147483648<=bs.getD (k+1) 0) (hlt:sg L off (k+3)<val bs*4294967296) :
 Calls Tryz.prog 229 #[.slice (some ⟨g,off,none⟩) (n+1) cap,.slice ao n aS] w fun r w' =>
  ∃ o:Nat,r=.returned (.int .u32 (o:Nat))/\o<4294967296/\sg L off (k+3)<(o+1)*val bs/\o*val bs<=sg L off (k+3)+val bs/\Below w.heap.size w w':=by
 obtain⟨b,eX,JJ,rfl,hbc⟩:=hR (by intro e;subst e;simp at hm);have c1:=hbc (k+1) (by omega);have c2:=hbc k (by omega);have d0:=hO.cell (off+(k+2)) (by omega);have d1:=hO.cell (off+(k+1)) (by omega);have d2:=hO.cell (off+k) (by omega);have en1:k+1=n-1:=by omega
 have en2:eX+k=eX+(n-2):=by omega
 have en3:off+k=off+(n-2):=by omega
 have en4:off+(k+2)=off+n:=by omega
 have en5:off+(k+1)=off+(n-1):=by omega
 have en6:eX+(k+1)=eX+(n-1):=by omega
 have hn2:2<=n:=by omega
 have b1:=hb.get (k+1);have b2:=hb.get k;have l0:=hL.get (off+(k+2));have l1:=hL.get (off+(k+1));have l2:=hL.get (off+k);obtain⟨eU,hu⟩:=Lm L off k hL hoff;obtain⟨eV,hv⟩:=JI bs 0 k hb (by omega);rw[cO,cO,show k+2=bs.length from hm,dh] at eV;have HN:=(ah hnk);clear en1;generalize bs.getD (k+1) 0=t1 at *;generalize bs.getD k 0=t2 at *;generalize L.getD (off+(k+2)) 0=u0 at *;generalize L.getD (off+(k+1)) 0=u1 at *;generalize L.getD (off+k) 0=u2 at *;generalize sg L off (k+3)=U at *;generalize val bs=V at *;generalize sg L off k=u at *;generalize sg bs 0 k=v at *;rw[en6] at c1;rw[en2] at c2;rw[en4] at d0;rw[en5] at d1;rw[en3] at d2;have hu0:u0<=t1:=Ll 4294967296 (pw k) t1 t2 u0 u1 u2 u v U V eU eV hv b2 hlt;have hlt1:0<t1:=by omega
 obtain⟨T,hT⟩:=af (u0*4294967296+u1);have eT:bits BinOp.or IntKind.u64 ((u0:Int)*4294967296) (u1:Int)=(T:Int):=by rw[o8 u0 u1 l0 l1,hT]
 obtain⟨o0,ho0⟩:=af (T/t1);obtain⟨r0,hr0⟩:=af (T%t1);have eo:(T:Int)/(t1:Int)=(o0:Int):=by rw[ho0];simp
 have er:(T:Int)%(t1:Int)=(r0:Int):=by rw[hr0];simp
 have hTl:(T:Int)<18446744073709551616:=by omega
 have hr0l:r0<t1:=by rw[hr0];exact gP _ hlt1
 have JK:o0*t1+r0=T:=by rw[ho0,hr0,bJ];exact mZ T t1
 have JL:T*4294967296+u2<(o0+1)*(t1*4294967296+t2):=by rw[ho0];exact Dz 4294967296 t1 t2 u2 T hlt1 l2
 have ho0l:(o0:Int)<18446744073709551616:=by have:o0<=T:=by rw[ho0];exact nO _ _
                                             omega
 have HH:=(Ba hu0 hT eU hu eV hv JK JL hlt htop);clear en2 en3 en4 en5 en6 hnk;clear hT ho0 hr0 eU hu eV hv JK JL hlt hR hbc hm hb hL hO hoff htop;go_enter Tryz.func229,Tryz.ntmps229;go_wp2
 go_big_region
 go_wp2
 go_big_region
 go_wp2;have hbw:=qh w _ c2;have hgw:=qh w _ d2
 go_loopg [8,9] o0 (fun gk o l wr=>∃ lv:Nat,o=.int .u64 (gk:Nat)/\l=.int .u64 (lv:Nat)/\lv<4294967296/\Hid (Below w.heap.size w wr) /\
  Aside (gk*t1+lv=T/\(4294967296<=gk+1\/T*4294967296+u2<(gk+1)*(t1*4294967296+t2))))
 case atStart=>exact⟨r0,by first | rfl | rw[eo],by first | rfl | rw[er],by omega,by first | exact(ay _ _).drew.drew | exact(ay _ _).drew | exact ay _ _,HH.o.r6.1,.inr HH.o.r7.1⟩
 case round =>
  obtain⟨lv,rfl,rfl,hlv,HB,HA⟩:=hrel;have c2':wr.cell? ⟨b,eX+(n-2),none⟩=some (.int .u32 (t2:Int)):=(HB.o.cell (p:=⟨b,eX+(n-2),none⟩) hbw).trans c2;have d2':wr.cell? ⟨g,off+(n-2),none⟩=some (.int .u32 (u2:Int)):=(HB.o.cell (p:=⟨g,off+(n-2),none⟩) hgw).trans d2;clear c2 d2 c1 d0 d1 hTl eo er;obtain⟨hu0,hT,eU,hu,eV,hv,JK,JL,hlt,htop⟩:=HH.o;obtain⟨hsum,hmax⟩:=HA.o;have hTb:T<t1*4294967296+4294967296:=by omega
  have hgb:gk<=4294967297:=by
   by_cases h:gk<=4294967297
   · exact h
   · exfalso;have:4294967298*t1<=gk*t1:=di _ (by omega);omega
  have HE:Aside (∀ o l,o*t1+l=T->o*t2<=l*4294967296+u2->o<4294967296->(4294967296<=o+1\/T*4294967296+u2<(o+1)*(t1*4294967296+t2))->U<(o+1)*V/\o*V<=U+V):=by
   intro o l h1 h2 h3 h4;rw[<-hT] at eU;exact GN 4294967296 o _ _ (pw k) u v U V (iy k) eU hu eV hv (Lj 4294967296 o t1 t2 l u2 T h1 h2) h4 hlt h3 (by omega)
  have HT:=(ah hTb);clear hu0 hT eU hu eV hv JK JL hlt htop hsum hmax hTb;have hgbi:(gk:Int)<=4294967297:=by omega
  by_cases hbig2:4294967295<gk
  · have hg1:(4294967295:Int)<(gk:Int):=by omega
    by_cases hl2:lv+t1<=4294967295
    · have hl3:(lv:Int)+(t1:Int)<=4294967295:=by omega
      have hl4:decide ((4294967295:Int)<(lv:Int)+(t1:Int))=false:=decide_eq_false (by omega);have HG:=(iw hbig2 hl2 hgb hlv);clear hbig2 hl2 hgb;go_wp2
      go_big_region
      all_goals (
       go_wp2;go_roundg (gk-1)
       case measure=>have:=HG.o.1;omega
       case rel =>
        obtain⟨hsum,hmax⟩:=HA.o;obtain⟨hbig2,hl2,hgb,hlv⟩:=HG.o;refine⟨lv+t1,by first | go_num | (congr 1;omega),by first | rfl | go_num,by omega,HB.o.drew,?_,.inl (by omega)⟩;obtain⟨o,rfl⟩:∃ o,gk=o+1:=⟨gk-1,by omega⟩;rw[lZ];rw[fC] at hsum
        omega)
    · have hl3:(4294967295:Int)<(lv:Int)+(t1:Int):=by omega
      go_wp2
      go_big_region
      all_goals (
       go_wp2;go_ret;obtain⟨hsum,hmax⟩:=HA.o;obtain⟨o,rfl⟩:∃ o,gk=o+1:=⟨gk-1,by omega⟩;have hs2:o*t1+(lv+t1)=T:=by rw[fC] at hsum;omega
       obtain⟨hb1,hb2⟩:=uW 4294967296 o t1 t2 (lv+t1) u2 T hs2 (by omega) HT.o b2 hlt1;obtain⟨h1,h2⟩:=HE.o o (lv+t1) hs2 hb2 hb1 (.inl (by omega));refine⟨o,?_,hb1,h1,h2,HB.o.drew⟩
       exact congrArg (fun z=>Ending.returned (Value.int IntKind.u32 z)) (by omega))
  · have hg1:(gk:Int)<=4294967295:=by omega
    have hg2:decide ((4294967295:Int)<(gk:Int))=false:=by simp;omega
    have hp0:gk*t2<=4294967295*4294967295:=jG (by omega) (by omega);have hp2:(gk:Int)*(t2:Int)<=18446744065119617025:=by rw[<-dK];omega
    have hp1:0<=(gk:Int)*(t2:Int):=by rw[<-dK];omega
    obtain⟨lu,hlu⟩:=af (lv*4294967296+u2);have eL:bits BinOp.or IntKind.u64 ((lv:Int)*4294967296) (u2:Int)=(lu:Int):=by rw[o8 lv u2 hlv l2,hlu]
    have HL:=(ah hlu)
    by_cases hmore:lu<gk*t2
    · have hm1:(lu:Int)<(gk:Int)*(t2:Int):=by rw[<-dK];omega
      have hgk0:0<gk:=by
       rcases jH gk with h|h
       · subst h;rw[dS] at hmore;omega
       · exact h
      by_cases hl2:lv+t1<=4294967295
      · have hl3:(lv:Int)+(t1:Int)<=4294967295:=by omega
        have hl4:decide ((4294967295:Int)<(lv:Int)+(t1:Int))=false:=decide_eq_false (by omega);have HG:=(fM hbig2 hl2 hgb hlv hmore);clear hlu hp0 hbig2 hl2 hgb hmore;go_wp2
        go_big_region
        all_goals (
         go_wp2;go_roundg (gk-1)
         case measure=>omega
         case rel =>
          obtain⟨hsum,hmax⟩:=HA.o;obtain⟨hbig2,hl2,hgb,hlv,hmore⟩:=HG.o;have hno:=Dy 4294967296 gk t1 t2 lv u2 T hsum (by rw[<-HL.o];exact hmore);refine⟨lv+t1,by first | go_num | (congr 1;omega),by first | rfl | go_num,by omega,HB.o.drew,?_,.inr ?_⟩
          · obtain⟨o,rfl⟩:∃ o,gk=o+1:=⟨gk-1,by omega⟩;rw[lZ];rw[fC] at hsum;omega
          · rw[show gk-1+1=gk by omega];exact hno)
      · have hl3:(4294967295:Int)<(lv:Int)+(t1:Int):=by omega
        clear hlu hp0;go_wp2
        go_big_region
        all_goals (
         go_wp2;go_ret;obtain⟨hsum,hmax⟩:=HA.o;have hno:=Dy 4294967296 gk t1 t2 lv u2 T hsum (by rw[<-HL.o];exact hmore);obtain⟨o,rfl⟩:∃ o,gk=o+1:=⟨gk-1,by omega⟩;have hs2:o*t1+(lv+t1)=T:=by rw[fC] at hsum;omega
         obtain⟨hb1,hb2⟩:=uW 4294967296 o t1 t2 (lv+t1) u2 T hs2 (by omega) HT.o b2 hlt1;obtain⟨h1,h2⟩:=HE.o o (lv+t1) hs2 hb2 hb1 (.inr hno);refine⟨o,?_,hb1,h1,h2,HB.o.drew⟩
         exact congrArg (fun z=>Ending.returned (Value.int IntKind.u32 z)) (by omega))
    · have hm1:(gk:Int)*(t2:Int)<=(lu:Int):=by rw[<-dK];omega
      have hm2:decide ((lu:Int)<(gk:Int)*(t2:Int))=false:=decide_eq_false (by omega);have HG:=(iw hbig2 hgb hlv hmore);clear hlu hp0 hbig2 hgb hmore;go_wp2
      go_big_region
      all_goals (
       go_wp2;go_ret;obtain⟨hsum,hmax⟩:=HA.o;obtain⟨hbig2,hgb,hlv,hmore⟩:=HG.o;obtain⟨h1,h2⟩:=HE.o gk lv hsum (by rw[<-HL.o];omega) (by omega) hmax;refine⟨gk,?_,by omega,h1,h2,HB.o.drew⟩
       first | rfl | exact congrArg (fun z=>Ending.returned (Value.int IntKind.u32 z)) (by omega))
theorem zj{P:Prop}(h:P:=by
 exact(qV (a:=⟨b,eX+k,none⟩) h1).trans (hbc k (by omega))):P:=h
theorem sM (L bs:List Nat) (g off n cap:Nat) (ao:Option Addr) (m aS B:Nat) (w:World)
 (hO:Own w g L) (hoff:off+n<=L.length) (hm:m=bs.length) (GQ:m<=n) (hcap:n<=cap) (hbig:n<=4611686018427387904) (hL:Wf L) (hb:Wf bs) (hR:Rd B w ao bs) (hB:B<=g) :
 Calls Tryz.prog 207 #[.slice (some ⟨g,off,none⟩) n cap,.slice ao m aS] w fun r w' =>
  ∃ M c,r=.returned (.int .u32 (c:Nat))/\c<=1/\Own w' g M/\Wf M/\Out L M off n/\sg M off n+c*pw n=sg L off n+val bs/\But g w w':=by
 have HR:Aside (Rd B w ao bs/\m=bs.length/\Wf bs/\Wf L/\off+n<=L.length):=⟨hR,hm,hb,hL,hoff⟩;have HO:Hid (Own w g L):=hO;have DC:Hid (∀ x y c s d w,_->_->_->_->_->_):=Lc;clear hR hm hb hL hO hoff;go_enter Tryz.func207,Tryz.ntmps207;go_wp2
 go_loopg [5,11] m (fun gk c i wr=>∃ (k cv:Nat) (M:List Nat),gk+k=m/\c=.int .u32 (cv:Nat)/\cv<=1/\i=.int .i64 (k:Nat) /\
  Hid (Own wr g M)/\Aside (Wf M/\Out L M off k/\sg M off k+cv*pw k=sg L off k+sg bs 0 k/\But g w wr))
 case atStart=>exact⟨0,0,L,by omega,rfl,by omega,rfl,HO,HR.o.r3.1,Out.refl _ _ _,by simp[dF],But.refl _ _⟩
 case round =>
  obtain⟨k,cv,M,lU,rfl,hcv,rfl,HM,HA⟩:=hrel
  by_cases hk:k<m
  · obtain⟨hR,hm,hb,hL,hoff⟩:=HR.o;obtain⟨aR,eQ,hMs,aD⟩:=HA.o;obtain⟨b,eX,JJ,rfl,hbc⟩:=hR (by intro e;subst e;simp at hm;omega)
    have hbk:wr.cell? ⟨b,eX+k,none⟩=some (.int .u32 ((bs.getD k 0:Nat):Int)):=by
     have h1:=aD.block b (qh w ⟨b,eX+k,none⟩ (hbc k (by omega))) (by omega);exact zj
    have hgc:=HM.o.cell (off+k) (by rw[eQ.1];omega);have hgf:=HM.o.frozen (off+k);obtain⟨x,hx⟩:∃ x:Nat,M.getD (off+k) 0=x:=⟨_,rfl⟩;obtain⟨y,hy⟩:∃ y:Nat,bs.getD k 0=y:=⟨_,rfl⟩;have hxl:x<4294967296:=hx ▸ aR.get _;have hyl:y<4294967296:=hy ▸ hb.get _;rw[hx] at hgc;rw[hy] at hbk;obtain⟨s,hs⟩:∃ s:Nat,s=(x+y+cv)%4294967296:=⟨_,rfl⟩;obtain⟨d,hd⟩:∃ d:Nat,d=(x+y+cv)/4294967296:=⟨_,rfl⟩;have HX:Aside (M.getD (off+k) 0=x/\bs.getD k 0=y/\s=(x+y+cv)%4294967296/\d=(x+y+cv)/4294967296):=⟨hx,hy,hs,hd⟩;clear hx hy hs hd hR hm hb hL hoff aR eQ hMs aD hbc;go_wp2_with fail;refine(DC.o x y cv s d _ hxl hyl hcv HX.o.r2.1 HX.o.r3).mono ?_;rintro r w1 ⟨rfl,rfl⟩;go_wp2;go_roundg (gk-1)
    case measure=>omega
    case rel =>
     obtain⟨hx,hy,hs,hd⟩:=HX.o;obtain⟨hR,hm,hb,hL,hoff⟩:=HR.o;obtain⟨aR,eQ,hMs,aD⟩:=HA.o;refine⟨k+1,d,M.set (off+k) s,by omega,rfl,by omega,by go_num,HM.o.set _ _,aR.set _ _ (by omega),(eQ.mono (by omega)).set _ _ (by omega) (by omega),?_,aD.set _ _⟩;rw[bF _ _ _ _ (by rw[eQ.1];omega),bA L off k (by omega),bA bs 0 k (by omega),cO,hy,bz];have e:L.getD (off+k) 0=x:=by rw[<-hx];exact(eQ.2 _ (by omega)).symm
     rw[e];exact qD _ _ _ _ _ _ _ _ _ hMs (by omega)
  · obtain rfl:k=m:=by omega
    have HA2:Aside (Wf M/\Out L M off k/\sg M off k+cv*pw k=sg L off k+val bs/\But g w wr):=by
     obtain⟨hR,hm,hb,hL,hoff⟩:=HR.o;obtain⟨aR,eQ,hMs,aD⟩:=HA.o;refine⟨aR,eQ,?_,aD⟩;rw[hMs,hm,dh]
    clear HA lU HO hk;go_wp2
    go_loopg [5,8] (n-k) (fun g2 c i w2=>∃ (j cv:Nat) (M:List Nat),g2+j=n/\k<=j/\c=.int .u32 (cv:Nat)/\cv<=1/\i=.int .i64 (j:Nat) /\
     Hid (Own w2 g M)/\Aside (Wf M/\Out L M off j/\sg M off j+cv*pw j=sg L off j+val bs/\But g w w2))
    case atStart=>exact⟨k,cv,M,by omega,ak _,rfl,hcv,rfl,HM,HA2.o⟩
    case round =>
     clear HM HA2 hcv;obtain⟨j,cv,M,hgj,hkj,rfl,hcv,rfl,HM,HA⟩:=hrel
     by_cases hj:j<n
     · by_cases h0:cv=0
       · subst h0;go_wp2;go_ret;obtain⟨hR,hm,hb,hL,hoff⟩:=HR.o;obtain⟨aR,eQ,hMs,aD⟩:=HA.o;refine⟨M,0,rfl,by omega,HM.o,aR,eQ.mono (by omega),?_,aD⟩;rw[dS,gJ] at hMs |-;exact Pj (by omega) (by omega) eQ hMs
       · obtain rfl:cv=1:=by omega
         obtain⟨hR,hm,hb,hL,hoff⟩:=HR.o;obtain⟨aR,eQ,hMs,aD⟩:=HA.o;have hgc:=HM.o.cell (off+j) (by rw[eQ.1];omega);have hgf:=HM.o.frozen (off+j);obtain⟨x,hx⟩:∃ x:Nat,M.getD (off+j) 0=x:=⟨_,rfl⟩;have hxl:x<4294967296:=hx ▸ aR.get _;rw[hx] at hgc;obtain⟨s,hs⟩:∃ s:Nat,s=(x+0+1)%4294967296:=⟨_,rfl⟩;obtain⟨d,hd⟩:∃ d:Nat,d=(x+0+1)/4294967296:=⟨_,rfl⟩;have HX:Aside (M.getD (off+j) 0=x/\s=(x+0+1)%4294967296/\d=(x+0+1)/4294967296):=⟨hx,hs,hd⟩;clear hx hs hd hR hm hb hL hoff aR eQ hMs aD h0;go_wp2_with fail;refine(DC.o x 0 1 s d _ hxl (by omega) (by omega) HX.o.2.1 HX.o.r2).mono ?_;rintro r w1 ⟨rfl,rfl⟩;go_wp2;go_roundg (gk-1)
         case measure=>omega
         case rel =>
          obtain⟨hx,hs,hd⟩:=HX.o;obtain⟨hR,hm,hb,hL,hoff⟩:=HR.o;obtain⟨aR,eQ,hMs,aD⟩:=HA.o;refine⟨j+1,d,M.set (off+j) s,by omega,by omega,rfl,by omega,by go_num,HM.o.set _ _,aR.set _ _ (by omega),(eQ.mono (by omega)).set _ _ (by omega) (by omega),?_,aD.set _ _⟩;rw[bF _ _ _ _ (by rw[eQ.1];omega),bA L off j (by omega),bz];have e:L.getD (off+j) 0=x:=by rw[<-hx];exact(eQ.2 _ (by omega)).symm
          rw[e];have:=qD (pw j) _ _ _ _ x 0 s d hMs (by omega);omega
     · obtain rfl:j=n:=by omega
       exact Qbg
theorem yZ (L bs:List Nat) (g off n cap:Nat) (ao:Option Addr) (m aS B q:Nat) (w:World)
 (hO:Own w g L) (hoff:off+n<=L.length) (hm:m=bs.length) (GQ:n=m+1) (hcap:n<=cap) (hbig:n<=4611686018427387904) (hL:Wf L) (hb:Wf bs) (hR:Rd B w ao bs) (hB:B<=g) (hq:q<4294967296) :
 Calls Tryz.prog 230 #[.slice (some ⟨g,off,none⟩) n cap,.slice ao m aS,.int .u32 (q:Nat)] w fun r w' =>
  ∃ M,∃ c:Nat,r=.returned (.bool (decide (0<c)))/\c<=1/\Own w' g M/\Wf M/\Out L M off n/\sg M off n+val bs*q=sg L off n+c*pw n/\But g w w':=by
 have HR:Aside (Rd B w ao bs/\m=bs.length/\Wf bs/\Wf L/\off+n<=L.length/\n=m+1):=⟨hR,hm,hb,hL,hoff,GQ⟩;have HO:Hid (Own w g L):=hO;have DC:Hid (∀ x y c s d w,_->_->_->_->_->_):=zB;have hmn1:m<n:=by omega
 clear hR hm hb hL hO hoff GQ;go_enter Tryz.func230,Tryz.ntmps230;go_wp2
 go_loopg [7,8,14] m (fun gk c bo i wr=>∃ (k cv bv:Nat) (M:List Nat),gk+k=m/\c=.int .u64 (cv:Nat)/\cv<4294967296/\bo=.int .u32 (bv:Nat)/\bv<=1/\i=.int .i64 (k:Nat) /\
  Hid (Own wr g M)/\Aside (Wf M/\Out L M off k/\sg M off k+sg bs 0 k*q=sg L off k+(cv+bv)*pw k/\But g w wr))
 case atStart=>exact⟨0,0,0,L,by omega,rfl,by omega,rfl,by omega,rfl,HO,HR.o.r3.1,Out.refl _ _ _,by simp[dF],But.refl _ _⟩
 case round =>
  obtain⟨k,cv,bv,M,lU,rfl,hcv,rfl,hbv,rfl,HM,HA⟩:=hrel
  by_cases hk:k<m
  · obtain⟨hR,hm,hb,hL,hoff,GQ⟩:=HR.o;obtain⟨aR,eQ,hMs,aD⟩:=HA.o;obtain⟨b,eX,JJ,rfl,hbc⟩:=hR (by intro e;subst e;simp at hm;omega)
    have hbk:wr.cell? ⟨b,eX+k,none⟩=some (.int .u32 ((bs.getD k 0:Nat):Int)):=by
     have h1:=aD.block b (qh w ⟨b,eX+k,none⟩ (hbc k (by omega))) (by omega);exact zj
    have hgc:=HM.o.cell (off+k) (by rw[eQ.1];omega);have hgf:=HM.o.frozen (off+k);obtain⟨x,hx⟩:∃ x:Nat,M.getD (off+k) 0=x:=⟨_,rfl⟩;obtain⟨y,hy⟩:∃ y:Nat,bs.getD k 0=y:=⟨_,rfl⟩;have hxl:x<4294967296:=hx ▸ aR.get _;have hyl:y<4294967296:=hy ▸ hb.get _;rw[hx] at hgc;rw[hy] at hbk;have hp0:=sI y q hyl hq;have hp2:(y:Int)*(q:Int)<=18446744065119617025:=by rw[<-dK];omega
    have hp1:0<=(y:Int)*(q:Int):=by rw[<-dK];omega
    obtain⟨tl,htl⟩:∃ s:Nat,s=(y*q+cv)%4294967296:=⟨_,rfl⟩;obtain⟨d,hd⟩:∃ d:Nat,d=(y*q+cv)/4294967296:=⟨_,rfl⟩;have e0:((y*q+cv:Nat):Int)=(y:Int)*q+cv:=by simp only[wN,dK]
    have e1:((y:Int)*q+cv)%4294967296=(tl:Int):=by rw[<-e0];omega
    have e2:((y:Int)*q+cv)/4294967296=(d:Int):=by rw[<-e0];omega
    obtain⟨s,hs⟩:∃ s:Nat,(s:Int)=((x:Int)-tl-bv)%4294967296:=⟨(((x:Int)-tl-bv)%4294967296).toNat,by omega⟩;obtain⟨bn,hbn⟩:∃ bn:Nat,bn=if x<tl+bv then 1 else 0:=⟨_,rfl⟩
    have htl2:tl<4294967296:=by omega
    have HX:Aside (M.getD (off+k) 0=x/\bs.getD k 0=y/\tl+d*4294967296=y*q+cv/\d<4294967296/\(s:Int)=((x:Int)-tl-bv)%4294967296/\bn=if x<tl+bv then 1 else 0):=⟨hx,hy,by omega,by omega,hs,hbn⟩;clear hx hy hs hd hR hm hb hL hoff aR eQ hMs aD hbc e0 hp0 hbn htl GQ;go_wp2_with fail;refine(DC.o x tl bv s bn _ hxl htl2 hbv HX.o.r4.1 HX.o.r5).mono ?_;rintro r w1 ⟨rfl,rfl⟩;go_wp2;go_roundg (gk-1)
    case measure=>omega
    case rel =>
     obtain⟨hx,hy,he,hd,hs,hbn⟩:=HX.o;obtain⟨hR,hm,hb,hL,hoff,GQ⟩:=HR.o;obtain⟨aR,eQ,hMs,aD⟩:=HA.o;have Yd:bn<=1:=by rw[hbn];split <;> omega
     have hsum:s+tl+bv=x+bn*4294967296:=by rw[hbn];split <;> omega
     refine⟨k+1,d,bn,M.set (off+k) s,by omega,rfl,hd,rfl,Yd,by go_num,HM.o.set _ _,aR.set _ _ (by omega),(eQ.mono (by omega)).set _ _ (by omega) (by omega),?_,aD.set _ _⟩;rw[bF _ _ _ _ (by rw[eQ.1];omega),bA L off k (by omega),bA bs 0 k (by omega),cO,hy,bz];have e:L.getD (off+k) 0=x:=by rw[<-hx];exact(eQ.2 _ (by omega)).symm
     rw[e];exact xw _ _ _ _ _ _ _ _ _ _ hMs (by rw[fC];omega)
  · obtain rfl:k=m:=by omega
    obtain⟨hR,hm,hb,hL,hoff,GQ⟩:=HR.o;obtain⟨aR,eQ,hMs,aD⟩:=HA.o;have hgc:=HM.o.cell (off+k) (by rw[eQ.1];omega);have hgf:=HM.o.frozen (off+k);obtain⟨x,hx⟩:∃ x:Nat,M.getD (off+k) 0=x:=⟨_,rfl⟩;have hxl:x<4294967296:=hx ▸ aR.get _;rw[hx] at hgc;obtain⟨s,hs⟩:∃ s:Nat,(s:Int)=((x:Int)-cv-bv)%4294967296:=⟨(((x:Int)-cv-bv)%4294967296).toNat,by omega⟩;obtain⟨bn,hbn⟩:∃ bn:Nat,bn=if x<cv+bv then 1 else 0:=⟨_,rfl⟩
    have HX:Aside (M.getD (off+k) 0=x/\(s:Int)=((x:Int)-cv-bv)%4294967296/\bn=if x<cv+bv then 1 else 0):=⟨hx,hs,hbn⟩;clear hx hs hR hm hb hL hoff aR eQ hMs aD hbn GQ;go_wp2_with fail;refine(DC.o x cv bv s bn _ hxl hcv hbv HX.o.2.1 HX.o.r2).mono ?_;rintro r w1 ⟨rfl,rfl⟩;go_wp2;go_ret;obtain⟨hx,hs,hbn⟩:=HX.o;obtain⟨hR,hm,hb,hL,hoff,GQ⟩:=HR.o;obtain⟨aR,eQ,hMs,aD⟩:=HA.o;have Yd:bn<=1:=by rw[hbn];split <;> omega
    have hsum:s+cv+bv=x+bn*4294967296:=by rw[hbn];split <;> omega
    refine⟨M.set (off+k) s,bn,rfl,Yd,HM.o.set _ _,aR.set _ _ (by omega),(eQ.mono (by omega)).set _ _ (by omega) (by omega),?_,aD.set _ _⟩;subst GQ;rw[bF _ _ _ _ (by rw[eQ.1];omega),bA L off k (by omega),bz];have e:L.getD (off+k) 0=x:=by rw[<-hx];exact(eQ.2 _ (by omega)).symm
    rw[e];have h2:=xw (pw k) _ _ _ _ x 0 q s bn hMs (by omega);rw[nP,gJ,hm,dh] at h2;exact hm ▸ h2
theorem Pv(U V P o c m:Nat)(h1:m+V*o=U+c*P)(hc:c<=1)(h2:U<(o+1)*V)(h3:o*V<=U+V)(hm:m<P)(hV:V<=P)(h0:c=0):m=U-o*V/\m<V/\U=o*V+m:=by
 subst h0;rw[bJ V] at h1;rw[fC,gI] at h2;refine⟨by omega,by omega,by omega⟩
theorem Lr(U V P o c m M d:Nat)(h1:m+V*(o+1)=U+1*P)(h2:U<(o+1+1)*V)(h3:(o+1)*V<=U+V)(hm:m<P)(hM:M<P)(hb:M+d*P=m+V)(hd:d<=1)(hU:U<V*4294967296)(Xw:V*4294967296<=P*4294967296)(hV:V<=P) :
 U=o*V+M/\M<V:=by
 rw[gI] at h1;have e:V*(o+1)=o*V+V:=by grind
 rw[e] at h1;rw[fC,gI] at h3;rcases(by omega:d=0\/d=1) with rfl|rfl
 · exfalso;rw[dS] at hb;omega
 · rw[gI] at hb;constructor
   · omega
   · omega
theorem DF (L bs:List Nat) (g off cap:Nat) (ao:Option Addr) (n aS B:Nat) (w:World) (k:Nat) (hnk:n=k+2)
 (hO:Own w g L) (hoff:off+(k+3)<=L.length) (hm:k+2=bs.length) (hcap:n+1<=cap) (hbig:n+1<=4611686018427387904) (hL:Wf L) (hb:Wf bs) (hR:Rd B w ao bs) (hB:B<=g)
 (htop:2147483648<=bs.getD (k+1) 0) (hlt:sg L off (k+3)<val bs*4294967296) :
 Calls Tryz.prog 225 #[.slice (some ⟨g,off,none⟩) (n+1) cap,.slice ao n aS] w fun r w' =>
  ∃ o:Nat,∃ M,r=.returned (.int .u32 (o:Nat))/\o<4294967296/\Own w' g M/\Wf M/\Out L M off (n+1)/\sg L off (n+1)=o*val bs+sg M off (n+1)/\sg M off (n+1)<val bs/\But g w w':=by
 have G:=hid (Lp L bs g off cap ao n aS B w k hnk hO hoff hm hcap (by omega) hL hb hR htop hlt);have HH:=(Dh hO hoff hm hL hb hR hlt hnk);clear hO hoff hm hL hb hR hlt hnk htop;go_enter Tryz.func225,Tryz.ntmps225;go_wp2_with fail;refine G.o.mono ?_;rintro r w1 ⟨o,rfl,ho,h2,h3,hbel⟩;obtain⟨hO,hoff,hm,hL,hb,hR,hlt,hnk⟩:=HH.o;have hg:=hO.lt;have lD:=hO.below hbel hg;have DI:Rd B w1 ao bs:=hR.below (hbel.mono (by omega));have T:=hid (yZ L bs g off (n+1) cap ao n aS B o w1 lD (by omega) (by omega) rfl hcap hbig hL hb DI hB ho);have HI:=(fG h2 h3 hbel);clear hO hoff hm hL hb hR hlt hnk hg lD DI h2 h3 hbel G;go_wp2_with fail;refine T.o.mono ?_;rintro r w2 ⟨M,c,rfl,hc,hO2,hM,hout,hsum,aD⟩;obtain⟨hO,hoff,hm,hL,hb,hR,hlt,hnk⟩:=HH.o;obtain⟨h2,h3,hbel⟩:=HI.o;have e3:k+3=n+1:=by omega
 rw[e3] at h2 h3 hlt;have GU:=nz M off (n+1) hM (by rw[hout.1];omega);have JM:=bN bs hb
 have Xw:val bs<=pw (n+1):=by
  have:=jO (show bs.length<=n+1 by omega);omega
 by_cases h0:c=0
 · obtain⟨e,hlt2,hU⟩:=Pv _ _ _ _ _ _ hsum hc h2 h3 GU Xw h0;have HJ:=(Du hO2 hM hout hU hlt2 aD hbel);subst h0;clear hO hoff hm hL hb hR hlt hnk h2 h3 hbel hO2 hM hout hsum aD GU JM Xw e hlt2 hU T HI e3 hc;go_wp2;go_ret;obtain⟨hO2,hM,hout,hU,hlt2,aD,hbel⟩:=HJ.o;exact⟨o,M,rfl,ho,hO2,hM,hout,hU,hlt2,(But.refl _ _).of_below hbel |>.trans aD⟩
 · obtain rfl:c=1:=by omega
   have ho1:1<=o:=by
    rcases jH o with h|h
    · subst h;rw[nP] at hsum;have:=nz L off (n+1) hL (by omega);omega
    · exact h
   obtain⟨p,hp⟩:∃ p,o=p+1:=⟨o-1,by omega⟩;have hR2:Rd B w2 ao bs:=(hR.below (hbel.mono (by have:=hO.lt;omega))).but aD (by have:=hbel.size;have:=hO.lt;omega) hB;have A:=hid (sM M bs g off (n+1) cap ao n aS B w2 hO2 (by rw[hout.1];omega) (by omega) (by omega) hcap hbig hM hb hR2 hB);have HJ:=(X9 hM hout hsum aD hbel h2 h3 GU Xw hlt hp);clear hO hoff hm hL hb hR hlt hnk h2 h3 hbel hO2 hM hout hsum aD GU JM Xw T HI hR2 h0 hp e3 hc;go_wp2_with fail;refine A.o.mono ?_;rintro r w3 ⟨M2,d,rfl,hd,hO3,hM2,hout2,JN,qZ⟩;have HK:=(jD hd hO3 hM2 hout2 JN qZ);clear hd hO3 hM2 hout2 JN qZ A;go_wp2;go_ret;obtain⟨hM,hout,hsum,aD,hbel,h2,h3,GU,Xw,hlt,hp⟩:=HJ.o;obtain⟨hd,hO3,hM2,hout2,JN,qZ⟩:=HK.o;obtain⟨hO,hoff,hm,hL,hb,hR,hlt',hnk⟩:=HH.o;have hm2:=nz M2 off (n+1) hM2 (by rw[hout2.1,hout.1];omega);subst hp;obtain⟨hU,hlt2⟩:=Lr _ _ _ p 1 _ _ d hsum h2 h3 GU hm2 JN hd hlt (di _ Xw) Xw;refine⟨p,M2,?_,by omega,hO3,hM2,hout.trans hout2,hU,hlt2,(((But.refl _ _).of_below hbel).trans aD).trans qZ⟩;exact congrArg (fun z=>Ending.returned (Value.int IntKind.u32 z)) (by omega)
def bl(n:Nat):Nat:=if n=0 then 0 else n.log2+1
theorem df:bl 0=0:=rfl
theorem iq(n:Nat):n<2^bl n:=by
 unfold bl
 split
 · next h=>subst h;decide
 · exact Nat.lt_log2_self
theorem gL(n:Nat)(h:n≠0):2^(bl n-1)<=n:=by
 unfold bl;rw[if_neg h];exact Nat.log2_self_le h
theorem dm(n:Nat)(h:n≠0):0<bl n:=by unfold bl;rw[if_neg h];omega
theorem DJ(n k:Nat)(h1:2^k<=n)(h2:n<2^(k+1)):bl n=k+1:=by
 have hn:n≠0:=by have:=aU k;omega
 have a:k<bl n:=(jI (a:=2) (by decide)).1 (gQ h1 (iq n));have b:bl n-1<k+1:=(jI (a:=2) (by decide)).1 (gQ (gL n hn) h2);omega
theorem zF(x:Nat)(h:x<18446744073709551616):Lib.bitLen x=bl x:=by
 by_cases h0:x=0
 · subst h0;decide
 · obtain⟨h1,h2,h3⟩:=Lib.bitLenAux_bounds 64 x h h0;obtain⟨k,hk⟩:∃ k,Lib.bitLen x=k+1:=⟨Lib.bitLen x-1,by unfold Lib.bitLen;omega⟩;have hk':Lib.bitLenAux 64 x=k+1:=hk;rw[hk'] at h2 h3;rw[hk,DJ x k h2 h3]
theorem tab8(n:Nat)(h:n<Lib.len8tab.size):(Lib.len8tab[n]'h).toNat=Lib.bitLen n:=by
 have hn:n<256:=by rw[Lib.len8tab_size] at h;exact h
 have e:=Lib.len8_eq ⟨n,hn⟩;simp only[Lib.len8,j6] at e;rw[getElem?_pos Lib.len8tab n h] at e;exact Int.natCast_inj.1 (by simpa using e)
theorem jo(x i:Int)(c:Nat)(hc:c<=56)(hi:i<256)(hs:Lib.bitLen x.toNat=c+Lib.bitLen i.toNat)(hh:i.toNat<Lib.len8tab.size)(hi0:0<=i) :
 wrap64 ((c:Int)+wrap64 ((Lib.len8tab[i.toNat]'hh).toNat:Int))=(Lib.bitLen x.toNat:Int):=by
 have l:=Lib.bitLen_le8 ⟨i.toNat,by omega⟩;simp only at l;rw[tab8,hs];unfold wrap64;omega
theorem DN(x:Int)(hi:x<256)(hi0:0<=x)(hh:x.toNat<Lib.len8tab.size) :
 wrap64 (wrap64 ((Lib.len8tab[x.toNat]'hh).toNat:Int))=(Lib.bitLen x.toNat:Int):=by
 have l:=Lib.bitLen_le8 ⟨x.toNat,by omega⟩;simp only at l;rw[tab8];unfold wrap64;omega
set_option maxRecDepth 100000 in
theorem Ls(x:Int)(w:World)(h0:0<=x)(h1:x<=4294967295) :
 Calls Tryz.prog 138 #[.int .u32 x] w fun e w'=>e=.returned (.int .i64 (Lib.bitLen x.toNat))/\w'=w:=by
 have hsz:Lib.len8tab.size=256:=Lib.len8tab_size;go_enter Tryz.func138,Tryz.ntmps138;go_wp2
 all_goals (go_ret;refine⟨congrArg (fun z=>Ending.returned (Value.int IntKind.i64 z)) ?_,rfl⟩)
 · exact jo x (x/65536/256) 24 (by omega) (by omega) (by rw[Lib.bitLen_shift24 x.toNat (by omega) (by omega),show(x/65536/256).toNat=x.toNat/16777216 by omega]) (by omega) (by omega)
 · exact jo x (x/65536) 16 (by omega) (by omega) (by rw[Lib.bitLen_shift16 x.toNat (by omega) (by omega),show(x/65536).toNat=x.toNat/65536 by omega]) (by omega) (by omega)
 · exact jo x (x/256) 8 (by omega) (by omega) (by rw[Lib.bitLen_shift8 x.toNat (by omega) (by omega),show(x/256).toNat=x.toNat/256 by omega]) (by omega) (by omega)
 · exact DN x (by omega) (by omega) (by omega)
theorem zG(x:Nat)(w:World)(h:x<4294967296):Calls Tryz.prog 138 #[.int .u32 (x:Int)] w fun e w'=>e=.returned (.int .i64 (bl x:Nat))/\w'=w:=by
 have:=Ls x w (by omega) (by omega);rw[j6,zF x (by omega)] at this;exact this
theorem vO(x:Nat)(h:x<4294967296):bl x<=32:=by
 by_cases h0:x=0
 · subst h0;decide
 · have:=gL x h0;have:2^(bl x-1)<2^32:=by omega
   have:=(jI (a:=2) (by decide)).1 this;omega
theorem GV(x:Nat)(w:World)(h:x<4294967296):Calls Tryz.prog 224 #[.int .u32 (x:Int)] w fun e w'=>e=.returned (.int .i64 ((32-bl x:Nat):Int))/\w'=w:=by
 have H:=hid (zG x w h);have hb:=vO x h;obtain⟨k,hk⟩:∃ k,bl x=k:=⟨_,rfl⟩;rw[hk] at H hb |-;clear hk;obtain⟨z,hz⟩:=af (32-k);have e:(32:Int)-(k:Int)=(z:Int):=by omega
 rw[<-hz];clear hz;go_enter Tryz.func224,Tryz.ntmps224;go_wp2_with fail;refine H.o.mono ?_;rintro r w1 ⟨rfl,rfl⟩;go_wp2;go_ret;exact⟨by first | rfl | rw[e],rfl⟩
end
end Go.Proofs.YtjppdacikihpdaaGreatDoor
