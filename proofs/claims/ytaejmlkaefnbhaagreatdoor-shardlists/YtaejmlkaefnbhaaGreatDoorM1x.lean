import Derived.Deep.LoopGhost
import Derived.Test.YtaejmlkaefnbhaaGreatDoorProg
import Derived.WalkKit
import Derived.OwnWalk
import Derived.Below
import Derived.Laws.OwnMore
import Derived.Laws.CopyOwn
import Derived.Laws.Bits64b
import Derived.Deep.RegionWith
import Derived.Lib.Strings
import Derived.Lib.Slices
import Derived.Lib.Small
import Derived.Lib.Walk
import Derived.Lib.BitFns
import Derived.Lib.Tables
import Derived.Lib.ItoaNum
import Derived.Lib.TrailingZeros
set_option linter.unusedVariables false
set_option linter.unusedSimpArgs false
set_option maxHeartbeats 16000000
set_option maxRecDepth 20000
namespace Go.Proofs.YtaejmlkaefnbhaaGreatDoor
theorem ah{A:Sort _}(a:A):∃ x,x=a:=⟨a,rfl⟩
theorem aT{a0 a1:Prop}(h0:a0)(h1:a1):Go.Aside (a0∧a1):=⟨h0,h1⟩
theorem bM{a0 a1 a2:Prop}(h0:a0)(h1:a1)(h2:a2):Go.Aside (a0∧a1∧a2):=⟨h0,h1,h2⟩
theorem mh{a0 a1 a2 a3:Prop}(h0:a0)(h1:a1)(h2:a2)(h3:a3):Go.Aside (a0∧a1∧a2∧a3):=⟨h0,h1,h2,h3⟩
theorem iq{a0 a1 a2 a3 a4:Prop}(h0:a0)(h1:a1)(h2:a2)(h3:a3)(h4:a4):Go.Aside (a0∧a1∧a2∧a3∧a4):=⟨h0,h1,h2,h3,h4⟩
theorem rG{a0 a1 a2 a3 a4 a5:Prop}(h0:a0)(h1:a1)(h2:a2)(h3:a3)(h4:a4)(h5:a5):Go.Aside (a0∧a1∧a2∧a3∧a4∧a5):=⟨h0,h1,h2,h3,h4,h5⟩
theorem EF{a0 a1 a2 a3 a4 a5 a6:Prop}(h0:a0)(h1:a1)(h2:a2)(h3:a3)(h4:a4)(h5:a5)(h6:a6):Go.Aside (a0∧a1∧a2∧a3∧a4∧a5∧a6):=⟨h0,h1,h2,h3,h4,h5,h6⟩
theorem EG{a0 a1 a2 a3 a4 a5 a6 a7:Prop}(h0:a0)(h1:a1)(h2:a2)(h3:a3)(h4:a4)(h5:a5)(h6:a6)(h7:a7):Go.Aside (a0∧a1∧a2∧a3∧a4∧a5∧a6∧a7):=⟨h0,h1,h2,h3,h4,h5,h6,h7⟩
theorem Yr{a0 a1 a2 a3 a4 a5 a6 a7 a8:Prop}(h0:a0)(h1:a1)(h2:a2)(h3:a3)(h4:a4)(h5:a5)(h6:a6)(h7:a7)(h8:a8):Go.Aside (a0∧a1∧a2∧a3∧a4∧a5∧a6∧a7∧a8):=⟨h0,h1,h2,h3,h4,h5,h6,h7,h8⟩
theorem Vh{a0 a1 a2 a3 a4 a5 a6 a7 a8 a9:Prop}(h0:a0)(h1:a1)(h2:a2)(h3:a3)(h4:a4)(h5:a5)(h6:a6)(h7:a7)(h8:a8)(h9:a9):Go.Aside (a0∧a1∧a2∧a3∧a4∧a5∧a6∧a7∧a8∧a9):=⟨h0,h1,h2,h3,h4,h5,h6,h7,h8,h9⟩
theorem qs11{a0 a1 a2 a3 a4 a5 a6 a7 a8 a9 Vi:Prop}(h0:a0)(h1:a1)(h2:a2)(h3:a3)(h4:a4)(h5:a5)(h6:a6)(h7:a7)(h8:a8)(h9:a9)(h10:Vi):Go.Aside (a0∧a1∧a2∧a3∧a4∧a5∧a6∧a7∧a8∧a9∧Vi):=⟨h0,h1,h2,h3,h4,h5,h6,h7,h8,h9,h10⟩
theorem qs12{a0 a1 a2 a3 a4 a5 a6 a7 a8 a9 Vi a11:Prop}(h0:a0)(h1:a1)(h2:a2)(h3:a3)(h4:a4)(h5:a5)(h6:a6)(h7:a7)(h8:a8)(h9:a9)(h10:Vi)(h11:a11):Go.Aside (a0∧a1∧a2∧a3∧a4∧a5∧a6∧a7∧a8∧a9∧Vi∧a11):=⟨h0,h1,h2,h3,h4,h5,h6,h7,h8,h9,h10,h11⟩
theorem _root_.Go.Aside.o{p:Prop}(h:Go.Aside p):p:=h.out
theorem _root_.Go.RowKit.Hid.o{p:Prop}(h:Go.RowKit.Hid p):p:=h.out
theorem _root_.And.r2{a0 a1 a2:Prop}(h:a0∧a1∧a2):a2:=h.2.2
theorem _root_.And.r3{a0 a1 a2 a3:Prop}(h:a0∧a1∧a2∧a3):a3:=h.2.2.2
theorem _root_.And.r4{a0 a1 a2 a3 a4:Prop}(h:a0∧a1∧a2∧a3∧a4):a4:=h.2.2.2.2
theorem _root_.And.r5{a0 a1 a2 a3 a4 a5:Prop}(h:a0∧a1∧a2∧a3∧a4∧a5):a5:=h.2.2.2.2.2
theorem _root_.And.r6{a0 a1 a2 a3 a4 a5 a6:Prop}(h:a0∧a1∧a2∧a3∧a4∧a5∧a6):a6:=h.2.2.2.2.2.2
theorem _root_.And.r7{a0 a1 a2 a3 a4 a5 a6 a7:Prop}(h:a0∧a1∧a2∧a3∧a4∧a5∧a6∧a7):a7:=h.2.2.2.2.2.2.2
theorem _root_.And.r8{a0 a1 a2 a3 a4 a5 a6 a7 a8:Prop}(h:a0∧a1∧a2∧a3∧a4∧a5∧a6∧a7∧a8):a8:=h.2.2.2.2.2.2.2.2
abbrev aB:=@Nat.le_refl
abbrev aS:=@List.getD_eq_getElem?_getD
abbrev aV:=@Nat.le_trans
abbrev aW:=@Nat.pow_add
abbrev aY:=@List.getElem?_eq_getElem
abbrev bK:=@Nat.two_pow_pos
abbrev bR:=@Nat.mul_comm
abbrev dm:=@Nat.zero_add
abbrev dH:=@Nat.mul_assoc
abbrev fB:=@Prod.mk.inj
abbrev dF:=@Nat.mul_le_mul_right
abbrev dU:=@Int.natCast_mul
abbrev dV:=@Nat.add_mul
abbrev dY:=@Bool.false_eq_true
abbrev fw:=@Nat.pow_succ
abbrev fA:=@List.mem_append
abbrev fG:=@Array.getElem?_eq_some_iff
abbrev gm:=@List.length_take
abbrev gF:=@Nat.pow_le_pow_right
abbrev gG:=@Nat.lt_of_lt_of_le
abbrev gH:=@Nat.mul_le_mul_left
abbrev gI:=@Nat.mul_one
abbrev gT:=@Nat.zero_mul
abbrev gU:=@Nat.add_zero
abbrev iw:=@List.getElem_mem
abbrev iy:=@Nat.min_eq_left
abbrev iA:=@Array.getElem?_modify
abbrev iB:=@Nat.mod_lt
abbrev iC:=@Nat.lt_of_le_of_lt
abbrev iD:=@Bool.toNat_true
abbrev iE:=@Bool.toNat_false
abbrev iI:=@Nat.div_eq_of_lt
abbrev iJ:=@Nat.lt_or_ge
abbrev ja:=@Nat.mod_eq_of_lt
abbrev jc:=@List.take_of_length_le
abbrev jd:=@Nat.zero_le
abbrev jr:=@Nat.pow_zero
abbrev jE:=@List.length_drop
abbrev jF:=@Nat.one_mul
abbrev jV:=@Nat.mul_lt_mul_of_pos_right
abbrev ku:=@Nat.pow_lt_pow_iff_right
abbrev kv:=@List.length_append
abbrev kz:=@Nat.ne_of_lt
abbrev kC:=@Int.mul_assoc
abbrev kU:=@List.length_cons
abbrev kV:=@Int.toNat_natCast
abbrev kW:=@List.mem_map
abbrev kX:=@List.mem_range
abbrev lK:=@Nat.add_comm
abbrev lM:=@Nat.le_of_not_lt
abbrev mo:=@Nat.mul_le_mul
abbrev mq:=@List.getElem?_append_left
abbrev mr:=@List.getElem?_append_right
abbrev nK:=@Nat.add_assoc
abbrev nL:=@Nat.mul_zero
abbrev nU:=@Nat.add_sub_cancel
abbrev nV:=@Nat.le_of_lt
abbrev nW:=@Nat.mul_pos
abbrev nX:=@List.append_assoc
abbrev nY:=@List.mem_cons_of_mem
abbrev nZ:=@List.countP_cons
abbrev qB:=@List.append_nil
abbrev qC:=@List.length_map
abbrev qD:=@List.mem_cons_self
abbrev rH:=@List.getElem?_eq_none
abbrev rJ:=@Nat.mul_add
abbrev rM:=@Nat.pow_mul
abbrev rO:=@Nat.eq_zero_or_pos
abbrev rP:=@List.drop_left'
abbrev rQ:=@List.take_left'
abbrev uR:=@Nat.div_lt_iff_lt_mul
abbrev uS:=@Nat.div_add_mod
abbrev uT:=@Int.emod_eq_of_lt
abbrev uU:=@Nat.div_le_self
abbrev uV:=@List.map_append
abbrev uW:=@Nat.div_div_eq_div_mul
abbrev uX:=@List.getElem?_map
abbrev uY:=@Int.compare_eq_lt
abbrev uZ:=@Int.compare_eq_gt
abbrev ve:=@Int.compare_eq_eq
abbrev vg:=@Bool.false_and
abbrev vk:=@Bool.true_and
abbrev vo:=@List.take_add_one
abbrev wX:=@List.map_set
abbrev wY:=@Nat.add_mul_div_left
abbrev wZ:=@Nat.sub_self
abbrev xc:=@Int.natAbs_natCast
abbrev xe:=@List.mem_iff_getElem
abbrev xg:=@List.eq_nil_of_length_eq_zero
abbrev xh:=@List.countP_le_length
abbrev xk:=@List.length_filter_le
abbrev zZ:=@Nat.mul_div_cancel_left
abbrev Aa:=@List.getElem?_eq_some_iff
abbrev Ab:=@List.take_length
abbrev Ad:=@Array.getElem?_setIfInBounds
abbrev Ae:=@Bool.false_ne_true
abbrev Af:=@List.foldl_cons
abbrev Ag:=@List.mem_filter
abbrev Ah:=@List.pairwise_iff_getElem
abbrev EL:=@List.replicate_succ
abbrev xm:=@List.take_succ_eq_append_getElem
abbrev xn:=@List.drop_replicate
abbrev xu:=@Nat.mod_add_div
abbrev xw:=@Nat.add_mul_mod_self_left
abbrev xx:=@Int.natCast_add
abbrev xy:=@Nat.mul_div_cancel
abbrev xz:=@List.drop_of_length_le
abbrev xA:=@Option.isSome_iff_exists
abbrev xB:=@Nat.succ_mul
abbrev xC:=@Nat.eq_of_mul_eq_mul_right
abbrev xD:=@Bool.and_eq_true
abbrev xE:=@Array.getElem?_eq_none
abbrev xG:=@Bool.eq_iff_iff
abbrev xH:=@Nat.le_div_iff_mul_le
abbrev xI:=@Nat.lt_of_mul_lt_mul_right
abbrev xJ:=@List.set_comm
abbrev BS:=@List.mem_of_mem_take
abbrev BV:=@Nat.two_pow_add_eq_or_of_lt
abbrev BX:=@Array.toList_inj
abbrev Ca:=@Nat.add_mul_mod_self_right
abbrev Cb:=@List.length_replicate
abbrev Cc:=@Nat.shiftLeft_eq
abbrev Ce:=@Nat.sub_add_cancel
abbrev Cf:=@Option.getD_some
abbrev Cg:=@Int.lt_trichotomy
abbrev Ch:=@Nat.mul_lt_mul''
abbrev Ci:=@List.set_append_right
abbrev Cj:=@List.set_cons_zero
abbrev Ck:=@List.flatten_append
abbrev Cm:=@List.length_singleton
abbrev Cn:=@Int.natAbs_mul_self
abbrev Co:=@Int.natCast_nonneg
abbrev Cq:=@List.exists_cons_of_length_pos
abbrev Cr:=@List.length_range
abbrev IQ:=@List.drop_eq_getElem_cons
abbrev IU:=@Nat.shiftRight_xor_distrib
abbrev IV:=@Nat.mul_lt_mul_of_pos_left
abbrev IW:=@Nat.div_le_div_right
abbrev IX:=@Nat.mod_two_eq_zero_or_one
abbrev IY:=@Nat.and_two_pow_sub_one_eq_mod
abbrev IZ:=@Classical.choose_spec
abbrev I4:=@Int.tmod_eq_emod_of_nonneg
abbrev I5:=@Classical.byContradiction
abbrev I6:=@List.perm_append_comm
abbrev aJ:=@Go.bodyPost_ret
abbrev aG:=@Go.RowKit.Below.refl
abbrev dL:=@Go.World.size_alloc
abbrev iH:=@Go.World.block_lt_of_cell?
abbrev jC:=@Go.heap_alloc_new
abbrev dI:=@Go.Calls.mono
abbrev Cs:=@Go.IntKind.wrap_u64
abbrev rR:=@Go.World.cell?_of_block
abbrev yy8Q:=@Go.IntKind.wrap_i64
abbrev QM:=@Go.World.ownsRow_nil
abbrev xK:=@Go.RowKit.Below.drew
theorem ai{a b:Prop}(x:a)(y:b):a/\b:=⟨x,y⟩
theorem au{a:Prop}(x:a):Aside a:=x
theorem af{p:Prop}(h:p:=by omega):p:=h
theorem aA{p:Prop}(h:p:=by decide):p:=h
theorem gD{p:Prop}(h:p:=by kernel_rfl):p:=h
theorem aL{p:Prop}(h:p:=by simp):p:=h
section
def pw(k:Nat):Nat:=4294967296^k
theorem jw:pw 0=1:=by simp[pw]
theorem bI(k:Nat):pw (k+1)=4294967296*pw k:=by simp[pw,fw,bR]
theorem Ct(i k:Nat):pw (i+k)=pw i*pw k:=by simp[pw,aW]
theorem jy(k:Nat):0<pw k:=Nat.pow_pos aA
theorem mW{i k:Nat}(h:i<=k):pw i<=pw k:=gF aA h
def val:List Nat->Nat
 | []=>0
 | x::xs=>x+4294967296*val xs
def Wf(xs:List Nat):Prop:=∀ x ∈ xs,x<4294967296
theorem Wf.nil:Wf []:=by intro x hx;cases hx
theorem Wf.cons{x:Nat}{xs:List Nat}(hx:x<4294967296)(h:Wf xs):Wf (x::xs):=by
 intro y hy;cases hy with
 | head=>exact hx
 | tail _ hy=>exact h y hy
theorem Wf.head{x:Nat}{xs:List Nat}(h:Wf (x::xs)):x<4294967296:=h x aL
theorem Wf.tail{x:Nat}{xs:List Nat}(h:Wf (x::xs)):Wf xs:=fun y hy=>h y (by simp[hy])
theorem Qbe{P:Prop}(h:P:=by
 rw[aS,aY hk];exact h _ (iw hk)):P:=h
theorem Wf.get{xs:List Nat}(h:Wf xs)(k:Nat):xs.getD k 0<4294967296:=by
 by_cases hk:k<xs.length
 · exact Qbe
 · rw[aS,rH af];decide
theorem Wf.take{xs:List Nat}(h:Wf xs)(k:Nat):Wf (xs.take k):=fun y hy=>h y (BS hy)
theorem Wf.drop{xs:List Nat}(h:Wf xs)(k:Nat):Wf (xs.drop k):=fun y hy=>h y (List.mem_of_mem_drop hy)
theorem Wf.append{xs ys:List Nat}(h:Wf xs)(k:Wf ys):Wf (xs++ys):=by
 intro y hy;rcases fA.1 hy with hy | hy
 · exact h y hy
 · exact k y hy
theorem Wf.set{xs:List Nat}(h:Wf xs)(k x:Nat)(hx:x<4294967296):Wf (xs.set k x):=by
 intro y hy;rcases List.mem_or_eq_of_mem_set hy with hy | hy
 · exact h y hy
 · omega
theorem Wf.zeros(n:Nat):Wf (List.replicate n 0):=by intro y hy;have:=List.eq_of_mem_replicate hy;omega
theorem val_append(xs ys:List Nat):val (xs++ys)=val xs+pw xs.length*val ys:=by
 induction xs with
 | nil=>simp[val,jw]
 | cons x xs ih=>simp only[List.cons_append,val,ih,kU,bI];grind
theorem kK(n:Nat):val (List.replicate n 0)=0:=by
 induction n with
 | zero=>rfl
 | succ n ih=>simp[EL,val,ih]
theorem jP(xs:List Nat)(k:Nat)(hk:k<xs.length):val (xs.take (k+1))=val (xs.take k)+pw k*xs.getD k 0:=by
 rw[xm hk,val_append,gm,iy af,aS,aY hk];simp[val]
theorem fu(xs:List Nat)(k:Nat)(hk:k<=xs.length):val xs=val (xs.take k)+pw k*val (xs.drop k):=by
 have h:=val_append (xs.take k) (xs.drop k);rw[List.take_append_drop,gm,iy hk] at h;exact h
theorem dQ(xs:List Nat)(k:Nat)(hk:k<xs.length):val (xs.drop k)=xs.getD k 0+4294967296*val (xs.drop (k+1)):=by
 rw[IQ hk,val,aS,aY hk];rfl
theorem df(xs:List Nat)(h:Wf xs):val xs<pw xs.length:=by
 induction xs with
 | nil=>simp[val,jw]
 | cons x xs ih =>
   have h1:=ih h.tail;have h2:=h.head;simp only[val,kU,bI];omega
def ws(n:Nat):List Nat:=if h:n=0 then[] else n%4294967296::ws (n/4294967296)
termination_by n
decreasing_by omega
theorem bB:ws 0=[]:=by rw[ws];simp
theorem mX(n:Nat)(h:n≠0):ws n=n%4294967296::ws (n/4294967296):=by rw[ws];simp[h]
theorem aC(n:Nat):val (ws n)=n:=by
 induction n using Nat.strongRecOn with
 | _ n ih =>
   by_cases h:n=0
   · subst h;simp[bB,val]
   · rw[mX n h,val,ih (n/4294967296) af];omega
theorem fP(n:Nat):Wf (ws n):=by
 induction n using Nat.strongRecOn with
 | _ n ih =>
   by_cases h:n=0
   · subst h;rw[bB];exact Wf.nil
   · rw[mX n h];exact Wf.cons af (ih _ af)
def nl:List Nat->Nat
 | []=>0
 | x::xs=>if nl xs=0/\x=0 then 0 else nl xs+1
theorem nM(xs:List Nat):nl xs<=xs.length:=by
 induction xs with
 | nil=>simp[nl]
 | cons x xs ih=>simp only[nl,kU];split <;> omega
theorem og(xs:List Nat):nl xs=0↔val xs=0:=by
 induction xs with
 | nil=>simp[nl,val]
 | cons x xs ih=>simp only[nl,val];split <;> omega
theorem rT(xs:List Nat)(h:Wf xs):xs.take (nl xs)=ws (val xs):=by
 induction xs with
 | nil=>simp[nl,val,bB]
 | cons x xs ih =>
   have h1:=ih h.tail;have h2:=h.head
   by_cases h3:nl xs=0/\x=0
   · have h4:=(og xs).1 h3.1;simp[nl,h3,val,h4,bB]
   · have h5:val (x::xs)≠0:=by
      intro h6;simp only[val] at h6;exact h3 ⟨(og xs).2 af,af⟩
     rw[mX _ h5];simp only[nl,if_neg h3,val,List.take_succ_cons];rw[show(x+4294967296*val xs)%4294967296=x by omega,show(x+4294967296*val xs)/4294967296=val xs by omega,h1]
theorem fT(xs:List Nat)(h:Wf xs):nl xs=(ws (val xs)).length:=by
 rw[<-rT xs h,gm,iy (nM xs)]
theorem oh(xs:List Nat)(h:Wf xs):val (xs.take (nl xs))=val xs:=by rw[rT xs h,aC]
theorem xL(n:Nat):nl (ws n)=(ws n).length:=by rw[fT _ (fP n),aC]
theorem cO(n k:Nat):(ws n).length<=k↔n<pw k:=by
 constructor
 · intro h;have h1:=df (ws n) (fP n);rw[aC] at h1;exact gG h1 (mW h)
 · intro h
   induction k generalizing n with
   | zero=>rw[jw] at h;obtain rfl:n=0:=af
           simp[bB]
   | succ k ih =>
     by_cases h0:n=0
     · subst h0;simp[bB]
     · rw[mX n h0,kU];rw[bI] at h;have:=ih (n/4294967296) af;omega
theorem Ni(n k:Nat)(h1:pw k<=n)(h2:n<pw (k+1)):(ws n).length=k+1:=by
 have a:=(cO n (k+1)).2 h2;have b:¬ (ws n).length<=k:=fun h=>by have:=(cO n k).1 h;omega
 omega
theorem tK(n:Nat)(h:n≠0):pw ((ws n).length-1)<=n:=by
 have h1:¬ (ws n).length<=(ws n).length-1:=by
  have:(ws n).length≠0:=by rw[mX n h];simp
  omega
 rw[cO] at h1;omega
theorem tL(n:Nat):n<pw (ws n).length:=(cO n _).1 (aB _)
theorem dA(n:Nat):(ws n).length=0↔n=0:=by
 constructor
 · intro h;have:=tL n;rw[h,jw] at this;omega
 · intro h;subst h;simp[bB]
theorem KN(xs:List Nat)(k:Nat)(hk:k<=xs.length)(h0:∀ j,k<=j->j<xs.length->xs.getD j 0=0)(h1:k=0\/xs.getD (k-1) 0≠0):nl xs=k:=by
 induction xs generalizing k with
 | nil=>simp at hk;simp[nl,hk]
 | cons x xs ih =>
   cases k with
   | zero =>
     have hx:=h0 0 af aL;have:nl xs=0:=ih 0 af (fun j _ hj=>by have:=h0 (j+1) af (by simp;omega);simpa using this) (.inl rfl);simp at hx;simp[nl,this,hx]
   | succ k =>
     cases k with
     | zero =>
       have:nl xs=0:=ih 0 af (fun j _ hj=>by have:=h0 (j+1) af (by simp;omega);simpa using this) (.inl rfl);simp at h1;simp[nl,this,h1]
     | succ k =>
       have:nl xs=k+1:=ih (k+1) (by simpa using hk) (fun j hj hj2=>by have:=h0 (j+1) af (by simp;omega);simpa using this) (.inr (by simpa using h1));simp[nl,this]
theorem Cu(xs:List Nat)(h:nl xs≠0):xs.getD (nl xs-1) 0≠0:=by
 induction xs with
 | nil=>simp[nl] at h
 | cons x xs ih =>
   by_cases h1:nl xs=0
   · have hx:x≠0:=by intro hx;simp[nl,h1,hx] at h
     simp[nl,h1,hx]
   · have h2:¬ (nl xs=0/\x=0):=af
     have:=ih h1;simp only[nl,if_neg h2];obtain⟨m,hm⟩:∃ m,nl xs=m+1:=⟨nl xs-1,af⟩;rw[hm] at this |-;simpa using this
end
section
open Go.RowKit
theorem hid{p:Prop}(h:p):Hid p:=h
def U(n:Nat):Value:=.int .u32 (n:Int)
def Own(w:World)(g:Nat)(L:List Nat):Prop:=w.heap[g]?=some (.cells (L.map U).toArray 138 (0,0))
theorem Own.lt{w:World}{g:Nat}{L:List Nat}(h:Own w g L):g<w.heap.size:=(fG.1 h).1
theorem Own.cell{w:World}{g:Nat}{L:List Nat}(h:Own w g L)(i:Nat)(hi:i<L.length):w.cell? ⟨g,i,none⟩=some (.int .u32 ((L.getD i 0:Nat):Int)):=by
 unfold Own at h;simp[World.cell?,h,U,hi]
theorem Qaw{P:Prop}(h:P:=by
 simp[World.frozen?,h]):P:=h
theorem Own.frozen{w:World}{g:Nat}{L:List Nat}(h:Own w g L)(i:Nat):w.frozen? ⟨g,i,none⟩=false:=by
 unfold Own at h;exact Qaw
theorem Own.set{w:World}{g:Nat}{L:List Nat}(h:Own w g L)(i x:Nat):Own (w.setCell ⟨g,i,none⟩ (.int .u32 (x:Int))) g (L.set i x):=by
 unfold Own at h |-;simp only[World.setCell,iA,h];simp[U,wX]
theorem Own.setOther{w:World}{g:Nat}{L:List Nat}(h:Own w g L){a:Addr}(ha:a.block≠g)(u:Value):Own (w.setCell a u) g L:=by
 unfold Own at h |-;rw[Below.heap_setCell _ _ _ _ (fun e=>ha e.symm)];exact h
theorem Own.alloc{w:World}{g:Nat}{L:List Nat}(h:Own w g L)(o:Obj):Own (w.alloc o) g L:=by
 have:=h.lt;unfold Own at h |-;rw[Below.heap_alloc _ _ _ this];exact h
theorem Own.drew{w:World}{g:Nat}{L:List Nat}(h:Own w g L):Own w.drew g L:=h
theorem Own.below{w w':World}{g B:Nat}{L:List Nat}(h:Own w g L)(hb:Below B w w')(hg:g<B):Own w' g L:=by
 unfold Own at h |-;rw[hb.block g hg];exact h
structure But (g:Nat) (w w':World):Prop where
 os:w'.os=w.os
 tape:w'.tape=w.tape
 output:w'.output=w.output
 size:w.heap.size<=w'.heap.size
 block:∀ k,k<w.heap.size->k≠g->w'.heap[k]?=w.heap[k]?
theorem But.refl(g:Nat)(w:World):But g w w:=⟨rfl,rfl,rfl,aB _,fun _ _ _=>rfl⟩
theorem But.trans{g:Nat}{a b c:World}(h:But g a b)(k:But g b c):But g a c :=
 ⟨k.os.trans h.os,k.tape.trans h.tape,k.output.trans h.output,aV h.size k.size,fun i hi hg=>(k.block i (gG hi h.size) hg).trans (h.block i hi hg)⟩
theorem But.drew{g:Nat}{a w:World}(h:But g a w):But g a w.drew:=⟨h.os,h.tape,h.output,h.size,h.block⟩
theorem But.set{g:Nat}{a w:World}(h:But g a w)(i:Nat)(u:Value):But g a (w.setCell ⟨g,i,none⟩ u) :=
 h.trans ⟨rfl,rfl,rfl,by simp[World.setCell],fun k _ hk=>Below.heap_setCell _ _ _ _ hk⟩
theorem But.of_below{g:Nat}{a w w':World}(h:But g a w)(hb:Below w.heap.size w w'):But g a w' :=
 h.trans ⟨hb.os,hb.tape,hb.output,hb.size,fun k hk _=>hb.block k hk⟩
theorem But.below{g B:Nat}{a w w':World}(h:Below B a w)(hb:But g w w')(hB:B<=w.heap.size)(hg:B<=g):Below B a w' :=
 h.trans ⟨hb.os,hb.tape,hb.output,hb.size,fun k hk=>hb.block k af af⟩
def Rd(B:Nat)(w:World)(ao:Option Addr)(xs:List Nat):Prop :=
 xs≠[]->∃ b off,b<B/\ao=some ⟨b,off,none⟩/\∀ i,i<xs.length->w.cell? ⟨b,off+i,none⟩=some (.int .u32 ((xs.getD i 0:Nat):Int))
theorem Rd.nil(B:Nat)(w:World)(ao:Option Addr):Rd B w ao []:=fun h=>absurd rfl h
theorem Qal{P:Prop}(h:P:=by
 intro hx;obtain⟨b,off,hlt,rfl,hc⟩:=h hx;exact⟨b,off,hlt,rfl,fun i hi=>(hb.cell (p:=⟨b,off+i,none⟩) hlt).trans (hc i hi)⟩):P:=h
theorem Rd.below{B:Nat}{w w':World}{ao:Option Addr}{xs:List Nat}(h:Rd B w ao xs)(hb:Below B w w'):Rd B w' ao xs:=by
 exact Qal
theorem Rd.but{B g:Nat}{w w':World}{ao:Option Addr}{xs:List Nat}(h:Rd B w ao xs)(hb:But g w w')(hB:B<=w.heap.size)(hg:B<=g):Rd B w' ao xs :=
 h.below (But.below (aG _ _) hb hB hg)
theorem Qbo{P:Prop}(h:P:=by
 intro hx;obtain⟨b,off,hlt,rfl,hc⟩:=h hx;exact⟨b,off,af,rfl,hc⟩):P:=h
theorem Rd.mono{B B':Nat}{w:World}{ao:Option Addr}{xs:List Nat}(h:Rd B w ao xs)(hB:B<=B'):Rd B' w ao xs:=by
 exact Qbo
theorem Rd.take{B:Nat}{w:World}{ao:Option Addr}{xs:List Nat}(h:Rd B w ao xs)(k:Nat):Rd B w ao (xs.take k):=by
 intro hx;have hx':xs≠[]:=by intro e;subst e;simp at hx
 obtain⟨b,off,hlt,rfl,hc⟩:=h hx';refine⟨b,off,hlt,rfl,fun i hi=>?_⟩;simp only[gm] at hi;rw[hc i af];simp[aS,show i<k by omega]
theorem Rd.gJ{w:World}{g:Nat}{L:List Nat}(h:Own w g L)(off n:Nat):Rd (g+1) w (some ⟨g,off,none⟩) ((L.drop off).take n):=by
 intro _;refine⟨g,off,af,rfl,fun i hi=>?_⟩;simp only[gm,jE] at hi;rw[h.cell _ af];simp[aS,show i<n by omega]
def Nt(lo:Nat)(w:World)(v:Value)(X:Nat):Prop:=w.ownsRow lo 138 1 v (ws X).length ((ws X).map U)
theorem Nt.nil(lo:Nat)(w:World):Nt lo w (.slice none 0 0) 0:=by
 unfold Nt;rw[bB];exact QM _ _ _ _
theorem Nt.gJ{lo:Nat}{w:World}{g:Nat}{L:List Nat}(h:Own w g L)(hlo:lo<=g)(hL:Wf L)(hm:L.length<=maxLen) :
 Nt lo w (.slice (some ⟨g,0,none⟩) (nl L) L.length) (val L):=by
 unfold Nt;have e:=rT L hL;have hn:=nM L;rw[<-e];refine⟨aL,.inr ⟨g,L.length,(L.map U).toArray,?_,hlo,h,?_,hm,aL,aL⟩⟩
 · simp[iy hn]
 · simp;omega
theorem Nt.shape{lo:Nat}{w:World}{v:Value}{X:Nat}(h:Nt lo w v X):∃ ao cap,v=.slice ao (ws X).length cap/\(ws X).length<=cap/\cap<=maxLen/\Rd w.heap.size w ao (ws X):=by
 rcases h.2 with ⟨rfl,h0⟩|⟨g,cap,cur,rfl,hlo,hg,hn,hm,hs,ht⟩
 · refine⟨none,0,by rw[h0],af,by unfold maxLen;omega,?_⟩;have:ws X=[]:=List.length_eq_zero_iff.1 h0;rw[this];exact Rd.nil _ _ _
 · refine⟨_,cap,rfl,hn,hm,fun _=>⟨g,0,(fG.1 hg).1,rfl,fun i hi=>?_⟩⟩;have:=h.cells (g:=g) (by simp[Value.ownBlock]) i (U ((ws X).getD i 0)) (by simp[hi]);have e:(⟨g,0,none⟩:Addr).add i=⟨g,0+i,none⟩:=by unfold Addr.add;split <;> simp_all
   rw[e] at this;simpa [U] using this
theorem Nt.below{lo:Nat}{w w':World}{v:Value}{X:Nat}(h:Nt lo w v X)(hb:Below w.heap.size w w'):Nt lo w' v X:=by
 refine⟨h.1,?_⟩;rcases h.2 with hn|⟨g,cap,cur,rfl,hlo,hg,rest⟩
 · exact .inl hn
 · refine .inr ⟨g,cap,cur,rfl,hlo,?_,rest⟩;rw[hb.block g (fG.1 hg).1];exact hg
theorem Qap{P:Prop}(h:P:=by
 refine⟨h.1,?_⟩;rcases h.2 with hn|⟨g,cap,cur,rfl,hlo,rest⟩
 · exact .inl hn
 · exact .inr ⟨g,cap,cur,rfl,af,rest⟩):P:=h
theorem Nt.mono{lo lo':Nat}{w:World}{v:Value}{X:Nat}(h:Nt lo w v X)(hl:lo'<=lo):Nt lo' w v X:=by
 exact Qap
theorem Tryz.KO:(Tryz.prog.info? 138).map (fun i=>(i.zero,i.size,i.bytes))=some (some (.int .u32 0),1,4):=by kernel_rfl
def Fs(B:Nat)(w:World)(ao:Option Addr)(xs:List Nat):Prop :=
 xs≠[]->∃ b off,b<B/\ao=some ⟨b,off,none⟩/\∀ i,i<xs.length->w.cell? ⟨b,off+i,none⟩=some (.float .f64 (xs.getD i 0))
theorem Fs.at{B:Nat}{w w':World}{ao:Option Addr}{xs:List Nat}(h:Fs B w ao xs)(hb:Below B w w')(i:Nat)(hi:i<xs.length):∃ b off,ao=some ⟨b,off,none⟩/\w'.cell? ⟨b,off+i,none⟩=some (.float .f64 (xs.getD i 0)):=by
 obtain⟨b,off,h1,h2,h3⟩:=h (by intro e;subst e;simp at hi);exact⟨b,off,h2,(hb.cell (p:=⟨b,off+i,none⟩) h1).trans (h3 i hi)⟩
theorem Qam{P:Prop}(h:P:=by
 intro hne;obtain⟨b,off,h1,h2,h3⟩:=h hne;exact⟨b,off,h1,h2,fun i hi=>(hb.cell (p:=⟨b,off+i,none⟩) h1).trans (h3 i hi)⟩):P:=h
theorem Fs.below{B:Nat}{w w':World}{ao:Option Addr}{xs:List Nat}(h:Fs B w ao xs)(hb:Below B w w'):Fs B w' ao xs:=by
 exact Qam
theorem Fs.mono{B B':Nat}{w:World}{ao:Option Addr}{xs:List Nat}(h:Fs B w ao xs)(hb:B<=B'):Fs B' w ao xs:=by
 intro hne;obtain⟨b,off,h1,h2,h3⟩:=h hne;exact⟨b,off,gG h1 hb,h2,h3⟩
def eD(xs:List Nat):Prop:=∀ x ∈ xs,x<18446744073709551616
theorem eD.get{xs:List Nat}(h:eD xs)(i:Nat):xs.getD i 0<18446744073709551616:=by
 by_cases hi:i<xs.length
 · rw[aS,aY hi];exact h _ (iw hi)
 · rw[aS,rH af];simp
theorem KK{P:Prop}(h:P:=by
 exact⟨rfl,rfl⟩):P:=h
theorem Ks{P:Prop}(h:P:=by
 go_ret;exact⟨rfl,rfl⟩):P:=h
theorem dK(xs:List Nat)(ao:Option Addr)(n cap B:Nat)(w:World)(hn:n=xs.length)(hc:n<=cap)(hm:n<=9223372036854775807)(hR:Rd B w ao xs) :
 Calls Tryz.prog 185 #[.slice ao n cap] w fun r w'=>r=.returned (.slice ao (nl xs) cap)/\w'=w:=by
 by_cases hx:xs=[]
 · subst hx;simp at hn;subst hn;go_enter Tryz.func185,Tryz.ntmps185;go_wp2
   go_loopg [0] 0 (fun g s wr=>s=.slice ao 0 cap/\wr=w)
   case atStart=>exact KK
   case round =>
    obtain⟨rfl,rfl⟩:=hrel;go_wp2;exact Ks
 · obtain⟨b,off,hB,rfl,hcell⟩:=hR hx;have HN:Aside (n=xs.length):=hn;clear hn hR hx;go_enter Tryz.func185,Tryz.ntmps185;go_wp2
   go_loopg [0] n (fun g s wr=>g<=n/\s=.slice (some ⟨b,off,none⟩) g cap/\wr=w/\Aside (∀ j,g<=j->j<n->xs.getD j 0=0))
   case atStart=>exact⟨aB _,rfl,rfl,fun j h1 h2=>by omega⟩
   case round =>
    obtain⟨hk,rfl,rfl,hz⟩:=hrel
    by_cases hk0:gk=0
    · subst hk0;go_wp2;go_ret;rw[KN xs 0 af (fun j h1 h2=>hz.o j h1 (by have:=HN.o;omega)) (.inl rfl)];exact KK
    · obtain⟨k,rfl⟩:∃ k,gk=k+1:=⟨gk-1,af⟩;have hcx:=hcell k (by have:=HN.o;omega);obtain⟨x,jl⟩:∃ x:Nat,xs.getD k 0=x:=⟨_,rfl⟩;rw[jl] at hcx;have HX:Aside (xs.getD k 0=x):=jl;clear jl hcell hk0
      by_cases h0:x=0
      · subst h0;go_wp2;go_roundg k
        case measure=>omega
        case rel =>
         refine⟨af,rfl,rfl,fun j h1 h2=>?_⟩
         by_cases hj:j=k
         · subst hj;exact HX.o
         · exact hz.o j af h2
      · go_wp2;go_ret;rw[KN xs (k+1) (by have:=HN.o;omega) (fun j h1 h2=>hz.o j h1 (by have:=HN.o;omega)) (.inr (by have:=HX.o;rw[nU,this];exact h0))];exact KK
theorem pO(n:Int):IntKind.u32.wrap n=n%4294967296:=by simp[IntKind.wrap,IntKind.signed,IntKind.bits]
theorem ofInt32(a:Nat)(ha:a<4294967296):(BitVec.ofInt 32 (a:Int)).toNat=a:=by
 rw[BitVec.ofInt_natCast,BitVec.toNat_ofNat];exact ja af
theorem KP(a b:Nat)(ha:a<4294967296)(hb:b<4294967296):bits .and .u32 (a:Int) (b:Int)=((a &&& b:Nat):Int):=by
 have hx:a &&& b<2^32:=Nat.and_lt_two_pow _ af;show IntKind.u32.wrap ((BitVec.ofInt 32 (a:Int) &&& BitVec.ofInt 32 (b:Int)).toNat:Int)=_;rw[BitVec.toNat_and,ofInt32 a ha,ofInt32 b hb,pO];omega
theorem or32(a b:Nat)(ha:a<4294967296)(hb:b<4294967296):bits .or .u32 (a:Int) (b:Int)=((a ||| b:Nat):Int):=by
 have hx:a ||| b<2^32:=Nat.or_lt_two_pow af af
 show IntKind.u32.wrap ((BitVec.ofInt 32 (a:Int) ||| BitVec.ofInt 32 (b:Int)).toNat:Int)=_;rw[BitVec.toNat_or,ofInt32 a ha,ofInt32 b hb,pO];omega
theorem xt{P:Prop}(h:P:=by
 have hx:a ^^^ b<2^32:=Nat.xor_lt_two_pow af af;show IntKind.u32.wrap ((BitVec.ofInt 32 (a:Int) ^^^ BitVec.ofInt 32 (b:Int)).toNat:Int)=_;rw[BitVec.toNat_xor,ofInt32 a ha,ofInt32 b hb,pO];omega):P:=h
theorem QN(a b:Nat)(ha:a<4294967296)(hb:b<4294967296):bits .xor .u32 (a:Int) (b:Int)=((a ^^^ b:Nat):Int):=by
 exact xt
theorem I7(x y c d:Nat)(hx:x<4294967296)(hy:y<4294967296)(hc:c<=1)(hd:(d:Int)=((x:Int)-y-c)%4294967296) :
 (((4294967295 ^^^ x) &&& y) ||| ((4294967295 ^^^ (x ^^^ y)) &&& d))/2147483648=if x<y+c then 1 else 0:=by
 have e:∀ n:Nat,n/2147483648=n >>> 31:=fun n=>by rw[Nat.shiftRight_eq_div_pow]
 rw[e,Nat.shiftRight_or_distrib,Nat.shiftRight_and_distrib,Nat.shiftRight_and_distrib,IU,IU,IU,<-e,<-e,<-e,<-e];have hd2:d<4294967296:=af
 have h1:x/2147483648=0\/x/2147483648=1:=af
 have h2:y/2147483648=0\/y/2147483648=1:=af
 have h3:d/2147483648=0\/d/2147483648=1:=af
 rw[show 4294967295/2147483648=1 from rfl];rcases h1 with h1|h1 <;> rcases h2 with h2|h2 <;> rcases h3 with h3|h3 <;> rw[h1,h2,h3] <;> split <;> first|rfl|(exfalso;omega)
theorem I8(x y c:Nat)(hx:x<4294967296)(hy:y<4294967296)(hc:c<=1) :
 bits BinOp.or IntKind.u32 (bits BinOp.and IntKind.u32 (bits BinOp.xor IntKind.u32 IntKind.u32.max x) y)
  (bits BinOp.and IntKind.u32
   (bits BinOp.xor IntKind.u32 IntKind.u32.max (bits BinOp.xor IntKind.u32 x y))
   (((x:Int)-y-c)%4294967296)) /
  2147483648=((if x<y+c then 1 else 0:Nat):Int):=by
 obtain⟨d,hd⟩:∃ d:Nat,(d:Int)=((x:Int)-y-c)%4294967296:=⟨(((x:Int)-y-c)%4294967296).toNat,af⟩;have hd2:d<4294967296:=af
 have hm:IntKind.u32.max=((4294967295:Nat):Int):=aA
 have hn:∀ a b:Nat,a<4294967296->b<4294967296->a ^^^ b<4294967296:=fun a b ha hb=>Nat.xor_lt_two_pow (n:=32) ha hb;have ha:∀ a b:Nat,b<4294967296->a &&& b<4294967296:=fun a b hb=>Nat.and_lt_two_pow (n:=32) a hb
 rw[hm,QN x y hx hy,QN _ _ aA hx,QN _ _ aA (hn _ _ hx hy),KP _ _ (hn _ _ aA hx) hy,<-hd,KP _ _ (hn _ _ aA (hn _ _ hx hy)) hd2,
  or32 _ _ (ha _ _ hy) (ha _ _ hd2),<-I7 x y c d hx hy hc hd]
 omega
theorem Nj(x y c:Int)(w:World)(hx:0<=x)(hx2:x<4294967296)(hy:0<=y)(hy2:y<4294967296)(hc:0<=c)(hc2:c<=1) :
 Calls Tryz.prog 299 #[.int .u32 x,.int .u32 y,.int .u32 c] w fun r w'=>r=.returned (.tuple #[.int .u32 ((x+y+c)%4294967296),.int .u32 ((x+y+c)/4294967296)])/\w'=w:=by
 go_enter Tryz.func299,Tryz.ntmps299;go_wp2
 go_ret2
 exact⟨rfl,rfl⟩
theorem Nk(x y c s d:Nat)(w:World)(hx:x<4294967296)(hy:y<4294967296)(hc:c<=1)(hs:s=(x+y+c)%4294967296)(hd:d=(x+y+c)/4294967296) :
 Calls Tryz.prog 299 #[.int .u32 (x:Int),.int .u32 (y:Int),.int .u32 (c:Int)] w fun r w'=>r=.returned (.tuple #[.int .u32 (s:Int),.int .u32 (d:Int)])/\w'=w:=by
 have h:=Nj x y c w af af af af af af;rw[show((x:Int)+y+c)%4294967296=(s:Int) by omega,show((x:Int)+y+c)/4294967296=(d:Int) by omega] at h;exact h
theorem Nl (x y c bo:Int) (w:World) (hx:0<=x) (hx2:x<4294967296) (hy:0<=y) (hy2:y<4294967296) (hc:0<=c) (hc2:c<=1)
 (hb:bits BinOp.or IntKind.u32 (bits BinOp.and IntKind.u32 (bits BinOp.xor IntKind.u32 IntKind.u32.max x) y)
  (bits BinOp.and IntKind.u32
   (bits BinOp.xor IntKind.u32 IntKind.u32.max (bits BinOp.xor IntKind.u32 x y))
   ((x-y-c)%4294967296)) /
  2147483648=bo) :
 Calls Tryz.prog 289 #[.int .u32 x,.int .u32 y,.int .u32 c] w fun r w'=>r=.returned (.tuple #[.int .u32 ((x-y-c)%4294967296),.int .u32 bo])/\w'=w:=by
 go_enter Tryz.func289,Tryz.ntmps289;go_wp2
 all_goals first | (go_ret2;exact⟨rfl,rfl⟩) | skip
theorem Ai(x y c s d:Nat)(w:World)(hx:x<4294967296)(hy:y<4294967296)(hc:c<=1)(hs:(s:Int)=((x:Int)-y-c)%4294967296)(hd:d=if x<y+c then 1 else 0) :
 Calls Tryz.prog 289 #[.int .u32 (x:Int),.int .u32 (y:Int),.int .u32 (c:Int)] w fun r w'=>r=.returned (.tuple #[.int .u32 (s:Int),.int .u32 (d:Int)])/\w'=w:=by
 have h:=Nl x y c d w af af af af af af (by rw[I8 x y c hx hy hc,<-hd]);rw[<-hs] at h;exact h
theorem xM(n:Nat)(ao:Option Addr)(cap:Nat)(w:World) :
 Calls Tryz.prog 228 #[.slice ao n cap] w fun r w'=>r=.returned (.bool (decide ((8192:Int)<(n:Int))))/\w'=w:=by
 go_enter Tryz.func228,Tryz.ntmps228;go_wp2;go_ret;exact⟨rfl,rfl⟩
theorem oq(n:Nat)(ao:Option Addr)(cap:Nat)(w:World) :
 Calls Tryz.prog 271 #[.slice ao n cap] w fun r w'=>r=.returned (if 8192<n then .tuple #[.slice none 0 0,.int .i64 2] else .tuple #[.slice ao n cap,.int .i64 0])/\w'=w:=by
 by_cases h:8192<n
 · rw[if_pos h];have hl:=xM n ao cap;have h':(8192:Int)<(n:Int):=af
   simp only[h',decide_true] at hl;have H:Hid (∀ w,_):=hl;clear hl;go_enter Tryz.func271,Tryz.ntmps271;go_wp2_with fail;refine(H.o _).mono ?_;rintro r w1 ⟨rfl,rfl⟩;go_wp2
   go_ret2
   exact KK
 · rw[if_neg h];have hl:=xM n ao cap;have h':¬ (8192:Int)<(n:Int):=af
   simp only[h',decide_false] at hl;have H:Hid (∀ w,_):=hl;clear hl;go_enter Tryz.func271,Tryz.ntmps271;go_wp2_with fail;refine(H.o _).mono ?_;rintro r w1 ⟨rfl,rfl⟩;go_wp2
   go_ret2
   exact KK
theorem KQ(x:Int)(w:World):Calls Tryz.prog 266 #[.int .i64 x] w fun r w'=>r=.returned (.bool false)/\w'=w:=by
 go_enter Tryz.func266,Tryz.ntmps266;go_wp2;exact Ks
theorem Vj(x:Int)(w:World):Calls Tryz.prog 288 #[.int .u32 x] w fun r w'=>r=.returned (.bool false)/\w'=w:=by
 go_enter Tryz.func288,Tryz.ntmps288;go_wp2;exact Ks
def aZ(x y:Nat):Int:=if x<y then -1 else if y<x then 1 else 0
theorem Vc{P:Prop}(h:P:=by
 go_wp2_with fail;refine(H.o _ _).mono ?_;rintro r w1 ⟨rfl,rfl⟩;go_wp2_with fail;refine(H.o _ _).mono ?_;rintro r w1 ⟨rfl,rfl⟩;go_wp2;go_ret;exact⟨rfl,rfl⟩):P:=h
theorem Nn(x y:Nat)(w:World):Calls Tryz.prog 214 #[.int .i64 (x:Int),.int .i64 (y:Int)] w fun r w'=>r=.returned (.int .i64 (aZ x y))/\w'=w:=by
 have H:Hid (∀ x w,_):=KQ
 by_cases h:x<y
 · have e:aZ x y=-1:=by simp[aZ,h]
   rw[e];clear e;go_enter Tryz.func214,Tryz.ntmps214;exact Vc
 · by_cases h2:y<x
   · have e:aZ x y=1:=by simp[aZ,h,h2]
     rw[e];clear e;go_enter Tryz.func214,Tryz.ntmps214;exact Vc
   · have e:aZ x y=0:=by simp[aZ,h,h2]
     rw[e];clear e;go_enter Tryz.func214,Tryz.ntmps214;exact Vc
theorem tN(x y:Nat)(w:World):Calls Tryz.prog 273 #[.int .u32 (x:Int),.int .u32 (y:Int)] w fun r w'=>r=.returned (.int .i64 (aZ x y))/\w'=w:=by
 have H:Hid (∀ x w,_):=Vj
 by_cases h:x<y
 · have e:aZ x y=-1:=by simp[aZ,h]
   rw[e];clear e;go_enter Tryz.func273,Tryz.ntmps273;exact Vc
 · by_cases h2:y<x
   · have e:aZ x y=1:=by simp[aZ,h,h2]
     rw[e];clear e;go_enter Tryz.func273,Tryz.ntmps273;exact Vc
   · have e:aZ x y=0:=by simp[aZ,h,h2]
     rw[e];clear e;go_enter Tryz.func273,Tryz.ntmps273;exact Vc
end
section
def sg(L:List Nat)(off k:Nat):Nat:=val ((L.drop off).take k)
theorem eX(L:List Nat)(off:Nat):sg L off 0=0:=by simp[sg,val]
theorem bz(L:List Nat)(off k:Nat)(h:off+k<L.length):sg L off (k+1)=sg L off k+pw k*L.getD (off+k) 0:=by
 unfold sg;rw[jP _ _ (by simp;omega)];simp[aS]
theorem ou(L:List Nat)(off k:Nat)(h:off<L.length):sg L off (k+1)=L.getD off 0+4294967296*sg L (off+1) k:=by
 unfold sg;rw[IQ h,List.take_succ_cons,val,aS,aY h];rfl
theorem dw(L:List Nat):sg L 0 L.length=val L:=by simp[sg]
theorem jH(L:List Nat)(off k m:Nat)(h:off+k+m<=L.length):sg L off (k+m)=sg L off k+pw k*sg L (off+k) m:=by
 induction m with
 | zero=>simp[eX]
 | succ m ih =>
   rw[<-nK,bz L off (k+m) af,bz L (off+k) m af,ih af,Ct,rJ,<-nK off k m];simp only[dH,nK]
theorem rU(L M:List Nat)(off k:Nat)(hl:M.length=L.length)(h:off+k<=L.length)(he:∀ j,off<=j->j<off+k->M.getD j 0=L.getD j 0):sg M off k=sg L off k:=by
 induction k with
 | zero=>simp[eX]
 | succ k ih=>rw[bz M off k af,bz L off k af,ih af (fun j h1 h2=>he j h1 af),he (off+k) af af]
theorem EM(L:List Nat)(i j x:Nat):(L.set i x).getD j 0=if i=j/\j<L.length then x else L.getD j 0:=by
 simp only[aS,List.getElem?_set]
 by_cases h:i=j
 · subst h
   by_cases h2:i<L.length
   · simp[h2]
   · simp[h2]
 · simp[h]
theorem iK(L:List Nat)(i x:Nat)(h:i<L.length):(L.set i x).getD i 0=x:=by rw[EM,if_pos ⟨rfl,h⟩]
theorem getD_set_ne(L:List Nat)(i j x:Nat)(h:i≠j):(L.set i x).getD j 0=L.getD j 0:=by rw[EM,if_neg (fun e=>h e.1)]
theorem mY(L:List Nat)(off k i x:Nat)(h:off+k<=i)(hl:off+k<=L.length):sg (L.set i x) off k=sg L off k :=
 rU L _ off k aL hl (fun j _ h2=>getD_set_ne _ _ _ _ af)
theorem rW(L:List Nat)(off k i x:Nat)(h:i<off)(hl:off+k<=L.length):sg (L.set i x) off k=sg L off k :=
 rU L _ off k aL hl (fun j h1 _=>getD_set_ne _ _ _ _ af)
theorem bF(L:List Nat)(off k x:Nat)(h:off+k<L.length):sg (L.set (off+k) x) off (k+1)=sg L off k+pw k*x:=by
 rw[bz _ _ _ (by simp;omega),iK _ _ _ h,mY _ _ _ _ _ af af]
theorem nN(L:List Nat)(off k:Nat)(hw:Wf L)(h:off+k<=L.length):sg L off k<pw k:=by
 have:=df _ ((hw.drop off).take k);simp only[gm,jE] at this;rw[iy af] at this;exact this
theorem lN(L:List Nat)(k:Nat):sg L 0 k=val (L.take k):=by simp[sg]
theorem I9(n i:Nat):(List.replicate n 0).getD i 0=0:=by
 simp only[aS,List.getElem?_replicate];split <;> rfl
theorem xN(n off k:Nat):sg (List.replicate n 0) off k=0:=by
 unfold sg;rw[xn,List.take_replicate,kK]
def Out(L M:List Nat)(off n:Nat):Prop:=M.length=L.length/\∀ j,(j<off\/off+n<=j)->M.getD j 0=L.getD j 0
theorem Out.refl(L:List Nat)(off n:Nat):Out L L off n:=⟨rfl,fun _ _=>rfl⟩
theorem Out.set{L M:List Nat}{off n:Nat}(h:Out L M off n)(i x:Nat)(h1:off<=i)(h2:i<off+n):Out L (M.set i x) off n :=
 ⟨by simp[h.1],fun j hj=>by rw[getD_set_ne _ _ _ _ af];exact h.2 j hj⟩
theorem Out.mono{L M:List Nat}{off n k:Nat}(h:Out L M off n)(hk:n<=k):Out L M off k:=⟨h.1,fun j hj=>h.2 j af⟩
theorem Out.trans{L M K:List Nat}{off n:Nat}(h:Out L M off n)(k:Out M K off n):Out L K off n:=⟨k.1.trans h.1,fun j hj=>(k.2 j hj).trans (h.2 j hj)⟩
theorem Out.below{L M:List Nat}{off n:Nat}(h:Out L M off n)(a k:Nat)(h1:a+k<=off)(h2:a+k<=L.length):sg M a k=sg L a k:=rU L M a k h.1 h2 (fun j _ hj=>h.2 j af)
theorem Out.above{L M:List Nat}{off n:Nat}(h:Out L M off n)(a k:Nat)(h1:off+n<=a)(h2:a+k<=L.length):sg M a k=sg L a k:=rU L M a k h.1 h2 (fun j hj _=>h.2 j af)
theorem xO(p a b V c x y s d:Nat)(h:V+c*p=a+b)(e:s+d*4294967296=x+y+c):V+p*s+d*(4294967296*p)=(a+p*x)+(b+p*y):=by
 have:p*(s+d*4294967296)=p*(x+y+c):=by rw[e]
 grind
theorem Qae{P:Prop}(h:P:=by
 obtain⟨d,rfl⟩:∃ d,n=k+d:=⟨n-k,af⟩;have h1:=jH M off k d (by rw[ho.1];omega);have h2:=jH L off k d af;have h3:=ho.above (off+k) d af af;rw[h1,h2,h3];omega):P:=h
theorem QO{L M:List Nat}{off k n V:Nat}(hk:k<=n)(hn:off+n<=L.length)(ho:Out L M off k)(h:sg M off k=sg L off k+V):sg M off n=sg L off n+V:=by
 exact Qae
theorem Ja(p a b V c x y q s d:Nat)(h:V+c*p=a+b*q)(e:s+d*4294967296=y*q+x+c):V+p*s+d*(4294967296*p)=(a+p*x)+(b+p*y)*q:=by
 have:p*(s+d*4294967296)=p*(y*q+x+c):=by rw[e]
 grind
theorem Aj(x y:Nat)(hx:x<4294967296)(hy:y<4294967296):x*y<=18446744065119617025:=by
 have:x*y<=4294967295*4294967295:=mo af af;omega
theorem xP(p a b V c x y q s d:Nat)(h:V+b*q=a+c*p)(e:s+y*q+c=x+d*4294967296):V+p*s+(b+p*y)*q=(a+p*x)+d*(4294967296*p):=by
 have:p*(s+y*q+c)=p*(x+d*4294967296):=by rw[e]
 grind
theorem QP(X Q q x d l l2:Nat)(h:X=Q*d+l)(e:l*4294967296+x=q*d+l2):x+4294967296*X=(q+4294967296*Q)*d+l2:=by
 subst h
 grind
theorem vw(p a b V c x y s d:Nat)(h:V+b=a+c*p)(e:s+y+c=x+d*4294967296):V+p*s+(b+p*y)=(a+p*x)+d*(4294967296*p):=by
 have:p*(s+y+c)=p*(x+d*4294967296):=by rw[e]
 grind
theorem Np{L M:List Nat}{off k n V:Nat}(hk:k<=n)(hn:off+n<=L.length)(ho:Out L M off k)(h:sg M off k+V=sg L off k):sg M off n+V=sg L off n:=by
 exact Qae
end
section
open Go.RowKit
theorem pQ(l x:Nat)(hl:l<4294967296)(hx:x<4294967296):bits BinOp.or IntKind.u64 ((l:Int)*4294967296) (x:Int)=((l*4294967296+x:Nat):Int):=by
 have e:((l:Int)*4294967296)=((l*4294967296:Nat):Int):=by simp only[dU];rfl
 rw[e,bits_or_u64_nat _ _ af af];have:=BV (i:=32) (b:=x) af l;have e2:2^32*l=l*4294967296:=by rw[bR]
 rw[e2] at this;rw[this]
theorem Qbh{P:Prop}(h:P:=by
 go_wp2;go_ret;obtain⟨bD,fE,hMs,aF⟩:=HA.o;exact⟨M,cv,rfl,hcv,HM.o,bD,fE,hMs,aF⟩):P:=h
theorem Vk (L:List Nat) (g off n cap q:Nat) (w:World)
 (hO:Own w g L) (hoff:off+n<=L.length) (hcap:n<=cap) (hbig:n<=4611686018427387904) (hL:Wf L) (hq:q<4294967296) (hq0:0<q) :
 Calls Tryz.prog 295 #[.slice (some ⟨g,off,none⟩) n cap,.int .u32 (q:Nat)] w fun r w' =>
  ∃ M,∃ c:Nat,r=.returned (.int .u32 (c:Nat))/\c<q/\Own w' g M/\Wf M/\Out L M off n/\sg L off n=sg M off n*q+c/\But g w w':=by
 have HR:Aside (Wf L/\off+n<=L.length):=⟨hL,hoff⟩;have HO:Hid (Own w g L):=hO;clear hL hO hoff;go_enter Tryz.func295,Tryz.ntmps295;go_wp2
 go_loopg [5,6] n (fun k c i wr=>∃ (cv:Nat) (M:List Nat),k<=n/\c=.int .u64 (cv:Nat)/\cv<q/\i=.int .i64 ((k:Int)-1) /\
  Hid (Own wr g M)/\Aside (Wf M/\Out L M (off+k) (n-k)/\sg L (off+k) (n-k)=sg M (off+k) (n-k)*q+cv/\But g w wr))
 case atStart=>exact⟨0,L,aB _,rfl,hq0,rfl,HO,HR.o.1,Out.refl _ _ _,by simp[eX],But.refl _ _⟩
 case round =>
  obtain⟨cv,M,hk,rfl,hcv,rfl,HM,HA⟩:=hrel
  by_cases hk0:gk=0
  · subst hk0;exact Qbh
  · obtain⟨k,rfl⟩:∃ k,gk=k+1:=⟨gk-1,af⟩;obtain⟨hL,hoff⟩:=HR.o;obtain⟨bD,fE,hMs,aF⟩:=HA.o;have hgc:=HM.o.cell (off+k) (by rw[fE.1];omega);have hgf:=HM.o.frozen (off+k);obtain⟨x,hx⟩:∃ x:Nat,M.getD (off+k) 0=x:=⟨_,rfl⟩;have hxl:x<4294967296:=hx ▸ bD.get _;rw[hx] at hgc;obtain⟨t,ht⟩:∃ t:Nat,t=cv*4294967296+x:=⟨_,rfl⟩;have e1:bits BinOp.or IntKind.u64 ((cv:Int)*4294967296) (x:Int)=(t:Int):=by rw[pQ cv x af hxl,ht]
    have ht2:(t:Int)<18446744073709551616:=af
    have hqlt:t/q<4294967296:=by
     rw[uR hq0];have:cv*4294967296+4294967296<=q*4294967296:=af
     omega
    obtain⟨s,hs⟩:∃ s:Nat,s=t/q:=⟨_,rfl⟩;obtain⟨d,hd⟩:∃ d:Nat,d=t%q:=⟨_,rfl⟩;have e2:(t:Int)/(q:Int)=(s:Int):=by rw[hs];simp
    have e3:(t:Int)%(q:Int)=(d:Int):=by rw[hd];simp
    have hs2:s<4294967296:=af
    have hdq:d<q:=by rw[hd];exact iB _ hq0
    have HX:Aside (M.getD (off+k) 0=x/\cv*4294967296+x=s*q+d):=⟨hx,by rw[hs,hd,<-ht,bR];exact(uS t q).symm⟩;clear hx hs hd hL hoff bD fE hMs aF ht hk0 hqlt;go_wp2
    go_region
    all_goals (
     go_wp2;go_roundg k
     case measure=>omega
     case rel =>
      obtain⟨hx,he⟩:=HX.o;obtain⟨hL,hoff⟩:=HR.o;obtain⟨bD,fE,hMs,aF⟩:=HA.o;have hx2:L.getD (off+k) 0=x:=by rw[<-hx];exact(fE.2 _ af).symm
      refine⟨d,M.set (off+k) s,af,by first | rfl | rw[e3],hdq,by first | go_num | (congr 1;omega),(HM.o.set (off+k) s).drew,bD.set _ _ hs2,⟨by simp[fE.1],fun j hj=>?_⟩,?_,(aF.set (off+k) _).drew⟩
      · by_cases hj2:j=off+k
        · omega
        · rw[getD_set_ne _ _ _ _ (fun e=>hj2 e.symm)];exact fE.2 j af
      · obtain⟨r,hr⟩:∃ r,n-k=r+1:=⟨n-(k+1),af⟩;have hr2:n-(k+1)=r:=af
        rw[hr2] at hMs;rw[hr,ou L _ _ af,ou _ _ _ (by simp[fE.1];omega),iK _ _ _ (by rw[fE.1];omega),rW _ _ _ _ _ af (by rw[fE.1];omega),hx2]
        exact QP _ _ _ _ _ _ _ hMs he)
theorem kD(rest:Nat)(h:rest<32):2^rest*2^(32-rest)=4294967296:=by
 rw[<-aW,show rest+(32-rest)=32 by omega]
theorem Y8(x y rest:Nat)(hr:rest<32)(hx:x<2^rest):x ||| (y*2^rest%4294967296)=x+y*2^rest%4294967296:=by
 have e:y*2^rest%4294967296=2^rest*(y%2^(32-rest)):=by
  rw[<-kD rest hr,bR y,Nat.mul_mod_mul_left]
 rw[e,Nat.or_comm,<-BV hx,lK]
theorem Y9(y rest:Nat)(hy:y<4294967296):y*2^rest/4294967296<2^rest:=by
 rw[uR aA,bR];exact IV hy (bK _)
theorem qM(rest:Nat)(h:rest<32):2^rest<=2147483648:=by
 have:2^rest<=2^31:=gF aA af;omega
theorem up_lt(y rest:Nat)(hy:y<4294967296)(hr:rest<32):y*2^rest<18446744073709551616:=by
 have h:=qM rest hr;have:y*2^rest<=4294967295*2147483648:=mo af h;omega
theorem pR(n:Int)(h0:0<=n)(h1:n<18446744073709551616):IntKind.u64.wrap n=n:=by
 rw[Cs];omega
theorem mZ(words rest:Nat):2^(32*words+rest)=pw words*2^rest:=by
 rw[aW,rM];rfl
theorem Vl(p S x t q b s d y r:Nat)(hS:S+p*x=b*r)(ht:t=y*r)(hs:s=x+t%4294967296)(hd:d=t/4294967296):S+p*s+4294967296*p*d=(b+p*y)*r:=by
 have e:t%4294967296+4294967296*d=t:=by rw[hd];exact xu _ _
 have e2:p*s+4294967296*p*d=p*x+p*t:=by
  have:p*(s+4294967296*d)=p*(x+t):=by rw[hs];congr 1;omega
  grind
 have e3:(b+p*y)*r=b*r+p*t:=by rw[ht];grind
 omega
def Wb(w:World)(g:Nat)(L:List Nat):Prop:=w.heap[g]?=some (.cells (L.map U).toArray 150 (0,0))
theorem Wb.lt{w:World}{g:Nat}{L:List Nat}(h:Wb w g L):g<w.heap.size:=(fG.1 h).1
theorem Wb.cell{w:World}{g:Nat}{L:List Nat}(h:Wb w g L)(i:Nat)(hi:i<L.length):w.cell? ⟨g,i,none⟩=some (.int .u32 ((L.getD i 0:Nat):Int)):=by
 unfold Wb at h;simp only[World.cell?,h];simp[U,aS,aY hi]
theorem Wb.frozen{w:World}{g:Nat}{L:List Nat}(h:Wb w g L)(i:Nat):w.frozen? ⟨g,i,none⟩=false:=by
 unfold Wb at h;exact Qaw
theorem Wb.set{w:World}{g:Nat}{L:List Nat}(h:Wb w g L)(i x:Nat):Wb (w.setCell ⟨g,i,none⟩ (.int .u32 (x:Int))) g (L.set i x):=by
 unfold Wb at h |-;simp[World.setCell,iA,h,wX,U]
theorem Wb.drew{w:World}{g:Nat}{L:List Nat}(h:Wb w g L):Wb w.drew g L:=h
def PB:Nat:=pw 133
theorem Za:0<PB:=jy 133
attribute [irreducible] PB
theorem pU{L:List Nat}(hl:L.length=133)(hw:Wf L):val L<PB:=by
 have:=df L hw;rw[hl] at this;unfold PB;exact this
theorem KT(L:List Nat)(i x:Nat)(h:i<L.length):val (L.set i x)+L.getD i 0*pw i=val L+x*pw i:=by
 have h1:=fu L i (nV h);have h2:=fu (L.set i x) i (by simp;omega);rw[dQ L i h] at h1;rw[dQ (L.set i x) i (by simp;omega),iK _ _ _ h] at h2;have e1:(L.set i x).take i=L.take i:=by rw[List.take_set];exact List.set_eq_of_length_le (by simp;omega)
 have e2:(L.set i x).drop (i+1)=L.drop (i+1):=by rw[List.drop_set,if_pos af]
 rw[e1,e2] at h2;rw[h2,h1]
 grind
theorem QQ(M:List Nat)(i c T s d:Nat)(h:i<M.length)(e:s+d*4294967296=c+M.getD i 0)(hT:val M+c*pw i=T):val (M.set i s)+d*pw (i+1)=T:=by
 have h1:=KT M i s h;rw[bI];have e2:(s+d*4294967296)*pw i=(c+M.getD i 0)*pw i:=by rw[e]
 rw[dV,dV,dH] at e2;omega
theorem Ak(M:List Nat)(i c T R s lo hi b:Nat)(h:i<M.length)(e:s+lo=M.getD i 0+b*4294967296)(hc:c=lo+hi*4294967296)(hT:val M+T=R+c*pw i):val (M.set i s)+T=R+(hi+b)*pw (i+1):=by
 have h1:=KT M i s h;rw[bI];have e2:(s+lo)*pw i=(M.getD i 0+b*4294967296)*pw i:=by rw[e]
 have e3:c*pw i=(lo+hi*4294967296)*pw i:=by rw[hc]
 rw[dV,dV,dH] at e2;rw[dV,dH] at e3;rw[dV];omega
theorem Jb(i:Nat):pw i=2^(32*i):=by unfold pw;rw[rM]
theorem vz(n p:Nat):n*2^(p%32)*pw (p/32)=n*2^p:=by
 rw[Jb,dH,<-aW,xu]
theorem KU(M:List Nat)(c T:Nat)(hl:M.length=133)(hw:Wf M)(h:val M+c*pw 133=T):val M=T%PB:=by
 have:=pU hl hw;have e:pw 133=PB:=by unfold PB;rfl
 rw[<-h,e,bR,xw,ja this]
theorem EN(M:List Nat)(c T R:Nat)(hl:M.length=133)(hw:Wf M)(h:val M+T=R+c*pw 133):(val M:Int)=((R:Int)-(T:Int))%(PB:Int):=by
 have h1:=pU hl hw;have e:pw 133=PB:=by unfold PB;rfl
 rw[e] at h
 have h2:(R:Int)-(T:Int)=(val M:Int)+(PB:Int)*(-(c:Int)):=by
  have:((val M+T:Nat):Int)=((R+c*PB:Nat):Int):=by rw[h]
  simp only[xx,dU] at this;rw[Int.mul_neg,Int.mul_comm];omega
 rw[h2,Int.add_mul_emod_self_left,uT af af]
theorem tO(n q:Nat)(hn:n<4294967296)(hq:q<32):n*2^q<9223372036854775808:=by
 have h1:2^q<=2147483648:=by
  have:=gF (n:=2) aA (show q<=31 by omega);simpa using this
 calc n*2^q<=4294967295*2147483648:=mo af h1
  _<_:=aA
theorem EO(n p:Nat)(hn:n<4294967296):IntKind.u64.wrap ((n:Int)*2^(p%32))=((n*2^(p%32):Nat):Int):=by
 have h1:=tO n (p%32) hn (iB _ aA);have e:((n:Int)*2^(p%32))=((n*2^(p%32):Nat):Int):=by simp
 rw[e];exact pR _ af af
theorem Qat{P:Prop}(h:P:=by
 exact⟨n*2^(p%32),p/32,L,af,af,by rw[EO n p hn],tO n _ hn (iB _ aA),aL,HO,HR.o.1,HR.o.2,by rw[vz],But.refl _ _⟩):P:=h
theorem QR(L:List Nat)(g n p:Nat)(w:World)(hW:Wb w g L)(hl:L.length=133)(hL:Wf L)(hn:n<4294967296)(hp:p<4256) :
 Calls Tryz.prog 248 #[.pointer (some ⟨g,0,none⟩),.int .u32 (n:Nat),.int .i64 (p:Nat)] w fun r w' =>
  r=.returned (.tuple #[])/\∃ M,Wb w' g M/\M.length=133/\Wf M/\val M=(val L+n*2^p)%PB/\But g w w':=by
 have HR:Aside (Wf L/\L.length=133):=⟨hL,hl⟩;have HO:Hid (Wb w g L):=hW;clear hL hW hl;go_enter Tryz.func248,Tryz.ntmps248;go_wp2
 go_loopg [6,7] 133 (fun k c i wr=>∃ (cv iv:Nat) (M:List Nat),133<=k+iv/\iv<=133/\c=.int .u64 (cv:Nat)/\cv<9223372036854775808/\i=.int .i64 (iv:Nat) /\
  Hid (Wb wr g M)/\Aside (Wf M/\M.length=133/\val M+cv*pw iv=val L+n*2^p/\But g w wr))
 case atStart =>
  exact Qat
 case round =>
  obtain⟨cv,iv,M,hk,hi,rfl,hcv,rfl,HM,HA⟩:=hrel
  by_cases h1:iv=133
  · subst h1;go_wp2;refine bodyPost_end (v:=.tuple #[]) (by simp[results,Tryz.results248,go_sem]) rfl ?_;obtain⟨bD,dG,hMs,aF⟩:=HA.o;exact⟨rfl,M,HM.o,dG,bD,KU M cv _ dG bD hMs,aF⟩
  by_cases h2:cv=0
  · subst h2;have h3:(iv:Int)<133:=af
    go_wp2;refine bodyPost_end (v:=.tuple #[]) (by simp[results,Tryz.results248,go_sem]) rfl ?_;obtain⟨bD,dG,hMs,aF⟩:=HA.o;exact⟨rfl,M,HM.o,dG,bD,KU M 0 _ dG bD (by rw[<-hMs];simp),aF⟩
  · have h3:iv<133:=af
    have h4:0<cv:=af
    obtain⟨bD,dG,hMs,aF⟩:=HA.o;have hgc:=HM.o.cell iv af;have hgf:=HM.o.frozen iv;obtain⟨x,hx⟩:∃ x:Nat,M.getD iv 0=x:=⟨_,rfl⟩;have hxl:x<4294967296:=hx ▸ bD.get _;rw[hx] at hgc;have HX:Aside (M.getD iv 0=x):=hx;clear hx bD dG hMs aF h1 h2;obtain⟨k,rfl⟩:∃ k,gk=k+1:=⟨gk-1,af⟩;go_wp2;go_roundg k
    case measure=>omega
    case rel =>
     obtain⟨bD,dG,hMs,aF⟩:=HA.o;have e1:((cv:Int)+(x:Int))%4294967296=(((cv+x)%4294967296:Nat):Int):=af
     have e2:((cv:Int)+(x:Int))/4294967296=(((cv+x)/4294967296:Nat):Int):=af
     rw[e1];exact⟨(cv+x)/4294967296,iv+1,M.set iv ((cv+x)%4294967296),af,af,by rw[e2],af,aL,HM.o.set iv _,bD.set _ _ (iB _ aA),by simp[dG],QQ M iv cv _ _ _ af (by rw[HX.o];omega) hMs,aF.set iv _⟩
theorem Nq(L:List Nat)(g n p:Nat)(w:World)(hW:Wb w g L)(hl:L.length=133)(hL:Wf L)(hn:n<4294967296)(hp:p<4256) :
 Calls Tryz.prog 247 #[.pointer (some ⟨g,0,none⟩),.int .u32 (n:Nat),.int .i64 (p:Nat)] w fun r w' =>
  r=.returned (.tuple #[])/\∃ M,Wb w' g M/\M.length=133/\Wf M/\(val M:Int)=((val L:Int)-((n*2^p:Nat):Int))%(PB:Int)/\But g w w':=by
 have HR:Aside (Wf L/\L.length=133):=⟨hL,hl⟩;have HO:Hid (Wb w g L):=hW;clear hL hW hl;go_enter Tryz.func247,Tryz.ntmps247;go_wp2
 go_loopg [6,7] 133 (fun k c i wr=>∃ (cv iv:Nat) (M:List Nat),133<=k+iv/\iv<=133/\c=.int .u64 (cv:Nat)/\cv<9223372036854775808/\i=.int .i64 (iv:Nat) /\
  Hid (Wb wr g M)/\Aside (Wf M/\M.length=133/\val M+n*2^p=val L+cv*pw iv/\But g w wr))
 case atStart =>
  exact Qat
 case round =>
  obtain⟨cv,iv,M,hk,hi,rfl,hcv,rfl,HM,HA⟩:=hrel
  by_cases h1:iv=133
  · subst h1;go_wp2;refine bodyPost_end (v:=.tuple #[]) (by simp[results,Tryz.results247,go_sem]) rfl ?_;obtain⟨bD,dG,hMs,aF⟩:=HA.o;exact⟨rfl,M,HM.o,dG,bD,EN M cv _ _ dG bD hMs,aF⟩
  by_cases h2:cv=0
  · subst h2;have h3:(iv:Int)<133:=af
    go_wp2;refine bodyPost_end (v:=.tuple #[]) (by simp[results,Tryz.results247,go_sem]) rfl ?_;obtain⟨bD,dG,hMs,aF⟩:=HA.o;exact⟨rfl,M,HM.o,dG,bD,EN M 0 _ _ dG bD (by rw[hMs];simp),aF⟩
  · have h3:iv<133:=af
    have h4:0<cv:=af
    obtain⟨bD,dG,hMs,aF⟩:=HA.o;have hgc:=HM.o.cell iv af;have hgf:=HM.o.frozen iv;obtain⟨x,hx⟩:∃ x:Nat,M.getD iv 0=x:=⟨_,rfl⟩;have hxl:x<4294967296:=hx ▸ bD.get _;rw[hx] at hgc;obtain⟨lo,hlo⟩:∃ lo:Nat,cv%4294967296=lo:=⟨_,rfl⟩;obtain⟨hi',hhi⟩:∃ hi':Nat,cv/4294967296=hi':=⟨_,rfl⟩;have e1:(cv:Int)%4294967296=(lo:Int):=af
    have e2:(cv:Int)/4294967296=(hi':Int):=af
    have b1:lo<4294967296:=af
    have b2:hi'<2147483648:=af
    have HX:Aside (M.getD iv 0=x/\cv=lo+hi'*4294967296):=⟨hx,af⟩;clear hx bD dG hMs aF h1 h2 hlo hhi;obtain⟨k,rfl⟩:∃ k,gk=k+1:=⟨gk-1,af⟩
    by_cases hlt:x<lo
    · have h5:decide (x<lo)=true:=by simp[hlt]
      go_wp2
      go_region
      all_goals (
       go_wp2;go_roundg k
       case measure=>omega
       case rel =>
        obtain⟨bD,dG,hMs,aF⟩:=HA.o;have e3:((x:Int)-(lo:Int))%4294967296=((x+4294967296-lo:Nat):Int):=af
        rw[e3]
        exact⟨hi'+1,iv+1,M.set iv (x+4294967296-lo),af,af,aL,af,aL,(HM.o.set iv _).drew,bD.set _ _ af,by simp[dG],Ak M iv cv _ _ _ lo hi' 1 af (by rw[HX.o.1];omega) HX.o.2 hMs,(aF.set iv _).drew⟩)
    · have h5:decide (x<lo)=false:=by simp[hlt]
      go_wp2
      go_region
      all_goals (
       go_wp2;go_roundg k
       case measure=>omega
       case rel =>
        obtain⟨bD,dG,hMs,aF⟩:=HA.o;have e3:((x:Int)-(lo:Int))=((x-lo:Nat):Int):=af
        rw[e3]
        exact⟨hi',iv+1,M.set iv (x-lo),af,af,aL,af,aL,(HM.o.set iv _).drew,bD.set _ _ af,by simp[dG],by have:=Ak M iv cv _ _ (x-lo) lo hi' 0 af (by rw[HX.o.1];omega) HX.o.2 hMs;simpa using this,(aF.set iv _).drew⟩)
end
section
theorem Qbd{P:Prop}(h:P:=by
 subst hT;have e:o*(t1*b+t2)=o*t1*b+o*t2:=by grind
 have e2:(o*t1+l)*b=o*t1*b+l*b:=by grind
 omega):P:=h
theorem Nr(b o t1 t2 l u2 T:Nat)(hT:o*t1+l=T)(h:o*t2<=l*b+u2):o*(t1*b+t2)<=T*b+u2:=by
 exact Qbd
theorem EP(b o t1 t2 l u2 T:Nat)(hT:o*t1+l=T)(h:l*b+u2<o*t2):T*b+u2<o*(t1*b+t2):=by
 exact Qbd
theorem EW(b t1 t2 u2 T:Nat)(h1:0<t1)(h2:u2<b):T*b+u2<(T/t1+1)*(t1*b+t2):=by
 have h:=Nat.lt_div_mul_add (a:=T) (b:=t1) h1;have h3:T+1<=(T/t1+1)*t1:=by rw[dV,jF];omega
 have h4:(T+1)*b<=(T/t1+1)*t1*b:=dF _ h3;have e:(T/t1+1)*(t1*b+t2)=(T/t1+1)*t1*b+(T/t1+1)*t2:=by grind
 rw[dV,jF] at h4;omega
theorem vB(b o t1 t2 l u2 T:Nat)(hT:o*t1+l=T)(hl:b<=l)(hT2:T<t1*b+b)(ht:t2<b)(h1:0<t1):o<b/\o*t2<=l*b+u2:=by
 have ho:o<b:=by
  by_cases h:o<b
  · exact h
  · exfalso;have:b*t1<=o*t1:=dF _ af;rw[bR b] at this;omega
 have h2:o*t2<=b*b:=mo af af;have h3:b*b<=l*b:=dF _ hl;exact⟨ho,af⟩
theorem Jc(b o D W P u v U V:Nat)(hP:0<P)(hU:U=W*P+u)(hu:u<P)(hV:V=D*P+v)(hv:v<P)(h1:o*D<=W)(h2:b<=o+1\/W<(o+1)*D)(hlt:U<V*b)(ho:o<b)(hD:b<=D) :
 U<(o+1)*V/\o*V<=U+V:=by
 constructor
 · rcases h2 with h2 | h2
   · obtain rfl:b=o+1:=af
     rw[bR];exact hlt
   · have h3:(W+1)*P<=(o+1)*D*P:=dF _ h2;have h4:(o+1)*V=(o+1)*D*P+(o+1)*v:=by rw[hV];grind
     rw[dV] at h3;omega
 · rcases o with _ | o
   · omega
   · have h3:(o+1)*D*P<=W*P:=dF _ h1;have h4:(o+1)*V=(o+1)*D*P+o*v+v:=by rw[hV];grind
     have h5:o*v<=D*P:=mo af af;omega
theorem Ns(b P t1 t2 u0 u1 u2 u v U V:Nat)(hU:U=((u0*b+u1)*b+u2)*P+u)(hV:V=(t1*b+t2)*P+v)(hv:v<P)(ht:t2<b)(hlt:U<V*b):u0<=t1:=by
 by_cases h:u0<=t1
 · exact h
 · exfalso;have h1:(t1*b+t2+1)*P<=(t1+1)*b*P:=dF _ (by rw[dV,jF];omega)
   have h2:V<(t1+1)*b*P:=by
    rw[dV,jF] at h1;omega
   have h3:V*b<=(t1+1)*b*P*b:=dF _ af;have h4:(t1+1)*(b*P*b)<=u0*(b*P*b):=dF _ af;have h5:(t1+1)*b*P*b=(t1+1)*(b*P*b):=by grind
   have h6:U=u0*(b*P*b)+(u1*b+u2)*P+u:=by rw[hU];grind
   omega
theorem KV(L:List Nat)(off k:Nat)(hL:Wf L)(h:off+(k+2)<=L.length):sg L off (k+2)=(L.getD (off+(k+1)) 0*4294967296+L.getD (off+k) 0)*pw k+sg L off k/\sg L off k<pw k:=by
 refine⟨?_,nN L off k hL af⟩;rw[show k+2=k+1+1 by omega,bz L off (k+1) af,bz L off k af,bI]
 grind
theorem Nu(L:List Nat)(off k:Nat)(hL:Wf L)(h:off+(k+3)<=L.length):sg L off (k+3)=((L.getD (off+(k+2)) 0*4294967296+L.getD (off+(k+1)) 0)*4294967296+L.getD (off+k) 0)*pw k+sg L off k/\sg L off k<pw k:=by
 refine⟨?_,nN L off k hL af⟩;rw[show k+3=k+2+1 by omega,bz L off (k+2) af,(KV L off k hL af).1,show k+2=k+1+1 by omega,bI,bI]
 grind
end
section
open Go.RowKit
set_option maxRecDepth 20000 in
theorem Nv (L bs:List Nat) (g off cap:Nat) (ao:Option Addr) (n bA B:Nat) (w:World) (k:Nat) (hnk:n=k+2)
 (hO:Own w g L) (hoff:off+(k+3)<=L.length) (hm:k+2=bs.length) (hcap:n+1<=cap) (hbig:n<=4611686018427387904) (hL:Wf L) (hb:Wf bs) (hR:Rd B w ao bs)
 (htop:2147483648<=bs.getD (k+1) 0) (hlt:sg L off (k+3)<val bs*4294967296) :
 Calls Tryz.prog 301 #[.slice (some ⟨g,off,none⟩) (n+1) cap,.slice ao n bA] w fun r w' =>
  ∃ o:Nat,r=.returned (.int .u32 (o:Nat))/\o<4294967296/\sg L off (k+3)<(o+1)*val bs/\o*val bs<=sg L off (k+3)+val bs/\Below w.heap.size w w':=by
 obtain⟨b,fC,Nw,rfl,hbc⟩:=hR (by intro e;subst e;simp at hm);have c1:=hbc (k+1) af;have c2:=hbc k af;have d0:=hO.cell (off+(k+2)) af;have d1:=hO.cell (off+(k+1)) af;have d2:=hO.cell (off+k) af;have en1:k+1=n-1:=af
 have en2:fC+k=fC+(n-2):=af
 have en3:off+k=off+(n-2):=af
 have en4:off+(k+2)=off+n:=af
 have en5:off+(k+1)=off+(n-1):=af
 have en6:fC+(k+1)=fC+(n-1):=af
 have hn2:2<=n:=af
 have b1:=hb.get (k+1);have b2:=hb.get k;have l0:=hL.get (off+(k+2));have l1:=hL.get (off+(k+1));have l2:=hL.get (off+k);obtain⟨eU,hu⟩:=Nu L off k hL hoff;obtain⟨eV,hv⟩:=KV bs 0 k hb af;rw[dm,dm,show k+2=bs.length from hm,dw] at eV;have HN:=(au hnk);clear en1;generalize bs.getD (k+1) 0=t1 at *;generalize bs.getD k 0=t2 at *;generalize L.getD (off+(k+2)) 0=u0 at *;generalize L.getD (off+(k+1)) 0=u1 at *;generalize L.getD (off+k) 0=u2 at *;generalize sg L off (k+3)=U at *;generalize val bs=V at *;generalize sg L off k=u at *;generalize sg bs 0 k=v at *;rw[en6] at c1;rw[en2] at c2;rw[en4] at d0;rw[en5] at d1;rw[en3] at d2;have hu0:u0<=t1:=Ns 4294967296 (pw k) t1 t2 u0 u1 u2 u v U V eU eV hv b2 hlt;have hlt1:0<t1:=af
 obtain⟨T,hT⟩:=ah (u0*4294967296+u1);have eT:bits BinOp.or IntKind.u64 ((u0:Int)*4294967296) (u1:Int)=(T:Int):=by rw[pQ u0 u1 l0 l1,hT]
 obtain⟨o0,ho0⟩:=ah (T/t1);obtain⟨r0,hr0⟩:=ah (T%t1);have eo:(T:Int)/(t1:Int)=(o0:Int):=by rw[ho0];simp
 have er:(T:Int)%(t1:Int)=(r0:Int):=by rw[hr0];simp
 have hTl:(T:Int)<18446744073709551616:=af
 have hr0l:r0<t1:=by rw[hr0];exact iB _ hlt1
 have KW:o0*t1+r0=T:=by rw[ho0,hr0,bR];exact uS T t1
 have KZ:T*4294967296+u2<(o0+1)*(t1*4294967296+t2):=by rw[ho0];exact EW 4294967296 t1 t2 u2 T hlt1 l2
 have ho0l:(o0:Int)<18446744073709551616:=by have:o0<=T:=by rw[ho0];exact uU _ _
                                             omega
 have HH:=(Vh hu0 hT eU hu eV hv KW KZ hlt htop);clear en2 en3 en4 en5 en6 hnk;clear hT ho0 hr0 eU hu eV hv KW KZ hlt hR hbc hm hb hL hO hoff htop;go_enter Tryz.func301,Tryz.ntmps301;go_wp2
 go_big_region
 go_wp2
 go_big_region
 go_wp2;have hbw:=iH w _ c2;have hgw:=iH w _ d2
 go_loopg [8,9] o0 (fun gk o l wr=>∃ lv:Nat,o=.int .u64 (gk:Nat)/\l=.int .u64 (lv:Nat)/\lv<4294967296/\Hid (Below w.heap.size w wr) /\
  Aside (gk*t1+lv=T/\(4294967296<=gk+1\/T*4294967296+u2<(gk+1)*(t1*4294967296+t2))))
 case atStart=>exact⟨r0,by first | rfl | rw[eo],by first | rfl | rw[er],af,by first | exact(aG _ _).drew.drew | exact(aG _ _).drew | exact aG _ _,HH.o.r6.1,.inr HH.o.r7.1⟩
 case round =>
  obtain⟨lv,rfl,rfl,hlv,HB,HA⟩:=hrel;have c2':wr.cell? ⟨b,fC+(n-2),none⟩=some (.int .u32 (t2:Int)):=(HB.o.cell (p:=⟨b,fC+(n-2),none⟩) hbw).trans c2;have d2':wr.cell? ⟨g,off+(n-2),none⟩=some (.int .u32 (u2:Int)):=(HB.o.cell (p:=⟨g,off+(n-2),none⟩) hgw).trans d2;clear c2 d2 c1 d0 d1 hTl eo er;obtain⟨hu0,hT,eU,hu,eV,hv,KW,KZ,hlt,htop⟩:=HH.o;obtain⟨hsum,hmax⟩:=HA.o;have hTb:T<t1*4294967296+4294967296:=af
  have hgb:gk<=4294967297:=by
   by_cases h:gk<=4294967297
   · exact h
   · exfalso;have:4294967298*t1<=gk*t1:=dF _ af;omega
  have HE:Aside (∀ o l,o*t1+l=T->o*t2<=l*4294967296+u2->o<4294967296->(4294967296<=o+1\/T*4294967296+u2<(o+1)*(t1*4294967296+t2))->U<(o+1)*V/\o*V<=U+V):=by
   intro o l h1 h2 h3 h4;rw[<-hT] at eU;exact Jc 4294967296 o _ _ (pw k) u v U V (jy k) eU hu eV hv (Nr 4294967296 o t1 t2 l u2 T h1 h2) h4 hlt h3 af
  have HT:=(au hTb);clear hu0 hT eU hu eV hv KW KZ hlt htop hsum hmax hTb;have hgbi:(gk:Int)<=4294967297:=af
  by_cases hbig2:4294967295<gk
  · have hg1:(4294967295:Int)<(gk:Int):=af
    by_cases hl2:lv+t1<=4294967295
    · have hl3:(lv:Int)+(t1:Int)<=4294967295:=af
      have hl4:decide ((4294967295:Int)<(lv:Int)+(t1:Int))=false:=decide_eq_false af;have HG:=(mh hbig2 hl2 hgb hlv);clear hbig2 hl2 hgb;go_wp2
      go_big_region
      all_goals (
       go_wp2;go_roundg (gk-1)
       case measure=>have:=HG.o.1;omega
       case rel =>
        obtain⟨hsum,hmax⟩:=HA.o;obtain⟨hbig2,hl2,hgb,hlv⟩:=HG.o;refine⟨lv+t1,by first | go_num | (congr 1;omega),by first | rfl | go_num,af,HB.o.drew,?_,.inl af⟩;obtain⟨o,rfl⟩:∃ o,gk=o+1:=⟨gk-1,af⟩;rw[nU];rw[dV] at hsum
        omega)
    · have hl3:(4294967295:Int)<(lv:Int)+(t1:Int):=af
      go_wp2
      go_big_region
      all_goals (
       go_wp2;go_ret;obtain⟨hsum,hmax⟩:=HA.o;obtain⟨o,rfl⟩:∃ o,gk=o+1:=⟨gk-1,af⟩;have hs2:o*t1+(lv+t1)=T:=by rw[dV] at hsum;omega
       obtain⟨hb1,hb2⟩:=vB 4294967296 o t1 t2 (lv+t1) u2 T hs2 af HT.o b2 hlt1;obtain⟨h1,h2⟩:=HE.o o (lv+t1) hs2 hb2 hb1 (.inl af);refine⟨o,?_,hb1,h1,h2,HB.o.drew⟩
       exact congrArg (fun z=>Ending.returned (Value.int IntKind.u32 z)) af)
  · have hg1:(gk:Int)<=4294967295:=af
    have hg2:decide ((4294967295:Int)<(gk:Int))=false:=by simp;omega
    have hp0:gk*t2<=4294967295*4294967295:=mo af af;have hp2:(gk:Int)*(t2:Int)<=18446744065119617025:=by rw[<-dU];omega
    have hp1:0<=(gk:Int)*(t2:Int):=by rw[<-dU];omega
    obtain⟨lu,hlu⟩:=ah (lv*4294967296+u2);have eL:bits BinOp.or IntKind.u64 ((lv:Int)*4294967296) (u2:Int)=(lu:Int):=by rw[pQ lv u2 hlv l2,hlu]
    have HL:=(au hlu)
    by_cases hmore:lu<gk*t2
    · have hm1:(lu:Int)<(gk:Int)*(t2:Int):=by rw[<-dU];omega
      have hgk0:0<gk:=by
       rcases rO gk with h|h
       · subst h;rw[gT] at hmore;omega
       · exact h
      by_cases hl2:lv+t1<=4294967295
      · have hl3:(lv:Int)+(t1:Int)<=4294967295:=af
        have hl4:decide ((4294967295:Int)<(lv:Int)+(t1:Int))=false:=decide_eq_false af;have HG:=(iq hbig2 hl2 hgb hlv hmore);clear hlu hp0 hbig2 hl2 hgb hmore;go_wp2
        go_big_region
        all_goals (
         go_wp2;go_roundg (gk-1)
         case measure=>omega
         case rel =>
          obtain⟨hsum,hmax⟩:=HA.o;obtain⟨hbig2,hl2,hgb,hlv,hmore⟩:=HG.o;have hno:=EP 4294967296 gk t1 t2 lv u2 T hsum (by rw[<-HL.o];exact hmore);refine⟨lv+t1,by first | go_num | (congr 1;omega),by first | rfl | go_num,af,HB.o.drew,?_,.inr ?_⟩
          · obtain⟨o,rfl⟩:∃ o,gk=o+1:=⟨gk-1,af⟩;rw[nU];rw[dV] at hsum;omega
          · rw[show gk-1+1=gk by omega];exact hno)
      · have hl3:(4294967295:Int)<(lv:Int)+(t1:Int):=af
        clear hlu hp0;go_wp2
        go_big_region
        all_goals (
         go_wp2;go_ret;obtain⟨hsum,hmax⟩:=HA.o;have hno:=EP 4294967296 gk t1 t2 lv u2 T hsum (by rw[<-HL.o];exact hmore);obtain⟨o,rfl⟩:∃ o,gk=o+1:=⟨gk-1,af⟩;have hs2:o*t1+(lv+t1)=T:=by rw[dV] at hsum;omega
         obtain⟨hb1,hb2⟩:=vB 4294967296 o t1 t2 (lv+t1) u2 T hs2 af HT.o b2 hlt1;obtain⟨h1,h2⟩:=HE.o o (lv+t1) hs2 hb2 hb1 (.inr hno);refine⟨o,?_,hb1,h1,h2,HB.o.drew⟩
         exact congrArg (fun z=>Ending.returned (Value.int IntKind.u32 z)) af)
    · have hm1:(gk:Int)*(t2:Int)<=(lu:Int):=by rw[<-dU];omega
      have hm2:decide ((lu:Int)<(gk:Int)*(t2:Int))=false:=decide_eq_false af;have HG:=(mh hbig2 hgb hlv hmore);clear hlu hp0 hbig2 hgb hmore;go_wp2
      go_big_region
      all_goals (
       go_wp2;go_ret;obtain⟨hsum,hmax⟩:=HA.o;obtain⟨hbig2,hgb,hlv,hmore⟩:=HG.o;obtain⟨h1,h2⟩:=HE.o gk lv hsum (by rw[<-HL.o];omega) af hmax;refine⟨gk,?_,af,h1,h2,HB.o.drew⟩
       first | rfl | exact congrArg (fun z=>Ending.returned (Value.int IntKind.u32 z)) af)
theorem j9{P:Prop}(h:P:=by
 exact(rR (a:=⟨b,fC+k,none⟩) h1).trans (hbc k af)):P:=h
theorem tQ (L bs:List Nat) (g off n cap:Nat) (ao:Option Addr) (m bA B:Nat) (w:World)
 (hO:Own w g L) (hoff:off+n<=L.length) (hm:m=bs.length) (Jd:m<=n) (hcap:n<=cap) (hbig:n<=4611686018427387904) (hL:Wf L) (hb:Wf bs) (hR:Rd B w ao bs) (hB:B<=g) :
 Calls Tryz.prog 287 #[.slice (some ⟨g,off,none⟩) n cap,.slice ao m bA] w fun r w' =>
  ∃ M c,r=.returned (.int .u32 (c:Nat))/\c<=1/\Own w' g M/\Wf M/\Out L M off n/\sg M off n+c*pw n=sg L off n+val bs/\But g w w':=by
 have HR:Aside (Rd B w ao bs/\m=bs.length/\Wf bs/\Wf L/\off+n<=L.length):=⟨hR,hm,hb,hL,hoff⟩;have HO:Hid (Own w g L):=hO;have EX:Hid (∀ x y c s d w,_->_->_->_->_->_):=Nk;clear hR hm hb hL hO hoff;go_enter Tryz.func287,Tryz.ntmps287;go_wp2
 go_loopg [5,11] m (fun gk c i wr=>∃ (k cv:Nat) (M:List Nat),gk+k=m/\c=.int .u32 (cv:Nat)/\cv<=1/\i=.int .i64 (k:Nat) /\
  Hid (Own wr g M)/\Aside (Wf M/\Out L M off k/\sg M off k+cv*pw k=sg L off k+sg bs 0 k/\But g w wr))
 case atStart=>exact⟨0,0,L,af,rfl,af,rfl,HO,HR.o.r3.1,Out.refl _ _ _,by simp[eX],But.refl _ _⟩
 case round =>
  obtain⟨k,cv,M,iL,rfl,hcv,rfl,HM,HA⟩:=hrel
  by_cases hk:k<m
  · obtain⟨hR,hm,hb,hL,hoff⟩:=HR.o;obtain⟨bD,fE,hMs,aF⟩:=HA.o;obtain⟨b,fC,Nw,rfl,hbc⟩:=hR (by intro e;subst e;simp at hm;omega)
    have hbk:wr.cell? ⟨b,fC+k,none⟩=some (.int .u32 ((bs.getD k 0:Nat):Int)):=by
     have h1:=aF.block b (iH w ⟨b,fC+k,none⟩ (hbc k af)) af;exact j9
    have hgc:=HM.o.cell (off+k) (by rw[fE.1];omega);have hgf:=HM.o.frozen (off+k);obtain⟨x,hx⟩:∃ x:Nat,M.getD (off+k) 0=x:=⟨_,rfl⟩;obtain⟨y,hy⟩:∃ y:Nat,bs.getD k 0=y:=⟨_,rfl⟩;have hxl:x<4294967296:=hx ▸ bD.get _;have hyl:y<4294967296:=hy ▸ hb.get _;rw[hx] at hgc;rw[hy] at hbk;obtain⟨s,hs⟩:∃ s:Nat,s=(x+y+cv)%4294967296:=⟨_,rfl⟩;obtain⟨d,hd⟩:∃ d:Nat,d=(x+y+cv)/4294967296:=⟨_,rfl⟩;have HX:Aside (M.getD (off+k) 0=x/\bs.getD k 0=y/\s=(x+y+cv)%4294967296/\d=(x+y+cv)/4294967296):=⟨hx,hy,hs,hd⟩;clear hx hy hs hd hR hm hb hL hoff bD fE hMs aF hbc;go_wp2_with fail;refine(EX.o x y cv s d _ hxl hyl hcv HX.o.r2.1 HX.o.r3).mono ?_;rintro r w1 ⟨rfl,rfl⟩;go_wp2;go_roundg (gk-1)
    case measure=>omega
    case rel =>
     obtain⟨hx,hy,hs,hd⟩:=HX.o;obtain⟨hR,hm,hb,hL,hoff⟩:=HR.o;obtain⟨bD,fE,hMs,aF⟩:=HA.o;refine⟨k+1,d,M.set (off+k) s,af,rfl,af,by go_num,HM.o.set _ _,bD.set _ _ af,(fE.mono af).set _ _ af af,?_,aF.set _ _⟩;rw[bF _ _ _ _ (by rw[fE.1];omega),bz L off k af,bz bs 0 k af,dm,hy,bI];have e:L.getD (off+k) 0=x:=by rw[<-hx];exact(fE.2 _ af).symm
     rw[e];exact xO _ _ _ _ _ _ _ _ _ hMs af
  · obtain rfl:k=m:=af
    have HA2:Aside (Wf M/\Out L M off k/\sg M off k+cv*pw k=sg L off k+val bs/\But g w wr):=by
     obtain⟨hR,hm,hb,hL,hoff⟩:=HR.o;obtain⟨bD,fE,hMs,aF⟩:=HA.o;refine⟨bD,fE,?_,aF⟩;rw[hMs,hm,dw]
    clear HA iL HO hk;go_wp2
    go_loopg [5,8] (n-k) (fun g2 c i w2=>∃ (j cv:Nat) (M:List Nat),g2+j=n/\k<=j/\c=.int .u32 (cv:Nat)/\cv<=1/\i=.int .i64 (j:Nat) /\
     Hid (Own w2 g M)/\Aside (Wf M/\Out L M off j/\sg M off j+cv*pw j=sg L off j+val bs/\But g w w2))
    case atStart=>exact⟨k,cv,M,af,aB _,rfl,hcv,rfl,HM,HA2.o⟩
    case round =>
     clear HM HA2 hcv;obtain⟨j,cv,M,hgj,hkj,rfl,hcv,rfl,HM,HA⟩:=hrel
     by_cases hj:j<n
     · by_cases h0:cv=0
       · subst h0;go_wp2;go_ret;obtain⟨hR,hm,hb,hL,hoff⟩:=HR.o;obtain⟨bD,fE,hMs,aF⟩:=HA.o;refine⟨M,0,rfl,af,HM.o,bD,fE.mono af,?_,aF⟩;rw[gT,gU] at hMs |-;exact QO af af fE hMs
       · obtain rfl:cv=1:=af
         obtain⟨hR,hm,hb,hL,hoff⟩:=HR.o;obtain⟨bD,fE,hMs,aF⟩:=HA.o;have hgc:=HM.o.cell (off+j) (by rw[fE.1];omega);have hgf:=HM.o.frozen (off+j);obtain⟨x,hx⟩:∃ x:Nat,M.getD (off+j) 0=x:=⟨_,rfl⟩;have hxl:x<4294967296:=hx ▸ bD.get _;rw[hx] at hgc;obtain⟨s,hs⟩:∃ s:Nat,s=(x+0+1)%4294967296:=⟨_,rfl⟩;obtain⟨d,hd⟩:∃ d:Nat,d=(x+0+1)/4294967296:=⟨_,rfl⟩;have HX:Aside (M.getD (off+j) 0=x/\s=(x+0+1)%4294967296/\d=(x+0+1)/4294967296):=⟨hx,hs,hd⟩;clear hx hs hd hR hm hb hL hoff bD fE hMs aF h0;go_wp2_with fail;refine(EX.o x 0 1 s d _ hxl af af HX.o.2.1 HX.o.r2).mono ?_;rintro r w1 ⟨rfl,rfl⟩;go_wp2;go_roundg (gk-1)
         case measure=>omega
         case rel =>
          obtain⟨hx,hs,hd⟩:=HX.o;obtain⟨hR,hm,hb,hL,hoff⟩:=HR.o;obtain⟨bD,fE,hMs,aF⟩:=HA.o;refine⟨j+1,d,M.set (off+j) s,af,af,rfl,af,by go_num,HM.o.set _ _,bD.set _ _ af,(fE.mono af).set _ _ af af,?_,aF.set _ _⟩;rw[bF _ _ _ _ (by rw[fE.1];omega),bz L off j af,bI];have e:L.getD (off+j) 0=x:=by rw[<-hx];exact(fE.2 _ af).symm
          rw[e];have:=xO (pw j) _ _ _ _ x 0 s d hMs af;omega
     · obtain rfl:j=n:=af
       exact Qbh
theorem zK (L bs:List Nat) (g off n cap:Nat) (ao:Option Addr) (m bA B q:Nat) (w:World)
 (hO:Own w g L) (hoff:off+n<=L.length) (hm:m=bs.length) (Jd:n=m+1) (hcap:n<=cap) (hbig:n<=4611686018427387904) (hL:Wf L) (hb:Wf bs) (hR:Rd B w ao bs) (hB:B<=g) (hq:q<4294967296) :
 Calls Tryz.prog 302 #[.slice (some ⟨g,off,none⟩) n cap,.slice ao m bA,.int .u32 (q:Nat)] w fun r w' =>
  ∃ M,∃ c:Nat,r=.returned (.bool (decide (0<c)))/\c<=1/\Own w' g M/\Wf M/\Out L M off n/\sg M off n+val bs*q=sg L off n+c*pw n/\But g w w':=by
 have HR:Aside (Rd B w ao bs/\m=bs.length/\Wf bs/\Wf L/\off+n<=L.length/\n=m+1):=⟨hR,hm,hb,hL,hoff,Jd⟩;have HO:Hid (Own w g L):=hO;have EX:Hid (∀ x y c s d w,_->_->_->_->_->_):=Ai;have hmn1:m<n:=af
 clear hR hm hb hL hO hoff Jd;go_enter Tryz.func302,Tryz.ntmps302;go_wp2
 go_loopg [7,8,14] m (fun gk c bo i wr=>∃ (k cv bv:Nat) (M:List Nat),gk+k=m/\c=.int .u64 (cv:Nat)/\cv<4294967296/\bo=.int .u32 (bv:Nat)/\bv<=1/\i=.int .i64 (k:Nat) /\
  Hid (Own wr g M)/\Aside (Wf M/\Out L M off k/\sg M off k+sg bs 0 k*q=sg L off k+(cv+bv)*pw k/\But g w wr))
 case atStart=>exact⟨0,0,0,L,af,rfl,af,rfl,af,rfl,HO,HR.o.r3.1,Out.refl _ _ _,by simp[eX],But.refl _ _⟩
 case round =>
  obtain⟨k,cv,bv,M,iL,rfl,hcv,rfl,hbv,rfl,HM,HA⟩:=hrel
  by_cases hk:k<m
  · obtain⟨hR,hm,hb,hL,hoff,Jd⟩:=HR.o;obtain⟨bD,fE,hMs,aF⟩:=HA.o;obtain⟨b,fC,Nw,rfl,hbc⟩:=hR (by intro e;subst e;simp at hm;omega)
    have hbk:wr.cell? ⟨b,fC+k,none⟩=some (.int .u32 ((bs.getD k 0:Nat):Int)):=by
     have h1:=aF.block b (iH w ⟨b,fC+k,none⟩ (hbc k af)) af;exact j9
    have hgc:=HM.o.cell (off+k) (by rw[fE.1];omega);have hgf:=HM.o.frozen (off+k);obtain⟨x,hx⟩:∃ x:Nat,M.getD (off+k) 0=x:=⟨_,rfl⟩;obtain⟨y,hy⟩:∃ y:Nat,bs.getD k 0=y:=⟨_,rfl⟩;have hxl:x<4294967296:=hx ▸ bD.get _;have hyl:y<4294967296:=hy ▸ hb.get _;rw[hx] at hgc;rw[hy] at hbk;have hp0:=Aj y q hyl hq;have hp2:(y:Int)*(q:Int)<=18446744065119617025:=by rw[<-dU];omega
    have hp1:0<=(y:Int)*(q:Int):=by rw[<-dU];omega
    obtain⟨tl,htl⟩:∃ s:Nat,s=(y*q+cv)%4294967296:=⟨_,rfl⟩;obtain⟨d,hd⟩:∃ d:Nat,d=(y*q+cv)/4294967296:=⟨_,rfl⟩;have e0:((y*q+cv:Nat):Int)=(y:Int)*q+cv:=by simp only[xx,dU]
    have e1:((y:Int)*q+cv)%4294967296=(tl:Int):=by rw[<-e0];omega
    have e2:((y:Int)*q+cv)/4294967296=(d:Int):=by rw[<-e0];omega
    obtain⟨s,hs⟩:∃ s:Nat,(s:Int)=((x:Int)-tl-bv)%4294967296:=⟨(((x:Int)-tl-bv)%4294967296).toNat,af⟩;obtain⟨bn,hbn⟩:∃ bn:Nat,bn=if x<tl+bv then 1 else 0:=⟨_,rfl⟩
    have htl2:tl<4294967296:=af
    have HX:Aside (M.getD (off+k) 0=x/\bs.getD k 0=y/\tl+d*4294967296=y*q+cv/\d<4294967296/\(s:Int)=((x:Int)-tl-bv)%4294967296/\bn=if x<tl+bv then 1 else 0):=⟨hx,hy,af,af,hs,hbn⟩;clear hx hy hs hd hR hm hb hL hoff bD fE hMs aF hbc e0 hp0 hbn htl Jd;go_wp2_with fail;refine(EX.o x tl bv s bn _ hxl htl2 hbv HX.o.r4.1 HX.o.r5).mono ?_;rintro r w1 ⟨rfl,rfl⟩;go_wp2;go_roundg (gk-1)
    case measure=>omega
    case rel =>
     obtain⟨hx,hy,he,hd,hs,hbn⟩:=HX.o;obtain⟨hR,hm,hb,hL,hoff,Jd⟩:=HR.o;obtain⟨bD,fE,hMs,aF⟩:=HA.o;have Zb:bn<=1:=by rw[hbn];split <;> omega
     have hsum:s+tl+bv=x+bn*4294967296:=by rw[hbn];split <;> omega
     refine⟨k+1,d,bn,M.set (off+k) s,af,rfl,hd,rfl,Zb,by go_num,HM.o.set _ _,bD.set _ _ af,(fE.mono af).set _ _ af af,?_,aF.set _ _⟩;rw[bF _ _ _ _ (by rw[fE.1];omega),bz L off k af,bz bs 0 k af,dm,hy,bI];have e:L.getD (off+k) 0=x:=by rw[<-hx];exact(fE.2 _ af).symm
     rw[e];exact xP _ _ _ _ _ _ _ _ _ _ hMs (by rw[dV];omega)
  · obtain rfl:k=m:=af
    obtain⟨hR,hm,hb,hL,hoff,Jd⟩:=HR.o;obtain⟨bD,fE,hMs,aF⟩:=HA.o;have hgc:=HM.o.cell (off+k) (by rw[fE.1];omega);have hgf:=HM.o.frozen (off+k);obtain⟨x,hx⟩:∃ x:Nat,M.getD (off+k) 0=x:=⟨_,rfl⟩;have hxl:x<4294967296:=hx ▸ bD.get _;rw[hx] at hgc;obtain⟨s,hs⟩:∃ s:Nat,(s:Int)=((x:Int)-cv-bv)%4294967296:=⟨(((x:Int)-cv-bv)%4294967296).toNat,af⟩;obtain⟨bn,hbn⟩:∃ bn:Nat,bn=if x<cv+bv then 1 else 0:=⟨_,rfl⟩
    have HX:Aside (M.getD (off+k) 0=x/\(s:Int)=((x:Int)-cv-bv)%4294967296/\bn=if x<cv+bv then 1 else 0):=⟨hx,hs,hbn⟩;clear hx hs hR hm hb hL hoff bD fE hMs aF hbn Jd;go_wp2_with fail;refine(EX.o x cv bv s bn _ hxl hcv hbv HX.o.2.1 HX.o.r2).mono ?_;rintro r w1 ⟨rfl,rfl⟩;go_wp2;go_ret;obtain⟨hx,hs,hbn⟩:=HX.o;obtain⟨hR,hm,hb,hL,hoff,Jd⟩:=HR.o;obtain⟨bD,fE,hMs,aF⟩:=HA.o;have Zb:bn<=1:=by rw[hbn];split <;> omega
    have hsum:s+cv+bv=x+bn*4294967296:=by rw[hbn];split <;> omega
    refine⟨M.set (off+k) s,bn,rfl,Zb,HM.o.set _ _,bD.set _ _ af,(fE.mono af).set _ _ af af,?_,aF.set _ _⟩;subst Jd;rw[bF _ _ _ _ (by rw[fE.1];omega),bz L off k af,bI];have e:L.getD (off+k) 0=x:=by rw[<-hx];exact(fE.2 _ af).symm
    rw[e];have h2:=xP (pw k) _ _ _ _ x 0 q s bn hMs af;rw[nL,gU,hm,dw] at h2;exact hm ▸ h2
theorem QS(U V P o c m:Nat)(h1:m+V*o=U+c*P)(hc:c<=1)(h2:U<(o+1)*V)(h3:o*V<=U+V)(hm:m<P)(hV:V<=P)(h0:c=0):m=U-o*V/\m<V/\U=o*V+m:=by
 subst h0;rw[bR V] at h1;rw[dV,jF] at h2;refine⟨af,af,af⟩
theorem Ny(U V P o c m M d:Nat)(h1:m+V*(o+1)=U+1*P)(h2:U<(o+1+1)*V)(h3:(o+1)*V<=U+V)(hm:m<P)(hM:M<P)(hb:M+d*P=m+V)(hd:d<=1)(hU:U<V*4294967296)(Yt:V*4294967296<=P*4294967296)(hV:V<=P) :
 U=o*V+M/\M<V:=by
 rw[jF] at h1;have e:V*(o+1)=o*V+V:=by grind
 rw[e] at h1;rw[dV,jF] at h3;rcases(by omega:d=0\/d=1) with rfl|rfl
 · exfalso;rw[gT] at hb;omega
 · rw[jF] at hb;constructor
   · omega
   · omega
theorem EY (L bs:List Nat) (g off cap:Nat) (ao:Option Addr) (n bA B:Nat) (w:World) (k:Nat) (hnk:n=k+2)
 (hO:Own w g L) (hoff:off+(k+3)<=L.length) (hm:k+2=bs.length) (hcap:n+1<=cap) (hbig:n+1<=4611686018427387904) (hL:Wf L) (hb:Wf bs) (hR:Rd B w ao bs) (hB:B<=g)
 (htop:2147483648<=bs.getD (k+1) 0) (hlt:sg L off (k+3)<val bs*4294967296) :
 Calls Tryz.prog 297 #[.slice (some ⟨g,off,none⟩) (n+1) cap,.slice ao n bA] w fun r w' =>
  ∃ o:Nat,∃ M,r=.returned (.int .u32 (o:Nat))/\o<4294967296/\Own w' g M/\Wf M/\Out L M off (n+1)/\sg L off (n+1)=o*val bs+sg M off (n+1)/\sg M off (n+1)<val bs/\But g w w':=by
 have G:=hid (Nv L bs g off cap ao n bA B w k hnk hO hoff hm hcap af hL hb hR htop hlt);have HH:=(EG hO hoff hm hL hb hR hlt hnk);clear hO hoff hm hL hb hR hlt hnk htop;go_enter Tryz.func297,Tryz.ntmps297;go_wp2_with fail;refine G.o.mono ?_;rintro r w1 ⟨o,rfl,ho,h2,h3,hbel⟩;obtain⟨hO,hoff,hm,hL,hb,hR,hlt,hnk⟩:=HH.o;have hg:=hO.lt;have vC:=hO.below hbel hg;have Yu:Rd B w1 ao bs:=hR.below (hbel.mono af);have T:=hid (zK L bs g off (n+1) cap ao n bA B o w1 vC af af rfl hcap hbig hL hb Yu hB ho);have HI:=(bM h2 h3 hbel);clear hO hoff hm hL hb hR hlt hnk hg vC Yu h2 h3 hbel G;go_wp2_with fail;refine T.o.mono ?_;rintro r w2 ⟨M,c,rfl,hc,hO2,hM,hout,hsum,aF⟩;obtain⟨hO,hoff,hm,hL,hb,hR,hlt,hnk⟩:=HH.o;obtain⟨h2,h3,hbel⟩:=HI.o;have e3:k+3=n+1:=af
 rw[e3] at h2 h3 hlt;have U8:=nN M off (n+1) hM (by rw[hout.1];omega);have La:=df bs hb
 have Yt:val bs<=pw (n+1):=by
  have:=mW (show bs.length<=n+1 by omega);omega
 by_cases h0:c=0
 · obtain⟨e,hlt2,hU⟩:=QS _ _ _ _ _ _ hsum hc h2 h3 U8 Yt h0;have HJ:=(EF hO2 hM hout hU hlt2 aF hbel);subst h0;clear hO hoff hm hL hb hR hlt hnk h2 h3 hbel hO2 hM hout hsum aF U8 La Yt e hlt2 hU T HI e3 hc;go_wp2;go_ret;obtain⟨hO2,hM,hout,hU,hlt2,aF,hbel⟩:=HJ.o;exact⟨o,M,rfl,ho,hO2,hM,hout,hU,hlt2,(But.refl _ _).of_below hbel |>.trans aF⟩
 · obtain rfl:c=1:=af
   have ho1:1<=o:=by
    rcases rO o with h|h
    · subst h;rw[nL] at hsum;have:=nN L off (n+1) hL af;omega
    · exact h
   obtain⟨p,hp⟩:∃ p,o=p+1:=⟨o-1,af⟩;have hR2:Rd B w2 ao bs:=(hR.below (hbel.mono (by have:=hO.lt;omega))).but aF (by have:=hbel.size;have:=hO.lt;omega) hB;have A:=hid (tQ M bs g off (n+1) cap ao n bA B w2 hO2 (by rw[hout.1];omega) af af hcap hbig hM hb hR2 hB);have HJ:=(qs11 hM hout hsum aF hbel h2 h3 U8 Yt hlt hp);clear hO hoff hm hL hb hR hlt hnk h2 h3 hbel hO2 hM hout hsum aF U8 La Yt T HI hR2 h0 hp e3 hc;go_wp2_with fail;refine A.o.mono ?_;rintro r w3 ⟨M2,d,rfl,hd,hO3,hM2,hout2,Lb,rX⟩;have HK:=(rG hd hO3 hM2 hout2 Lb rX);clear hd hO3 hM2 hout2 Lb rX A;go_wp2;go_ret;obtain⟨hM,hout,hsum,aF,hbel,h2,h3,U8,Yt,hlt,hp⟩:=HJ.o;obtain⟨hd,hO3,hM2,hout2,Lb,rX⟩:=HK.o;obtain⟨hO,hoff,hm,hL,hb,hR,hlt',hnk⟩:=HH.o;have hm2:=nN M2 off (n+1) hM2 (by rw[hout2.1,hout.1];omega);subst hp;obtain⟨hU,hlt2⟩:=Ny _ _ _ p 1 _ _ d hsum h2 h3 U8 hm2 Lb hd hlt (dF _ Yt) Yt;refine⟨p,M2,?_,af,hO3,hM2,hout.trans hout2,hU,hlt2,(((But.refl _ _).of_below hbel).trans aF).trans rX⟩;exact congrArg (fun z=>Ending.returned (Value.int IntKind.u32 z)) af
def bl(n:Nat):Nat:=if n=0 then 0 else n.log2+1
theorem eY:bl 0=0:=rfl
theorem iF(n:Nat):n<2^bl n:=by
 unfold bl
 split
 · next h=>subst h;decide
 · exact Nat.lt_log2_self
theorem iM(n:Nat)(h:n≠0):2^(bl n-1)<=n:=by
 unfold bl;rw[if_neg h];exact Nat.log2_self_le h
theorem fH(n:Nat)(h:n≠0):0<bl n:=by unfold bl;rw[if_neg h];omega
theorem Lc(n k:Nat)(h1:2^k<=n)(h2:n<2^(k+1)):bl n=k+1:=by
 have hn:n≠0:=by have:=bK k;omega
 have a:k<bl n:=(ku (a:=2) aA).1 (iC h1 (iF n));have b:bl n-1<k+1:=(ku (a:=2) aA).1 (iC (iM n hn) h2);omega
theorem Al(x:Nat)(h:x<18446744073709551616):Lib.bitLen x=bl x:=by
 by_cases h0:x=0
 · subst h0;decide
 · obtain⟨h1,h2,h3⟩:=Lib.bitLenAux_bounds 64 x h h0;obtain⟨k,hk⟩:∃ k,Lib.bitLen x=k+1:=⟨Lib.bitLen x-1,by unfold Lib.bitLen;omega⟩;have hk':Lib.bitLenAux 64 x=k+1:=hk;rw[hk'] at h2 h3;rw[hk,Lc x k h2 h3]
theorem tab8(n:Nat)(h:n<Lib.len8tab.size):(Lib.len8tab[n]'h).toNat=Lib.bitLen n:=by
 have hn:n<256:=by rw[Lib.len8tab_size] at h;exact h
 have e:=Lib.len8_eq ⟨n,hn⟩;simp only[Lib.len8,kV] at e;rw[getElem?_pos Lib.len8tab n h] at e;exact Int.natCast_inj.1 (by simpa using e)
theorem jQ(x i:Int)(c:Nat)(hc:c<=56)(hi:i<256)(hs:Lib.bitLen x.toNat=c+Lib.bitLen i.toNat)(hh:i.toNat<Lib.len8tab.size)(hi0:0<=i) :
 wrap64 ((c:Int)+wrap64 ((Lib.len8tab[i.toNat]'hh).toNat:Int))=(Lib.bitLen x.toNat:Int):=by
 have l:=Lib.bitLen_le8 ⟨i.toNat,af⟩;simp only at l;rw[tab8,hs];unfold wrap64;omega
theorem EZ(x:Int)(hi:x<256)(hi0:0<=x)(hh:x.toNat<Lib.len8tab.size) :
 wrap64 (wrap64 ((Lib.len8tab[x.toNat]'hh).toNat:Int))=(Lib.bitLen x.toNat:Int):=by
 have l:=Lib.bitLen_le8 ⟨x.toNat,af⟩;simp only at l;rw[tab8];unfold wrap64;omega
set_option maxRecDepth 100000 in
theorem Nz(x:Int)(w:World)(h0:0<=x)(h1:x<=4294967295) :
 Calls Tryz.prog 186 #[.int .u32 x] w fun e w'=>e=.returned (.int .i64 (Lib.bitLen x.toNat))/\w'=w:=by
 have hsz:Lib.len8tab.size=256:=Lib.len8tab_size;go_enter Tryz.func186,Tryz.ntmps186;go_wp2
 all_goals (go_ret;refine⟨congrArg (fun z=>Ending.returned (Value.int IntKind.i64 z)) ?_,rfl⟩)
 · exact jQ x (x/65536/256) 24 af af (by rw[Lib.bitLen_shift24 x.toNat af af,show(x/65536/256).toNat=x.toNat/16777216 by omega]) af af
 · exact jQ x (x/65536) 16 af af (by rw[Lib.bitLen_shift16 x.toNat af af,show(x/65536).toNat=x.toNat/65536 by omega]) af af
 · exact jQ x (x/256) 8 af af (by rw[Lib.bitLen_shift8 x.toNat af af,show(x/256).toNat=x.toNat/256 by omega]) af af
 · exact EZ x af af af
theorem Am(x:Nat)(w:World)(h:x<4294967296):Calls Tryz.prog 186 #[.int .u32 (x:Int)] w fun e w'=>e=.returned (.int .i64 (bl x:Nat))/\w'=w:=by
 have:=Nz x w af af;rw[kV,Al x af] at this;exact this
theorem Cv(x:Nat)(h:x<4294967296):bl x<=32:=by
 by_cases h0:x=0
 · subst h0;decide
 · have:=iM x h0;have:2^(bl x-1)<2^32:=af
   have:=(ku (a:=2) aA).1 this;omega
theorem Je(x:Nat)(w:World)(h:x<4294967296):Calls Tryz.prog 296 #[.int .u32 (x:Int)] w fun e w'=>e=.returned (.int .i64 ((32-bl x:Nat):Int))/\w'=w:=by
 have H:=hid (Am x w h);have hb:=Cv x h;obtain⟨k,hk⟩:∃ k,bl x=k:=⟨_,rfl⟩;rw[hk] at H hb |-;clear hk;obtain⟨z,hz⟩:=ah (32-k);have e:(32:Int)-(k:Int)=(z:Int):=af
 rw[<-hz];clear hz;go_enter Tryz.func296,Tryz.ntmps296;go_wp2_with fail;refine H.o.mono ?_;rintro r w1 ⟨rfl,rfl⟩;go_wp2;go_ret;exact⟨by first | rfl | rw[e],rfl⟩
end
end Go.Proofs.YtaejmlkaefnbhaaGreatDoor
