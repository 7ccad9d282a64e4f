import Derived.Deep.LoopGhost
import Ieee.Arith
import Derived.Test.YtfmfhehbdfhnbaaGreatDoorProg
import Derived.Laws.Externs
import Derived.WalkKit
import Derived.WalkLawsBesides
import Derived.Laws.BitsAllLaws
import Derived.WalkSpells
import Derived.OwnWalk
import Derived.Below
import Derived.Laws.OwnMore
import Derived.Laws.CopyOwn
import Derived.Laws.Bits64b
set_option linter.unusedVariables false
set_option linter.unusedSimpArgs false
set_option maxHeartbeats 16000000
set_option maxRecDepth 20000
namespace Go.Proofs.YtfmfhehbdfhnbaaGreatDoor
abbrev zD3:Array Go.Value:=#[.bool false,.slice none 0 0,.int .i64 0]
theorem ah{A:Sort _}(a:A):∃ x,x=a:=⟨a,rfl⟩
theorem aP{a0 a1:Prop}(h0:a0)(h1:a1):Go.Aside (a0∧a1):=⟨h0,h1⟩
theorem dC{a0 a1 a2:Prop}(h0:a0)(h1:a1)(h2:a2):Go.Aside (a0∧a1∧a2):=⟨h0,h1,h2⟩
theorem ic{a0 a1 a2 a3:Prop}(h0:a0)(h1:a1)(h2:a2)(h3:a3):Go.Aside (a0∧a1∧a2∧a3):=⟨h0,h1,h2,h3⟩
theorem fO{a0 a1 a2 a3 a4:Prop}(h0:a0)(h1:a1)(h2:a2)(h3:a3)(h4:a4):Go.Aside (a0∧a1∧a2∧a3∧a4):=⟨h0,h1,h2,h3,h4⟩
theorem jJ{a0 a1 a2 a3 a4 a5:Prop}(h0:a0)(h1:a1)(h2:a2)(h3:a3)(h4:a4)(h5:a5):Go.Aside (a0∧a1∧a2∧a3∧a4∧a5):=⟨h0,h1,h2,h3,h4,h5⟩
theorem nU{a0 a1 a2 a3 a4 a5 a6:Prop}(h0:a0)(h1:a1)(h2:a2)(h3:a3)(h4:a4)(h5:a5)(h6:a6):Go.Aside (a0∧a1∧a2∧a3∧a4∧a5∧a6):=⟨h0,h1,h2,h3,h4,h5,h6⟩
theorem uI{a0 a1 a2 a3 a4 a5 a6 a7:Prop}(h0:a0)(h1:a1)(h2:a2)(h3:a3)(h4:a4)(h5:a5)(h6:a6)(h7:a7):Go.Aside (a0∧a1∧a2∧a3∧a4∧a5∧a6∧a7):=⟨h0,h1,h2,h3,h4,h5,h6,h7⟩
theorem XP{a0 a1 a2 a3 a4 a5 a6 a7 a8:Prop}(h0:a0)(h1:a1)(h2:a2)(h3:a3)(h4:a4)(h5:a5)(h6:a6)(h7:a7)(h8:a8):Go.Aside (a0∧a1∧a2∧a3∧a4∧a5∧a6∧a7∧a8):=⟨h0,h1,h2,h3,h4,h5,h6,h7,h8⟩
theorem Cs{a0 a1 a2 a3 a4 a5 a6 a7 a8 a9:Prop}(h0:a0)(h1:a1)(h2:a2)(h3:a3)(h4:a4)(h5:a5)(h6:a6)(h7:a7)(h8:a8)(h9:a9):Go.Aside (a0∧a1∧a2∧a3∧a4∧a5∧a6∧a7∧a8∧a9):=⟨h0,h1,h2,h3,h4,h5,h6,h7,h8,h9⟩
theorem YF{a0 a1 a2 a3 a4 a5 a6 a7 a8 a9 a10:Prop}(h0:a0)(h1:a1)(h2:a2)(h3:a3)(h4:a4)(h5:a5)(h6:a6)(h7:a7)(h8:a8)(h9:a9)(h10:a10):Go.Aside (a0∧a1∧a2∧a3∧a4∧a5∧a6∧a7∧a8∧a9∧a10):=⟨h0,h1,h2,h3,h4,h5,h6,h7,h8,h9,h10⟩
theorem qs12{a0 a1 a2 a3 a4 a5 a6 a7 a8 a9 a10 a11:Prop}(h0:a0)(h1:a1)(h2:a2)(h3:a3)(h4:a4)(h5:a5)(h6:a6)(h7:a7)(h8:a8)(h9:a9)(h10:a10)(h11:a11):Go.Aside (a0∧a1∧a2∧a3∧a4∧a5∧a6∧a7∧a8∧a9∧a10∧a11):=⟨h0,h1,h2,h3,h4,h5,h6,h7,h8,h9,h10,h11⟩
theorem _root_.Go.Aside.o{p:Prop}(h:Go.Aside p):p:=h.out
theorem _root_.Go.RowKit.Hid.o{p:Prop}(h:Go.RowKit.Hid p):p:=h.out
theorem _root_.And.r2{a0 a1 a2:Prop}(h:a0∧a1∧a2):a2:=h.2.2
theorem _root_.And.r3{a0 a1 a2 a3:Prop}(h:a0∧a1∧a2∧a3):a3:=h.2.2.2
theorem _root_.And.r4{a0 a1 a2 a3 a4:Prop}(h:a0∧a1∧a2∧a3∧a4):a4:=h.2.2.2.2
theorem _root_.And.r5{a0 a1 a2 a3 a4 a5:Prop}(h:a0∧a1∧a2∧a3∧a4∧a5):a5:=h.2.2.2.2.2
theorem _root_.And.r6{a0 a1 a2 a3 a4 a5 a6:Prop}(h:a0∧a1∧a2∧a3∧a4∧a5∧a6):a6:=h.2.2.2.2.2.2
theorem _root_.And.r7{a0 a1 a2 a3 a4 a5 a6 a7:Prop}(h:a0∧a1∧a2∧a3∧a4∧a5∧a6∧a7):a7:=h.2.2.2.2.2.2.2
theorem _root_.And.r8{a0 a1 a2 a3 a4 a5 a6 a7 a8:Prop}(h:a0∧a1∧a2∧a3∧a4∧a5∧a6∧a7∧a8):a8:=h.2.2.2.2.2.2.2.2
abbrev aC:=@Nat.le_refl
abbrev aJ:=@Nat.pow_add
abbrev aM:=@Nat.mul_assoc
abbrev aZ:=@Nat.two_pow_pos
abbrev cu:=@Nat.mul_comm
abbrev dW:=@Nat.le_trans
abbrev eP:=@Nat.zero_add
abbrev eZ:=@Nat.mul_le_mul_right
abbrev fF:=@List.getD_eq_getElem?_getD
abbrev fI:=@Nat.add_mul
abbrev dL:=@Nat.zero_mul
abbrev dO:=@Nat.mul_lt_mul_of_pos_right
abbrev eO:=@Prod.mk.inj
abbrev fe:=@Nat.pow_le_pow_right
abbrev fo:=@Nat.ne_of_lt
abbrev fC:=@Nat.pow_succ
abbrev fJ:=@Bool.false_eq_true
abbrev fT:=@Nat.add_zero
abbrev fU:=@Nat.mul_one
abbrev gD:=@List.getElem?_eq_getElem
abbrev gK:=@Nat.pow_zero
abbrev gL:=@Array.getElem?_eq_some_iff
abbrev gM:=@Int.natCast_mul
abbrev ig:=@List.length_take
abbrev iq:=@Nat.mul_pos
abbrev iw:=@Nat.mul_le_mul_left
abbrev iN:=@Nat.div_eq_of_lt
abbrev iO:=@Nat.min_eq_left
abbrev iP:=@Nat.lt_of_le_of_lt
abbrev iQ:=@Nat.lt_of_lt_of_le
abbrev iR:=@List.take_of_length_le
abbrev jm:=@Nat.le_of_lt
abbrev jq:=@Nat.one_mul
abbrev jK:=@Nat.lt_or_ge
abbrev jY:=@Nat.mul_zero
abbrev jZ:=@Nat.eq_zero_or_pos
abbrev ku:=@Nat.pow_lt_pow_iff_right
abbrev kz:=@Nat.mul_add
abbrev kC:=@Nat.mul_le_mul
abbrev kD:=@Nat.pow_mul
abbrev kE:=@Int.mul_assoc
abbrev kU:=@Bool.toNat_true
abbrev kV:=@Bool.toNat_false
abbrev lU:=@Nat.mod_lt
abbrev lZ:=@Nat.lt_trichotomy
abbrev l7:=@List.eq_nil_of_length_eq_zero
abbrev mI:=@Nat.add_sub_cancel
abbrev mJ:=@Array.getElem?_modify
abbrev mK:=@Nat.mul_lt_mul_right
abbrev mM:=@Nat.ne_of_gt
abbrev nk:=@Nat.mod_eq_of_lt
abbrev nu:=@List.getElem_mem
abbrev nV:=@Nat.zero_le
abbrev nW:=@Int.toNat_natCast
abbrev pR:=@Nat.add_assoc
abbrev pU:=@Nat.eq_of_mul_eq_mul_right
abbrev pV:=@Nat.add_comm
abbrev pW:=@Nat.pow_pos
abbrev p8:=@Nat.div_le_self
abbrev p9:=@Nat.div_div_eq_div_mul
abbrev qh:=@Nat.div_add_mod
abbrev qi:=@List.getElem?_eq_none
abbrev qj:=@Bool.false_and
abbrev ql:=@List.mem_range
abbrev rE:=@Nat.div_lt_iff_lt_mul
abbrev rF:=@Nat.le_div_iff_mul_le
abbrev rG:=@Nat.mul_lt_mul_of_pos_left
abbrev rH:=@Nat.mul_lt_mul''
abbrev rJ:=@Nat.mul_pow
abbrev rM:=@Nat.pow_one
abbrev sW:=@List.length_cons
abbrev sZ:=@List.length_drop
abbrev tq:=@Nat.add_mul_div_left
abbrev tu:=@Int.mul_pos
abbrev tC:=@Bool.true_and
abbrev vW:=@Int.compare_eq_lt
abbrev vX:=@Int.compare_eq_gt
abbrev vY:=@Int.compare_eq_eq
abbrev vZ:=@Bool.and_eq_true
abbrev wh:=@List.length_append
abbrev wm:=@Nat.div_one
abbrev wo:=@Nat.mul_mul_mul_comm
abbrev wu:=@Bool.and_self
abbrev wy:=@List.length_range
abbrev yc:=@Nat.mul_right_comm
abbrev yf:=@Bool.eq_iff_iff
abbrev yg:=@List.map_append
abbrev yh:=@List.append_assoc
abbrev yj:=@Int.natAbs_mul
abbrev yl:=@Nat.pow_le_pow_left
abbrev ym:=@List.length_map
abbrev Bg:=@Nat.le_of_not_lt
abbrev Bh:=@Nat.mul_div_cancel_left
abbrev Bi:=@Nat.lt_of_mul_lt_mul_right
abbrev Bj:=@List.drop_of_length_le
abbrev Bn:=@Nat.sub_self
abbrev Bo:=@Nat.le_mul_of_pos_left
abbrev Bp:=@Nat.sub_le
abbrev Bq:=@Bool.and_false
abbrev Br:=@Int.le_refl
abbrev uJ:=@Array.getElem?_setIfInBounds
abbrev uK:=@Bool.false_ne_true
abbrev uL:=@Int.mul_nonneg
abbrev yn:=@Nat.mul_succ
abbrev yo:=@Nat.succ_mul
abbrev yt:=@Nat.shiftLeft_eq
abbrev yu:=@Int.le_of_lt
abbrev yw:=@Nat.le_of_mul_le_mul_right
abbrev yx:=@List.mem_map
abbrev yz:=@List.length_replicate
abbrev yA:=@Nat.testBit_lt_two_pow
abbrev yB:=@Int.zero_add
abbrev yC:=@Int.mul_comm
abbrev yD:=@Int.mul_eq_zero
abbrev Ct:=@Nat.sub_add_cancel
abbrev Cu:=@Nat.and_two_pow_sub_one_eq_mod
abbrev Cv:=@List.take_succ_eq_append_getElem
abbrev Cw:=@List.drop_replicate
abbrev Cx:=@Int.natCast_add
abbrev Cy:=@Nat.add_mul_mod_self_left
abbrev Cz:=@List.append_nil
abbrev CB:=@List.size_toArray
abbrev CE:=@Array.length_toList
abbrev CF:=@List.length_nil
abbrev CG:=@List.take_append_of_le_length
abbrev CJ:=@List.getElem?_append_left
abbrev CK:=@Int.natAbs_natCast
abbrev CL:=@Option.isSome_iff_exists
abbrev CO:=@Classical.choose_spec
abbrev CP:=@List.all_eq_true
abbrev Hd:=@List.mem_of_mem_take
abbrev He:=@List.length_eq_zero_iff
abbrev Hg:=@Nat.shiftRight_xor_distrib
abbrev Hl:=@Nat.two_pow_add_eq_or_of_lt
abbrev Hm:=@List.getElem?_eq_some_iff
abbrev Ho:=@Nat.mod_two_eq_zero_or_one
abbrev Hq:=@Int.tmod_eq_emod_of_nonneg
abbrev Hr:=@Nat.eq_of_testBit_eq
abbrev aG:=@Go.bodyPost_ret
abbrev aD:=@Go.RowKit.Below.refl
abbrev dD:=@Go.World.size_alloc
abbrev mO:=@Go.World.block_lt_of_cell?
abbrev gY:=@Go.heap_alloc_new
abbrev aF:=@Go.Calls.mono
abbrev nJ:=@Go.IntKind.wrap_u64
abbrev CQ:=@Go.World.cell?_of_block
abbrev Em:=@Go.IntKind.wrap_i64
abbrev Ar:=@Go.World.ownsRow_nil
abbrev gF:=@Go.RowKit.Below.drew
theorem ai{a b:Prop}(x:a)(y:b):a/\b:=⟨x,y⟩
theorem aA{a:Prop}(x:a):Aside a:=x
theorem ae{p:Prop}(h:p:=by omega):p:=h
theorem aj{p:Prop}(h:p:=by decide):p:=h
theorem df{p:Prop}(h:p:=by kernel_rfl):p:=h
theorem aQ{p:Prop}(h:p:=by simp):p:=h
namespace B
open Ieee
def val(f:Format)(r:Nat):Nat:=if r<f.binade then r else(f.binade+r%f.binade)*2^(r/f.binade-1)
theorem jE(f:Format):0<f.binade:=aZ _
theorem val_succ(f:Format)(r:Nat):val f (r+1)=val f r+2^(r/f.binade-1):=by
 have hb:=jE f;unfold val;generalize hB:f.binade=B at *
 by_cases h:r<B
 · rw[if_pos h,iN h]
   by_cases h1:r+1<B
   · rw[if_pos h1]
   · have e:r+1=B:=ae
     rw[if_neg h1,e,Nat.mod_self,Nat.div_self hb];simp
 · have h1:¬ r+1<B:=ae
   rw[if_neg h,if_neg h1]
   have hq:1<=r/B:=by
    have:=Nat.div_le_div_right (c:=B) (Bg h);rw[Nat.div_self hb] at this;exact this
   have hm:=lU r hb;have hd:=qh r B;generalize r/B=q at *;generalize hmm:r%B=m at *;obtain⟨q,rfl⟩:∃ k,q=k+1:=⟨q-1,ae⟩
   by_cases h2:m+1<B
   · have e:r+1=B*(q+1)+(m+1):=ae
     have e1:(r+1)%B=m+1:=by rw[e,Nat.mul_add_mod,nk h2]
     have e2:(r+1)/B=q+1:=by rw[e,Nat.mul_add_div hb,iN h2]
     rw[e1,e2,mI,<-pR,fI,jq]
   · have hm1:m+1=B:=ae
     have e:r+1=B*(q+2):=by rw[show q+2=(q+1)+1 from rfl,yn];omega
     have e1:(r+1)%B=0:=by rw[e,Nat.mul_mod_right]
     have e2:(r+1)/B=q+2:=by rw[e,Bh _ hb]
     rw[e1,e2];have:B+m=2*B-1:=ae
     have h3:(B+m)*2^q+2^q=(2*B)*2^q:=by
      rw[<-yo];congr 1;omega
     show(B+0)*2^(q+1)=(B+m)*2^q+2^q;rw[h3,fC,fT,cu 2 B,aM,cu 2]
theorem jL(f:Format)(r:Nat):val f r<val f (r+1):=by
 rw[val_succ];exact Nat.lt_add_of_pos_right (aZ _)
theorem bM(f:Format){r s:Nat}(h:r<s):val f r<val f s:=by
 induction s with
 | zero=>omega
 | succ s ih =>
   by_cases e:r=s
   · subst e;exact jL f r
   · exact Nat.lt_trans (ih ae) (jL f s)
theorem iZ(f:Format){r s:Nat}:val f r<val f s↔r<s:=by
 constructor
 · intro h
   by_cases e:r<s
   · exact e
   · by_cases e2:r=s
     · subst e2;omega
     · have:=bM f (show s<r by omega);omega
 · exact bM f
theorem val_inj(f:Format){r s:Nat}(h:val f r=val f s):r=s:=by
 by_cases e:r<s
 · have:=bM f e;omega
 · by_cases e2:s<r
   · have:=bM f e2;omega
   · omega
theorem val_zero(f:Format):val f 0=0:=by
 unfold val;rw[if_pos (jE f)]
def sg(s:Bool)(r:Nat):Int:=if s then -(r:Int) else r
theorem Bt(f:Format)(s t:Bool)(r u:Nat):sg s (val f r)<sg t (val f u)↔sg s r<sg t u:=by
 have h1:=@iZ f r u;have h2:=@iZ f u r;have z:=val_zero f;have h3:=@iZ f 0 r;have h4:=@iZ f 0 u
 cases s <;> cases t <;> simp only[sg,if_true,if_false,fJ] <;> omega
theorem Lx(s:Bool)(m k:Nat):signed s m k=sg s (m*2^k):=by
 unfold signed sg;rw[yt]
theorem jM(f:Format)(s:Bool)(r:Nat)(hr:r<f.infRung)(hs:f.infRung<f.signWeight) :
 ∃ m:Nat,∃ k:Nat,f.read (f.word s r)=.number s m (f.leastPlace+k)/\m*2^k=val f r:=by
 have e1:(f.word s r/f.signWeight%2==1)=s:=by
  unfold Format.word
  cases s
  · simp only[fJ,if_false];rw[iN ae];rfl
  · simp only[if_true];rw[Nat.add_div_left _ ae,iN ae];rfl
 have e2:f.word s r%f.signWeight=r:=by
  unfold Format.word
  cases s
  · simp only[fJ,if_false];exact nk ae
  · simp only[if_true];rw[Nat.add_mod_left];exact nk ae
 unfold Format.read;simp only[e1,e2];unfold val
 by_cases h:r<f.binade
 · rw[if_pos h,if_pos h];exact⟨r,0,aQ,aQ⟩
 · rw[if_neg h,if_neg h,if_pos hr];exact⟨_,_,rfl,rfl⟩
theorem qo(f:Format)(s:Bool)(hs:f.infRung<f.signWeight)(hb:f.binade<=f.infRung) :
 f.read (f.word s f.infRung)=.infinity s:=by
 have e1:(f.word s f.infRung/f.signWeight%2==1)=s:=by
  unfold Format.word
  cases s
  · simp only[fJ,if_false];rw[iN ae];rfl
  · simp only[if_true];rw[Nat.add_div_left _ ae,iN ae];rfl
 have e2:f.word s f.infRung%f.signWeight=f.infRung:=by
  unfold Format.word
  cases s
  · simp only[fJ,if_false];exact nk ae
  · simp only[if_true];rw[Nat.add_mod_left];exact nk ae
 unfold Format.read;simp only[e1,e2];rw[if_neg ae,if_neg ae,if_pos trivial]
theorem Eo(f:Format)(w:Nat)(h:f.infRung<w%f.signWeight)(hb:f.binade<=f.infRung) :
 f.read w=.nan (w/f.signWeight%2==1) (w%f.signWeight-f.infRung):=by
 unfold Format.read;simp only;rw[if_neg ae,if_neg ae,if_neg ae]
theorem yE(a b c d:Int)(h1:a<b↔c<d)(h2:b<a↔d<c):compare a b=compare c d:=by
 by_cases x:a<b
 · rw[vW.2 x,vW.2 (h1.1 x)]
 · by_cases y:b<a
   · rw[vX.2 y,vX.2 (h2.1 y)]
   · have e1:a=b:=ae
     have e2:c=d:=by
      have n1:=mt h1.2 x;have n2:=mt h2.2 y;omega
     rw[vY.2 e1,vY.2 e2]
theorem PG(s:Bool)(a k:Nat):sg s (a*k)=sg s a*(k:Int):=by
 unfold sg;cases s <;> simp[Int.neg_mul]
theorem LA(s t:Bool)(m n j k:Nat)(p:Int) :
 Datum.order (.number s m (p+j)) (.number t n (p+k))=some (compare (sg s (m*2^j)) (sg t (n*2^k))):=by
 unfold Datum.order;simp only[Lx];congr 1;have hb:∃ c:Nat,min (p+(j:Int)) (p+(k:Int))=p+c:=⟨min j k,ae⟩;obtain⟨c,hc⟩:=hb;have hj:(p+(j:Int)-min (p+(j:Int)) (p+(k:Int))).toNat=j-c:=by rw[hc];omega
 have hk:(p+(k:Int)-min (p+(j:Int)) (p+(k:Int))).toNat=k-c:=by rw[hc];omega
 have cj:c<=j:=ae
 have ck:c<=k:=ae
 rw[hj,hk];have ej:m*2^j=m*2^(j-c)*2^c:=by rw[aM,<-aJ,Ct cj]
 have ek:n*2^k=n*2^(k-c)*2^c:=by rw[aM,<-aJ,Ct ck]
 rw[ej,ek,PG s (m*2^(j-c)),PG t (n*2^(k-c))];have hp:(0:Int)<((2^c:Nat):Int):=by exact_mod_cast aZ c
 refine yE _ _ _ _ ?_ ?_
 · exact⟨fun h=>Int.mul_lt_mul_of_pos_right h hp,fun h=>Int.lt_of_mul_lt_mul_right h (yu hp)⟩
 · exact⟨fun h=>Int.mul_lt_mul_of_pos_right h hp,fun h=>Int.lt_of_mul_lt_mul_right h (yu hp)⟩
theorem Ht(f:Format)(hs:f.infRung<f.signWeight)(hb:f.binade<=f.infRung)(s t:Bool)(r u:Nat)(hr:r<=f.infRung)(hu:u<=f.infRung) :
 f.order (f.word s r) (f.word t u)=some (compare (sg s r) (sg t u)):=by
 have hB:=jE f;unfold Format.order
 by_cases r1:r=f.infRung
 · by_cases u1:u=f.infRung
   · subst r1 u1;rw[qo f s hs hb,qo f t hs hb];unfold Datum.order;simp only;congr 1
     cases s <;> cases t <;> simp only[sg,kU,kV,if_true,if_false,fJ]
     · rw[vY.2 rfl];rfl
     · rw[vX.2 ae];rfl
     · rw[vW.2 ae];rfl
     · rw[vY.2 rfl];rfl
   · obtain⟨n,k,e,hv⟩:=jM f t u ae hs;subst r1;rw[qo f s hs hb,e];unfold Datum.order;simp only
     cases s <;> cases t <;> simp only[sg,if_true,if_false,fJ] <;>
      first | rw[vX.2 ae] | rw[vW.2 ae]
 · obtain⟨m,j,e,hv⟩:=jM f s r ae hs
   by_cases u1:u=f.infRung
   · subst u1;rw[qo f t hs hb,e];unfold Datum.order;simp only
     cases s <;> cases t <;> simp only[sg,if_true,if_false,fJ] <;>
      first | rw[vX.2 ae] | rw[vW.2 ae]
   · obtain⟨n,k,e2,hv2⟩:=jM f t u ae hs;rw[e,e2,LA,hv,hv2];congr 1;exact yE _ _ _ _ (Bt f s t r u) (Bt f t s u r)
def PH(n g:Nat):Nat:=n/g+(decide (g<2*(n%g)) || (g==2*(n%g)&&n/g%2==1)).toNat
theorem yF(neg:Bool)(n drop:Nat):Toward.even.cut neg n drop=PH n (2^drop):=by
 unfold Toward.cut PH;simp only[yt,jq]
 by_cases h:drop<=n.log2+2
 · rw[iO h]
 · rw[Nat.min_eq_right ae];have hn:n<2^(n.log2+1):=Nat.lt_log2_self;have h1:n<2^(n.log2+2):=by rw[fC];omega
   have h2:2^(n.log2+2)<=2^drop:=fe ae ae;have h3:2*n<2^(n.log2+2):=by rw[fC];omega
   rw[iN h1,nk h1,iN (show n<2^drop by omega),nk (show n<2^drop by omega)];have a1:decide (2^(n.log2+2)<2*n)=false:=by simp;omega
   have a2:decide (2^drop<2*n)=false:=by simp;omega
   simp only[a1,a2,Nat.zero_mod];simp
theorem Bu(n g:Nat)(hg:0<g):PH (n*g) g=n:=by
 unfold PH;rw[Nat.mul_div_cancel _ hg,Nat.mul_mod_left];have:decide (g<2*0)=false:=by simp
 have h2:(g==2*0)=false:=by simp;omega
 rw[this,h2];simp
theorem JV(n:Nat):PH n 1=n:=by
 have:=Bu n 1 ae;rwa [fU] at this
theorem Au(f:Format)(neg:Bool)(mag k r:Nat)(hr:r<f.infRung)(h:mag*2^k=val f r) :
 f.nearest neg mag (f.leastPlace+k)=f.word neg r:=by
 unfold Format.nearest
 by_cases hm:mag=0
 · rw[if_pos hm];have:val f r=val f 0:=by rw[val_zero,<-h,hm,dL]
   rw[val_inj f this]
 · rw[if_neg hm];simp only[yF,yt];have hl:=(Nat.log2_eq_iff hm (k:=mag.log2)).1 rfl;generalize mag.log2=L at *;have hB:f.binade=2^f.fractionBits:=rfl;have hb:=jE f;unfold val at h
   by_cases hlt:r<f.binade
   · rw[if_pos hlt] at h
     have h1:2^(L+k)<2^f.fractionBits:=by
      rw[aJ,<-hB];exact iP (eZ _ hl.1) ae
     have h2:=(ku (a:=2) ae).1 h1;have e:max (f.leastPlace+(k:Int)+(L:Int)-(f.fractionBits:Int)) f.leastPlace=f.leastPlace:=ae
     rw[e];have e1:(f.leastPlace+(k:Int)-f.leastPlace).toNat=k:=ae
     have e2:(f.leastPlace-(f.leastPlace+(k:Int))).toNat=0:=ae
     have e3:(f.leastPlace-f.leastPlace).toNat=0:=ae
     rw[e1,e2,e3,h,gK,JV,dL,eP,iO ae]
   · rw[if_neg hlt] at h
     have hq:1<=r/f.binade:=by
      have:=Nat.div_le_div_right (c:=f.binade) (Bg hlt);rw[Nat.div_self hb] at this;exact this
     have hmm:=lU r hb;have hd:=qh r f.binade;generalize r/f.binade=q at *;generalize r%f.binade=m at *;obtain⟨q,rfl⟩:∃ j,q=j+1:=⟨q-1,ae⟩;rw[mI] at h
     -- the YG
     have lo1:2^(L+k)<=mag*2^k:=by rw[aJ];exact eZ _ hl.1
     have hi1:mag*2^k<2^(L+1+k):=by rw[aJ];exact dO hl.2 (aZ _)
     have lo2:2^(f.fractionBits+q)<=(f.binade+m)*2^q:=by rw[aJ];exact eZ _ ae
     have hi2:(f.binade+m)*2^q<2^(f.fractionBits+1+q):=by
      rw[aJ,fC];exact dO ae (aZ _)
     have c1:=(ku (a:=2) ae).1 (show 2^(L+k)<2^(f.fractionBits+1+q) by omega);have c2:=(ku (a:=2) ae).1 (show 2^(f.fractionBits+q)<2^(L+1+k) by omega);have cL:L+k=f.fractionBits+q:=ae
     have e:max (f.leastPlace+(k:Int)+(L:Int)-(f.fractionBits:Int)) f.leastPlace=f.leastPlace+q:=ae
     rw[e];have e3:(f.leastPlace+(q:Int)-f.leastPlace).toNat=q:=ae
     rw[e3]
     have fin:q*f.binade+(f.binade+m)=r:=by
      rw[<-hd,yn,cu q];omega
     by_cases hk:q<=k
     · have e1:(f.leastPlace+(k:Int)-(f.leastPlace+(q:Int))).toNat=k-q:=ae
       have e2:(f.leastPlace+(q:Int)-(f.leastPlace+(k:Int))).toNat=0:=ae
       have hh:mag*2^(k-q)=f.binade+m:=by
        have:mag*2^(k-q)*2^q=(f.binade+m)*2^q:=by
         rw[aM,<-aJ,Ct hk];exact h
        exact pU (aZ _) this
       rw[e1,e2,hh,gK,JV,fin,iO ae]
     · have e1:(f.leastPlace+(k:Int)-(f.leastPlace+(q:Int))).toNat=0:=ae
       have e2:(f.leastPlace+(q:Int)-(f.leastPlace+(k:Int))).toNat=q-k:=ae
       have hh:mag=(f.binade+m)*2^(q-k):=by
        have:mag*2^k=(f.binade+m)*2^(q-k)*2^k:=by
         rw[aM,<-aJ,Ct ae];exact h
        exact pU (aZ _) this
       rw[e1,e2,gK,fU,hh,Bu _ _ (aZ _),fin,iO ae]
end B
namespace B
open Ieee
theorem uM(f:Format)(j c:Nat)(h:j=0\/f.binade<=c)(hc:c<=2*f.binade):val f (j*f.binade+c)=c*2^j:=by
 have hb:=jE f;unfold val;generalize f.binade=B at *
 by_cases h1:c<B
 · have hj:j=0:=ae
   subst hj;rw[dL,eP,if_pos h1,gK,fU]
 · have h2:¬ j*B+c<B:=by
    have:=nV (j*B);omega
   rw[if_neg h2]
   by_cases h3:c=2*B
   · subst h3;have e:j*B+2*B=(j+2)*B:=by rw[fI]
     rw[e,Nat.mul_mod_left,Nat.mul_div_cancel _ hb,fT,show j+2-1=j+1 from rfl,fC,cu 2 B,aM,cu 2]
   · have e:j*B+c=B*(j+1)+(c-B):=by
      rw[yn,cu j];omega
     have e1:(j*B+c)%B=c-B:=by rw[e,Nat.mul_add_mod,nk ae]
     have e2:(j*B+c)/B=j+1:=by rw[e,Nat.mul_add_div hb,iN ae]
     rw[e1,e2,mI,show B+(c-B)=c from by omega]
theorem CR(f:Format)(neg:Bool)(mag k a:Nat)(hm:mag≠0) :
 ∃ R,f.nearest neg mag (f.leastPlace+(k:Int)-(a:Int))=f.word neg (min R f.infRung) /\
   (val f R*2^a<=mag*2^k->mag*2^k<val f (R+1)*2^a) /\
   (mag*2^k<val f R*2^a->0<R/\val f (R-1)*2^a<mag*2^k):=by
 unfold Format.nearest;rw[if_neg hm];simp only[yF,yt];have hl:=(Nat.log2_eq_iff hm (k:=mag.log2)).1 rfl;generalize mag.log2=L at *;have hB:f.binade=2^f.fractionBits:=rfl;have hb:=jE f
 obtain⟨j,hj⟩:∃ j:Nat,max (f.leastPlace+(k:Int)-(a:Int)+(L:Int)-(f.fractionBits:Int)) f.leastPlace=f.leastPlace+j :=
  ⟨(max (f.leastPlace+(k:Int)-(a:Int)+(L:Int)-(f.fractionBits:Int)) f.leastPlace-f.leastPlace).toNat,ae⟩
 have hj1:k+L<=a+f.fractionBits+j:=ae
 have hj2:j=0\/k+L=a+f.fractionBits+j:=ae
 rw[hj];have e3:(f.leastPlace+(j:Int)-f.leastPlace).toNat=j:=ae
 have e1:(f.leastPlace+(k:Int)-(a:Int)-(f.leastPlace+(j:Int))).toNat=k-(a+j):=ae
 have e2:(f.leastPlace+(j:Int)-(f.leastPlace+(k:Int)-(a:Int))).toNat=a+j-k:=ae
 rw[e1,e2,e3];have hg:0<2^(a+j-k):=aZ _
 -- V*g=m'*2^(a+j)
 have hV:mag*2^k*2^(a+j-k)=mag*2^(k-(a+j))*2^(a+j):=by
  rw[aM,aM,<-aJ,<-aJ];congr 2;omega
 have up:mag*2^(k-(a+j))<2*f.binade*2^(a+j-k):=by
  have:2*f.binade=2^(f.fractionBits+1):=by rw[hB,fC,cu]
  rw[this,<-aJ];refine iQ (dO hl.2 (aZ _)) ?_;rw[<-aJ];exact fe ae ae
 have dn:j=0\/f.binade*2^(a+j-k)<=mag*2^(k-(a+j)):=by
  rcases hj2 with h|h
  · exact Or.inl h
  · right
    refine dW ?_ (eZ _ hl.1);rw[hB,<-aJ,<-aJ];exact fe ae ae
 generalize hm':mag*2^(k-(a+j))=m' at *;generalize 2^(a+j-k)=g at *;generalize mag*2^k=V at *;have Us:=qh m' g;have hmod:=lU m' hg;have hlow:m'/g<2*f.binade:=(rE hg).2 up
 have JW:j=0\/f.binade<=m'/g:=by
  rcases dn with h|h
  · exact Or.inl h
  · exact Or.inr ((rF hg).2 h)
 have hp2:0<2^(a+j):=aZ _
 -- the bounds
 have b1:m'/g*2^(a+j)<=V:=by
  refine yw ?_ hg;rw[hV,yc];exact eZ _ (by rw[cu];omega)
 have b2:V<(m'/g+1)*2^(a+j):=by
  refine Bi (a:=g) ?_;rw[hV,yc];refine dO ?_ hp2;rw[fI,jq,cu];omega
 have b3:m'%g≠0->m'/g*2^(a+j)<V:=by
  intro hr;refine Bi (a:=g) ?_;rw[hV,yc];refine dO ?_ hp2;rw[cu];omega
 have v0:val f (j*f.binade+m'/g)*2^a=m'/g*2^(a+j):=by
  rw[uM f j _ JW ae,aM,<-aJ,pV j a]
 have v1:val f (j*f.binade+(m'/g+1))*2^a=(m'/g+1)*2^(a+j):=by
  rw[uM f j _ ae ae,aM,<-aJ,pV j a]
 refine⟨j*f.binade+PH m' g,rfl,?_,?_⟩
 · unfold PH
   cases hc:(decide (g<2*(m'%g)) || (g==2*(m'%g)&&m'/g%2==1))
   · intro _;simp only[kV,fT];rw[pR,v1];exact b2
   · intro h;simp only[kU] at h;rw[v1] at h;omega
 · unfold PH
   cases hc:(decide (g<2*(m'%g)) || (g==2*(m'%g)&&m'/g%2==1))
   · intro h;simp only[kV,fT] at h;rw[v0] at h;omega
   · intro _;simp only[kU];refine⟨Nat.succ_pos _,?_⟩;rw[show j*f.binade+(m'/g+1)-1=j*f.binade+m'/g from rfl,v0];refine b3 (fun hr=>?_);rw[hr] at hc;simp at hc;omega
theorem yG(f:Format)(neg:Bool)(mag k a r:Nat)(hr:r<f.infRung)(h:mag*2^k=val f r*2^a)(hm:mag≠0) :
 f.nearest neg mag (f.leastPlace+(k:Int)-(a:Int))=f.word neg r:=by
 obtain⟨R,e,h1,h2⟩:=CR f neg mag k a hm;have hp:0<2^a:=aZ _
 have:R=r:=by
  by_cases c:val f R*2^a<=mag*2^k
  · have c2:=h1 c;rw[h] at c c2;have d1:=yw c hp;have d2:=(iZ f).1 (Bi c2);have d3:¬ r<R:=fun hh=>by have:=bM f hh;omega
    omega
  · have c2:=h2 ae;rw[h] at c c2;have d1:=(iZ f).1 (Bi (a:=2^a) (Nat.lt_of_not_le c));have d2:=(iZ f).1 (Bi c2.2);omega
 rw[e,this,iO ae]
end B
namespace J
open Ieee B
structure Ut (f:Format) (R V S:Nat):Prop where
 up:2*V<=(B.val f R+B.val f (R+1))*S
 upe:2*V=(B.val f R+B.val f (R+1))*S->R%2=0
 dn:0<R->(B.val f (R-1)+B.val f R)*S<=2*V
 dne:0<R->(B.val f (R-1)+B.val f R)*S=2*V->R%2=0
abbrev NE(R V S:Nat):Prop:=Ut double R V S
theorem dB:double.binade=4503599627370496:=aj
theorem PI{R Q:Nat}(h:R<=Q):B.val double R<=B.val double Q:=by
 rcases Nat.lt_or_eq_of_le h with h|h
 · exact jm (B.bM _ h)
 · rw[h];exact aC _
theorem Ut.XQ{R Q V S:Nat}(h:NE R V S)(k:NE Q V S)(hS:0<S)(hl:R<Q):False:=by
 have h1:=h.up;have h2:=k.dn ae;have m1:B.val double R<=B.val double (Q-1):=PI ae;have m2:B.val double (R+1)<=B.val double Q:=PI ae;have m3:=eZ S (Nat.add_le_add m1 m2);have e1:=h.upe ae;have e2:=k.dne ae ae;have e3:(B.val double R+B.val double (R+1))*S=(B.val double (Q-1)+B.val double Q)*S:=ae
 have e4:=pU hS e3
 have:R+1=Q:=by
  apply Nat.le_antisymm ae;apply Bg;intro hh;have:=B.bM double (show R<Q-1 by omega);omega
 omega
theorem Ut.one{R Q V S:Nat}(h:NE R V S)(k:NE Q V S)(hS:0<S):R=Q:=by
 rcases lZ R Q with c|c|c
 · exact(h.XQ k hS c).elim
 · exact c
 · exact(k.XQ h hS c).elim
theorem Ut.own{K V S:Nat}(hS:0<S)(h:V=B.val double K*S):NE K V S:=by
 have h1:=dO (B.jL double K) hS;refine⟨?_,?_,?_,?_⟩
 · rw[fI];omega
 · rw[fI];omega
 · intro h0;have h2:=dO (B.bM double (show K-1<K by omega)) hS;rw[fI];omega
 · intro h0;have h2:=dO (B.bM double (show K-1<K by omega)) hS;rw[fI];omega
theorem Ut.scale{R V S:Nat}(h:NE R V S)(k:Nat)(hk:0<k):NE R (V*k) (S*k):=by
 have e:∀ a,2*(V*k)=a*(S*k)↔2*V=a*S:=by
  intro a;rw[<-aM,<-aM a];exact⟨fun h=>pU hk h,fun h=>by rw[h]⟩
 have l:∀ a b:Nat,a<=b->a*k<=b*k:=fun a b h=>eZ _ h;refine⟨?_,?_,?_,?_⟩
 · have:=l _ _ h.up;rwa [aM,aM] at this
 · intro h1;exact h.upe ((e _).1 h1)
 · intro h0;have:=l _ _ (h.dn h0);rwa [aM,aM] at this
 · intro h0 h1;exact h.dne h0 ((e _).1 h1.symm).symm
theorem Ep(f:Format)(hB2:f.binade%2=0)(neg:Bool)(mag k a:Nat)(hm:mag≠0) :
 ∃ R,f.nearest neg mag (f.leastPlace+(k:Int)-(a:Int))=f.word neg (min R f.infRung)/\Ut f R (mag*2^k) (2^a):=by
 unfold Format.nearest;rw[if_neg hm];simp only[yF,yt];have hl:=(Nat.log2_eq_iff hm (k:=mag.log2)).1 rfl;generalize mag.log2=L at *;have hB:f.binade=2^f.fractionBits:=rfl;have hb:=jE f
 obtain⟨j,hj⟩:∃ j:Nat,max (f.leastPlace+(k:Int)-(a:Int)+(L:Int)-(f.fractionBits:Int)) f.leastPlace=f.leastPlace+j :=
  ⟨(max (f.leastPlace+(k:Int)-(a:Int)+(L:Int)-(f.fractionBits:Int)) f.leastPlace-f.leastPlace).toNat,ae⟩
 have hj1:k+L<=a+f.fractionBits+j:=ae
 have hj2:j=0\/k+L=a+f.fractionBits+j:=ae
 rw[hj];have e3:(f.leastPlace+(j:Int)-f.leastPlace).toNat=j:=ae
 have e1:(f.leastPlace+(k:Int)-(a:Int)-(f.leastPlace+(j:Int))).toNat=k-(a+j):=ae
 have e2:(f.leastPlace+(j:Int)-(f.leastPlace+(k:Int)-(a:Int))).toNat=a+j-k:=ae
 rw[e1,e2,e3];have hg:0<2^(a+j-k):=aZ _
 have hV:mag*2^k*2^(a+j-k)=mag*2^(k-(a+j))*2^(a+j):=by
  rw[aM,aM,<-aJ,<-aJ];congr 2;omega
 have up:mag*2^(k-(a+j))<2*f.binade*2^(a+j-k):=by
  have:2*f.binade=2^(f.fractionBits+1):=by rw[hB,fC,cu]
  rw[this,<-aJ];refine iQ (dO hl.2 (aZ _)) ?_;rw[<-aJ];exact fe ae ae
 have dn:j=0\/f.binade*2^(a+j-k)<=mag*2^(k-(a+j)):=by
  rcases hj2 with h|h
  · exact Or.inl h
  · right
    refine dW ?_ (eZ _ hl.1);rw[hB,<-aJ,<-aJ];exact fe ae ae
 generalize hm':mag*2^(k-(a+j))=m' at *;generalize 2^(a+j-k)=g at *;generalize mag*2^k=V at *;have Us:=qh m' g;have hmod:=lU m' hg;have hlow:m'/g<2*f.binade:=(rE hg).2 up
 have JW:j=0\/f.binade<=m'/g:=by
  rcases dn with h|h
  · exact Or.inl h
  · exact Or.inr ((rF hg).2 h)
 have hp2:0<2^(a+j):=aZ _;have hS:0<2^a:=aZ _
 have v0:B.val f (j*f.binade+m'/g)*2^a=m'/g*2^(a+j):=by
  rw[uM f j _ JW ae,aM,<-aJ,pV j a]
 have v1:B.val f (j*f.binade+(m'/g+1))*2^a=(m'/g+1)*2^(a+j):=by
  rw[uM f j _ ae ae,aM,<-aJ,pV j a]
 have par:∀ n,(j*f.binade+n)%2=n%2:=by intro n;rw[Nat.add_mod,Nat.mul_mod,hB2,jY,Nat.zero_mod,eP,Nat.mod_mod]
 generalize 2^(a+j)=p at *;generalize 2^a=S at *;clear hj hj1 hj2 e1 e2 e3 up dn hm' hl hm hlow JW;show ∃ R,f.word neg (min (j*f.binade+PH m' g) f.infRung)=f.word neg (min R f.infRung)/\Ut f R V S;refine⟨j*f.binade+PH m' g,rfl,?_⟩;unfold PH;generalize m'/g=q at *;generalize m'%g=r at *;have hVg:V*g=q*p*g+r*p:=by rw[hV,<-Us,fI,cu g q,yc]
 have hV0:q*p<=V:=by
  apply yw _ hg;omega
 have hV1:V<(q+1)*p:=by
  apply Bi (a:=g);have:=dO hmod hp2;rw[hVg,yo,fI,cu p g];omega
 have eM:(q*p+(q+1)*p)*g=2*(q*p*g)+g*p:=by rw[yo,fI,fI,cu p g];omega
 have e2V:2*V*g=2*(q*p*g)+2*r*p:=by rw[aM,hVg,kz,aM 2 r p]
 have cle:∀ x y:Nat,x<=y->x*p<=y*p:=fun x y h=>eZ _ h
 cases hc:(decide (g<2*r) || (g==2*r&&q%2==1))
 · simp only[kV,fT];simp only[Bool.or_eq_false_iff,decide_eq_false_iff_not,Bool.and_eq_false_iff,beq_eq_false_iff_ne] at hc;refine⟨?_,?_,?_,?_⟩
   · rw[fI,v0,pR,v1];apply yw _ hg;have:=cle (2*r) g ae;omega
   · rw[fI,v0,pR,v1,par];intro h;have h2:2*V*g=(q*p+(q+1)*p)*g:=by rw[h]
     have h3:2*r*p=g*p:=ae
     have h4:=pU hp2 h3;omega
   · intro h0;have:=dO (B.bM f (show j*f.binade+q-1<j*f.binade+q by omega)) hS;rw[fI];omega
   · intro h0;have:=dO (B.bM f (show j*f.binade+q-1<j*f.binade+q by omega)) hS;rw[fI];omega
 · simp only[kU];simp only[Bool.or_eq_true,decide_eq_true_eq,vZ,beq_iff_eq] at hc;have lt2:=dO (B.jL f (j*f.binade+(q+1))) hS;refine⟨?_,?_,?_,?_⟩
   · rw[fI];omega
   · rw[fI];omega
   · intro _;rw[show j*f.binade+(q+1)-1=j*f.binade+q from rfl,fI,v0,v1];apply yw _ hg;have:=cle g (2*r) ae;omega
   · intro _;rw[show j*f.binade+(q+1)-1=j*f.binade+q from rfl,fI,v0,v1,par];intro h;have h2:2*V*g=(q*p+(q+1)*p)*g:=by rw[h]
     have h3:2*r*p=g*p:=ae
     have h4:=pU hp2 h3;omega
theorem Hu(neg:Bool)(mag k a:Nat)(hm:mag≠0) :
 ∃ R,double.nearest neg mag (double.leastPlace+(k:Int)-(a:Int))=double.word neg (min R double.infRung)/\NE R (mag*2^k) (2^a):=Ep double (by rw[dB]) neg mag k a hm
end J
namespace B
theorem bF(b:Nat)(w:World):(callFunc 35 #[.float .f64 b]).run Tryz.prog w=.ok (.value (.int .u64 b)) w:=by
 rw[run_callFunc_extern (e:=Extern.MathFloatBits.float64bits) Tryz.func35 df df df df];rfl
theorem aH(n:Int)(w:World):(callFunc 81 #[.int .u64 n]).run Tryz.prog w=.ok (.value (.float .f64 n.toNat)) w:=by
 rw[run_callFunc_extern (e:=Extern.MathFloatBits.float64frombits) Tryz.func81 df df df df];rfl
end B
namespace B
def bw(s:Bool)(e f:Nat):Nat:=s.toNat*9223372036854775808+e*4503599627370496+f
theorem bw_of(b:Nat)(hb:b<18446744073709551616):∃ s e f,e<2048/\f<4503599627370496/\b=bw s e f:=by
 refine⟨decide (9223372036854775808<=b),b%9223372036854775808/4503599627370496,b%4503599627370496,ae,ae,?_⟩;unfold bw
 by_cases h:9223372036854775808<=b
 · rw[decide_eq_true h];simp only[kU];omega
 · rw[decide_eq_false h];simp only[kV];omega
theorem yH(s:Bool)(e f:Nat)(he:e<2048)(hf:f<4503599627370496):bw s e f<18446744073709551616:=by
 unfold bw;cases s <;> simp only[kU,kV] <;> omega
theorem LC(n:Int)(h0:0<=n)(h1:n<2^63):IntKind.i64.wrap n=n:=by rw[Em];omega
theorem wraps_u64(n:Int)(h0:0<=n)(h1:n<2^64):IntKind.u64.wrap n=n:=by
 simp[IntKind.wrap,IntKind.bits,IntKind.signed];omega
theorem PK(s:Bool)(e f:Nat)(he:e<2048)(hf:f<4503599627370496):bits .and .i64 ((bw s e f:Int)/4503599627370496) 2047=(e:Int):=by
 have hl:=yH s e f he hf;have h:=bits_mask .i64 63 aj LC 11 aj ((bw s e f:Int)/4503599627370496) ae ae;rw[show((2:Int)^11-1)=2047 from rfl] at h;rw[h];unfold bw;cases s <;> simp only[kU,kV] <;> omega
theorem UB(s:Bool)(e f:Nat)(he:e<2048)(hf:f<4503599627370496):bits .and .u64 ((bw s e f:Nat):Int) 4503599627370495=(f:Int):=by
 have hl:=yH s e f he hf;have h:=bits_mask .u64 64 aj wraps_u64 52 aj (bw s e f:Int) ae ae;rw[show((2:Int)^52-1)=4503599627370495 from rfl] at h;rw[h];unfold bw;cases s <;> simp only[kU,kV] <;> omega
theorem UC(s:Bool)(e f:Nat)(he:e<2048)(hf:f<4503599627370496):bits .and .u64 ((bw s e f:Int)/9223372036854775808) 1=(s.toNat:Int):=by
 have hl:=yH s e f he hf;have h:=bits_mask .u64 64 aj wraps_u64 1 aj ((bw s e f:Int)/9223372036854775808) ae ae;rw[show((2:Int)^1-1)=1 from rfl] at h;rw[h];unfold bw;cases s <;> simp only[kU,kV] <;> omega
theorem UD(f:Nat)(hf:f<4503599627370496):bits .or .u64 (f:Int) 4503599627370496=(f:Int)+4503599627370496:=by
 have hc:bits .or .u64 (f:Int) 4503599627370496=bits .or .u64 4503599627370496 (f:Int):=by simp only[bits,BitVec.or_comm]
 rw[hc,bits_join .u64 64 aj wraps_u64 52 4503599627370496 (f:Int) aj aj aj ae ae ae];omega
theorem JX(x:Int)(h0:0<=x)(h1:x<9223372036854775808):bits .or .u64 x 9223372036854775808=x+9223372036854775808:=by
 have hc:bits .or .u64 x 9223372036854775808=bits .or .u64 9223372036854775808 x:=by simp only[bits,BitVec.or_comm]
 rw[hc,bits_join .u64 64 aj wraps_u64 63 9223372036854775808 x aj aj aj h0 ae ae];omega
def pv(neg:Bool)(c x:Int)(f:Int):Value:=.agg #[.bool neg,.int .i64 c,.int .i64 x,.int .u64 f]
def cls(e f:Nat):Int:=if e=2047 then(if f=0 then 3 else 4) else if e=0 then(if f=0 then 0 else 1) else 2
def xp(e:Nat):Int:=if e=2047 then 0 else if e=0 then -1074 else(e:Int)-1075
def fr(e f:Nat):Int:=if e=2047 then 0 else if e=0 then(f:Int) else(f:Int)+4503599627370496
def ng(s:Bool)(e f:Nat):Bool:=if e=2047/\f≠0 then false else s
def splitV(s:Bool)(e f:Nat):Value:=pv (ng s e f) (cls e f) (xp e) (fr e f)
theorem Hw(s:Bool)(e f:Nat)(h:e=2047)(h2:((f:Int) != 0)=true):splitV s e f=.agg #[.bool false,.int .i64 4,.int .i64 0,.int .u64 0]:=by
 have:f≠0:=by intro h;subst h;simp at h2
 simp[splitV,pv,ng,cls,xp,fr,h,this]
theorem Hy(s:Bool)(e f:Nat)(h:e=2047)(h2:((f:Int) != 0)=false):splitV s e f=.agg #[.bool s,.int .i64 3,.int .i64 0,.int .u64 0]:=by
 have:f=0:=by simp at h2;omega
 simp[splitV,pv,ng,cls,xp,fr,h,this]
theorem Aw(s:Bool)(e f:Nat)(h:e=0)(h2:((f:Int)==0)=true):splitV s e f=.agg #[.bool s,.int .i64 0,.int .i64 (-1074),.int .u64 0]:=by
 have:f=0:=by simp at h2;omega
 simp[splitV,pv,ng,cls,xp,fr,h,this]
theorem CS(s:Bool)(e f:Nat)(h:e=0)(h2:((f:Int)==0)=false):splitV s e f=.agg #[.bool s,.int .i64 1,.int .i64 (-1074),.int .u64 f]:=by
 have:f≠0:=by intro h;subst h;simp at h2
 simp[splitV,pv,ng,cls,xp,fr,h,this]
theorem CU(s:Bool)(e f:Nat)(h:e≠2047)(h2:e≠0):splitV s e f=.agg #[.bool s,.int .i64 2,.int .i64 ((e:Int)-1075),.int .u64 ((f:Int)+4503599627370496)]:=by
 simp[splitV,pv,ng,cls,xp,fr,h,h2]
def odd(e f:Nat):Bool:=e==2047&&f != 0
theorem JY(e f:Nat)(h:odd e f=false):¬ (e=2047/\f≠0):=by
 rintro ⟨h1,h2⟩;simp[odd,h1,h2] at h
theorem PL(e f:Nat)(h:odd e f=true):e=2047/\f≠0:=by
 simpa [odd] using h
def cb(s:Bool)(e f:Nat):Nat:=if e=2047/\f≠0 then 9221120237041090560 else bw s e f
theorem YH(s:Bool)(e f:Nat)(he:e<2048)(hf:f<4503599627370496):(bw s e f:Int)%9223372036854775808=(e:Int)*4503599627370496+f:=by
 unfold bw;cases s <;> simp only[kU,kV] <;> omega
theorem oO:Ieee.double.infRung=9218868437227405312:=aj
theorem Er:Ieee.double.signWeight=9223372036854775808:=aj
theorem Es:Ieee.double.binade=4503599627370496:=aj
theorem dHs:Ieee.double.infRung<Ieee.double.signWeight:=aj
theorem dHb:Ieee.double.binade<=Ieee.double.infRung:=aj
theorem CV(s:Bool)(e f:Nat):bw s e f=Ieee.double.word s (e*4503599627370496+f):=by
 unfold bw Ieee.Format.word;rw[Er]
 cases s <;> simp[pR]
theorem wz(s:Bool)(e f:Nat)(hf:f<4503599627370496)(h:odd e f=true):Ieee.double.read (bw s e f)=.nan s f:=by
 have h0:e=2047/\f≠0:=by simpa [odd] using h
 have e1:bw s e f%Ieee.double.signWeight=e*4503599627370496+f:=by
  rw[Er];unfold bw;cases s <;> simp only[kU,kV] <;> omega
 have e2:(bw s e f/Ieee.double.signWeight%2==1)=s:=by
  rw[Er]
  cases s
  · have:bw false e f/9223372036854775808%2=0:=by unfold bw;simp only[kV];omega
    rw[this];rfl
  · have:bw true e f/9223372036854775808%2=1:=by unfold bw;simp only[kU];omega
    rw[this];rfl
 rw[Eo Ieee.double _ (by rw[e1,oO];omega) dHb,e1,e2,oO,show e*4503599627370496+f-9218868437227405312=f from by omega]
theorem JZ(e f:Nat)(he:e<2048)(hf:f<4503599627370496)(h:odd e f=false):e*4503599627370496+f<=Ieee.double.infRung:=by
 rw[oO];have:=JY e f h;omega
def pl(s:Bool)(e f:Nat):Int:=sg s (e*4503599627370496+f)
theorem ord(s t:Bool)(e f u v:Nat)(he:e<2048)(hf:f<4503599627370496)(hu:u<2048)(hv:v<4503599627370496) :
 FloatKind.f64.format.order (bw s e f) (bw t u v)=if odd e f || odd u v then none else some (compare (pl s e f) (pl t u v)):=by
 show Ieee.double.order _ _=_
 by_cases h1:odd e f=true
 · rw[h1];show(Ieee.double.read (bw s e f)).order _=none;rw[wz s e f hf h1];rfl
 · by_cases h2:odd u v=true
   · rw[h2];show(Ieee.double.read (bw s e f)).order (Ieee.double.read (bw t u v))=if (odd e f || true)=true then none else _
     rw[wz t u v hv h2,Bool.or_true,if_pos rfl]
     cases Ieee.double.read (bw s e f) <;> rfl
   · have h3:odd e f=false:=by simpa using h1
     have h4:odd u v=false:=by simpa using h2
     rw[h3,h4,CV,CV];rw[Ht Ieee.double dHs dHb s t _ _ (JZ e f he hf h3) (JZ u v hu hv h4)];simp[pl]
theorem Hz(s:Bool)(e f:Nat)(he:e<2048)(hf:f<4503599627370496):(FloatKind.f64.format.order (bw s e f) (bw s e f) != some .eq)=odd e f:=by
 rw[ord s s e f e f he hf he hf,Bool.or_self,vY.2 rfl]
 cases odd e f <;> rfl
end B
namespace B
theorem H9(s t:Bool)(e f u v:Nat)(he:e<2048)(hf:f<4503599627370496)(hu:u<2048)(hv:v<4503599627370496) :
 (FloatKind.f64.format.order (bw s e f) (bw t u v)==some .lt)=(!odd e f&&(!odd u v&&decide (pl s e f<pl t u v))):=by
 rw[ord s t e f u v he hf hu hv]
 cases odd e f <;> cases odd u v <;> simp
 by_cases h:pl s e f<pl t u v
 · rw[vW.2 h];simp[h]
 · rw[decide_eq_false h]
   by_cases h2:pl t u v<pl s e f
   · rw[vX.2 h2];rfl
   · rw[vY.2 ae];rfl
theorem PM(s t:Bool)(e f u v:Nat)(he:e<2048)(hf:f<4503599627370496)(hu:u<2048)(hv:v<4503599627370496) :
 (FloatKind.f64.format.order (bw s e f) (bw t u v)==some .gt)=(!odd e f&&(!odd u v&&decide (pl t u v<pl s e f))):=by
 rw[ord s t e f u v he hf hu hv]
 cases odd e f <;> cases odd u v <;> simp
 by_cases h:pl t u v<pl s e f
 · rw[vX.2 h];simp[h]
 · rw[decide_eq_false h]
   by_cases h2:pl s e f<pl t u v
   · rw[vW.2 h2];rfl
   · rw[vY.2 ae];rfl
theorem PN(s t:Bool)(e f u v:Nat)(he:e<2048)(hf:f<4503599627370496)(hu:u<2048)(hv:v<4503599627370496) :
 (FloatKind.f64.format.order (bw s e f) (bw t u v)==some .eq)=(!odd e f&&(!odd u v&&decide (pl s e f=pl t u v))):=by
 rw[ord s t e f u v he hf hu hv]
 cases odd e f <;> cases odd u v <;> simp
 by_cases h:pl s e f<pl t u v
 · rw[vW.2 h,decide_eq_false ae];rfl
 · by_cases h2:pl t u v<pl s e f
   · rw[vX.2 h2,decide_eq_false ae];rfl
   · rw[vY.2 ae,decide_eq_true ae];rfl
theorem CW(e f:Nat)(h:e<2047):odd e f=false:=by
 have:(e==2047)=false:=by simp;omega
 simp[odd,this]
theorem PO(e:Nat):odd e 0=false:=by simp[odd]
theorem J4:bw false 0 0=0:=rfl
theorem YI:bw false 2046 4503599627370495=9218868437227405311:=rfl
theorem YJ(s:Bool)(e f:Nat)(he:e<2048)(hf:f<4503599627370496) :
 (FloatKind.f64.format.order (bw s e f) 9218868437227405311==some .gt)=(!s&&(e==2047&&f==0)):=by
 have h:=PM s false e f 2046 4503599627370495 he hf ae ae;rw[YI] at h;rw[h,CW 2046 _ ae]
 cases ho:odd e f
 · have:=JY e f ho;rw[yf]
   cases s <;> simp[pl,sg] <;> omega
 · obtain⟨h1,h2⟩:=PL e f ho;have h3:(f==0)=false:=by simp[h2]
   simp[h1,h3]
theorem J5(s:Bool)(e f:Nat)(he:e<2048)(hf:f<4503599627370496) :
 (FloatKind.f64.format.order (bw s e f) 0==some .eq)=(e==0&&f==0):=by
 have h:=PN s false e f 0 0 he hf ae ae;rw[J4] at h;rw[h,CW 0 _ ae]
 cases ho:odd e f
 · rw[yf]
   cases s <;> simp[pl,sg] <;> omega
 · obtain⟨h1,h2⟩:=PL e f ho;have h3:(e==0)=false:=by simp[h1]
   simp[h3]
theorem J6(s:Bool)(e f:Nat)(he:e<2048)(hf:f<4503599627370496)(ho:odd e f=false)(hz:(e==0&&f==0)=false) :
 (FloatKind.f64.format.order (bw s e f) 0==some .lt)=s:=by
 have h:=H9 s false e f 0 0 he hf ae ae;rw[J4] at h;rw[h,CW 0 _ ae,ho];have hz':¬ (e=0/\f=0):=by rintro ⟨rfl,rfl⟩;simp at hz
 rw[yf]
 cases s <;> simp[pl,sg] <;> omega
theorem Ia(s:Bool)(e f:Nat)(he:e<2048)(hf:f<4503599627370496):bits .andNot .u64 ((bw s e f:Nat):Int) 9223372036854775808=(bw false e f:Int):=by
 have h:=u64_andNot_nat (bw s e f) 9223372036854775808 (yH s e f he hf) ae;rw[show(((9223372036854775808:Nat)):Int)=9223372036854775808 from rfl] at h;rw[h,show 18446744073709551615-9223372036854775808=2^63-1 from rfl,Cu];congr 1;unfold bw;cases s <;> simp only[kU,kV] <;> omega
end B
namespace B
open Go.RowKit
theorem LF(s:Bool)(e f:Nat)(he:e<2048)(hf:f<4503599627370496)(w:World) :
 Calls Tryz.prog 164 #[.int .u64 (bw s e f),.int .u64 52,.int .u64 11,.int .i64 (-1074)] w fun r w'=>r=.returned (splitV s e f)/\Below w.heap.size w w':=by
 have hl:=yH s e f he hf;have h1:=PK s e f he hf;have h2:=UB s e f he hf;have h3:=UC s e f he hf;have h4:=UD f hf;have h5:((s.toNat:Int)==1)=s:=by cases s <;> rfl
 go_enter Tryz.func164,Tryz.ntmps164;go_wp2
 · rw[Hw s e f ae ‹_›];exact aG (v:=.agg #[.bool false,.int .i64 4,.int .i64 0,.int .u64 0]) (by simp[results,Tryz.results164,go_sem]) rfl ⟨rfl,(by repeat (first | exact aD _ _ | assumption | exact aC _ | (simp;done) | (simp;omega) | refine Below.alloc ?_ ?_ _ | refine Below.setCell ?_ ?_ _ | refine gF ?_))⟩
 · rw[Hy s e f ae ‹_›];exact aG (v:=.agg #[.bool s,.int .i64 3,.int .i64 0,.int .u64 0]) (by simp[results,Tryz.results164,go_sem]) rfl ⟨rfl,(by repeat (first | exact aD _ _ | assumption | exact aC _ | (simp;done) | (simp;omega) | refine Below.alloc ?_ ?_ _ | refine Below.setCell ?_ ?_ _ | refine gF ?_))⟩
 · rw[Aw s e f ae ‹_›];exact aG (v:=.agg #[.bool s,.int .i64 0,.int .i64 (-1074),.int .u64 0]) (by simp[results,Tryz.results164,go_sem]) rfl ⟨rfl,(by repeat (first | exact aD _ _ | assumption | exact aC _ | (simp;done) | (simp;omega) | refine Below.alloc ?_ ?_ _ | refine Below.setCell ?_ ?_ _ | refine gF ?_))⟩
 · rw[CS s e f ae ‹_›];exact aG (v:=.agg #[.bool s,.int .i64 1,.int .i64 (-1074),.int .u64 f]) (by simp[results,Tryz.results164,go_sem]) rfl ⟨rfl,(by repeat (first | exact aD _ _ | assumption | exact aC _ | (simp;done) | (simp;omega) | refine Below.alloc ?_ ?_ _ | refine Below.setCell ?_ ?_ _ | refine gF ?_))⟩
 · rw[CU s e f ae ae];refine aG (v:=.agg #[.bool s,.int .i64 2,.int .i64 ((e:Int)-1075),.int .u64 ((f:Int)+4503599627370496)]) (by simp[results,Tryz.results164,go_sem];try omega) rfl ⟨rfl,(by repeat (first | exact aD _ _ | assumption | exact aC _ | (simp;done) | (simp;omega) | refine Below.alloc ?_ ?_ _ | refine Below.setCell ?_ ?_ _ | refine gF ?_))⟩
end B
namespace B
open Go.RowKit
attribute [local go_sem] bF aH
theorem aU{W w1:World}(hb:Below W.heap.size W w1):(∀ b o,b<W.heap.size->w1.cell? ⟨b,o,none⟩=W.cell? ⟨b,o,none⟩)/\(∀ b o,b<W.heap.size->w1.frozen? ⟨b,o,none⟩=W.frozen? ⟨b,o,none⟩) :=
 ⟨fun b o h=>hb.cell (p:=⟨b,o,none⟩) h,fun b o h=>hb.frozen (p:=⟨b,o,none⟩) h⟩
theorem LH(s:Bool)(e f:Nat)(he:e<2048)(hf:f<4503599627370496)(w:World) :
 Calls Tryz.prog 164 #[.int .u64 (bw s e f),.int .u64 52,.int .u64 11,.int .i64 (-1074)] w fun r w'=>r=.returned (.agg #[.bool (ng s e f),.int .i64 (cls e f),.int .i64 (xp e),.int .u64 (fr e f)])/\Below w.heap.size w w' :=
 LF s e f he hf w
theorem UE(w:World):Calls Tryz.prog 118 #[] w fun r w'=>r=.returned (.float .f64 9221120237041090560)/\w'=w:=by
 go_enter Tryz.func118,Tryz.ntmps118;go_wp2;go_ret;exact⟨rfl,rfl⟩
theorem uN(s:Bool)(e f:Nat)(he:e<2048)(hf:f<4503599627370496)(w:World) :
 Calls Tryz.prog 122 #[.float .f64 (bw s e f)] w fun r w'=>r=.returned (.agg #[.bool (ng s e f),.int .i64 (cls e f),.int .i64 (xp e),.int .u64 (fr e f)])/\Below w.heap.size w w':=by
 go_enter Tryz.func122,Tryz.ntmps122
 go_wp2_with (go_at_call 164;refine(LH s e f he hf _).mono ?_;rintro r w1 ⟨rfl,hb⟩;(obtain⟨hc,hfz⟩:=aU hb;have hz:w.heap.size<w1.heap.size:=by (have:=hb.size;simp at this;omega)))
 exact aG (v:=(.agg #[.bool (ng s e f),.int .i64 (cls e f),.int .i64 (xp e),.int .u64 (fr e f)])) (by simp[results,Tryz.results122,go_sem,hc]) rfl ⟨rfl,(by repeat (first | exact aD _ _ | exact((aD _ _).alloc (aC _) _).trans (hb.mono aQ) | exact aC _ | (simp;done) | (simp;omega) | refine Below.alloc ?_ ?_ _ | refine Below.setCell ?_ ?_ _ | refine gF ?_))⟩
theorem LJ(s:Bool)(e f:Nat)(he:e<2048)(hf:f<4503599627370496)(w:World) :
 Calls Tryz.prog 189 #[.float .f64 (bw s e f)] w fun r w'=>r=.returned (.bool (odd e f))/\w'=w:=by
 have h1:=Hz s e f he hf;go_enter Tryz.func189,Tryz.ntmps189;go_wp2;go_ret;exact⟨rfl,rfl⟩
end B
section
def pw(k:Nat):Nat:=4294967296^k
theorem j3:pw 0=1:=by simp[pw]
theorem cO(k:Nat):pw (k+1)=4294967296*pw k:=by simp[pw,fC,cu]
theorem rX(i k:Nat):pw (i+k)=pw i*pw k:=by simp[pw,aJ]
theorem lI(k:Nat):0<pw k:=pW aj
theorem kL{i k:Nat}(h:i<=k):pw i<=pw k:=fe aj h
def val:List Nat->Nat
 | []=>0
 | x::xs=>x+4294967296*val xs
def Wf(xs:List Nat):Prop:=∀ x ∈ xs,x<4294967296
theorem Wf.nil:Wf []:=by intro x hx;cases hx
theorem Wf.cons{x:Nat}{xs:List Nat}(hx:x<4294967296)(h:Wf xs):Wf (x::xs):=by
 intro y hy;cases hy with
 | head=>exact hx
 | tail _ hy=>exact h y hy
theorem Wf.head{x:Nat}{xs:List Nat}(h:Wf (x::xs)):x<4294967296:=h x aQ
theorem Wf.tail{x:Nat}{xs:List Nat}(h:Wf (x::xs)):Wf xs:=fun y hy=>h y (by simp[hy])
theorem Wf.get{xs:List Nat}(h:Wf xs)(k:Nat):xs.getD k 0<4294967296:=by
 by_cases hk:k<xs.length
 · rw[fF,gD hk];exact h _ (nu hk)
 · rw[fF,qi ae];decide
theorem Wf.take{xs:List Nat}(h:Wf xs)(k:Nat):Wf (xs.take k):=fun y hy=>h y (Hd hy)
theorem Wf.drop{xs:List Nat}(h:Wf xs)(k:Nat):Wf (xs.drop k):=fun y hy=>h y (List.mem_of_mem_drop hy)
theorem Wf.append{xs ys:List Nat}(h:Wf xs)(k:Wf ys):Wf (xs++ys):=by
 intro y hy;rcases List.mem_append.1 hy with hy | hy
 · exact h y hy
 · exact k y hy
theorem Wf.set{xs:List Nat}(h:Wf xs)(k x:Nat)(hx:x<4294967296):Wf (xs.set k x):=by
 intro y hy;rcases List.mem_or_eq_of_mem_set hy with hy | hy
 · exact h y hy
 · omega
theorem Wf.zeros(n:Nat):Wf (List.replicate n 0):=by intro y hy;have:=List.eq_of_mem_replicate hy;omega
theorem val_append(xs ys:List Nat):val (xs++ys)=val xs+pw xs.length*val ys:=by
 induction xs with
 | nil=>simp[val,j3]
 | cons x xs ih=>simp only[List.cons_append,val,ih,sW,cO];grind
theorem qM(n:Nat):val (List.replicate n 0)=0:=by
 induction n with
 | zero=>rfl
 | succ n ih=>simp[List.replicate_succ,val,ih]
theorem nK(xs:List Nat)(k:Nat)(hk:k<xs.length):val (xs.take (k+1))=val (xs.take k)+pw k*xs.getD k 0:=by
 rw[Cv hk,val_append,ig,iO ae,fF,gD hk];simp[val]
theorem gZ(xs:List Nat)(k:Nat)(hk:k<=xs.length):val xs=val (xs.take k)+pw k*val (xs.drop k):=by
 have h:=val_append (xs.take k) (xs.drop k);rw[List.take_append_drop,ig,iO hk] at h;exact h
theorem fD(xs:List Nat)(k:Nat)(hk:k<xs.length):val (xs.drop k)=xs.getD k 0+4294967296*val (xs.drop (k+1)):=by
 rw[List.drop_eq_getElem_cons hk,val,fF,gD hk];rfl
theorem bM(xs:List Nat)(h:Wf xs):val xs<pw xs.length:=by
 induction xs with
 | nil=>simp[val,j3]
 | cons x xs ih =>
   have h1:=ih h.tail;have h2:=h.head;simp only[val,sW,cO];omega
def ws(n:Nat):List Nat:=if h:n=0 then[] else n%4294967296::ws (n/4294967296)
termination_by n
decreasing_by omega
theorem bO:ws 0=[]:=by rw[ws];simp
theorem qw(n:Nat)(h:n≠0):ws n=n%4294967296::ws (n/4294967296):=by rw[ws];simp[h]
theorem ak(n:Nat):val (ws n)=n:=by
 induction n using Nat.strongRecOn with
 | _ n ih =>
   by_cases h:n=0
   · subst h;simp[bO,val]
   · rw[qw n h,val,ih (n/4294967296) ae];omega
theorem dP(n:Nat):Wf (ws n):=by
 induction n using Nat.strongRecOn with
 | _ n ih =>
   by_cases h:n=0
   · subst h;rw[bO];exact Wf.nil
   · rw[qw n h];exact Wf.cons ae (ih _ ae)
def nl:List Nat->Nat
 | []=>0
 | x::xs=>if nl xs=0/\x=0 then 0 else nl xs+1
theorem kW(xs:List Nat):nl xs<=xs.length:=by
 induction xs with
 | nil=>simp[nl]
 | cons x xs ih=>simp only[nl,sW];split <;> omega
theorem jN(xs:List Nat):nl xs=0↔val xs=0:=by
 induction xs with
 | nil=>simp[nl,val]
 | cons x xs ih=>simp only[nl,val];split <;> omega
theorem oU(xs:List Nat)(h:Wf xs):xs.take (nl xs)=ws (val xs):=by
 induction xs with
 | nil=>simp[nl,val,bO]
 | cons x xs ih =>
   have h1:=ih h.tail;have h2:=h.head
   by_cases h3:nl xs=0/\x=0
   · have h4:=(jN xs).1 h3.1;simp[nl,h3,val,h4,bO]
   · have h5:val (x::xs)≠0:=by
      intro h6;simp only[val] at h6;exact h3 ⟨(jN xs).2 ae,ae⟩
     rw[qw _ h5];simp only[nl,if_neg h3,val,List.take_succ_cons];rw[show(x+4294967296*val xs)%4294967296=x by omega,show(x+4294967296*val xs)/4294967296=val xs by omega,h1]
theorem gX(xs:List Nat)(h:Wf xs):nl xs=(ws (val xs)).length:=by
 rw[<-oU xs h,ig,iO (kW xs)]
theorem mP(xs:List Nat)(h:Wf xs):val (xs.take (nl xs))=val xs:=by rw[oU xs h,ak]
theorem J7(n:Nat):nl (ws n)=(ws n).length:=by rw[gX _ (dP n),ak]
theorem aW(n k:Nat):(ws n).length<=k↔n<pw k:=by
 constructor
 · intro h;have h1:=bM (ws n) (dP n);rw[ak] at h1;exact iQ h1 (kL h)
 · intro h
   induction k generalizing n with
   | zero=>rw[j3] at h;obtain rfl:n=0:=ae
           simp[bO]
   | succ k ih =>
     by_cases h0:n=0
     · subst h0;simp[bO]
     · rw[qw n h0,sW];rw[cO] at h;have:=ih (n/4294967296) ae;omega
theorem LK(n k:Nat)(h1:pw k<=n)(h2:n<pw (k+1)):(ws n).length=k+1:=by
 have a:=(aW n (k+1)).2 h2;have b:¬ (ws n).length<=k:=fun h=>by have:=(aW n k).1 h;omega
 omega
theorem uO(n:Nat)(h:n≠0):pw ((ws n).length-1)<=n:=by
 have h1:¬ (ws n).length<=(ws n).length-1:=by
  have:(ws n).length≠0:=by rw[qw n h];simp
  omega
 rw[aW] at h1;omega
theorem iy(n:Nat):n<pw (ws n).length:=(aW n _).1 (aC _)
theorem bU(n:Nat):(ws n).length=0↔n=0:=by
 constructor
 · intro h;have:=iy n;rw[h,j3] at this;omega
 · intro h;subst h;simp[bO]
theorem xI(xs:List Nat)(k:Nat)(hk:k<=xs.length)(h0:∀ j,k<=j->j<xs.length->xs.getD j 0=0)(h1:k=0\/xs.getD (k-1) 0≠0):nl xs=k:=by
 induction xs generalizing k with
 | nil=>simp at hk;simp[nl,hk]
 | cons x xs ih =>
   cases k with
   | zero =>
     have hx:=h0 0 ae aQ;have:nl xs=0:=ih 0 ae (fun j _ hj=>by have:=h0 (j+1) ae (by simp;omega);simpa using this) (.inl rfl);simp at hx;simp[nl,this,hx]
   | succ k =>
     cases k with
     | zero =>
       have:nl xs=0:=ih 0 ae (fun j _ hj=>by have:=h0 (j+1) ae (by simp;omega);simpa using this) (.inl rfl);simp at h1;simp[nl,this,h1]
     | succ k =>
       have:nl xs=k+1:=ih (k+1) (by simpa using hk) (fun j hj hj2=>by have:=h0 (j+1) ae (by simp;omega);simpa using this) (.inr (by simpa using h1));simp[nl,this]
theorem J8(xs:List Nat)(h:nl xs≠0):xs.getD (nl xs-1) 0≠0:=by
 induction xs with
 | nil=>simp[nl] at h
 | cons x xs ih =>
   by_cases h1:nl xs=0
   · have hx:x≠0:=by intro hx;simp[nl,h1,hx] at h
     simp[nl,h1,hx]
   · have h2:¬ (nl xs=0/\x=0):=ae
     have:=ih h1;simp only[nl,if_neg h2];obtain⟨m,hm⟩:∃ m,nl xs=m+1:=⟨nl xs-1,ae⟩;rw[hm] at this |-;simpa using this
end
section
open Go.RowKit
theorem hid{p:Prop}(h:p):Hid p:=h
def U(n:Nat):Value:=.int .u32 (n:Int)
def Own(w:World)(g:Nat)(L:List Nat):Prop:=w.heap[g]?=some (.cells (L.map U).toArray 51 (0,0))
theorem Own.lt{w:World}{g:Nat}{L:List Nat}(h:Own w g L):g<w.heap.size:=(gL.1 h).1
theorem Own.cell{w:World}{g:Nat}{L:List Nat}(h:Own w g L)(i:Nat)(hi:i<L.length):w.cell? ⟨g,i,none⟩=some (.int .u32 ((L.getD i 0:Nat):Int)):=by
 unfold Own at h;simp[World.cell?,h,U,hi]
theorem Own.frozen{w:World}{g:Nat}{L:List Nat}(h:Own w g L)(i:Nat):w.frozen? ⟨g,i,none⟩=false:=by
 unfold Own at h;simp[World.frozen?,h]
theorem Own.set{w:World}{g:Nat}{L:List Nat}(h:Own w g L)(i x:Nat):Own (w.setCell ⟨g,i,none⟩ (.int .u32 (x:Int))) g (L.set i x):=by
 unfold Own at h |-;simp only[World.setCell,mJ,h];simp[U,List.map_set]
theorem Own.setOther{w:World}{g:Nat}{L:List Nat}(h:Own w g L){a:Addr}(ha:a.block≠g)(u:Value):Own (w.setCell a u) g L:=by
 unfold Own at h |-;rw[Below.heap_setCell _ _ _ _ (fun e=>ha e.symm)];exact h
theorem Own.alloc{w:World}{g:Nat}{L:List Nat}(h:Own w g L)(o:Obj):Own (w.alloc o) g L:=by
 have:=h.lt;unfold Own at h |-;rw[Below.heap_alloc _ _ _ this];exact h
theorem Own.drew{w:World}{g:Nat}{L:List Nat}(h:Own w g L):Own w.drew g L:=h
theorem Own.below{w w':World}{g B:Nat}{L:List Nat}(h:Own w g L)(hb:Below B w w')(hg:g<B):Own w' g L:=by
 unfold Own at h |-;rw[hb.block g hg];exact h
structure But (g:Nat) (w w':World):Prop where
 os:w'.os=w.os
 tape:w'.tape=w.tape
 output:w'.output=w.output
 size:w.heap.size<=w'.heap.size
 block:∀ k,k<w.heap.size->k≠g->w'.heap[k]?=w.heap[k]?
theorem But.refl(g:Nat)(w:World):But g w w:=⟨rfl,rfl,rfl,aC _,fun _ _ _=>rfl⟩
theorem But.trans{g:Nat}{a b c:World}(h:But g a b)(k:But g b c):But g a c :=
 ⟨k.os.trans h.os,k.tape.trans h.tape,k.output.trans h.output,dW h.size k.size,fun i hi hg=>(k.block i (iQ hi h.size) hg).trans (h.block i hi hg)⟩
theorem But.drew{g:Nat}{a w:World}(h:But g a w):But g a w.drew:=⟨h.os,h.tape,h.output,h.size,h.block⟩
theorem But.set{g:Nat}{a w:World}(h:But g a w)(i:Nat)(u:Value):But g a (w.setCell ⟨g,i,none⟩ u) :=
 h.trans ⟨rfl,rfl,rfl,by simp[World.setCell],fun k _ hk=>Below.heap_setCell _ _ _ _ hk⟩
theorem But.of_below{g:Nat}{a w w':World}(h:But g a w)(hb:Below w.heap.size w w'):But g a w' :=
 h.trans ⟨hb.os,hb.tape,hb.output,hb.size,fun k hk _=>hb.block k hk⟩
theorem But.below{g B:Nat}{a w w':World}(h:Below B a w)(hb:But g w w')(hB:B<=w.heap.size)(hg:B<=g):Below B a w' :=
 h.trans ⟨hb.os,hb.tape,hb.output,hb.size,fun k hk=>hb.block k ae ae⟩
def Rd(B:Nat)(w:World)(ao:Option Addr)(xs:List Nat):Prop :=
 xs≠[]->∃ b off,b<B/\ao=some ⟨b,off,none⟩/\∀ i,i<xs.length->w.cell? ⟨b,off+i,none⟩=some (.int .u32 ((xs.getD i 0:Nat):Int))
theorem Rd.nil(B:Nat)(w:World)(ao:Option Addr):Rd B w ao []:=fun h=>absurd rfl h
theorem Rd.below{B:Nat}{w w':World}{ao:Option Addr}{xs:List Nat}(h:Rd B w ao xs)(hb:Below B w w'):Rd B w' ao xs:=by
 intro hx;obtain⟨b,off,hlt,rfl,hc⟩:=h hx;exact⟨b,off,hlt,rfl,fun i hi=>(hb.cell (p:=⟨b,off+i,none⟩) hlt).trans (hc i hi)⟩
theorem Rd.but{B g:Nat}{w w':World}{ao:Option Addr}{xs:List Nat}(h:Rd B w ao xs)(hb:But g w w')(hB:B<=w.heap.size)(hg:B<=g):Rd B w' ao xs :=
 h.below (But.below (aD _ _) hb hB hg)
theorem Rd.mono{B B':Nat}{w:World}{ao:Option Addr}{xs:List Nat}(h:Rd B w ao xs)(hB:B<=B'):Rd B' w ao xs:=by
 intro hx;obtain⟨b,off,hlt,rfl,hc⟩:=h hx;exact⟨b,off,ae,rfl,hc⟩
theorem Rd.take{B:Nat}{w:World}{ao:Option Addr}{xs:List Nat}(h:Rd B w ao xs)(k:Nat):Rd B w ao (xs.take k):=by
 intro hx;have hx':xs≠[]:=by intro e;subst e;simp at hx
 obtain⟨b,off,hlt,rfl,hc⟩:=h hx';refine⟨b,off,hlt,rfl,fun i hi=>?_⟩;simp only[ig] at hi;rw[hc i ae];simp[fF,show i<k by omega]
theorem Rd.iA{w:World}{g:Nat}{L:List Nat}(h:Own w g L)(off n:Nat):Rd (g+1) w (some ⟨g,off,none⟩) ((L.drop off).take n):=by
 intro _;refine⟨g,off,ae,rfl,fun i hi=>?_⟩;simp only[ig,sZ] at hi;rw[h.cell _ ae];simp[fF,show i<n by omega]
def Nt(lo:Nat)(w:World)(v:Value)(X:Nat):Prop:=w.ownsRow lo 51 1 v (ws X).length ((ws X).map U)
theorem Nt.nil(lo:Nat)(w:World):Nt lo w (.slice none 0 0) 0:=by
 unfold Nt;rw[bO];exact Ar _ _ _ _
theorem Nt.iA{lo:Nat}{w:World}{g:Nat}{L:List Nat}(h:Own w g L)(hlo:lo<=g)(hL:Wf L)(hm:L.length<=maxLen) :
 Nt lo w (.slice (some ⟨g,0,none⟩) (nl L) L.length) (val L):=by
 unfold Nt;have e:=oU L hL;have hn:=kW L;rw[<-e];refine⟨aQ,.inr ⟨g,L.length,(L.map U).toArray,?_,hlo,h,?_,hm,aQ,aQ⟩⟩
 · simp[iO hn]
 · simp;omega
theorem Nt.shape{lo:Nat}{w:World}{v:Value}{X:Nat}(h:Nt lo w v X):∃ ao cap,v=.slice ao (ws X).length cap/\(ws X).length<=cap/\cap<=maxLen/\Rd w.heap.size w ao (ws X):=by
 rcases h.2 with ⟨rfl,h0⟩|⟨g,cap,cur,rfl,hlo,hg,hn,hm,hs,ht⟩
 · refine⟨none,0,by rw[h0],ae,by unfold maxLen;omega,?_⟩;have:ws X=[]:=He.1 h0;rw[this];exact Rd.nil _ _ _
 · refine⟨_,cap,rfl,hn,hm,fun _=>⟨g,0,(gL.1 hg).1,rfl,fun i hi=>?_⟩⟩;have:=h.cells (g:=g) (by simp[Value.ownBlock]) i (U ((ws X).getD i 0)) (by simp[hi]);have e:(⟨g,0,none⟩:Addr).add i=⟨g,0+i,none⟩:=by unfold Addr.add;split <;> simp_all
   rw[e] at this;simpa [U] using this
theorem Nt.below{lo:Nat}{w w':World}{v:Value}{X:Nat}(h:Nt lo w v X)(hb:Below w.heap.size w w'):Nt lo w' v X:=by
 refine⟨h.1,?_⟩;rcases h.2 with hn|⟨g,cap,cur,rfl,hlo,hg,rest⟩
 · exact .inl hn
 · refine .inr ⟨g,cap,cur,rfl,hlo,?_,rest⟩;rw[hb.block g (gL.1 hg).1];exact hg
theorem Nt.mono{lo lo':Nat}{w:World}{v:Value}{X:Nat}(h:Nt lo w v X)(hl:lo'<=lo):Nt lo' w v X:=by
 refine⟨h.1,?_⟩;rcases h.2 with hn|⟨g,cap,cur,rfl,hlo,rest⟩
 · exact .inl hn
 · exact .inr ⟨g,cap,cur,rfl,ae,rest⟩
theorem Tryz.Ib:(Tryz.prog.info? 51).map (fun i=>(i.zero,i.size,i.bytes))=some (some (.int .u32 0),1,4):=by kernel_rfl
theorem fG(xs:List Nat)(ao:Option Addr)(n cap B:Nat)(w:World)(hn:n=xs.length)(hc:n<=cap)(hm:n<=9223372036854775807)(hR:Rd B w ao xs) :
 Calls Tryz.prog 129 #[.slice ao n cap] w fun r w'=>r=.returned (.slice ao (nl xs) cap)/\w'=w:=by
 by_cases hx:xs=[]
 · subst hx;simp at hn;subst hn;go_enter Tryz.func129,Tryz.ntmps129;go_wp2
   go_loopg [0] 0 (fun g s wr=>s=.slice ao 0 cap/\wr=w)
   case atStart=>exact⟨rfl,rfl⟩
   case round =>
    obtain⟨rfl,rfl⟩:=hrel;go_wp2;go_ret;exact⟨rfl,rfl⟩
 · obtain⟨b,off,hB,rfl,hcell⟩:=hR hx;have HN:Aside (n=xs.length):=hn;clear hn hR hx;go_enter Tryz.func129,Tryz.ntmps129;go_wp2
   go_loopg [0] n (fun g s wr=>g<=n/\s=.slice (some ⟨b,off,none⟩) g cap/\wr=w/\Aside (∀ j,g<=j->j<n->xs.getD j 0=0))
   case atStart=>exact⟨aC _,rfl,rfl,fun j h1 h2=>by omega⟩
   case round =>
    obtain⟨hk,rfl,rfl,hz⟩:=hrel
    by_cases hk0:gk=0
    · subst hk0;go_wp2;go_ret;rw[xI xs 0 ae (fun j h1 h2=>hz.o j h1 (by have:=HN.o;omega)) (.inl rfl)];exact⟨rfl,rfl⟩
    · obtain⟨k,rfl⟩:∃ k,gk=k+1:=⟨gk-1,ae⟩;have hcx:=hcell k (by have:=HN.o;omega);obtain⟨x,iB⟩:∃ x:Nat,xs.getD k 0=x:=⟨_,rfl⟩;rw[iB] at hcx;have HX:Aside (xs.getD k 0=x):=iB;clear iB hcell hk0
      by_cases h0:x=0
      · subst h0;go_wp2;go_roundg k
        case measure=>omega
        case rel =>
         refine⟨ae,rfl,rfl,fun j h1 h2=>?_⟩
         by_cases hj:j=k
         · subst hj;exact HX.o
         · exact hz.o j ae h2
      · go_wp2;go_ret;rw[xI xs (k+1) (by have:=HN.o;omega) (fun j h1 h2=>hz.o j h1 (by have:=HN.o;omega)) (.inr (by have:=HX.o;rw[mI,this];exact h0))];exact⟨rfl,rfl⟩
theorem qz(xs:List Nat)(ao:Option Addr)(n cap B:Nat)(w:World)(hn:n=xs.length)(hm:n<=9223372036854775807)(hR:Rd B w ao xs) :
 Calls Tryz.prog 131 #[.slice ao n cap] w fun r w'=>r=.returned (.int .i64 (nl xs:Nat))/\w'=w:=by
 by_cases hx:xs=[]
 · subst hx;simp at hn;subst hn;go_enter Tryz.func131,Tryz.ntmps131;go_wp2
   go_loopg [3] 0 (fun g s wr=>s=.int .i64 0/\wr=w)
   case atStart=>exact⟨rfl,rfl⟩
   case round =>
    obtain⟨rfl,rfl⟩:=hrel;go_wp2;go_ret;exact⟨rfl,rfl⟩
 · obtain⟨b,off,hB,rfl,hcell⟩:=hR hx;have HN:Aside (n=xs.length):=hn;clear hn hR hx;go_enter Tryz.func131,Tryz.ntmps131;go_wp2
   go_loopg [3] n (fun g s wr=>g<=n/\s=.int .i64 (g:Nat)/\wr=w/\Aside (∀ j,g<=j->j<n->xs.getD j 0=0))
   case atStart=>exact⟨aC _,rfl,rfl,fun j h1 h2=>by omega⟩
   case round =>
    obtain⟨hk,rfl,rfl,hz⟩:=hrel
    by_cases hk0:gk=0
    · subst hk0;go_wp2;go_ret;rw[xI xs 0 ae (fun j h1 h2=>hz.o j h1 (by have:=HN.o;omega)) (.inl rfl)];exact⟨rfl,rfl⟩
    · obtain⟨k,rfl⟩:∃ k,gk=k+1:=⟨gk-1,ae⟩;have hcx:=hcell k (by have:=HN.o;omega);obtain⟨x,iB⟩:∃ x:Nat,xs.getD k 0=x:=⟨_,rfl⟩;rw[iB] at hcx;have HX:Aside (xs.getD k 0=x):=iB;clear iB hcell hk0
      by_cases h0:x=0
      · subst h0;go_wp2;go_roundg k
        case measure=>omega
        case rel =>
         refine⟨ae,by go_num,rfl,fun j h1 h2=>?_⟩
         by_cases hj:j=k
         · subst hj;exact HX.o
         · exact hz.o j ae h2
      · go_wp2;go_ret;rw[xI xs (k+1) (by have:=HN.o;omega) (fun j h1 h2=>hz.o j h1 (by have:=HN.o;omega)) (.inr (by have:=HX.o;rw[mI,this];exact h0))];exact⟨rfl,rfl⟩
theorem uP(n:Int):IntKind.u32.wrap n=n%4294967296:=by simp[IntKind.wrap,IntKind.signed,IntKind.bits]
theorem ofInt32(a:Nat)(ha:a<4294967296):(BitVec.ofInt 32 (a:Int)).toNat=a:=by
 rw[BitVec.ofInt_natCast,BitVec.toNat_ofNat];exact nk ae
theorem J9(a b:Nat)(ha:a<4294967296)(hb:b<4294967296):bits .and .u32 (a:Int) (b:Int)=((a &&& b:Nat):Int):=by
 have hx:a &&& b<2^32:=Nat.and_lt_two_pow _ ae;show IntKind.u32.wrap ((BitVec.ofInt 32 (a:Int) &&& BitVec.ofInt 32 (b:Int)).toNat:Int)=_;rw[BitVec.toNat_and,ofInt32 a ha,ofInt32 b hb,uP];omega
theorem or32(a b:Nat)(ha:a<4294967296)(hb:b<4294967296):bits .or .u32 (a:Int) (b:Int)=((a ||| b:Nat):Int):=by
 have hx:a ||| b<2^32:=Nat.or_lt_two_pow ae ae
 show IntKind.u32.wrap ((BitVec.ofInt 32 (a:Int) ||| BitVec.ofInt 32 (b:Int)).toNat:Int)=_;rw[BitVec.toNat_or,ofInt32 a ha,ofInt32 b hb,uP];omega
theorem PQ(a b:Nat)(ha:a<4294967296)(hb:b<4294967296):bits .xor .u32 (a:Int) (b:Int)=((a ^^^ b:Nat):Int):=by
 have hx:a ^^^ b<2^32:=Nat.xor_lt_two_pow ae ae;show IntKind.u32.wrap ((BitVec.ofInt 32 (a:Int) ^^^ BitVec.ofInt 32 (b:Int)).toNat:Int)=_;rw[BitVec.toNat_xor,ofInt32 a ha,ofInt32 b hb,uP];omega
theorem Ic(x y c d:Nat)(hx:x<4294967296)(hy:y<4294967296)(hc:c<=1)(hd:(d:Int)=((x:Int)-y-c)%4294967296) :
 (((4294967295 ^^^ x) &&& y) ||| ((4294967295 ^^^ (x ^^^ y)) &&& d))/2147483648=if x<y+c then 1 else 0:=by
 have e:∀ n:Nat,n/2147483648=n >>> 31:=fun n=>by rw[Nat.shiftRight_eq_div_pow]
 rw[e,Nat.shiftRight_or_distrib,Nat.shiftRight_and_distrib,Nat.shiftRight_and_distrib,Hg,Hg,Hg,<-e,<-e,<-e,<-e];have hd2:d<4294967296:=ae
 have h1:x/2147483648=0\/x/2147483648=1:=ae
 have h2:y/2147483648=0\/y/2147483648=1:=ae
 have h3:d/2147483648=0\/d/2147483648=1:=ae
 rw[show 4294967295/2147483648=1 from rfl];rcases h1 with h1|h1 <;> rcases h2 with h2|h2 <;> rcases h3 with h3|h3 <;> rw[h1,h2,h3] <;> split <;> first|rfl|(exfalso;omega)
theorem Ie(x y c:Nat)(hx:x<4294967296)(hy:y<4294967296)(hc:c<=1) :
 bits BinOp.or IntKind.u32 (bits BinOp.and IntKind.u32 (bits BinOp.xor IntKind.u32 IntKind.u32.max x) y)
  (bits BinOp.and IntKind.u32
   (bits BinOp.xor IntKind.u32 IntKind.u32.max (bits BinOp.xor IntKind.u32 x y))
   (((x:Int)-y-c)%4294967296)) /
  2147483648=((if x<y+c then 1 else 0:Nat):Int):=by
 obtain⟨d,hd⟩:∃ d:Nat,(d:Int)=((x:Int)-y-c)%4294967296:=⟨(((x:Int)-y-c)%4294967296).toNat,ae⟩;have hd2:d<4294967296:=ae
 have hm:IntKind.u32.max=((4294967295:Nat):Int):=aj
 have hn:∀ a b:Nat,a<4294967296->b<4294967296->a ^^^ b<4294967296:=fun a b ha hb=>Nat.xor_lt_two_pow (n:=32) ha hb;have ha:∀ a b:Nat,b<4294967296->a &&& b<4294967296:=fun a b hb=>Nat.and_lt_two_pow (n:=32) a hb
 rw[hm,PQ x y hx hy,PQ _ _ aj hx,PQ _ _ aj (hn _ _ hx hy),J9 _ _ (hn _ _ aj hx) hy,<-hd,J9 _ _ (hn _ _ aj (hn _ _ hx hy)) hd2,
  or32 _ _ (ha _ _ hy) (ha _ _ hd2),<-Ic x y c d hx hy hc hd]
 omega
theorem LM(x y c:Int)(w:World)(hx:0<=x)(hx2:x<4294967296)(hy:0<=y)(hy2:y<4294967296)(hc:0<=c)(hc2:c<=1) :
 Calls Tryz.prog 194 #[.int .u32 x,.int .u32 y,.int .u32 c] w fun r w'=>r=.returned (.tuple #[.int .u32 ((x+y+c)%4294967296),.int .u32 ((x+y+c)/4294967296)])/\w'=w:=by
 go_enter Tryz.func194,Tryz.ntmps194;go_wp2
 go_ret2
 exact⟨rfl,rfl⟩
theorem LQ(x y c s d:Nat)(w:World)(hx:x<4294967296)(hy:y<4294967296)(hc:c<=1)(hs:s=(x+y+c)%4294967296)(hd:d=(x+y+c)/4294967296) :
 Calls Tryz.prog 194 #[.int .u32 (x:Int),.int .u32 (y:Int),.int .u32 (c:Int)] w fun r w'=>r=.returned (.tuple #[.int .u32 (s:Int),.int .u32 (d:Int)])/\w'=w:=by
 have h:=LM x y c w ae ae ae ae ae ae;rw[show((x:Int)+y+c)%4294967296=(s:Int) by omega,show((x:Int)+y+c)/4294967296=(d:Int) by omega] at h;exact h
theorem LU (x y c bo:Int) (w:World) (hx:0<=x) (hx2:x<4294967296) (hy:0<=y) (hy2:y<4294967296) (hc:0<=c) (hc2:c<=1)
 (hb:bits BinOp.or IntKind.u32 (bits BinOp.and IntKind.u32 (bits BinOp.xor IntKind.u32 IntKind.u32.max x) y)
  (bits BinOp.and IntKind.u32
   (bits BinOp.xor IntKind.u32 IntKind.u32.max (bits BinOp.xor IntKind.u32 x y))
   ((x-y-c)%4294967296)) /
  2147483648=bo) :
 Calls Tryz.prog 181 #[.int .u32 x,.int .u32 y,.int .u32 c] w fun r w'=>r=.returned (.tuple #[.int .u32 ((x-y-c)%4294967296),.int .u32 bo])/\w'=w:=by
 go_enter Tryz.func181,Tryz.ntmps181;go_wp2
 all_goals first | (go_ret2;exact⟨rfl,rfl⟩) | skip
theorem Bw(x y c s d:Nat)(w:World)(hx:x<4294967296)(hy:y<4294967296)(hc:c<=1)(hs:(s:Int)=((x:Int)-y-c)%4294967296)(hd:d=if x<y+c then 1 else 0) :
 Calls Tryz.prog 181 #[.int .u32 (x:Int),.int .u32 (y:Int),.int .u32 (c:Int)] w fun r w'=>r=.returned (.tuple #[.int .u32 (s:Int),.int .u32 (d:Int)])/\w'=w:=by
 have h:=LU x y c d w ae ae ae ae ae ae (by rw[Ie x y c hx hy hc,<-hd]);rw[<-hs] at h;exact h
theorem yI(n:Nat)(ao:Option Addr)(cap:Nat)(w:World) :
 Calls Tryz.prog 134 #[.slice ao n cap] w fun r w'=>r=.returned (.bool (decide ((8192:Int)<(n:Int))))/\w'=w:=by
 go_enter Tryz.func134,Tryz.ntmps134;go_wp2;go_ret;exact⟨rfl,rfl⟩
theorem qA(n:Nat)(ao:Option Addr)(cap:Nat)(w:World) :
 Calls Tryz.prog 135 #[.slice ao n cap] w fun r w'=>r=.returned (if 8192<n then .tuple #[.slice none 0 0,.int .i64 2] else .tuple #[.slice ao n cap,.int .i64 0])/\w'=w:=by
 by_cases h:8192<n
 · rw[if_pos h];have hl:=yI n ao cap;have h':(8192:Int)<(n:Int):=ae
   simp only[h',decide_true] at hl;have H:Hid (∀ w,_):=hl;clear hl;go_enter Tryz.func135,Tryz.ntmps135;go_wp2_with fail;refine(H.o _).mono ?_;rintro r w1 ⟨rfl,rfl⟩;go_wp2
   go_ret2
   exact⟨rfl,rfl⟩
 · rw[if_neg h];have hl:=yI n ao cap;have h':¬ (8192:Int)<(n:Int):=ae
   simp only[h',decide_false] at hl;have H:Hid (∀ w,_):=hl;clear hl;go_enter Tryz.func135,Tryz.ntmps135;go_wp2_with fail;refine(H.o _).mono ?_;rintro r w1 ⟨rfl,rfl⟩;go_wp2
   go_ret2
   exact⟨rfl,rfl⟩
theorem UF(x:Int)(w:World):Calls Tryz.prog 192 #[.int .i64 x] w fun r w'=>r=.returned (.bool false)/\w'=w:=by
 go_enter Tryz.func192,Tryz.ntmps192;go_wp2;go_ret;exact⟨rfl,rfl⟩
theorem UG(x:Int)(w:World):Calls Tryz.prog 193 #[.int .u32 x] w fun r w'=>r=.returned (.bool false)/\w'=w:=by
 go_enter Tryz.func193,Tryz.ntmps193;go_wp2;go_ret;exact⟨rfl,rfl⟩
def bJ(x y:Nat):Int:=if x<y then -1 else if y<x then 1 else 0
theorem LV(x y:Nat)(w:World):Calls Tryz.prog 179 #[.int .i64 (x:Int),.int .i64 (y:Int)] w fun r w'=>r=.returned (.int .i64 (bJ x y))/\w'=w:=by
 have H:Hid (∀ x w,_):=UF
 by_cases h:x<y
 · have e:bJ x y=-1:=by simp[bJ,h]
   rw[e];clear e;go_enter Tryz.func179,Tryz.ntmps179;go_wp2_with fail;refine(H.o _ _).mono ?_;rintro r w1 ⟨rfl,rfl⟩;go_wp2_with fail;refine(H.o _ _).mono ?_;rintro r w1 ⟨rfl,rfl⟩;go_wp2;go_ret;exact⟨rfl,rfl⟩
 · by_cases h2:y<x
   · have e:bJ x y=1:=by simp[bJ,h,h2]
     rw[e];clear e;go_enter Tryz.func179,Tryz.ntmps179;go_wp2_with fail;refine(H.o _ _).mono ?_;rintro r w1 ⟨rfl,rfl⟩;go_wp2_with fail;refine(H.o _ _).mono ?_;rintro r w1 ⟨rfl,rfl⟩;go_wp2;go_ret;exact⟨rfl,rfl⟩
   · have e:bJ x y=0:=by simp[bJ,h,h2]
     rw[e];clear e;go_enter Tryz.func179,Tryz.ntmps179;go_wp2_with fail;refine(H.o _ _).mono ?_;rintro r w1 ⟨rfl,rfl⟩;go_wp2_with fail;refine(H.o _ _).mono ?_;rintro r w1 ⟨rfl,rfl⟩;go_wp2;go_ret;exact⟨rfl,rfl⟩
theorem Bz(x y:Nat)(w:World):Calls Tryz.prog 180 #[.int .u32 (x:Int),.int .u32 (y:Int)] w fun r w'=>r=.returned (.int .i64 (bJ x y))/\w'=w:=by
 have H:Hid (∀ x w,_):=UG
 by_cases h:x<y
 · have e:bJ x y=-1:=by simp[bJ,h]
   rw[e];clear e;go_enter Tryz.func180,Tryz.ntmps180;go_wp2_with fail;refine(H.o _ _).mono ?_;rintro r w1 ⟨rfl,rfl⟩;go_wp2_with fail;refine(H.o _ _).mono ?_;rintro r w1 ⟨rfl,rfl⟩;go_wp2;go_ret;exact⟨rfl,rfl⟩
 · by_cases h2:y<x
   · have e:bJ x y=1:=by simp[bJ,h,h2]
     rw[e];clear e;go_enter Tryz.func180,Tryz.ntmps180;go_wp2_with fail;refine(H.o _ _).mono ?_;rintro r w1 ⟨rfl,rfl⟩;go_wp2_with fail;refine(H.o _ _).mono ?_;rintro r w1 ⟨rfl,rfl⟩;go_wp2;go_ret;exact⟨rfl,rfl⟩
   · have e:bJ x y=0:=by simp[bJ,h,h2]
     rw[e];clear e;go_enter Tryz.func180,Tryz.ntmps180;go_wp2_with fail;refine(H.o _ _).mono ?_;rintro r w1 ⟨rfl,rfl⟩;go_wp2_with fail;refine(H.o _ _).mono ?_;rintro r w1 ⟨rfl,rfl⟩;go_wp2;go_ret;exact⟨rfl,rfl⟩
end
section
def sg(L:List Nat)(off k:Nat):Nat:=val ((L.drop off).take k)
theorem fK(L:List Nat)(off:Nat):sg L off 0=0:=by simp[sg,val]
theorem bZ(L:List Nat)(off k:Nat)(h:off+k<L.length):sg L off (k+1)=sg L off k+pw k*L.getD (off+k) 0:=by
 unfold sg;rw[nK _ _ (by simp;omega)];simp[fF]
theorem mQ(L:List Nat)(off k:Nat)(h:off<L.length):sg L off (k+1)=L.getD off 0+4294967296*sg L (off+1) k:=by
 unfold sg;rw[List.drop_eq_getElem_cons h,List.take_succ_cons,val,fF,gD h];rfl
theorem eQ(L:List Nat):sg L 0 L.length=val L:=by simp[sg]
theorem jF(L:List Nat)(off k m:Nat)(h:off+k+m<=L.length):sg L off (k+m)=sg L off k+pw k*sg L (off+k) m:=by
 induction m with
 | zero=>simp[fK]
 | succ m ih =>
   rw[<-pR,bZ L off (k+m) ae,bZ L (off+k) m ae,ih ae,rX,kz,<-pR off k m];simp only[aM,pR]
theorem tF(L M:List Nat)(off k:Nat)(hl:M.length=L.length)(h:off+k<=L.length)(he:∀ j,off<=j->j<off+k->M.getD j 0=L.getD j 0):sg M off k=sg L off k:=by
 induction k with
 | zero=>simp[fK]
 | succ k ih=>rw[bZ M off k ae,bZ L off k ae,ih ae (fun j h1 h2=>he j h1 ae),he (off+k) ae ae]
theorem Et(L:List Nat)(i j x:Nat):(L.set i x).getD j 0=if i=j/\j<L.length then x else L.getD j 0:=by
 simp only[fF,List.getElem?_set]
 by_cases h:i=j
 · subst h
   by_cases h2:i<L.length
   · simp[h2]
   · simp[h2]
 · simp[h]
theorem jr(L:List Nat)(i x:Nat)(h:i<L.length):(L.set i x).getD i 0=x:=by rw[Et,if_pos ⟨rfl,h⟩]
theorem getD_set_ne(L:List Nat)(i j x:Nat)(h:i≠j):(L.set i x).getD j 0=L.getD j 0:=by rw[Et,if_neg (fun e=>h e.1)]
theorem oZ(L:List Nat)(off k i x:Nat)(h:off+k<=i)(hl:off+k<=L.length):sg (L.set i x) off k=sg L off k :=
 tF L _ off k aQ hl (fun j _ h2=>getD_set_ne _ _ _ _ ae)
theorem tH(L:List Nat)(off k i x:Nat)(h:i<off)(hl:off+k<=L.length):sg (L.set i x) off k=sg L off k :=
 tF L _ off k aQ hl (fun j h1 _=>getD_set_ne _ _ _ _ ae)
theorem di(L:List Nat)(off k x:Nat)(h:off+k<L.length):sg (L.set (off+k) x) off (k+1)=sg L off k+pw k*x:=by
 rw[bZ _ _ _ (by simp;omega),jr _ _ _ h,oZ _ _ _ _ _ ae ae]
theorem qb(L:List Nat)(off k:Nat)(hw:Wf L)(h:off+k<=L.length):sg L off k<pw k:=by
 have:=bM _ ((hw.drop off).take k);simp only[ig,sZ] at this;rw[iO ae] at this;exact this
theorem kX(L:List Nat)(k:Nat):sg L 0 k=val (L.take k):=by simp[sg]
theorem yJ(n i:Nat):(List.replicate n 0).getD i 0=0:=by
 simp only[fF,List.getElem?_replicate];split <;> rfl
theorem tJ(n off k:Nat):sg (List.replicate n 0) off k=0:=by
 unfold sg;rw[Cw,List.take_replicate,qM]
def Out(L M:List Nat)(off n:Nat):Prop:=M.length=L.length/\∀ j,(j<off\/off+n<=j)->M.getD j 0=L.getD j 0
theorem Out.refl(L:List Nat)(off n:Nat):Out L L off n:=⟨rfl,fun _ _=>rfl⟩
theorem Out.set{L M:List Nat}{off n:Nat}(h:Out L M off n)(i x:Nat)(h1:off<=i)(h2:i<off+n):Out L (M.set i x) off n :=
 ⟨by simp[h.1],fun j hj=>by rw[getD_set_ne _ _ _ _ ae];exact h.2 j hj⟩
theorem Out.mono{L M:List Nat}{off n k:Nat}(h:Out L M off n)(hk:n<=k):Out L M off k:=⟨h.1,fun j hj=>h.2 j ae⟩
theorem Out.trans{L M K:List Nat}{off n:Nat}(h:Out L M off n)(k:Out M K off n):Out L K off n:=⟨k.1.trans h.1,fun j hj=>(k.2 j hj).trans (h.2 j hj)⟩
theorem Out.below{L M:List Nat}{off n:Nat}(h:Out L M off n)(a k:Nat)(h1:a+k<=off)(h2:a+k<=L.length):sg M a k=sg L a k:=tF L M a k h.1 h2 (fun j _ hj=>h.2 j ae)
theorem Out.above{L M:List Nat}{off n:Nat}(h:Out L M off n)(a k:Nat)(h1:off+n<=a)(h2:a+k<=L.length):sg M a k=sg L a k:=tF L M a k h.1 h2 (fun j hj _=>h.2 j ae)
theorem rY(p a b V c x y s d:Nat)(h:V+c*p=a+b)(e:s+d*4294967296=x+y+c):V+p*s+d*(4294967296*p)=(a+p*x)+(b+p*y):=by
 have:p*(s+d*4294967296)=p*(x+y+c):=by rw[e]
 grind
theorem PR{L M:List Nat}{off k n V:Nat}(hk:k<=n)(hn:off+n<=L.length)(ho:Out L M off k)(h:sg M off k=sg L off k+V):sg M off n=sg L off n+V:=by
 obtain⟨d,rfl⟩:∃ d,n=k+d:=⟨n-k,ae⟩;have h1:=jF M off k d (by rw[ho.1];omega);have h2:=jF L off k d ae;have h3:=ho.above (off+k) d ae ae;rw[h1,h2,h3];omega
theorem yK(p a b V c x y q s d:Nat)(h:V+c*p=a+b*q)(e:s+d*4294967296=y*q+x+c):V+p*s+d*(4294967296*p)=(a+p*x)+(b+p*y)*q:=by
 have:p*(s+d*4294967296)=p*(y*q+x+c):=by rw[e]
 grind
theorem uQ(x y:Nat)(hx:x<4294967296)(hy:y<4294967296):x*y<=18446744065119617025:=by
 have:x*y<=4294967295*4294967295:=kC ae ae;omega
theorem yL(p a b V c x y q s d:Nat)(h:V+b*q=a+c*p)(e:s+y*q+c=x+d*4294967296):V+p*s+(b+p*y)*q=(a+p*x)+d*(4294967296*p):=by
 have:p*(s+y*q+c)=p*(x+d*4294967296):=by rw[e]
 grind
theorem PS(X Q q x d l l2:Nat)(h:X=Q*d+l)(e:l*4294967296+x=q*d+l2):x+4294967296*X=(q+4294967296*Q)*d+l2:=by
 subst h
 grind
theorem qB(p a b V c x y s d:Nat)(h:V+b=a+c*p)(e:s+y+c=x+d*4294967296):V+p*s+(b+p*y)=(a+p*x)+d*(4294967296*p):=by
 have:p*(s+y+c)=p*(x+d*4294967296):=by rw[e]
 grind
theorem LW{L M:List Nat}{off k n V:Nat}(hk:k<=n)(hn:off+n<=L.length)(ho:Out L M off k)(h:sg M off k+V=sg L off k):sg M off n+V=sg L off n:=by
 obtain⟨d,rfl⟩:∃ d,n=k+d:=⟨n-k,ae⟩;have h1:=jF M off k d (by rw[ho.1];omega);have h2:=jF L off k d ae;have h3:=ho.above (off+k) d ae ae;rw[h1,h2,h3];omega
end
section
open Go.RowKit
theorem qN(l x:Nat)(hl:l<4294967296)(hx:x<4294967296):bits BinOp.or IntKind.u64 ((l:Int)*4294967296) (x:Int)=((l*4294967296+x:Nat):Int):=by
 have e:((l:Int)*4294967296)=((l*4294967296:Nat):Int):=by simp only[gM];rfl
 rw[e,bits_or_u64_nat _ _ ae ae];have:=Hl (i:=32) (b:=x) ae l;have e2:2^32*l=l*4294967296:=by rw[cu]
 rw[e2] at this;rw[this]
theorem UH (L:List Nat) (g off n cap q:Nat) (w:World)
 (hO:Own w g L) (hoff:off+n<=L.length) (hcap:n<=cap) (hbig:n<=4611686018427387904) (hL:Wf L) (hq:q<4294967296) (hq0:0<q) :
 Calls Tryz.prog 185 #[.slice (some ⟨g,off,none⟩) n cap,.int .u32 (q:Nat)] w fun r w' =>
  ∃ M,∃ c:Nat,r=.returned (.int .u32 (c:Nat))/\c<q/\Own w' g M/\Wf M/\Out L M off n/\sg L off n=sg M off n*q+c/\But g w w':=by
 have HR:Aside (Wf L/\off+n<=L.length):=⟨hL,hoff⟩;have HO:Hid (Own w g L):=hO;clear hL hO hoff;go_enter Tryz.func185,Tryz.ntmps185;go_wp2
 go_loopg [5,6] n (fun k c i wr=>∃ (cv:Nat) (M:List Nat),k<=n/\c=.int .u64 (cv:Nat)/\cv<q/\i=.int .i64 ((k:Int)-1) /\
  Hid (Own wr g M)/\Aside (Wf M/\Out L M (off+k) (n-k)/\sg L (off+k) (n-k)=sg M (off+k) (n-k)*q+cv/\But g w wr))
 case atStart=>exact⟨0,L,aC _,rfl,hq0,rfl,HO,HR.o.1,Out.refl _ _ _,by simp[fK],But.refl _ _⟩
 case round =>
  obtain⟨cv,M,hk,rfl,hcv,rfl,HM,HA⟩:=hrel
  by_cases hk0:gk=0
  · subst hk0;go_wp2;go_ret;obtain⟨dQ,ib,hMs,aI⟩:=HA.o;exact⟨M,cv,rfl,hcv,HM.o,dQ,ib,hMs,aI⟩
  · obtain⟨k,rfl⟩:∃ k,gk=k+1:=⟨gk-1,ae⟩;obtain⟨hL,hoff⟩:=HR.o;obtain⟨dQ,ib,hMs,aI⟩:=HA.o;have hgc:=HM.o.cell (off+k) (by rw[ib.1];omega);have hgf:=HM.o.frozen (off+k);obtain⟨x,hx⟩:∃ x:Nat,M.getD (off+k) 0=x:=⟨_,rfl⟩;have hxl:x<4294967296:=hx ▸ dQ.get _;rw[hx] at hgc;obtain⟨t,ht⟩:∃ t:Nat,t=cv*4294967296+x:=⟨_,rfl⟩;have e1:bits BinOp.or IntKind.u64 ((cv:Int)*4294967296) (x:Int)=(t:Int):=by rw[qN cv x ae hxl,ht]
    have ht2:(t:Int)<18446744073709551616:=ae
    have hqlt:t/q<4294967296:=by
     rw[rE hq0];have:cv*4294967296+4294967296<=q*4294967296:=ae
     omega
    obtain⟨s,hs⟩:∃ s:Nat,s=t/q:=⟨_,rfl⟩;obtain⟨d,hd⟩:∃ d:Nat,d=t%q:=⟨_,rfl⟩;have e2:(t:Int)/(q:Int)=(s:Int):=by rw[hs];simp
    have e3:(t:Int)%(q:Int)=(d:Int):=by rw[hd];simp
    have hs2:s<4294967296:=ae
    have hdq:d<q:=by rw[hd];exact lU _ hq0
    have HX:Aside (M.getD (off+k) 0=x/\cv*4294967296+x=s*q+d):=⟨hx,by rw[hs,hd,<-ht,cu];exact(qh t q).symm⟩;clear hx hs hd hL hoff dQ ib hMs aI ht hk0 hqlt;go_wp2
    go_region
    all_goals (
     go_wp2;go_roundg k
     case measure=>omega
     case rel =>
      obtain⟨hx,he⟩:=HX.o;obtain⟨hL,hoff⟩:=HR.o;obtain⟨dQ,ib,hMs,aI⟩:=HA.o;have hx2:L.getD (off+k) 0=x:=by rw[<-hx];exact(ib.2 _ ae).symm
      refine⟨d,M.set (off+k) s,ae,by first | rfl | rw[e3],hdq,by first | go_num | (congr 1;omega),(HM.o.set (off+k) s).drew,dQ.set _ _ hs2,⟨by simp[ib.1],fun j hj=>?_⟩,?_,(aI.set (off+k) _).drew⟩
      · by_cases hj2:j=off+k
        · omega
        · rw[getD_set_ne _ _ _ _ (fun e=>hj2 e.symm)];exact ib.2 j ae
      · obtain⟨r,hr⟩:∃ r,n-k=r+1:=⟨n-(k+1),ae⟩;have hr2:n-(k+1)=r:=ae
        rw[hr2] at hMs;rw[hr,mQ L _ _ ae,mQ _ _ _ (by simp[ib.1];omega),jr _ _ _ (by rw[ib.1];omega),tH _ _ _ _ _ ae (by rw[ib.1];omega),hx2]
        exact PS _ _ _ _ _ _ _ hMs he)
end
end Go.Proofs.YtfmfhehbdfhnbaaGreatDoor
