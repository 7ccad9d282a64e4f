import Derived.Test.YthfkleadcnkglaaGreatDoorZ6x
import Derived.Test.YthfkleadcnkglaaGreatDoorD32cx
import Derived.Deep.RegionHeld3
import Derived.Test.YthfkleadcnkglaaGreatDoorD16x
import Derived.Test.YthfkleadcnkglaaGreatDoorD21x
import Derived.Deep.Cut
import Derived.Test.YthfkleadcnkglaaGreatDoorP2x
import Derived.Test.YthfkleadcnkglaaGreatDoorD5x
import Derived.Test.YthfkleadcnkglaaGreatDoorS5x
import Derived.Laws.FloatArith
import Derived.Test.YthfkleadcnkglaaGreatDoorD39x
import Derived.Test.YthfkleadcnkglaaGreatDoorX7x
import Derived.Test.YthfkleadcnkglaaGreatDoorW44x
import Derived.Deep.CutRange
import Derived.BigQuiet
import Derived.Test.YthfkleadcnkglaaGreatDoorW9x
import Derived.ProofKit
import Derived.OpenShut
import Derived.ChangeOld
import Derived.SizedLaws
import Derived.ChangeArms
import Derived.KernelRfl
import Derived.ArgAppend
import Derived.Maps.AppendAt
import Derived.WalkMore
import Derived.OwnWalk
import Derived.Deep.RegionWith
import Derived.Test.YthfkleadcnkglaaGreatDoorD30x
import Derived.RangeFuncNested
import Derived.RangeFuncBound
import Derived.RangeFuncCalls
import Derived.RangeFuncLeaves
import Derived.RangeFuncBox
import Derived.Shelf.Abstract
import Derived.Shelf.RegionOpen
import Derived.WalkKit
import Derived.OwnWalkIn
import Derived.TacticsInMore
import Derived.LoopNIn
import Derived.LoopIn
set_option linter.unusedVariables false
set_option linter.unusedSimpArgs false
set_option maxHeartbeats 16000000
set_option maxRecDepth 20000
namespace Go.Proofs.YthfkleadcnkglaaGreatDoor
namespace J
end J
section
open Go.RowKit
theorem errL0 {I:Nat→Ri}{k:Nat}(h:errL I k=0) (i:Nat) (hi:i<k):¬ sgn (I i).m (I i).Y<0∧(mkS (I i).n (I i).X (I i).e).isSome=true∧(mkS (I i).m (I i).Y (I i).f).isSome=true∧dX (mkS (I i).m (I i).Y (I i).f)≠0:=by
 unfold errL at h
 split at h
 · omega
 · rename_i h1
   split at h
   · omega
   · rename_i h2
     split at h
     · omega
     · rename_i h3
       simp only [Bool.not_eq_true,List.any_eq_false,List.mem_range] at h1 h2 h3;have k1:=h1 i hi;have k2:=h2 i hi;have k3:=h3 i hi;simp at k1 k2 k3;exact ⟨by omega,k2.1,k2.2,k3⟩
theorem reform {n:Bool}{X:Nat}{e:Int}{o:Option (Bool×Nat×Int)}(h:mkS n X e=o) (hs:o.isSome=true):mkS (dN o) (dX o) (dE o)=o:=by
 cases o with
 | none=>cases hs
 | some d =>
   obtain ⟨n1,X1,e1⟩:=d;exact (mkS_frm h).self
theorem frm_rng {n:Bool}{X:Nat}{e:Int}{o:Option (Bool×Nat×Int)}(h:mkS n X e=o):-1048576≤dE o∧dE o≤1048576:=by
 cases o with
 | none=>exact ⟨by decide,by decide⟩
 | some d =>
   obtain ⟨n1,X1,e1⟩:=d;have:=mkS_frm h;exact ⟨this.down,this.up⟩
structure Rv (w:World) (r:Ri):Prop where
 num:Av w r.v r.X
 den:Av w r.u r.Y
 be:-9223372036854775808≤r.e∧r.e≤9223372036854775807
 bf:-9223372036854775808≤r.f∧r.f≤9223372036854775807
theorem Rv.below {w w':World}{r:Ri}(h:Rv w r) (hb:Below w.heap.size w w'):Rv w' r:=⟨h.num.below hb,h.den.below hb,h.be,h.bf⟩
theorem rin1 (W:World) (r:Ri) (hr:Rv W r) (hT:Tab W) (R:World) (hR:R=W.alloc (.cells #[.bool r.n,r.v,.int .i64 r.e,.bool r.m,r.u,.int .i64 r.f] 119)):RIn R W.heap.size 1 (fun _=>r):=by
 have hb:Below W.heap.size W R:=by rw [hR];exact below_alloc _ _
 refine ⟨⟨_,by rw [hR];exact heap_alloc_new _ _,?_⟩,fun i hi=>⟨hr.num.below hb,hr.den.below hb⟩,fun i hi=>⟨hr.be.1,hr.be.2,hr.bf.1,hr.bf.2⟩,hT.belows hb⟩
 intro i hi;obtain rfl:i=0:=by omega
 simp
end
section
open Go.RowKit
theorem one_begin (w:World) (n:Bool) (v:Value) (e:Int) (m:Bool) (u:Value) (f:Int) (W:World) (hW:W=w.alloc (.cells #[.bool n,v,.int .i64 e,.bool m,u,.int .i64 f] 119)) :
 Below w.heap.size w W∧W.heap.size=w.heap.size+1∧Rq W w.heap.size n v e m u f:=by
 rw [hW];exact ⟨below_alloc w _,by simp,Rq.new _ _ _ _ _ _ _⟩
theorem rounded_squareRoot64 {w:World}{n m:Bool}{a b:Option Addr}{la ca lb cb:Nat}{X Y:Nat}{e f:Int}(mode:Int) (hr:Rv w ⟨n,.slice a la ca,X,e,m,.slice b lb cb,Y,f⟩) (hT:Tab w)
 (o1 o2 z:Option (Bool×Nat×Int)) (ew:Int) (rw':Nat×Int) (ho1:mkS n X e=o1) (ho2:mkS m Y f=o2) (lz:(ws (dX z)).length≤8192) (hew:ew≠0→rw'.1=0∧rw'.2=ew)
 (ANS:Nat×Int) (hANS:ANS=if mode<0∨4<mode then (0,1) else if errL (fun _=>(⟨n,.slice a la ca,X,e,m,.slice b lb cb,Y,f⟩:Ri)) 1=0 then rw' else (0,errL (fun _=>(⟨n,.slice a la ca,X,e,m,.slice b lb cb,Y,f⟩:Ri)) 1))
 (HW:Hid (∀ (u:World) (p q:Value),Below w.heap.size w u→Nt w.heap.size u p (dX o1)→Nt w.heap.size u q (dX o2)→errL (fun _=>(⟨n,.slice a la ca,X,e,m,.slice b lb cb,Y,f⟩:Ri)) 1=0→Calls Tryz.prog 143 #[.agg #[.bool (dN o1),p,.int .i64 (dE o1),.bool (dN o2),q,.int .i64 (dE o2)]] u fun r w'=>(∃ v,r=.returned (.tuple #[.agg #[.bool (dN z),v,.int .i64 (dE z)],.int .i64 ew])∧Nt u.heap.size w' v (dX z))∧Below u.heap.size u w'))
 (HR:Hid (∀ (u:World) (p:Option Addr) (q:Nat),ew=0→¬ (mode<0∨4<mode)→errL (fun _=>(⟨n,.slice a la ca,X,e,m,.slice b lb cb,Y,f⟩:Ri)) 1=0→Below w.heap.size w u→Arg u p (ws (dX z)).length q (ws (dX z))→Calls Tryz.prog 60 #[.agg #[.bool (dN z),.slice p (ws (dX z)).length q,.int .i64 (dE z)],.int .i64 mode] u fun r w'=>r=.returned (.tuple #[.float .f64 rw'.1,.int .i64 rw'.2])∧Below u.heap.size u w')) :
 Calls Tryz.prog 142 #[.agg #[.bool n,.slice a la ca,.int .i64 e,.bool m,.slice b lb cb,.int .i64 f],.int .i64 mode,.func (.func 143) #[] #[],.func (.func 60) #[] #[]] w fun r w'=>r=.returned (.tuple #[.float .f64 ANS.1,.int .i64 ANS.2])∧Below w.heap.size w w':=by
 obtain ⟨W1,hW1⟩:∃ W,W=w.alloc (.cells #[.bool n,.slice a la ca,.int .i64 e,.bool m,.slice b lb cb,.int .i64 f] 119):=⟨_,rfl⟩;obtain ⟨hB,hz1,Q1⟩:=one_begin w n _ e m _ f W1 hW1
 by_cases hm:mode<0∨4<mode
 · rw [if_pos hm] at hANS
   subst hANS;have S0:=qsd hB;clear hB hz1 Q1 HW HR hr hT
   by_cases hm0:mode<0
   · have d1:=decide_eq_true hm0
     go_enter Tryz.func142,Tryz.ntmps142
     go_upto_region 1 with fail
     rw [←hW1];clear hW1;go_wp2
     go_ret2
     exact ⟨rfl,S0.out⟩
   · have d1:=decide_eq_false hm0
     have hm4:4<mode:=by omega
     have d2:=decide_eq_true hm4;clear hm;go_enter Tryz.func142,Tryz.ntmps142
     go_upto_region 1 with fail
     rw [←hW1];clear hW1;go_wp2
     go_ret2
     exact ⟨rfl,S0.out⟩
 · rw [if_neg hm] at hANS
   obtain ⟨R,hR⟩:∃ R,R=W1.alloc (.cells #[.bool n,.slice a la ca,.int .i64 e,.bool m,.slice b lb cb,.int .i64 f] 119):=⟨_,rfl⟩;have hin:=rin1 W1 _ (hr.below hB) (hT.belows hB) R hR;have hbR:Below W1.heap.size W1 R:=by rw [hR];exact below_alloc _ _
   have HF:=hid (forms1 R W1.heap.size _ hin);obtain ⟨I,hI⟩:∃ I:Nat→Ri,(fun _=>(⟨n,.slice a la ca,X,e,m,.slice b lb cb,Y,f⟩:Ri))=I:=⟨_,rfl⟩
   rw [hI] at HF hANS HW HR;obtain ⟨x0,x1,x2,x3,x4,x5⟩:=Q1.facts;have HAn:=qsd hANS;have S0:=(qsd (ai (hB.trans (hbR.mono hB.size)) (ai hI (ai ho1 ho2))));have d1:decide (mode<0)=false:=decide_eq_false (fun h=>hm (.inl h))
   have d2:decide (4<mode)=false:=decide_eq_false (fun h=>hm (.inr h))
   have HM:=qsd hm;obtain ⟨g12,hg12⟩:∃ g,W1.heap.size=g:=⟨_,rfl⟩;rw [hg12] at HF;clear hB hz1 Q1 hin hbR hr hT hANS hI ho1 ho2 hm;go_enter Tryz.func142,Tryz.ntmps142
   go_upto_region 1 with fail
   rw [←hW1];clear hW1
   go_wp2_with fail
   rw [←hR];clear hR hg12 x0 x1 x2 x3 x4 x5;refine HF.out.mono ?_;rintro r u1 ⟨hor,hb⟩;clear HF;obtain ⟨bel,hI,ho1,ho2⟩:=S0.out;have S1:=qsd (bel.trans (hb.mono bel.size))
   rcases hor with ⟨hne,rfl⟩|⟨h0,g',V,rfl,hO⟩
   · have HA2:=HAn.out
     rw [if_neg hne] at HA2;obtain ⟨er,her⟩:∃ er,errL I 1=er:=⟨_,rfl⟩;rw [her] at hne HA2 ⊢;have HA3:=qsd HA2;have hnb:(er==0)=false:=by simp [hne]
     clear HAn HA2 her hne bel hb hI ho1 ho2 S0 HW HR;go_wp2
     go_ret2
     rw [HA3.out];exact ⟨rfl,S1.out⟩
   · have HA2:=HAn.out
     rw [if_pos h0] at HA2;obtain ⟨q0,q1,q2,q3,q4,q5⟩:=hO.row.facts 0 (by omega)
     obtain ⟨N1,N2⟩:=hO.nts 0 (by omega)
     simp only [Nat.zero_mul,Nat.zero_add] at q0 q1 q2 q3 q4 q5;unfold frmI at q0 q1 q2 q3 q4 q5;have e0:I 0=⟨n,.slice a la ca,X,e,m,.slice b lb cb,Y,f⟩:=by rw [←hI]
     rw [e0] at N1 N2;simp only [e0] at q0 q1 q2 q3 q4 q5 N1 N2;have m1:=mkS_len n X e;have m2:=mkS_len m Y f;rw [ho1] at q0 q2 N1 m1;rw [ho2] at q3 q5 N2 m2;obtain ⟨v1,hv1⟩:∃ v1,(V 0).1=v1:=⟨_,rfl⟩;obtain ⟨v2,hv2⟩:∃ v1,(V 0).2=v1:=⟨_,rfl⟩;rw [hv1] at q1 N1;rw [hv2] at q4 N2;obtain ⟨a1,c1,rfl,_⟩:=N1.arg (by omega)
     obtain ⟨a2,c2,rfl,_⟩:=N2.arg (by omega)
     have HC:=hid (HW.out u1 _ _ (bel.trans (hb.mono bel.size)) (N1.mono (by have:=bel.size;omega)) (N2.mono (by have:=bel.size;omega)) h0)
     have S2:=(qsd (ai h0 HA2));clear HAn HA2 bel hb hI ho1 ho2 S0 hO N1 N2 HW h0 hv1 hv2 e0
     go_wp2_with fail
     clear q0 q1 q2 q3 q4 q5;refine HC.out.mono ?_;rintro r u2 ⟨⟨v,rfl,NZ⟩,hb⟩;obtain ⟨az,cz,rfl,_⟩:=NZ.arg (by omega)
     clear HC;obtain ⟨U3,hU3⟩:∃ U,U=u2.alloc (.cells #[.bool (dN z),.slice az (ws (dX z)).length cz,.int .i64 (dE z)] 47):=⟨_,rfl⟩;have hbA:Below u2.heap.size u2 U3:=by rw [hU3];exact below_alloc _ _
     have bb:=S1.out.trans (hb.mono S1.out.size);have bc:=bb.trans (hbA.mono bb.size)
     by_cases hew0:ew=0
     · have TZ:Tk U3 u2.heap.size 47 (.bool (dN z)) (.slice az (ws (dX z)).length cz) (.int .i64 (dE z)):=by rw [hU3];exact Tk.new _ _ _ _ _
       have HD:=hid (HR.out U3 az cz hew0 HM.out S2.out.1 bc ((NZ.below hbA).arg' (by omega)).2)
       obtain ⟨x0,x1,x2,_,_,_⟩:=TZ.facts;have S3:=(qsd (ai bc S2.out.2));clear bb bc hb hbA NZ TZ S1 S2 HR HM hew;subst hew0
       go_upto_region 7 with fail
       rw [←hU3];clear hU3
       go_wp2_with fail
       refine HD.out.mono ?_;rintro r u3 ⟨rfl,hb⟩;have S4:=qsd (S3.out.1.trans (hb.mono S3.out.1.size));clear hb HD x0 x1 x2;go_wp2
       go_ret2
       rw [S3.out.2];exact ⟨rfl,S4.out⟩
     · have hnb:(ew==0)=false:=by simp [hew0]
       have hA:ANS=(0,ew):=by
        rw [S2.out.2];have:=hew hew0;rw [←this.1,←this.2]
       have S3:=(qsd (ai bc hA));clear bb bc hb hbA NZ S1 S2 HR HM hew hA hew0
       go_upto_region 7 with fail
       rw [←hU3];clear hU3;go_wp2
       go_ret2
       rw [S3.out.2];exact ⟨rfl,S3.out.1⟩
theorem Root_box {w:World}{a b:Option Addr}{la ca lb cb:Nat}(n m:Bool) (e f mode:Int) (ANS:Nat×Int)
 (HR:Hid (∀ u:World,Below w.heap.size w u→Calls Tryz.prog 142 #[.agg #[.bool n,.slice a la ca,.int .i64 e,.bool m,.slice b lb cb,.int .i64 f],.int .i64 mode,.func (.func 143) #[] #[],.func (.func 60) #[] #[]] u fun r w'=>r=.returned (.tuple #[.float .f64 ANS.1,.int .i64 ANS.2])∧Below u.heap.size u w')) :
 Calls Tryz.prog 100 #[.agg #[.bool n,.slice a la ca,.int .i64 e,.bool m,.slice b lb cb,.int .i64 f],.int .i64 mode] w fun r w'=>r=.returned (.tuple #[.float .f64 ANS.1,.int .i64 ANS.2])∧Below w.heap.size w w':=by
 obtain ⟨W1,hW1⟩:∃ W,W=w.alloc (.cells #[.bool n,.slice a la ca,.int .i64 e,.bool m,.slice b lb cb,.int .i64 f] 119):=⟨_,rfl⟩;obtain ⟨hB,hz1,Q1⟩:=one_begin w n _ e m _ f W1 hW1;have HC:=hid (HR.out W1 hB);obtain ⟨x0,x1,x2,x3,x4,x5⟩:=Q1.facts;have S0:=qsd hB;clear hB hz1 Q1 HR;go_enter Tryz.func100,Tryz.ntmps100
 go_upto_region 1 with fail
 rw [←hW1];clear hW1
 go_wp2_with fail
 refine HC.out.mono ?_;rintro r u1 ⟨rfl,hb⟩;have S1:=qsd (S0.out.trans (hb.mono S0.out.size));clear hb HC x0 x1 x2 x3 x4 x5;go_wp2
 go_ret2
 exact ⟨rfl,S1.out⟩
end
section
open Go.RowKit
theorem mkS_small (n:Bool) (M:Nat) (E:Int) (hM:M≠0) (hb:bl M≤1001) (h0:-4096≤E) (h1:E≤4096):mkS n M E=some (n,M/2^lo M,E+lo M)∧(M/2^lo M)%2=1∧M=M/2^lo M*2^lo M∧lo M≤1001:=by
 obtain ⟨q,h2,h3,h4⟩:=odd_part M hM;refine ⟨?_,by omega,by rw [h3,Nat.mul_comm];exact h2,by omega⟩
 unfold mkS;rw [if_neg hM,if_neg (by omega)]
def sqX (X:Nat) (e:Int) (Y:Nat) (f:Int):Int:=e-f-byS X Y 129-cutS Y 129
def sqW (X:Nat) (e:Int) (Y:Nat) (f:Int):Nat:=hvW (whoS X Y 129) (sqX X e Y f)
theorem root_there (W:Nat):∃ r,IsRoot W r:=by
 induction W with
 | zero=>exact ⟨0,by unfold IsRoot;omega⟩
 | succ W ih =>
   obtain ⟨r,h1,h2⟩:=ih
   by_cases h:W+1<(r+1)*(r+1)
   · exact ⟨r,by omega,h⟩
   · refine ⟨r+1,by omega,?_⟩
     have:(r+1)*(r+1)<(r+1+1)*(r+1+1):=Nat.mul_lt_mul'' (by omega) (by omega)
     omega
noncomputable def sqR (W:Nat):Nat:=Classical.choose (root_there W)
theorem sqR_is (W:Nat):IsRoot W (sqR W):=Classical.choose_spec (root_there W)
def sqT (X:Nat) (e:Int) (Y:Nat) (f:Int):Bool:=hvA (whoS X Y 129) (sqX X e Y f) (atS X Y 129)
noncomputable def sqD (X:Nat) (e:Int) (Y:Nat) (f:Int):Bool:=sqT X e Y f&&decide (sqW X e Y f=sqR (sqW X e Y f)*sqR (sqW X e Y f))
noncomputable def sqZ (X:Nat) (e:Int) (Y:Nat) (f:Int):Option (Bool×Nat×Int):=mkS false (2*sqR (sqW X e Y f)+(if sqD X e Y f then 0 else 1)) (clampE (hvX (sqX X e Y f)/2))
theorem clamp_rng (x:Int):-4096≤clampE x∧clampE x≤4096:=by unfold clampE;omega
theorem lt_of_sq {R k W:Nat}(h:R*R≤W) (hW:W<2^(2*k)):R<2^k:=by
 rcases Nat.lt_or_ge R (2^k) with q|q
 · exact q
 · have:=Nat.mul_le_mul q q
   rw [←Nat.pow_add,show k+k=2*k by omega] at this
   omega
theorem ge_of_sq {R k W:Nat}(h:W<(R+1)*(R+1)) (hW:2^(2*k)≤W):2^k≤R:=by
 rcases Nat.lt_or_ge R (2^k) with q|q
 · have:=Nat.mul_le_mul (show R+1≤2^k from q) (show R+1≤2^k from q)
   rw [←Nat.pow_add,show k+k=2*k by omega] at this
   omega
 · exact q
theorem sqW_lt (X:Nat) (e:Int) (Y:Nat) (f:Int) (D:DivS X Y 129):sqW X e Y f<2^130:=by
 have:=D.most;unfold sqW hvW
 split <;> omega
theorem sqW_ge (X:Nat) (e:Int) (Y:Nat) (f:Int) (D:DivS X Y 129) (hX:X≠0):2^(2*63)≤sqW X e Y f:=by
 have:=D.least hX;have e1:(2:Nat)^(129-1)=4*2^(2*63):=by decide
 have e2:(1:Nat)≤2^(2*63):=Nat.two_pow_pos _;unfold sqW hvW
 split <;> omega
theorem bl_two {W d k:Nat}(h:W<2^k) (hd:d≤1):bl (2*W+d)≤k+1:=bl_lt_pow (by rw [Nat.pow_succ];omega)
theorem grid64:Grid vK 9218868437227405312:=by
 refine ⟨by decide,?_,fun {k l} h=>vK_lt.2 h,fun k hk=>?_⟩
 · have:=vK_word 0 0 (.inl rfl) (by omega)
   simpa using this
 · by_cases h:k<4503599627370496
   · refine ⟨k,0,?_,?_,by omega,by omega⟩
     · have:=vK_word 0 k (.inl rfl) (by omega);rw [Nat.zero_mul,Nat.zero_add] at this;exact this
     · have:=vK_word 0 (k+1) (.inl rfl) (by omega);rw [Nat.zero_mul,Nat.zero_add] at this;exact this
   · obtain ⟨q,hq⟩:∃ q,k/4503599627370496=q:=⟨_,rfl⟩
     obtain ⟨g,hg⟩:∃ g,k%4503599627370496=g:=⟨_,rfl⟩;refine ⟨4503599627370496+g,q-1,?_,?_,by omega,by omega⟩
     · have:=vK_word (q-1) (4503599627370496+g) (.inr (by omega)) (by omega)
       rw [show (q-1)*4503599627370496+(4503599627370496+g)=k by omega] at this
       exact this
     · have:=vK_word (q-1) (4503599627370496+g+1) (.inr (by omega)) (by omega)
       rw [show (q-1)*4503599627370496+(4503599627370496+g+1)=k+1 by omega] at this
       exact this
theorem liesG64 {K:Nat}{t:Bool}{m:Int}{V S':Nat}(h:Lies K t m V S'):LiesG vK 9218868437227405312 1 K t m V S':=by
 refine ⟨h.fin,h.pos,fun ht=>?_,fun ht=>?_,fun ht hl=>?_,fun ht=>?_⟩
 · rw [Nat.pow_one];exact h.one ht
 · rw [Nat.pow_one];exact h.low ht
 · rw [Nat.pow_one] at hl
   have:=h.mids ht hl;rw [Nat.pow_one,Nat.pow_one,Nat.add_mul];exact this
 · rw [Nat.pow_one]
   rcases h.high ht with q|⟨q,r⟩
   · exact .inl q
   · exact .inr ⟨by omega,r⟩
theorem stand64 (n:Bool) (M:Nat) (E:Int) (hM:M≠0) (hb:bl M≤1001) (h0:-4096≤E) (h1:E≤4096) :
 ∃ K t m,LiesG vK 9218868437227405312 1 K t m (M*2^(E+(1074:Nat)).toNat) (2^(-(E+(1074:Nat))).toNat)∧∀ mode:Int,0≤mode→mode≤4→rndS (mkS n M E) mode=(rK mode n K t m+(if n then 9223372036854775808 else 0),0):=by
 obtain ⟨e1,e2,e3,e4⟩:=mkS_small n M E hM hb h0 h1;obtain ⟨M',hM'⟩:∃ M',M/2^lo M=M':=⟨_,rfl⟩;obtain ⟨l,hl⟩:∃ l,lo M=l:=⟨_,rfl⟩;rw [hM',hl] at e1 e3;rw [hM'] at e2;rw [hl] at e4;have hL:=lies M' (E+l) e2 (by omega) (by omega) (min E (-1074)) (by omega) (by omega)
 refine ⟨flK M' (E+l),(plc 53 (-1074) 1024 M' (E+l)).2.2.1,(plc 53 (-1074) 1024 M' (E+l)).2.2.2,?_,?_⟩
 · have:=liesG64 hL
   rw [e3]
   have w1:M'*2^(E+(l:Int)-min E (-1074)).toNat=M'*2^l*2^(E+(1074:Nat)).toNat:=by
    rw [Nat.mul_assoc,←Nat.pow_add];congr 2;omega
   have w2:(-1074-min E (-1074)).toNat=(-(E+(1074:Nat))).toNat:=by omega
   rw [w1,w2] at this;exact this
 · intro mode hm0 hm4
   rw [e1];unfold rndS;rw [if_neg (by omega)]
   simp only;rw [if_neg (by omega),rndK_eq]
theorem sqr64 (X:Nat) (e:Int) (Y:Nat) (f:Int) (hX:X%2=1) (hY:Y≠0) (bX:bl X≤262144) (bY:bl Y≤262144) :
 ∃ K t m,LiesG vK 9218868437227405312 2 K t m (rV11 X e f 1074 2) (rS11 Y e f 1074 2)∧∀ mode:Int,0≤mode→mode≤4→rndS (sqZ X e Y f) mode=(rK mode false K t m,0):=by
 have D:=divS_facts X Y 129 (.inr hX) hY (by omega) (by omega) bX bY
 have hX0:X≠0:=by omega
 have g1:=sqW_ge X e Y f D hX0;have g2:=sqW_lt X e Y f D;obtain ⟨r1,r2⟩:=sqR_is (sqW X e Y f);have q1:=ge_of_sq r2 g1;have q2:sqR (sqW X e Y f)<2^65:=lt_of_sq r1 (by rw [show 2*65=130 by rfl];exact g2)
 have sp:=root_span X Y e f 1074 (sqR (sqW X e Y f)) hY D (sqX X e Y f) rfl (sqR_is _);have hd:(if sqD X e Y f then 0 else 1)≤1:=by split <;> omega
 have c63:(2:Nat)^63=9223372036854775808:=by decide
 obtain ⟨K,t,m,hL,hR⟩:=stand64 false (2*sqR (sqW X e Y f)+(if sqD X e Y f then 0 else 1)) (clampE (hvX (sqX X e Y f)/2)) (by omega) (by have:=bl_two q2 hd;omega) (clamp_rng _).1 (clamp_rng _).2
 refine ⟨K,t,m,hL.of_alike grid64 (by omega) sp.pos ?_,fun mode h0 h4=>?_⟩
 · exact alike_clamp 2 (sqR (sqW X e Y f)) _ _ _ 1074 _ (by omega) (by omega) (Nat.lt_trans q2 (by decide)) hd (by omega) (by omega) sp
 · have:=hR mode h0 h4
   simp only [Bool.false_eq_true,if_false,Nat.add_zero] at this;exact this
theorem sqZ_some (X:Nat) (e:Int) (Y:Nat) (f:Int) (hX:X=0∨X%2=1) (hY:Y≠0) (bX:bl X≤262144) (bY:bl Y≤262144):(sqZ X e Y f).isSome=true:=by
 have D:=divS_facts X Y 129 hX hY (by omega) (by omega) bX bY
 have g2:=sqW_lt X e Y f D;obtain ⟨r1,r2⟩:=sqR_is (sqW X e Y f);have q2:sqR (sqW X e Y f)<2^65:=lt_of_sq r1 (by rw [show 2*65=130 by rfl];exact g2)
 have hd:(if sqD X e Y f then 0 else 1)≤1:=by split <;> omega
 have hb:=bl_two q2 hd;unfold sqZ
 by_cases hM:2*sqR (sqW X e Y f)+(if sqD X e Y f then 0 else 1)=0
 · rw [hM,mkS_zero];rfl
 · rw [(mkS_small false _ _ hM (by omega) (clamp_rng _).1 (clamp_rng _).2).1];rfl
theorem div_nought (Y size:Nat) (hY:Y≠0) (hs0:1≤size) (hs:size≤1000) (bY:bl Y≤262144):whoS 0 Y size=0∧atS 0 Y size=true:=by
 have D:=divS_facts 0 Y size (.inl rfl) hY hs0 hs (by rw [bl_zero];omega) bY
 have hby:0≤byS 0 Y size:=by unfold byS;rw [bl_zero];omega
 have hlev:levS 0 Y size=0:=by unfold levS;split <;> simp
 have h1:who0 0 Y size=0:=by unfold who0;rw [hlev,Nat.zero_div]
 have h2:lefS 0 Y size=0:=by unfold lefS;rw [hlev,Nat.zero_mod]
 have h3:hasS 0 Y size=0:=by unfold hasS;rw [h2,Nat.zero_mul]
 have h4:takS 0 Y size=0:=by unfold takS;rw [h1,Nat.zero_mul]
 refine ⟨?_,?_⟩
 · unfold whoS;rw [h3,h4,if_neg (by omega),h1]
 · unfold atS;rw [h3,h4];simp [hby]
theorem sqZ_nought (e:Int) (Y:Nat) (f:Int) (hY:Y≠0) (bY:bl Y≤262144):sqZ 0 e Y f=some (false,0,0):=by
 obtain ⟨h1,h2⟩:=div_nought Y 129 hY (by omega) (by omega) bY
 have hW:sqW 0 e Y f=0:=by unfold sqW hvW;rw [h1];split <;> rfl
 have hR:sqR 0=0:=by
  have:=(sqR_is 0).1
  rcases Nat.eq_zero_or_pos (sqR 0) with q|q
  · exact q
  · have:=Nat.mul_pos q q;omega
 have hT:sqT 0 e Y f=true:=by unfold sqT hvA;rw [h1,h2];split <;> rfl
 have hD:sqD 0 e Y f=true:=by unfold sqD;rw [hT,hW,hR];rfl
 unfold sqZ;rw [hD,hW,hR];exact mkS_zero _ _
end
section
open Go.RowKit
theorem par_even {x:Int}(h:x%2=0):(x.tmod 2==0)=true:=by
 have:(2:Int) ∣ x:=Int.dvd_of_emod_eq_zero h;rw [Int.tmod_eq_zero_of_dvd this];rfl
theorem par_odd {x:Int}(h:¬ x%2=0):(x.tmod 2==0)=false:=by
 apply beq_eq_false_iff_ne.2
 intro k;exact h (Int.emod_eq_zero_of_dvd (Int.dvd_of_tmod_eq_zero k))
theorem half_even {x:Int}(h:x%2=0):x.tdiv 2=x/2:=by
 obtain ⟨k,hk⟩:=Int.dvd_of_emod_eq_zero h;subst hk;rw [Int.mul_tdiv_cancel_left _ (by decide),Int.mul_ediv_cancel_left _ (by decide)]
theorem hvX_even (x:Int):hvX x%2=0:=by unfold hvX;split <;> omega
theorem squareRoot_any {w:World}{a b:Option Addr}{ca cb:Nat}(m:Bool) (X Y:Nat) (e f:Int)
 (AX:Arg w a (ws X).length ca (ws X)) (AY:Arg w b (ws Y).length cb (ws Y)) (hT:Tab w) (hX:X=0∨X%2=1) (hY:Y≠0)
 (he0:-1048576≤e) (he1:e≤1048576) (hf0:-1048576≤f) (hf1:f≤1048576) (bX:bl X≤262144) (bY:bl Y≤262144) :
 Calls Tryz.prog 143 #[.agg #[.bool false,.slice a (ws X).length ca,.int .i64 e,.bool m,.slice b (ws Y).length cb,.int .i64 f]] w fun r w'=>DAns w.heap.size w' r (sqZ X e Y f)∧Below w.heap.size w w':=by
 have D:=divS_facts X Y 129 hX hY (by omega) (by omega) bX bY
 have bW:bl (whoS X Y 129)≤130:=bl_lt_pow D.most;have hc:cutS Y 129≤129:=by unfold cutS;omega
 have hb:-262144≤byS X Y 129∧byS X Y 129≤264000:=by have:=D.blh;unfold byS;omega
 have hx:-10000000<sqX X e Y f∧sqX X e Y f<10000000:=by unfold sqX;omega
 have HD:∀ u,Below w.heap.size w u→Calls Tryz.prog 178 #[.agg #[.bool false,.slice a (ws X).length ca,.int .i64 e,.bool m,.slice b (ws Y).length cb,.int .i64 f],.int .i64 129] u fun r w'=>(∃ v,r=.returned (.agg #[v,.int .i64 (sqX X e Y f),.bool (atS X Y 129)])∧Nt u.heap.size w' v (whoS X Y 129))∧Below u.heap.size u w':=fun u hu=>divided11 false m X Y e f 129 (AX.below hu) (AY.below hu) hX hY he0 he1 hf0 hf1 (by omega) (by omega) bX bY
 obtain ⟨r1,r2⟩:=sqR_is (sqW X e Y f);have g2:=sqW_lt X e Y f D;have q2:sqR (sqW X e Y f)<2^65:=lt_of_sq r1 (by rw [show 2*65=130 by rfl];exact g2)
 have bR:bl (sqR (sqW X e Y f))≤65:=bl_lt_pow q2;have bW':bl (sqW X e Y f)≤130:=bl_lt_pow g2;have bL:bl (sqW X e Y f-sqR (sqW X e Y f)*sqR (sqW X e Y f))≤262144:=bl_le_of (Nat.sub_le _ _) (by omega)
 have HR:∀ (u:World) (p:Option Addr) (q:Nat),Arg u p (ws (sqW X e Y f)).length q (ws (sqW X e Y f))→Calls Tryz.prog 180 #[.slice p (ws (sqW X e Y f)).length q] u fun r w'=>∃ v v',r=.returned (.tuple #[v,v'])∧Nt u.heap.size w' v (sqR (sqW X e Y f))∧Nt u.heap.size w' v' (sqW X e Y f-sqR (sqW X e Y f)*sqR (sqW X e Y f))∧Below u.heap.size u w':=by
  intro u p q hA;exact Root_arg hA (by rw [val_ws];exact ⟨r1,r2⟩) (by rw [val_ws])
 have HL:∀ (u:World) (p:Option Addr) (q:Nat),Arg u p (ws (sqW X e Y f-sqR (sqW X e Y f)*sqR (sqW X e Y f))).length q (ws (sqW X e Y f-sqR (sqW X e Y f)*sqR (sqW X e Y f)))→Calls Tryz.prog 147 #[.slice p (ws (sqW X e Y f-sqR (sqW X e Y f)*sqR (sqW X e Y f))).length q] u fun r w'=>r=.returned (.int .i64 (bl (sqW X e Y f-sqR (sqW X e Y f)*sqR (sqW X e Y f)):Nat))∧Below u.heap.size u w':=by
  intro u p q hA;exact Len_arg hA (by rw [val_ws])
 have hz:(bl (sqW X e Y f-sqR (sqW X e Y f)*sqR (sqW X e Y f))==0)=decide (sqW X e Y f=sqR (sqW X e Y f)*sqR (sqW X e Y f)):=by
  by_cases h:sqW X e Y f=sqR (sqW X e Y f)*sqR (sqW X e Y f)
  · rw [decide_eq_true h,show sqW X e Y f-sqR (sqW X e Y f)*sqR (sqW X e Y f)=0 by omega,bl_zero];rfl
  · rw [decide_eq_false h]
    have:=bl_pos (sqW X e Y f-sqR (sqW X e Y f)*sqR (sqW X e Y f)) (by omega)
    exact beq_eq_false_iff_ne.2 (by omega)
 have hz2:(((bl (sqW X e Y f-sqR (sqW X e Y f)*sqR (sqW X e Y f)):Nat):Int)==0)=decide (sqW X e Y f=sqR (sqW X e Y f)*sqR (sqW X e Y f)):=by
  rw [←hz]
  by_cases h:bl (sqW X e Y f-sqR (sqW X e Y f)*sqR (sqW X e Y f))=0
  · rw [h];rfl
  · rw [beq_eq_false_iff_ne.2 h,beq_eq_false_iff_ne.2 (show ((bl (sqW X e Y f-sqR (sqW X e Y f)*sqR (sqW X e Y f)):Nat):Int)≠0 by omega)]
 have hvx:=hvX_even (sqX X e Y f);have hhr:-10000000≤hvX (sqX X e Y f)∧hvX (sqX X e Y f)≤10000000:=by unfold hvX;split <;> omega
 have HI:∀ (d:Bool) (u:World) (p:Option Addr) (q:Nat),d=sqD X e Y f→Below w.heap.size w u→Arg u p (ws (sqR (sqW X e Y f))).length q (ws (sqR (sqW X e Y f)))→Calls Tryz.prog 181 #[.bool false,.agg #[.slice p (ws (sqR (sqW X e Y f))).length q,.int .i64 (hvX (sqX X e Y f)/2),.bool d]] u fun r w'=>DAns u.heap.size w' r (sqZ X e Y f)∧Below u.heap.size u w':=by
  intro d u p q hd hu hA;subst hd;exact inside_any false _ _ _ hA (hT.belows hu) (by omega) (by omega) (by omega)
 have lV:=mkS_len false (2*sqR (sqW X e Y f)+(if sqD X e Y f then 0 else 1)) (clampE (hvX (sqX X e Y f)/2))
 have ht:=half_even hvx;unfold DAns at HI ⊢
 by_cases hev:sqX X e Y f%2=0
 · have eW:sqW X e Y f=whoS X Y 129:=by unfold sqW hvW;rw [if_pos hev]
   have eX:hvX (sqX X e Y f)=sqX X e Y f:=by unfold hvX;rw [if_pos hev]
   have eT:sqT X e Y f=atS X Y 129:=by unfold sqT hvA;rw [if_pos hev]
   rw [eX] at ht hhr
   cases hat:atS X Y 129 with
   | true =>
     rw [hat] at HD eT;refine sqrt_even_at m e f (whoS X Y 129) 0 (sqR (sqW X e Y f)) (sqW X e Y f-sqR (sqW X e Y f)*sqR (sqW X e Y f)) _ (sqX X e Y f) 0 (hvX (sqX X e Y f)/2) false _ _ _ _ _ (len_bl8 (by omega)) (by rw [ws0];omega) (len_bl8 (by omega)) (len_bl8 bL) lV (by omega) (by omega) (par_even hev) (by rw [eX];exact ht) (by omega) (by omega) HD (by rw [eW] at HR ⊢;exact HR) HL hz2 hz ?_
     intro u p q hu hA;exact HI _ u p q (by unfold sqD;rw [eT];rfl) hu hA
   | false =>
     rw [hat] at HD eT;refine sqrt_even_in m e f (whoS X Y 129) 0 (sqR (sqW X e Y f)) (sqW X e Y f-sqR (sqW X e Y f)*sqR (sqW X e Y f)) 0 (sqX X e Y f) 0 (hvX (sqX X e Y f)/2) false false _ _ _ _ (len_bl8 (by omega)) (by rw [ws0];omega) (len_bl8 (by omega)) (len_bl8 bL) lV (by omega) (by omega) (par_even hev) (by rw [eX];exact ht) (by omega) (by omega) HD (by rw [eW] at HR ⊢;exact HR) ?_
     intro u p q hu hA;exact HI _ u p q (by unfold sqD;rw [eT];rfl) hu hA
 · have eW:sqW X e Y f=whoS X Y 129/2:=by unfold sqW hvW;rw [if_neg hev]
   have eX:hvX (sqX X e Y f)=sqX X e Y f+1:=by unfold hvX;rw [if_neg hev]
   have eT:sqT X e Y f=(atS X Y 129&&decide (whoS X Y 129%2=0)):=by unfold sqT hvA;rw [if_neg hev]
   have e1:shiftS (whoS X Y 129) (-1)=(sqW X e Y f,0):=by
    have:=shiftS_dn (X:=whoS X Y 129) (k:=1) (V:=sqW X e Y f) (notLG11 (by omega)) (by rw [eW])
    exact this
   have HH:∀ (t':Bool) (u:World) (p:Option Addr) (q:Nat),t'=sqT X e Y f→Arg u p (ws (whoS X Y 129)).length q (ws (whoS X Y 129))→Calls Tryz.prog 179 #[.agg #[.slice p (ws (whoS X Y 129)).length q,.int .i64 (sqX X e Y f),.bool (atS X Y 129)]] u fun r w'=>(∃ v,r=.returned (.agg #[v,.int .i64 (hvX (sqX X e Y f)),.bool t'])∧Nt u.heap.size w' v (sqW X e Y f))∧Below u.heap.size u w':=by
    intro t' u p q ht' hA;rw [ht',eT]
    cases hat:atS X Y 129 with
    | true =>
      have hb:(!decide (whoS X Y 129/2^0%2=1))=(true&&decide (whoS X Y 129%2=0)):=by
       rw [Nat.pow_zero,Nat.div_one,Bool.true_and]
       by_cases h:whoS X Y 129%2=0
       · rw [decide_eq_true h,decide_eq_false (by omega)];rfl
       · rw [decide_eq_false h,decide_eq_true (by omega)];rfl
      rw [←hb];exact halved_yes (whoS X Y 129) _ _ _ hA (by omega) (by omega) e1 eX.symm (len_bl8 (by omega)) _ rfl
    | false=>exact halved_no (whoS X Y 129) _ _ _ hA (by omega) (by omega) e1 eX.symm (len_bl8 (by omega))
   cases hsT:sqT X e Y f with
   | true =>
     refine sqrt_odd_at m e f (whoS X Y 129) (sqW X e Y f) (sqR (sqW X e Y f)) (sqW X e Y f-sqR (sqW X e Y f)*sqR (sqW X e Y f)) _ (sqX X e Y f) (hvX (sqX X e Y f)) (hvX (sqX X e Y f)/2) (atS X Y 129) _ _ _ _ _ (len_bl8 (by omega)) (len_bl8 (by omega)) (len_bl8 (by omega)) (len_bl8 bL) lV hhr.1 hhr.2 (par_odd hev) ht (by omega) (by omega) HD (fun u p q hA=>HH true u p q hsT.symm hA) HR HL hz2 hz ?_
     intro u p q hu hA;exact HI _ u p q (by unfold sqD;rw [hsT];rfl) hu hA
   | false =>
     refine sqrt_odd_in m e f (whoS X Y 129) (sqW X e Y f) (sqR (sqW X e Y f)) (sqW X e Y f-sqR (sqW X e Y f)*sqR (sqW X e Y f)) 0 (sqX X e Y f) (hvX (sqX X e Y f)) (hvX (sqX X e Y f)/2) (atS X Y 129) false _ _ _ _ (len_bl8 (by omega)) (len_bl8 (by omega)) (len_bl8 (by omega)) (len_bl8 bL) lV hhr.1 hhr.2 (par_odd hev) ht (by omega) (by omega) HD (fun u p q hA=>HH false u p q hsT.symm hA) HR ?_
     intro u p q hu hA;exact HI _ u p q (by unfold sqD;rw [hsT];rfl) hu hA
def oneI (r:Ri):Nat→Ri:=fun _=>r
noncomputable def sqrR (rnd:Option (Bool×Nat×Int)→Int→Nat×Int) (r:Ri) (mode:Int):Nat×Int :=
 if mode<0∨4<mode then (0,1) else if errL (oneI r) 1=0 then (if dN (mkS r.n r.X r.e) then (0,110) else rnd (sqZ (dX (mkS r.n r.X r.e)) (dE (mkS r.n r.X r.e)) (dX (mkS r.m r.Y r.f)) (dE (mkS r.m r.Y r.f))) mode) else (0,errL (oneI r) 1)
theorem frm_of {n:Bool}{X:Nat}{e:Int}(h:(mkS n X e).isSome=true):Frm (dN (mkS n X e)) (dX (mkS n X e)) (dE (mkS n X e)):=by
 cases ho:mkS n X e with
 | none=>rw [ho] at h;cases h
 | some d =>
   obtain ⟨n1,X1,e1⟩:=d;exact mkS_frm ho
theorem Frm.par {n:Bool}{X:Nat}{e:Int}(h:Frm n X e):X=0∨X%2=1:=by rcases h.odd with q | q;exact .inr q;exact .inl q.1
theorem sq_reform (X:Nat) (e:Int) (Y:Nat) (f:Int) (hs:(sqZ X e Y f).isSome=true):mkS (dN (sqZ X e Y f)) (dX (sqZ X e Y f)) (dE (sqZ X e Y f))=sqZ X e Y f:=reform (o:=sqZ X e Y f) rfl hs
theorem Root11 {w:World}{n m:Bool}{a b:Option Addr}{la ca lb cb:Nat}{X Y:Nat}{e f:Int}(mode:Int) (hr:Rv w ⟨n,.slice a la ca,X,e,m,.slice b lb cb,Y,f⟩) (hT:Tab w) :
 Calls Tryz.prog 100 #[.agg #[.bool n,.slice a la ca,.int .i64 e,.bool m,.slice b lb cb,.int .i64 f],.int .i64 mode] w fun r w' =>
  r=.returned (.tuple #[.float .f64 (sqrR rndS ⟨n,.slice a la ca,X,e,m,.slice b lb cb,Y,f⟩ mode).1,.int .i64 (sqrR rndS ⟨n,.slice a la ca,X,e,m,.slice b lb cb,Y,f⟩ mode).2])∧Below w.heap.size w w':=by
 refine Root_box n m e f mode (sqrR rndS ⟨n,.slice a la ca,X,e,m,.slice b lb cb,Y,f⟩ mode) ?_;intro u hu;have hrT:=hr.below hu;have hTu:=hT.belows hu
 cases hn:dN (mkS n X e) with
 | true =>
   refine rounded_squareRoot64 mode hrT hTu (mkS n X e) (mkS m Y f) none 110 (0,110) rfl rfl (by show (ws 0).length≤8192;rw [ws0];omega) (fun h=>⟨rfl,rfl⟩) _ (by unfold sqrR;simp only;rw [hn];rfl) ?_ ?_
   · intro v p q hv N1 N2 h0
     obtain ⟨k1,k2,k3,k4⟩:=errL0 h0 0 (by omega)
     simp only at k1 k2 k3 k4;obtain ⟨a1,c1,rfl,A1⟩:=N1.arg (by have:=frm_len (frm_of k2);omega)
     obtain ⟨a2,c2,rfl,A2⟩:=N2.arg (by have:=frm_len (frm_of k3);omega)
     rw [hn];refine (sqrt_neg _ _ _).mono ?_;rintro r w' ⟨rfl,hb⟩;exact ⟨⟨_,rfl,Nt.nil _ _⟩,hb⟩
   · intro v p q h110
     exact absurd h110 (by decide)
 | false =>
   have hz:(0:Int)≠0→(rndS (sqZ (dX (mkS n X e)) (dE (mkS n X e)) (dX (mkS m Y f)) (dE (mkS m Y f))) mode).1=0∧(rndS (sqZ (dX (mkS n X e)) (dE (mkS n X e)) (dX (mkS m Y f)) (dE (mkS m Y f))) mode).2=0:=fun h=>absurd rfl h
   refine rounded_squareRoot64 mode hrT hTu (mkS n X e) (mkS m Y f) (sqZ (dX (mkS n X e)) (dE (mkS n X e)) (dX (mkS m Y f)) (dE (mkS m Y f))) 0 (rndS (sqZ (dX (mkS n X e)) (dE (mkS n X e)) (dX (mkS m Y f)) (dE (mkS m Y f))) mode) rfl rfl (mkS_len _ _ _) hz _ (by unfold sqrR;simp only;rw [hn];rfl) ?_ ?_
   · intro v p q hv N1 N2 h0
     obtain ⟨k1,k2,k3,k4⟩:=errL0 h0 0 (by omega)
     simp only at k1 k2 k3 k4;have F1:=frm_of k2;have F2:=frm_of k3;obtain ⟨a1,c1,rfl,A1⟩:=N1.arg (by have:=frm_len F1;omega)
     obtain ⟨a2,c2,rfl,A2⟩:=N2.arg (by have:=frm_len F2;omega)
     have hq:=squareRoot_any (dN (mkS m Y f)) (dX (mkS n X e)) (dX (mkS m Y f)) (dE (mkS n X e)) (dE (mkS m Y f)) A1 A2 (hTu.belows hv) F1.par k4 F1.down F1.up F2.down F2.up F1.size F2.size;have hs:=sqZ_some (dX (mkS n X e)) (dE (mkS n X e)) (dX (mkS m Y f)) (dE (mkS m Y f)) F1.par k4 F1.size F2.size;have he:erS (sqZ (dX (mkS n X e)) (dE (mkS n X e)) (dX (mkS m Y f)) (dE (mkS m Y f)))=0:=by unfold erS;rw [hs];rfl
     unfold DAns at hq;rw [he] at hq;rw [hn];exact hq
   · intro v p q _ hm h0 hv hA
     obtain ⟨k1,k2,k3,k4⟩:=errL0 h0 0 (by omega)
     simp only at k1 k2 k3 k4;have F1:=frm_of k2;have F2:=frm_of k3;have hs:=sqZ_some (dX (mkS n X e)) (dE (mkS n X e)) (dX (mkS m Y f)) (dE (mkS m Y f)) F1.par k4 F1.size F2.size;have rg:=frm_rng (o:=sqZ (dX (mkS n X e)) (dE (mkS n X e)) (dX (mkS m Y f)) (dE (mkS m Y f))) rfl;have hR:=Round_any hA (hTu.belows hv) (dN (sqZ (dX (mkS n X e)) (dE (mkS n X e)) (dX (mkS m Y f)) (dE (mkS m Y f)))) (dE (sqZ (dX (mkS n X e)) (dE (mkS n X e)) (dX (mkS m Y f)) (dE (mkS m Y f)))) mode (by omega) (by omega)
     rw [val_ws,sq_reform _ _ _ _ hs] at hR;exact hR
end
section
open Go.RowKit J
theorem Plain12 (w:World):Calls Tryz.prog 99 #[] w fun r w'=>r=.returned (.agg #[.int .i64 0,.int .i64 0])∧Below w.heap.size w w':=by
 go_enter Tryz.func99,Tryz.ntmps99;go_wp2;exact bodyPost_ret (v:=.agg #[.int .i64 0,.int .i64 0]) (by simp [results,Tryz.results99,go_sem]) rfl ⟨rfl,by first | exact bel_alloc _ _ | exact But.below (bel_alloc _ _) (((But.refl _ _).set 0 _).set 1 _) (by simp) (Nat.le_refl _)⟩
noncomputable def sq12 (V mode:Int):Nat×Int:=sqrR rndS ⟨dN (exV V),.bool false,dX (exV V),dE (exV V),false,.bool false,1,0⟩ mode
theorem sqrR_any (rnd:Option (Bool×Nat×Int)→Int→Nat×Int) (n m:Bool) (v u v' u':Value) (X Y:Nat) (e f mode:Int):sqrR rnd ⟨n,v,X,e,m,u,Y,f⟩ mode=sqrR rnd ⟨n,v',X,e,m,u',Y,f⟩ mode:=rfl
noncomputable def lenV (V:Int) (s:Sp) (mode:Int):Nat×Int:=if (vd (snd s.n s.u s.d s.m s.p s.a&&may 0 0) s.n s.u s.d 0 0).2 then ((vd (snd s.n s.u s.d s.m s.p s.a&&may 0 0) s.n s.u s.d 0 0).1,0) else sq12 V mode
theorem mk_one:mkS false 1 0=some (false,1,0):=by
 rw [mkS_odd _ _ _ (by decide),if_neg (by have hh:bl 1=1:=(by decide);omega)]
theorem length12 (g:Nat) (V:Int) (s:Sp) (mode:Int) (w:World) (hA:Acc7 w g V s) (hT:Tab w) :
 Calls Tryz.prog 47 #[.pointer (some ⟨g,0,none⟩),.int .i64 mode] w fun r w'=>r=.returned (.tuple #[.float .f64 (lenV V s mode).1,.int .i64 (lenV V s mode).2])∧Below w.heap.size w w':=by
 obtain ⟨⟨X,er⟩,hX⟩:∃ X,X=lenV V s mode:=⟨_,rfl⟩;rw [←hX];simp only;unfold lenV at hX;obtain ⟨sn,su,sd,sm,sp,sa⟩:=s;simp only at hX;obtain ⟨⟨vx,vt⟩,hvd⟩:∃ v,v=vd (snd sn su sd sm sp sa&&may 0 0) sn su sd 0 0:=⟨_,rfl⟩;rw [←hvd] at hX;simp only at hX;have HS:=hid (Specials7 g V ⟨sn,su,sd,sm,sp,sa⟩ w hA);have HV:=hid (fun u:World=>Verdict_any sn su sd sm sp sa 0 0 u)
 rw [←hvd] at HV;unfold Sp.agg at HS;simp only at HS HV;have HA:=qsd (ai hA (ai hT hX));clear hA hT hX hvd;go_enter Tryz.func47,Tryz.ntmps47
 go_wp2_with fail
 refine HS.out.mono ?_;rintro r w1 ⟨rfl,hb1⟩;have B1:=qsd hb1;clear hb1 HS
 go_wp2_with fail
 refine (Plain12 w1).mono ?_;rintro r w2 ⟨rfl,hb2⟩;have B2:=qsd (B1.out.trans (hb2.mono B1.out.size));clear hb2 B1
 go_wp2_with fail
 refine (HV.out _).mono ?_;rintro r w3 ⟨rfl,hb3⟩;have B3:=qsd (B2.out.trans (hb3.mono B2.out.size));clear hb3 B2 HV
 cases vt
 · have HE:=hid (Exact7 g V _ w3 (HA.out.1.bel B3.out) (HA.out.2.1.belows B3.out))
   have hxs:Aside ((ws (dX (exV V))).length≤133):=by obtain ⟨L,_,_,_,h0,h1,_⟩:=HA.out.1;exact dX_small h0 h1
   obtain ⟨o,ho⟩:∃ o,o=exV V:=⟨_,rfl⟩;rw [←ho] at HE hxs;have HO:=qsd ho;clear ho
   go_wp2_with fail
   refine HE.out.mono ?_;rintro r w4 ⟨v,rfl,hN,hb4⟩;obtain ⟨a1,c1,rfl,A1⟩:=hN.arg (Nat.le_trans hxs.out (by decide))
   have B4:=qsd (ai (B3.out.trans (hb4.mono B3.out.size)) A1);clear hN hb4 A1 HE;have HI:=Int_any 1 w4 (HA.out.2.1.belows B4.out.1) (by decide) (by decide)
   rw [show decide ((1:Int)<0)=false from rfl,show (1:Int).natAbs=1 from rfl,mk_one] at HI
   have HI:=hid HI
   go_wp2_with fail
   refine HI.out.mono ?_;rintro r w5 ⟨⟨v,rfl,hN⟩,hb5⟩;obtain ⟨a2,c2,rfl,A2⟩:=hN.arg (by show (ws 1).length≤_;exact Nat.le_trans ((ws_len_le 1 1).2 (by decide)) (by decide))
   have HR:=Root11 (n:=dN o) (e:=dE o) (m:=dN (some (false,1,0))) (f:=dE (some (false,1,0))) mode ⟨⟨_,_,_,_,rfl,B4.out.2.below hb5,val_ws _⟩,⟨_,_,_,_,rfl,A2,val_ws _⟩,by show -9223372036854775808≤dE o∧dE o≤9223372036854775807;rw [HO.out];exact dE_small V,by show -9223372036854775808≤(0:Int)∧(0:Int)≤9223372036854775807;decide⟩ (HA.out.2.1.belows (B4.out.1.trans (hb5.mono B4.out.1.size)))
   rw [sqrR_any rndS _ _ _ _ (.bool false) (.bool false),HO.out] at HR;have hx:=HA.out.2.2;rw [if_neg (by decide)] at hx
   have HR2:Hid (Calls Tryz.prog 100 #[.agg #[.bool (dN o),.slice a1 (ws (dX o)).length c1,.int .i64 (dE o),.bool (dN (some (false,1,0))),.slice a2 (ws (dX (some (false,1,0)))).length c2,.int .i64 (dE (some (false,1,0)))],.int .i64 mode] w5 fun r w'=>r=.returned (.tuple #[.float .f64 X,.int .i64 er])∧Below w5.heap.size w5 w'):=by
    have e:sqrR rndS ⟨dN (exV V),.bool false,dX (exV V),dE (exV V),false,.bool false,1,0⟩ mode=(X,er):=hx.symm;rw [HO.out];refine HR.mono ?_;rintro r w' ⟨h1,h2⟩;refine ⟨?_,h2⟩;rw [h1]
    show Ending.returned (.tuple #[.float .f64 (sqrR rndS ⟨dN (exV V),.bool false,dX (exV V),dE (exV V),false,.bool false,1,0⟩ mode).1,.int .i64 (sqrR rndS ⟨dN (exV V),.bool false,dX (exV V),dE (exV V),false,.bool false,1,0⟩ mode).2])=_
    rw [e]
   have B5:=qsd (B4.out.1.trans (hb5.mono B4.out.1.size));clear hN hb5 A2 HI HR hx B4
   go_wp2_with fail
   refine HR2.out.mono ?_;rintro r w6 ⟨rfl,hb6⟩;have B6:=qsd (B5.out.trans (hb6.mono B5.out.size));clear hb6 HR2;go_wp2;refine bodyPost_ret (v:=.tuple #[.float .f64 X,.int .i64 er]) (by simp [results,Tryz.results47,go_sem]) rfl ⟨rfl,B6.out⟩
 · go_wp2
   refine bodyPost_ret (v:=.tuple #[.float .f64 X,.int .i64 er]) (by have e:=HA.out.2.2;rw [if_pos trivial] at e;cases e;simp [results,Tryz.results47,go_sem]) rfl ⟨rfl,B3.out⟩
def nI (xs:List Nat):List (Nat×Int):=xs.map (fun x=>(pK x x,pT x x))
theorem nI_take (xs:List Nat) (k:Nat) (h1:k<xs.length):nI (xs.take (k+1))=nI (xs.take k)++[(pK (xs.getD k 0) (xs.getD k 0),pT (xs.getD k 0) (xs.getD k 0))]:=by
 unfold nI;rw [take_snoc10 xs k h1,List.map_append];rfl
def aI (xs ys:List Nat):List (Nat×Int):=(List.zipWith ap12 xs ys).flatten
theorem aI_take (xs ys:List Nat) (k:Nat) (h1:k<xs.length) (h2:k<ys.length):aI (xs.take (k+1)) (ys.take (k+1))=aI (xs.take k) (ys.take k)++ap12 (xs.getD k 0) (ys.getD k 0):=by
 unfold aI;rw [take_snoc10 xs k h1,take_snoc10 ys k h2,List.zipWith_append (by simp;omega),List.flatten_append]
 simp
theorem aI_len (xs ys:List Nat):(aI xs ys).length≤4*min xs.length ys.length:=by
 unfold aI
 induction xs generalizing ys with
 | nil=>simp
 | cons x xs ih =>
   cases ys with
   | nil=>simp
   | cons y ys =>
     have:=ih ys;have:=ap12_len x y;simp only [List.zipWith_cons_cons,List.flatten_cons,List.length_append,List.length_cons];omega
noncomputable def normR (xs:List Nat) (mode:Int):Nat×Int:=if rf12 mode xs.length xs.length=0 then lenV (vI (nI xs)) (sI (nI xs)) mode else (0,rf12 mode xs.length xs.length)
noncomputable def distR (xs ys:List Nat) (mode:Int):Nat×Int:=if rf12 mode xs.length ys.length=0 then lenV (vI (aI xs ys)) (sI (aI xs ys)) mode else (0,rf12 mode xs.length ys.length)
end
section
open Go.RowKit J
theorem norm12_no (a:Option Addr) (n c:Nat) (mode e:Int) (w:World) (he:rf12 mode n n=e) (h0:(e==0)=false) :
 Calls Tryz.prog 15 #[.slice a n c,.int .i64 mode] w fun r w'=>r=.returned (.tuple #[.float .f64 0,.int .i64 e])∧Below w.heap.size w w':=by
 have HR:=hid (fun u:World=>refused12 mode a a n c n c u)
 rw [he] at HR;have h0':(e != 0)=true:=by simp at h0 ⊢;exact h0
 have H0:=qsd (bel_alloc w (Obj.cells #[.slice a n c] 22));clear he h0;go_enter Tryz.func15,Tryz.ntmps15
 go_wp2_with fail
 refine (HR.out _).mono ?_;rintro r w2 ⟨rfl,rfl⟩;clear HR;go_wp2
 go_ret2
 exact ⟨rfl,H0.out⟩
theorem norm12_ok (xs:List Nat) (a:Option Addr) (n c:Nat) (mode:Int) (w:World) (hn:n=xs.length) (hF:Fs w.heap.size w a xs) (hW1:W64 xs) (hT:Tab w) (he:rf12 mode n n=0) (X:Nat) (er:Int) (hX:lenV (vI (nI xs)) (sI (nI xs)) mode=(X,er)) :
 Calls Tryz.prog 15 #[.slice a n c,.int .i64 mode] w fun r w'=>r=.returned (.tuple #[.float .f64 X,.int .i64 er])∧Below w.heap.size w w':=by
 have HR:=hid (fun u:World=>refused12 mode a a n c n c u)
 rw [he] at HR;obtain ⟨o1,o2,o3,o4⟩:=rf12_ok he;obtain ⟨W,hW⟩:∃ W,W=w.alloc (Obj.cells #[.slice a n c] 22):=⟨_,rfl⟩
 have H0:Aside (Below w.heap.size w W∧Bl W w.heap.size 22 [.slice a n c]∧W.heap.size=w.heap.size+1):=by
  subst hW;exact ⟨bel_alloc _ _,Bl.new w 22 [_],by simp⟩
 have HX:=qsd (ai hn (ai hF (ai hW1 (ai hT (ai o1 (ai o2 (ai o3 hX)))))));clear hn hF hW1 hT he o1 o2 o3 o4 hX;go_enter Tryz.func15,Tryz.ntmps15
 go_wp2_with fail
 rw [←hW];clear hW;refine (HR.out _).mono ?_;rintro r w2 ⟨rfl,rfl⟩;clear HR;have c0:=H0.out.2.1.cell 0 _ rfl
 have HS:=hid (sum12N n w.heap.size (fun k=>nI (xs.take k)) w2 (by simp [nI]) HX.out.2.2.2.2.2.2.1 (hid (by
  intro g h k u hg hh hk hA hc hb;obtain ⟨hn,hF,hW1,hT,o1,o2,o3,hX⟩:=HX.out;have hbu:=H0.out.1.trans (hb.mono H0.out.1.size);obtain ⟨b1,p1,l1,e1,d1⟩:=hF.atb hbu k (by omega)
  have hz:=H0.out.2.2;have q1:=(H0.out.2.1.below hb (by omega)).cell 0 _ rfl
  rw [e1] at q1
  try simp only at hA ⊢
  rw [nI_take xs k (by omega)]
  exact hand12N w.heap.size g h k n c b1 p1 _ _ u hA (by unfold nI;simp;omega) (hW1.get k) hc q1 d1 hk o3 ⟨by omega,by omega⟩)))
 go_wp2_with fail
 refine HS.out.mono ?_;rintro r w3 ⟨g,rfl,hA,hb3⟩;have K3:=qsd (ai hA (H0.out.1.trans (hb3.mono H0.out.1.size)));clear hA hb3 HS c0 H0
 have HRd:Hid (Calls Tryz.prog 47 #[.pointer (some ⟨g,0,none⟩),.int .i64 mode] w3 fun r w'=>r=.returned (.tuple #[.float .f64 X,.int .i64 er])∧Below w3.heap.size w3 w'):=by
  obtain ⟨hn,hF,hW1,hT,o1,o2,o3,hX⟩:=HX.out
  have hA:At12 w3 g (nI xs):=by
   have:=K3.out.1
   try simp only at this
   rw [List.take_of_length_le (by omega)] at this
   exact this
  have hR:=length12 g (vI (nI xs)) (sI (nI xs)) mode w3 hA.1 (hT.belows K3.out.2);rw [hX] at hR;exact hR
 have KB:=qsd K3.out.2;clear K3 HX
 go_wp2_with fail
 refine HRd.out.mono ?_;rintro r w4 ⟨rfl,hb4⟩;have K4:=qsd (KB.out.trans (hb4.mono KB.out.size));clear hb4 HRd;go_wp2
 go_ret2
 exact ⟨rfl,K4.out⟩
theorem Norm12 (xs:List Nat) (a:Option Addr) (n c:Nat) (mode:Int) (w:World) (hn:n=xs.length) (hF:Fs w.heap.size w a xs) (hW1:W64 xs) (hT:Tab w) :
 Calls Tryz.prog 15 #[.slice a n c,.int .i64 mode] w fun r w'=>r=.returned (.tuple #[.float .f64 (normR xs mode).1,.int .i64 (normR xs mode).2])∧Below w.heap.size w w':=by
 unfold normR;rw [←hn]
 by_cases he:rf12 mode n n=0
 · rw [if_pos he]
   exact norm12_ok xs a n c mode w hn hF hW1 hT he _ _ rfl
 · rw [if_neg he]
   exact norm12_no a n c mode _ w rfl (by simpa using he)
theorem dist12_no (a b:Option Addr) (n c m d:Nat) (mode e:Int) (w:World) (he:rf12 mode n m=e) (h0:(e==0)=false) :
 Calls Tryz.prog 16 #[.slice a n c,.slice b m d,.int .i64 mode] w fun r w'=>r=.returned (.tuple #[.float .f64 0,.int .i64 e])∧Below w.heap.size w w':=by
 have HR:=hid (fun u:World=>refused12 mode a b n c m d u)
 rw [he] at HR;have h0':(e != 0)=true:=by simp at h0 ⊢;exact h0
 have H0:Aside (Below w.heap.size w ((w.alloc (Obj.cells #[.slice a n c] 22)).alloc (Obj.cells #[.slice b m d] 22))):=(bel_alloc _ _).trans ((bel_alloc _ _).mono (by simp))
 have hne:w.heap.size≠w.heap.size+1:=by omega
 clear he h0;go_enter Tryz.func16,Tryz.ntmps16
 go_wp2_with fail
 refine (HR.out _).mono ?_;rintro r w2 ⟨rfl,rfl⟩;clear HR;go_wp2
 go_ret2
 exact ⟨rfl,H0.out⟩
theorem dist12_ok (xs ys:List Nat) (a b:Option Addr) (n c m d:Nat) (mode:Int) (w:World) (hn:n=xs.length) (hm:m=ys.length) (hF:Fs w.heap.size w a xs) (hG:Fs w.heap.size w b ys) (hW1:W64 xs) (hW2:W64 ys) (hT:Tab w) (he:rf12 mode n m=0) (X:Nat) (er:Int) (hX:lenV (vI (aI xs ys)) (sI (aI xs ys)) mode=(X,er)) :
 Calls Tryz.prog 16 #[.slice a n c,.slice b m d,.int .i64 mode] w fun r w'=>r=.returned (.tuple #[.float .f64 X,.int .i64 er])∧Below w.heap.size w w':=by
 have HR:=hid (fun u:World=>refused12 mode a b n c m d u)
 rw [he] at HR;obtain ⟨o1,o2,o3,o4⟩:=rf12_ok he;obtain ⟨W,hW⟩:∃ W,W=(w.alloc (Obj.cells #[.slice a n c] 22)).alloc (Obj.cells #[.slice b m d] 22):=⟨_,rfl⟩
 have H0:Aside (Below w.heap.size w W∧Bl W w.heap.size 22 [.slice a n c]∧Bl W (w.heap.size+1) 22 [.slice b m d]∧W.heap.size=w.heap.size+2):=by
  subst hW;exact ⟨(bel_alloc _ _).trans ((bel_alloc _ _).mono (by simp)),(Bl.new w 22 [_]).alloc _,Bl.new' (w.alloc _) 22 _ [_] (by simp),by simp⟩
 have HX:=qsd (ai hn (ai hm (ai hF (ai hG (ai hW1 (ai hW2 (ai hT (ai o1 (ai o2 (ai o3 (ai o4 hX)))))))))));have hne:w.heap.size≠w.heap.size+1:=by omega
 clear hn hm hF hG hW1 hW2 hT he o1 o2 o3 o4 hX;go_enter Tryz.func16,Tryz.ntmps16
 go_wp2_with fail
 rw [←hW];clear hW;refine (HR.out _).mono ?_;rintro r w2 ⟨rfl,rfl⟩;clear HR;have c0:=H0.out.2.1.cell 0 _ rfl
 have HS:=hid (sum12A n w.heap.size (w.heap.size+1) (fun k=>aI (xs.take k) (ys.take k)) w2 (by simp [aI]) HX.out.2.2.2.2.2.2.2.2.2.1 (hid (by
  intro g h k u hg hh hk hA hc hb;obtain ⟨hn,hm,hF,hG,hW1,hW2,hT,o1,o2,o3,o4,hX⟩:=HX.out;have hbu:=H0.out.1.trans (hb.mono H0.out.1.size);obtain ⟨b1,p1,l1,e1,d1⟩:=hF.atb hbu k (by omega)
  obtain ⟨b2,p2,l2,e2,d2⟩:=hG.atb hbu k (by omega)
  have hz:=H0.out.2.2.2;have q1:=(H0.out.2.1.below hb (by omega)).cell 0 _ rfl
  have q2:=(H0.out.2.2.1.below hb (by omega)).cell 0 _ rfl
  rw [e1] at q1;rw [e2] at q2
  try simp only at hA ⊢
  rw [aI_take xs ys k (by omega) (by omega)]
  have hhl:h<u.heap.size:=World.block_lt_of_cell? u ⟨h,0,none⟩ (by rw [hc])
  have hhg:h≠g:=by
   rintro rfl;obtain ⟨L,hL,_,_,_,_,hAc⟩:=hA.1
   cases L with
   | nil=>simp at hL
   | cons l L =>
     have:=Bl.cell hAc 0 (U l) rfl;rw [hc] at this
     cases this
  exact hand12A w.heap.size (w.heap.size+1) g h k n m c d b1 p1 b2 p2 _ _ _ u hA (by have:=aI_len (xs.take k) (ys.take k);simp at this;omega) (hW1.get k) (hW2.get k) hc q1 q2 d1 d2 hk (by omega) o3 hhl hhg ⟨by omega,by omega,by omega,by omega⟩)))
 go_wp2_with fail
 refine HS.out.mono ?_;rintro r w3 ⟨g,rfl,hA,hb3⟩;have K3:=qsd (ai hA (H0.out.1.trans (hb3.mono H0.out.1.size)));clear hA hb3 HS c0 H0
 have HRd:Hid (Calls Tryz.prog 47 #[.pointer (some ⟨g,0,none⟩),.int .i64 mode] w3 fun r w'=>r=.returned (.tuple #[.float .f64 X,.int .i64 er])∧Below w3.heap.size w3 w'):=by
  obtain ⟨hn,hm,hF,hG,hW1,hW2,hT,o1,o2,o3,o4,hX⟩:=HX.out
  have hA:At12 w3 g (aI xs ys):=by
   have:=K3.out.1
   try simp only at this
   rw [List.take_of_length_le (by omega),List.take_of_length_le (by omega)] at this
   exact this
  have hR:=length12 g (vI (aI xs ys)) (sI (aI xs ys)) mode w3 hA.1 (hT.belows K3.out.2);rw [hX] at hR;exact hR
 have KB:=qsd K3.out.2;clear K3 HX
 go_wp2_with fail
 refine HRd.out.mono ?_;rintro r w4 ⟨rfl,hb4⟩;have K4:=qsd (KB.out.trans (hb4.mono KB.out.size));clear hb4 HRd;go_wp2
 go_ret2
 exact ⟨rfl,K4.out⟩
theorem Dist12 (xs ys:List Nat) (a b:Option Addr) (n c m d:Nat) (mode:Int) (w:World) (hn:n=xs.length) (hm:m=ys.length) (hF:Fs w.heap.size w a xs) (hG:Fs w.heap.size w b ys) (hW1:W64 xs) (hW2:W64 ys) (hT:Tab w) :
 Calls Tryz.prog 16 #[.slice a n c,.slice b m d,.int .i64 mode] w fun r w'=>r=.returned (.tuple #[.float .f64 (distR xs ys mode).1,.int .i64 (distR xs ys mode).2])∧Below w.heap.size w w':=by
 unfold distR;rw [←hn,←hm]
 by_cases he:rf12 mode n m=0
 · rw [if_pos he]
   exact dist12_ok xs ys a b n c m d mode w hn hm hF hG hW1 hW2 hT he _ _ rfl
 · rw [if_neg he]
   exact dist12_no a b n c m d mode _ w rfl (by simpa using he)
end
section
open Go.RowKit
def errN (X:Nat) (n:Bool) (e:Int) (Y:Nat) (m:Bool) (f:Int):Int:=if sgn m Y<0 then 1 else if (mkS n X e).isSome&&(mkS m Y f).isSome then (if dX (mkS m Y f)=0 then 21 else 0) else 2
theorem errL_one (r:Ri):errL (oneI r) 1=errN r.X r.n r.e r.Y r.m r.f:=by
 unfold errL errN oneI;simp only [show List.range 1=[0] from rfl,List.any_cons,List.any_nil,Bool.or_false,decide_eq_true_eq]
 cases (mkS r.n r.X r.e).isSome <;> cases (mkS r.m r.Y r.f).isSome <;> simp
theorem mkS_sm (n:Bool) (X:Nat) (e:Int) (hX:X%2=1) (hb:X<16) (h0:-1048576≤e) (h1:e≤1048576):mkS n X e=some (n,X,e):=by
 rw [mkS_odd _ _ _ hX,if_neg (by have hh:bl X≤4:=(bl_lt_pow (by omega));omega)]
theorem mkS_pow11 (n:Bool) (k Y:Nat) (e:Int):mkS n (2^k*Y) e=mkS n Y (e+k):=by
 induction k generalizing e with
 | zero=>simp
 | succ k ih=>rw [Nat.pow_succ,Nat.mul_comm (2^k) 2,Nat.mul_assoc,mkS_double,ih];congr 1;omega
end
section
open Go.RowKit
attribute [local go_sem] B.f64bits
theorem fw1:mkS false 1 0=some (false,1,0):=(mkS_sm false 1 0 (by decide) (by decide) (by decide) (by decide))
theorem fw2:mkS false 1 1=some (false,1,1):=(mkS_sm false 1 1 (by decide) (by decide) (by decide) (by decide))
theorem fw3:mkS false 3 0=some (false,3,0):=(mkS_sm false 3 0 (by decide) (by decide) (by decide) (by decide))
theorem fw4:mkS false 1 2=some (false,1,2):=(mkS_sm false 1 2 (by decide) (by decide) (by decide) (by decide))
theorem fw5:mkS false 5 0=some (false,5,0):=(mkS_sm false 5 0 (by decide) (by decide) (by decide) (by decide))
theorem fw0:mkS false 0 0=some (false,0,0):=(mkS_zero _ _)
end
section
open Go.RowKit
def Iv (o:Option (Bool×Nat×Int)) (lo hi:Int):Prop:=∃ n X e,o=some (n,X,e)∧Frm n X e∧(X=0∨(lo≤e∧e+(bl X:Int)≤hi))
theorem Iv.mono {o:Option (Bool×Nat×Int)}{a b c d:Int}(h:Iv o a b) (h1:c≤a) (h2:b≤d):Iv o c d:=by
 obtain ⟨n,X,e,h,F,hb⟩:=h;exact ⟨n,X,e,h,F,by omega⟩
theorem mkS_iv (n:Bool) (X:Nat) (e a b:Int) (h:X=0∨(a≤e∧e+(bl X:Int)≤b)) (hw:b-a≤262144) (ha:-1048576≤a) (hb:b≤1048576):Iv (mkS n X e) a b:=by
 by_cases h0:X=0
 · subst h0
   rw [mkS_zero];exact ⟨false,0,0,rfl,⟨.inr ⟨rfl,rfl,rfl⟩,by rw [bl_zero];omega,by omega,by omega⟩,.inl rfl⟩
 · obtain ⟨h1,h2⟩:=h.resolve_left h0
   obtain ⟨k,o1,o2,o3⟩:=odd_part X h0;have hp:=bl_pos (X/2^lo X) (by omega)
   have e1:mkS n X e=some (n,X/2^lo X,e+lo X):=by
    unfold mkS;rw [if_neg h0,if_neg (by omega)]
   exact ⟨n,_,_,e1,mkS_frm e1,.inr (by omega)⟩
theorem bl_mul_le (X Y:Nat):bl (X*Y)≤bl X+bl Y:=bl_lt_pow (by rw [Nat.pow_add];exact Nat.mul_lt_mul'' (bl_lt X) (bl_lt Y))
theorem Iv.mul {o p:Option (Bool×Nat×Int)}{a b c d:Int}(h1:Iv o a b) (h2:Iv p c d) (hw:(b+d)-(a+c)≤262144) (hl:-1048576≤a+c) (hh:b+d≤1048576):Iv (mulD o p) (a+c) (b+d):=by
 obtain ⟨n,X,e,rfl,F,hx⟩:=h1;obtain ⟨m,Y,f,rfl,G,hy⟩:=h2
 show Iv (mkS (n != m) (X*Y) (e+f)) _ _
 refine mkS_iv _ _ _ _ _ ?_ hw hl hh
 rcases hx with rfl|hx
 · left;rw [Nat.zero_mul]
 · rcases hy with rfl | hy
   · left;rw [Nat.mul_zero]
   · right
     have:=bl_mul_le X Y;omega
theorem pow_bound {X k:Nat}{j:Nat}(h:bl X+k≤j):X*2^k<2^j:=by
 have h1:=bl_lt X;have h2:X*2^k<2^bl X*2^k:=Nat.mul_lt_mul_of_pos_right h1 (Nat.two_pow_pos k);rw [←Nat.pow_add] at h2;exact Nat.lt_of_lt_of_le h2 (Nat.pow_le_pow_right (by decide) h)
theorem addUp_iv (n m:Bool) (X Y:Nat) (e f a b:Int) (hfe:f≤e) (ha:a≤f) (h1:e+(bl X:Int)≤b) (h2:f+(bl Y:Int)≤b) (hw:b+1-a≤262144) (hl:-1048576≤a) (hh:b+1≤1048576) (hX:X≠0):Iv (addUp n X e m Y f) a (b+1):=by
 have hp:=bl_pos X hX;unfold addUp;rw [if_neg (by omega)]
 obtain ⟨j,hj⟩:∃ j:Nat,(j:Int)=b-f:=⟨(b-f).toNat,by omega⟩
 have b1:X*2^(e-f).toNat<2^j:=pow_bound (by omega)
 have b2:Y<2^j:=Nat.lt_of_lt_of_le (bl_lt Y) (Nat.pow_le_pow_right (by decide) (by omega))
 have fin:∀ (s:Bool) (Z:Nat),Z<2^(j+1)→Iv (mkS s Z f) a (b+1):=by
  intro s Z hZ;refine mkS_iv s Z f a (b+1) ?_ hw hl hh
  by_cases h0:Z=0
  · exact .inl h0
  · right
    have:=bl_lt_pow hZ;omega
 have b3:(2:Nat)^(j+1)=2*2^j:=by rw [Nat.pow_succ,Nat.mul_comm]
 split
 · exact fin _ _ (by omega)
 · split
   · exact fin _ _ (by omega)
   · exact fin _ _ (by omega)
theorem Iv.add {o p:Option (Bool×Nat×Int)}{a b:Int}(h1:Iv o a b) (h2:Iv p a b) (hw:b+1-a≤262144) (hl:-1048576≤a) (hh:b+1≤1048576):Iv (addD o p) a (b+1):=by
 have h1':=h1;have h2':=h2;obtain ⟨n,X,e,rfl,F,hx⟩:=h1;obtain ⟨m,Y,f,rfl,G,hy⟩:=h2
 show Iv (addF (n,X,e) (m,Y,f)) a (b+1)
 unfold addF;simp only
 by_cases hX:X=0
 · rw [if_pos hX];exact h2'.mono (by omega) (by omega)
 · rw [if_neg hX]
   by_cases hY:Y=0
   · rw [if_pos hY];exact h1'.mono (by omega) (by omega)
   · rw [if_neg hY]
     have ex:=hx.resolve_left hX;have ey:=hy.resolve_left hY
     split
     · exact addUp_iv m n Y X f e a b (by omega) ex.1 ey.2 ex.2 hw hl hh hY
     · exact addUp_iv n m X Y e f a b (by omega) ey.1 ex.2 ey.2 hw hl hh hX
def valO (o:Option (Bool×Nat×Int)):Int:=zv (-1048576) (dN o,dX o,dE o)
theorem fvO {o:Option (Bool×Nat×Int)}{n:Bool}{X:Nat}{e:Int}(h:mkS n X e=o) (hs:o.isSome=true):Fv (-1048576) o (valO o):=by
 cases o with
 | none=>cases hs
 | some d=>obtain ⟨n1,X1,e1⟩:=d;exact ⟨n1,X1,e1,rfl,mkS_frm h,rfl⟩
theorem Fv.reform {o:Option (Bool×Nat×Int)}{B z:Int}(h:Fv B o z):mkS (dN o) (dX o) (dE o)=o:=by
 obtain ⟨n,X,e,rfl,F,rfl⟩:=h.ex;exact F.self
theorem cmpZ_neg (x y:Int):cmpZ x y=-cmpZ y x:=by unfold cmpZ;split <;> split <;> omega
end
section
open Go.RowKit
theorem Fv.len {o:Option (Bool×Nat×Int)}{B z:Int}(h:Fv B o z):(ws (dX o)).length≤8192:=by
 obtain ⟨n,X,e,rfl,F,_⟩:=h.ex;exact frm_len F
end
section
open Go.RowKit
def Al (w:World) (v:Value) (X:Nat):Prop:=∃ a l c xs,v=.slice a l c∧Arg w a l c xs∧val xs=X∧l≤2000000
theorem Al.below {w w':World}{v:Value}{X:Nat}(h:Al w v X) (hb:Below w.heap.size w w'):Al w' v X:=by
 obtain ⟨a,l,c,xs,rfl,hA,hv,hl⟩:=h;exact ⟨a,l,c,xs,rfl,hA.below hb,hv,hl⟩
def Fm (o:Option (Bool×Nat×Int)):Prop:=∃ B x,Fv B o x
theorem Fm.len {o:Option (Bool×Nat×Int)}(h:Fm o):(ws (dX o)).length≤8192:=by obtain ⟨B,x,h⟩:=h;exact h.len
theorem Fm.rng {o:Option (Bool×Nat×Int)}(h:Fm o):-9223372036854775808≤dE o∧dE o≤9223372036854775807:=by
 obtain ⟨B,x,h⟩:=h;obtain ⟨n,X,e,rfl,F,_⟩:=h.ex;have:=F.up;have:=F.down
 show -9223372036854775808≤e∧e≤9223372036854775807
 omega
end
section
open Go.RowKit J
theorem fo_abs {n:Bool}{X:Nat}{e z L H:Int}(h:Fo (some (n,X,e)) z L H):X*2^(e - -2097152).toNat=z.natAbs*SS:=by
 obtain ⟨F,hv,_⟩:=h.frm;unfold zv at hv;simp only at hv;have:=congrArg Int.natAbs hv;rw [Int.natAbs_mul,Int.natAbs_mul,Int.natAbs_natCast,Int.natAbs_natCast] at this;rw [←this];unfold sg1;cases n <;> simp
theorem fo_zero {n:Bool}{X:Nat}{e z L H:Int}(h:Fo (some (n,X,e)) z L H):X=0↔z=0:=by
 have a:=fo_abs h;have hS:=S_pos
 constructor
 · intro hX
   rw [hX,Nat.zero_mul] at a
   rcases Nat.mul_eq_zero.1 a.symm with q|q <;> omega
 · intro hz
   rw [hz,Int.natAbs_zero,Nat.zero_mul] at a
   rcases Nat.mul_eq_zero.1 a with q|q
   · exact q
   · have:=Nat.two_pow_pos (e - -2097152).toNat;omega
end
section
open Go.RowKit
def fo8 (V:Int):Option (Bool×Nat×Int):=mkS (decide (V<0)) V.natAbs (-1074)
theorem sg1_abs (V:Int):sg1 (decide (V<0))*(V.natAbs:Int)=V:=by
 unfold sg1
 by_cases h:V<0
 · rw [decide_eq_true h,if_pos rfl];omega
 · rw [decide_eq_false h,if_neg (by decide)];omega
theorem fo8_fo (V:Int) (m:Nat) (hm:m≤200000) (hV:V.natAbs<2^m):Fo (fo8 V) (V*(UU:Int)) (-1074) ((m:Int)-1074):=by
 by_cases h0:V=0
 · subst h0
   refine ⟨⟨false,0,0,?_,?_,?_,.inl rfl⟩⟩
   · unfold fo8;exact mkS_zero _ _
   · exact mkS_frm (mkS_zero false 0)
   · rw [zv_zero _ rfl];simp
 · obtain ⟨X,e,h1,h2,h3,h4⟩:=mkS_sz (decide (V<0)) V.natAbs (-1074) (-1074) ((m:Int)-1074) (by omega) (by omega) (by have:=blLe hV;omega) (by omega) (by omega) (by omega)
   refine ⟨⟨_,X,e,h1,mkS_frm h1,?_,.inr ⟨h3,h4⟩⟩⟩;rw [zv_mkS h1 (-2097152) (.inr (by omega))]
   have e1:(2:Nat)^((-1074:Int) - -2097152).toNat=UU*SS:=US _ (by decide)
   rw [e1,Int.natCast_mul,Int.natCast_mul,←Int.mul_assoc,sg1_abs,Int.mul_assoc]
theorem fo8_one {o:Option (Bool×Nat×Int)}{V L H:Int}(h:Fo o (V*(UU:Int)) L H) (m:Nat) (hm:m≤200000) (hV:V.natAbs<2^m):o=fo8 V:=by
 obtain ⟨n,X,e,rfl,F1,z1,_⟩:=h.ex;obtain ⟨n',X',e',h2,F2,z2,_⟩:=(fo8_fo V m hm hV).ex;rw [h2];obtain ⟨rfl,rfl,rfl⟩:=zv_inj F1 F2 (-2097152) (by omega) (by rw [z1,z2])
 rfl
theorem fo8_frm (V:Int) (m:Nat) (hm:m≤200000) (hV:V.natAbs<2^m):∃ n X e,fo8 V=some (n,X,e)∧Frm n X e∧(X=0↔V=0)∧(V≠0→n=decide (V<0))∧-1074≤e∧e≤200000:=by
 have h:=fo8_fo V m hm hV;obtain ⟨n,X,e,h1,F,z,hb⟩:=h.ex;have hz:=fo_zero (h1 ▸ h);have hU:=U_pos
 have hz2:X=0↔V=0:=by
  rw [hz]
  constructor
  · intro q
    rcases Int.mul_eq_zero.1 q with q|q
    · exact q
    · omega
  · intro q;rw [q];simp
 refine ⟨n,X,e,h1,F,hz2,fun hV0=>?_,?_⟩
 · have:=(round_fo (h1 ▸ h) (fun q=>by rcases Int.mul_eq_zero.1 q with q | q;exact hV0 q;omega)).2.1
   rw [this,decide_eq_decide]
   constructor
   · intro q
     by_cases q2:V<0
     · exact q2
     · have:=Int.mul_nonneg (show 0≤V by omega) (show (0:Int)≤UU by omega);omega
   · intro q;exact Int.mul_neg_of_neg_of_pos q (by omega)
 · rcases hb with q | ⟨q1,q2⟩
   · rcases F.odd with q3 | ⟨_,_,q3⟩
     · omega
     · omega
   · constructor
     · exact q1
     · omega
theorem fo8_add (V U:Int) (m:Nat) (hm:m≤100000) (hV:V.natAbs<2^m) (hU:U.natAbs<2^m):addD (fo8 V) (fo8 U)=fo8 (V+U):=by
 have h1:=fo8_fo V m (by omega) hV
 have h2:=fo8_fo U m (by omega) hU
 have h3:=h1.add h2 (by omega) (by omega) (by omega)
 rw [←Int.add_mul] at h3;have:2^(m+1)=2*2^m:=by rw [Nat.pow_succ,Nat.mul_comm]
 exact fo8_one h3 (m+1) (by omega) (by omega)
theorem fo8_self (V:Int) (m:Nat) (hm:m≤200000) (hV:V.natAbs<2^m):mkS (dN (fo8 V)) (dX (fo8 V)) (dE (fo8 V))=fo8 V:=by
 obtain ⟨n,X,e,h1,F,_⟩:=fo8_frm V m hm hV;rw [h1];exact mkS_idem F
theorem fo8_er (V:Int) (m:Nat) (hm:m≤200000) (hV:V.natAbs<2^m):erS (fo8 V)=0:=by
 obtain ⟨n,X,e,h1,F,_⟩:=fo8_frm V m hm hV;rw [h1];rfl
theorem fo8_neg (V:Int) (m:Nat) (hm:m≤200000) (hV:V.natAbs<2^m):mkS (!(dN (fo8 V))) (dX (fo8 V)) (dE (fo8 V))=fo8 (-V):=by
 obtain ⟨n,X,e,h1,F,h2,h3,h4⟩:=fo8_frm V m hm hV;have h:=fo8_fo V m hm hV;rw [h1] at h ⊢;obtain ⟨_,hz,hb⟩:=h.frm
 show mkS (!n) X e=_
 by_cases hX:X=0
 · have:V=0:=h2.1 hX
   subst this;rw [hX];unfold fo8;simp only [Int.neg_zero,Int.natAbs_zero];rw [mkS_zero,mkS_zero]
 · have ho:X%2=1:=by rcases F.odd with q | q;exact q;exact absurd q.1 hX
   have hs:mkS (!n) X e=some (!n,X,e):=by
    rw [mkS_odd _ _ _ ho,if_neg (by have:=F.size;have:=F.up;have:=F.down;omega)]
   refine fo8_one (L:=-1074) (H:=(m:Int)-1074) ⟨⟨!n,X,e,hs,mkS_frm hs,?_,hb⟩⟩ m hm (by rw [Int.natAbs_neg];exact hV)
   have:zv (-2097152) (!n,X,e)=-zv (-2097152) (n,X,e):=by
    unfold zv;simp only;rw [sg1_not,Int.neg_mul]
   rw [this,hz,Int.neg_mul,Int.neg_mul]
theorem top_fv {x:Nat}(hx:Wd x) (fx:finW x) (m:Nat) (hm:m=2098):(fvW x).natAbs<2^m:=by
 unfold fvW;rw [sg_abs];have:=top_v (magW x) fx 2045 rfl;obtain ⟨a,ha⟩:∃ a,a=2045:=⟨_,rfl⟩;have h2:=top_v (magW x) fx a ha;rw [show m=53+a by omega,Nat.pow_add]
 exact h2
theorem of_fo8 {x:Nat}(hx:Wd x) (fx:finW x):ofK (negW x) (magW x)=fo8 (fvW x):=by
 obtain ⟨n,X,e,h1,h2,_⟩:=of_fo (negW x) (magW x) fx;rw [h1];exact fo8_one h2 2098 (by omega) (top_fv hx fx 2098 rfl)
end
section
open Go.RowKit
theorem fo8_len (V:Int) (m:Nat) (hm:m≤200000) (hV:V.natAbs<2^m):(ws (dX (fo8 V))).length≤8192∧-9223372036854775808≤dE (fo8 V)∧dE (fo8 V)≤9223372036854775807∧-1074≤dE (fo8 V)∧dE (fo8 V)≤200000:=by
 obtain ⟨n,X,e,h1,F,_,_,h4,h5⟩:=fo8_frm V m hm hV;rw [h1];exact ⟨frmLen F,by show -9223372036854775808≤e;omega,by show e≤9223372036854775807;omega,h4,h5⟩
theorem of_any8 (x:Nat) (hx:Wd x∧finW x) (w:World) (hT:Tab w) :
 Calls Tryz.prog 57 #[.float .f64 x] w fun r w'=>(∃ v,r=.returned (.tuple #[.agg #[.bool (dN (fo8 (fvW x))),v,.int .i64 (dE (fo8 (fvW x)))],.int .i64 0])∧Nt w.heap.size w' v (dX (fo8 (fvW x))))∧Below w.heap.size w w':=by
 obtain ⟨h1,h2,h3,_⟩:=wd64_bw (negW x) (magW x) (Nat.le_of_lt hx.2);have:=Of_any (negW x) (magW x/4503599627370496) (magW x%4503599627370496) h2 h3 w hT;rw [←h1,←wd_of x hx.1] at this;refine this.mono ?_;rintro r w' ⟨⟨v,rfl,hN⟩,hb⟩;have e:=of_fo8 hx.1 hx.2;unfold ofK at e;rw [e] at hN ⊢;have he:ofE (magW x/4503599627370496)=0:=by unfold ofE;rw [if_neg (by have:=hx.2;omega)]
 rw [he];exact ⟨⟨v,rfl,hN⟩,hb⟩
end
section
open Go.RowKit J
theorem st3_but12 (g:Nat) (w:World) (x y z:Value):But g w (st3 w g x y z):=(((But.refl g w).set _ _).set _ _).set _ _
theorem Fm.re {o:Option (Bool×Nat×Int)}(h:Fm o):mkS (dN o) (dX o) (dE o)=o:=by obtain ⟨B,x,h⟩:=h;exact h.reform
def Lo (w:World) (g:Nat) (o:Option (Bool×Nat×Int)):Prop:=∃ a c,Dk w g (dN o) (.slice a (ws (dX o)).length c) (dE o)∧Nt 0 w (.slice a (ws (dX o)).length c) (dX o)
theorem Lo.below {w w':World}{g:Nat}{o:Option (Bool×Nat×Int)}(h:Lo w g o) (hb:Below w.heap.size w w'):Lo w' g o:=by
 obtain ⟨a,c,h1,h2⟩:=h;exact ⟨a,c,h1.below hb,h2.below hb⟩
theorem Nt.off12 {lo g:Nat}{w:World}{v:Value}{X:Nat}{n:Bool}{a:Option Addr}{l c:Nat}{e:Int}(h:Nt lo w v X) (D:Dk w g n (.slice a l c) e) (x y z:Value):Nt lo (st3 w g x y z) v X:=by
 refine h.off (st3_but12 g w x y z) ?_
 rcases h.2 with ⟨rfl,_⟩|⟨g',cap,cur,rfl,_,hg,_⟩
 · simp [Value.ownBlock]
 · intro e'
   obtain rfl:g'=g:=by simpa [Value.ownBlock] using e'
   rw [show w.heap[g']?=_ from D] at hg
   simp at hg
theorem Lo.set {w:World}{g:Nat}{o p:Option (Bool×Nat×Int)}(h:Lo w g o) {a:Option Addr}{c:Nat}(hN:Nt 0 w (.slice a (ws (dX p)).length c) (dX p)) :
 Lo (st3 w g (.bool (dN p)) (.slice a (ws (dX p)).length c) (.int .i64 (dE p))) g p:=by
 obtain ⟨a0,c0,h1,h2⟩:=h;exact ⟨a,c,h1.set _ _ _,hN.off12 h1 _ _ _⟩
theorem Lo.other {w:World}{g g':Nat}{o p:Option (Bool×Nat×Int)}(h:Lo w g o) (h':Lo w g' p) (hg:g≠g') (x y z:Value):Lo (st3 w g' x y z) g o:=by
 obtain ⟨a,c,h1,h2⟩:=h;obtain ⟨a0,c0,k1,k2⟩:=h';exact ⟨a,c,h1.other _ hg _ _ _,h2.off12 k1 _ _ _⟩
theorem Lo.new {w:World}{o:Option (Bool×Nat×Int)}{a:Option Addr}{c:Nat}(hN:Nt 0 w (.slice a (ws (dX o)).length c) (dX o)):Lo (w.alloc (Obj.cells #[.bool (dN o),.slice a (ws (dX o)).length c,.int .i64 (dE o)] 47)) w.heap.size o :=
 ⟨a,c,Dk.new _ _ _ _,hN.below (below_alloc _ _)⟩
abbrev o00:Option (Bool×Nat×Int):=some (false,0,0)
theorem len00:(ws (dX o00)).length=0:=by simp [dX,ws_zero]
theorem Lo.zero (w:World):Lo (w.alloc (Obj.cells #[.bool false,.slice none 0 0,.int .i64 0] 47)) w.heap.size o00:=by
 refine ⟨none,0,?_,?_⟩
 · rw [len00];exact Dk.new _ _ _ _
 · rw [len00];exact Nt.nil _ _
theorem st3_bel12 {B g:Nat}{a w:World}(h:Below B a w) (hB:B≤w.heap.size) (hg:B≤g) (x y z:Value):Below B a (st3 w g x y z):=But.below h (st3_but12 g w x y z) hB hg
theorem Fm.er {o:Option (Bool×Nat×Int)}(h:Fm o):erS o=0:=by
 obtain ⟨B,x,h⟩:=h;obtain ⟨n,X,e,rfl,_⟩:=h.ex;rfl
theorem Fm.a12 {o:Option (Bool×Nat×Int)}{w:World}{a:Option Addr}{c:Nat}(F:Fm o) (N:Nt 0 w (.slice a (ws (dX o)).length c) (dX o)):Arg w a (ws (dX o)).length c (ws (dX o)):=(N.arg' (Nat.le_trans F.len (by decide))).2
theorem mulP12 {U:World}{a b:Option Addr}{c d:Nat}{o p q:Option (Bool×Nat×Int)}(F:Fm o) (G:Fm p) (N1:Nt 0 U (.slice a (ws (dX o)).length c) (dX o)) (N2:Nt 0 U (.slice b (ws (dX p)).length d) (dX p)) (hT:Tab U) (h:mulD o p=q) (H:Fm q) :
 Calls Tryz.prog 111 #[.agg #[.bool (dN o),.slice a (ws (dX o)).length c,.int .i64 (dE o)],.agg #[.bool (dN p),.slice b (ws (dX p)).length d,.int .i64 (dE p)]] U fun r w'=>(∃ v,r=.returned (.tuple #[.agg #[.bool (dN q),v,.int .i64 (dE q)],.int .i64 0])∧Nt U.heap.size w' v (dX q))∧Below U.heap.size U w':=by
 have:=Mul_any3 (F.a12 N1) (G.a12 N2) hT (dN o) (dN p) (dE o) (dE p) F.rng.1 F.rng.2 G.rng.1 G.rng.2;rw [val_ws,val_ws,F.re,G.re,h] at this;unfold DAns at this;rw [H.er] at this;exact this
theorem addP12' {U:World}{a b:Option Addr}{c d:Nat}{o p q:Option (Bool×Nat×Int)}(F:Fm o) (G:Fm p) (N1:Nt 0 U (.slice a (ws (dX o)).length c) (dX o)) (N2:Nt 0 U (.slice b (ws (dX p)).length d) (dX p)) (hT:Tab U) (h:addD o p=q) (H:Fm q) :
 Calls Tryz.prog 112 #[.agg #[.bool (dN o),.slice a (ws (dX o)).length c,.int .i64 (dE o)],.agg #[.bool (dN p),.slice b (ws (dX p)).length d,.int .i64 (dE p)]] U fun r w'=>(∃ v,r=.returned (.tuple #[.agg #[.bool (dN q),v,.int .i64 (dE q)],.int .i64 0])∧Nt U.heap.size w' v (dX q))∧Below U.heap.size U w':=by
 have:=Add_any3 (F.a12 N1) (G.a12 N2) hT (dN o) (dN p) (dE o) (dE p) F.rng.1 F.rng.2 G.rng.1 G.rng.2;rw [val_ws,val_ws,F.re,G.re,h] at this;unfold DAns at this;rw [H.er] at this;exact this
theorem Lo.shape {w:World}{lo:Nat}{v:Value}{q:Option (Bool×Nat×Int)}(H:Fm q) (h:Nt lo w v (dX q)):∃ a c,v=.slice a (ws (dX q)).length c∧Nt 0 w v (dX q):=by
 obtain ⟨a,c,rfl,_⟩:=h.arg (Nat.le_trans H.len (by decide))
 exact ⟨a,c,rfl,h.mono (Nat.zero_le _)⟩
theorem onward12 (w:World) (a b:Option Addr) (ca cb:Nat) (o0 ox oc o1 o2:Option (Bool×Nat×Int)) (c:Nat) (hT:Tab w)
 (FF:Aside (Fm o0∧Fm ox∧Fm oc∧Fm o1∧Fm o2)) (EQ:Aside (mulD o0 ox=o1∧addD o1 oc=o2))
 (N1:Nt 0 w (.slice a (ws (dX o0)).length ca) (dX o0)) (N2:Nt 0 w (.slice b (ws (dX ox)).length cb) (dX ox))
 (HO:Hid (∀ u:World,Tab u→Calls Tryz.prog 57 #[.float .f64 c] u fun r w'=>(∃ v,r=.returned (.tuple #[.agg #[.bool (dN oc),v,.int .i64 (dE oc)],.int .i64 0])∧Nt u.heap.size w' v (dX oc))∧Below u.heap.size u w')) :
 Calls Tryz.prog 59 #[.agg #[.bool (dN o0),.slice a (ws (dX o0)).length ca,.int .i64 (dE o0)],.agg #[.bool (dN ox),.slice b (ws (dX ox)).length cb,.int .i64 (dE ox)],.float .f64 c] w fun r w'=>(∃ v,r=.returned (.tuple #[.agg #[.bool (dN o2),v,.int .i64 (dE o2)],.int .i64 0])∧Nt w.heap.size w' v (dX o2))∧Below w.heap.size w w':=by
 have HT:=qsd hT;obtain ⟨W,hW⟩:∃ W,W=((w.alloc (Obj.cells #[.bool (dN o0),.slice a (ws (dX o0)).length ca,.int .i64 (dE o0)] 47)).alloc (Obj.cells #[.bool (dN ox),.slice b (ws (dX ox)).length cb,.int .i64 (dE ox)] 47)).alloc (Obj.cells #[.bool false,.slice none 0 0,.int .i64 0] 47):=⟨_,rfl⟩
 have H0:Aside (Lo W w.heap.size o0∧Lo W (w.heap.size+1) ox∧Lo W (w.heap.size+2) o00∧Below w.heap.size w W∧W.heap.size=w.heap.size+3):=by
  subst hW;have z2:=Lo.zero ((w.alloc (Obj.cells #[.bool (dN o0),.slice a (ws (dX o0)).length ca,.int .i64 (dE o0)] 47)).alloc (Obj.cells #[.bool (dN ox),.slice b (ws (dX ox)).length cb,.int .i64 (dE ox)] 47));have z1:=(Lo.new (o:=ox) (N2.below (below_alloc w (Obj.cells #[.bool (dN o0),.slice a (ws (dX o0)).length ca,.int .i64 (dE o0)] 47))));rw [World.size_alloc] at z1;rw [World.size_alloc,World.size_alloc] at z2;exact ⟨((Lo.new N1).below (below_alloc _ _)).below (below_alloc _ _),z1.below (below_alloc _ _),z2,((below_alloc _ _).trans ((below_alloc _ _).mono (by simp))).trans ((below_alloc _ _).mono (by simp;omega)),by simp⟩
 have HW:=qsd hW;clear N1 N2 hT hW;have l0:=FF.out.1.len;go_enter Tryz.func59,Tryz.ntmps59
 go_upto_region 1 with fail
 rw [←HW.out];clear HW;have HO1:=hid (HO.out W (HT.out.belows H0.out.2.2.2.1))
 go_wp2_with fail
 refine HO1.out.mono ?_;rintro r u ⟨⟨v,rfl,hN⟩,hb⟩;obtain ⟨a1,c1,rfl,hN0⟩:=Lo.shape FF.out.2.2.1 hN;obtain ⟨U,hU⟩:∃ U,U=u.alloc (Obj.cells #[.bool (dN oc),.slice a1 (ws (dX oc)).length c1,.int .i64 (dE oc)] 47):=⟨_,rfl⟩;have bU:Below W.heap.size W U:=by rw [hU];exact hb.trans ((below_alloc _ _).mono hb.size)
 have H1:Aside (Lo U w.heap.size o0∧Lo U (w.heap.size+1) ox∧Lo U (w.heap.size+2) o00∧Lo U u.heap.size oc∧Below w.heap.size w U∧w.heap.size+2<u.heap.size):=by
  refine ⟨H0.out.1.below bU,H0.out.2.1.below bU,H0.out.2.2.1.below bU,?_,H0.out.2.2.2.1.trans (bU.mono H0.out.2.2.2.1.size),by have:=hb.size;have:=H0.out.2.2.2.2;omega⟩
  rw [hU];exact Lo.new hN0
 have HU:=qsd hU;clear hU hN hN0 hb bU HO1 HO H0
 go_upto_region 4 with fail
 rw [←HU.out];clear HU;obtain ⟨p0,q0,D0,M0⟩:=H1.out.1;obtain ⟨p1,q1,D1,M1⟩:=H1.out.2.1;obtain ⟨x0,x1,x2,xf0,xf1,xf2⟩:=D0.facts;obtain ⟨y0,y1,y2,yf0,yf1,yf2⟩:=D1.facts;have HM:=hid (mulP12 FF.out.1 FF.out.2.1 M0 M1 (HT.out.belows H1.out.2.2.2.2.1) EQ.out.1 FF.out.2.2.2.1);clear D0 M0 D1 M1
 go_wp2_with fail
 refine HM.out.mono ?_;rintro r u2 ⟨⟨v,rfl,hN⟩,hb⟩;obtain ⟨a2,c2,rfl,hN0⟩:=Lo.shape FF.out.2.2.2.1 hN;have s1:=H1.out.1.below hb;have s2:=H1.out.2.2.1.below hb;have s3:=H1.out.2.2.2.1.below hb;have b2:=H1.out.2.2.2.2.1.trans (hb.mono H1.out.2.2.2.2.1.size);obtain ⟨U2,hU2⟩:∃ U2,U2=st3 u2 w.heap.size (.bool (dN o1)) (.slice a2 (ws (dX o1)).length c2) (.int .i64 (dE o1)):=⟨_,rfl⟩
 have H2:Aside (Lo U2 w.heap.size o1∧Lo U2 (w.heap.size+2) o00∧Lo U2 u.heap.size oc∧Below w.heap.size w U2∧w.heap.size+2<u.heap.size):=by
  rw [hU2];have h5:=H1.out.2.2.2.2.2;exact ⟨s1.set hN0,s2.other s1 (by omega) _ _ _,s3.other s1 (by omega) _ _ _,st3_bel12 b2 b2.size (Nat.le_refl _) _ _ _,h5⟩
 obtain ⟨p3,q3,D3,M3⟩:=s1;obtain ⟨z0,z1,z2,zf0,zf1,zf2⟩:=D3.facts;unfold st3 at hU2;have HU2:=qsd hU2;clear D3 M3 hN hN0 hb HM H1 x0 x1 x2 xf0 xf1 xf2 y0 y1 y2 yf0 yf1 yf2 s2 s3 b2 hU2
 go_upto_region 7 with fail
 rw [←HU2.out];clear HU2 z0 z1 z2 zf0 zf1 zf2;obtain ⟨p0,q0,D0,M0⟩:=H2.out.1;obtain ⟨p1,q1,D1,M1⟩:=H2.out.2.2.1;obtain ⟨x0,x1,x2,xf0,xf1,xf2⟩:=D0.facts;obtain ⟨y0,y1,y2,yf0,yf1,yf2⟩:=D1.facts;have HA:=hid (addP12' FF.out.2.2.2.1 FF.out.2.2.1 M0 M1 (HT.out.belows H2.out.2.2.2.1) EQ.out.2 FF.out.2.2.2.2);clear D0 M0 D1 M1
 go_wp2_with fail
 refine HA.out.mono ?_;rintro r u3 ⟨⟨v,rfl,hN⟩,hb⟩;obtain ⟨a3,c3,rfl,hN0⟩:=Lo.shape FF.out.2.2.2.2 hN;have s2:=H2.out.2.1.below hb;have b3:=H2.out.2.2.2.1.trans (hb.mono H2.out.2.2.2.1.size);have h5:=H2.out.2.2.2.2;obtain ⟨p4,q4,D4,M4⟩:=s2;obtain ⟨z0,z1,z2,zf0,zf1,zf2⟩:=D4.facts
 have HF:Aside (Dk (st3 u3 (w.heap.size+2) (.bool (dN o2)) (.slice a3 (ws (dX o2)).length c3) (.int .i64 (dE o2))) (w.heap.size+2) (dN o2) (.slice a3 (ws (dX o2)).length c3) (dE o2)∧Nt w.heap.size (st3 u3 (w.heap.size+2) (.bool (dN o2)) (.slice a3 (ws (dX o2)).length c3) (.int .i64 (dE o2))) (.slice a3 (ws (dX o2)).length c3) (dX o2)∧Below w.heap.size w (st3 u3 (w.heap.size+2) (.bool (dN o2)) (.slice a3 (ws (dX o2)).length c3) (.int .i64 (dE o2)))) :=
  ⟨D4.set _ _ _,(hN.mono (by have:=H2.out.2.2.2.1.size;omega)).off12 D4 _ _ _,st3_bel12 b3 b3.size (by omega) _ _ _⟩
 unfold st3 at HF;clear D4 M4 hN hN0 hb HA H2 x0 x1 x2 xf0 xf1 xf2 y0 y1 y2 yf0 yf1 yf2 b3 h5 FF EQ HT;go_wp2;obtain ⟨f0,f1,f2,_,_,_⟩:=HF.out.1.facts;refine bodyPost_ret (v:=.tuple #[.agg #[.bool (dN o2),.slice a3 (ws (dX o2)).length c3,.int .i64 (dE o2)],.int .i64 0]) (by simp [results,Tryz.results59,go_sem,f0,f1,f2]) rfl ⟨⟨_,rfl,HF.out.2.1⟩,HF.out.2.2⟩
end
section
open Go.RowKit Go.Shelf J
attribute [local go_sem] Oper.semAt_some
abbrev W12:={ x:Nat // x<18446744073709551616 }
def up12 {α:Type} (f:Nat→α) (k:Nat):List α:=(List.range k).map f
theorem up12_succ {α:Type}(f:Nat→α) (k:Nat):up12 f (k+1)=up12 f k++[f k]:=by simp [up12,List.range_succ]
theorem up12_len {α:Type}(f:Nat→α) (k:Nat):(up12 f k).length=k:=by simp [up12]
def dn12 (xs:List Nat) (hW:W64 xs) (n k:Nat):Nat×W12:=(n-1-k,⟨xs.getD (n-1-k) 0,hW.get _⟩)
def Kp12 (n₀ Bs:Nat) (A B:World):Prop:=Below n₀ A B∧B.heap[Bs]?=A.heap[Bs]?
theorem Kp12.trans {n₀ Bs:Nat}{A B C:World}(h:Kp12 n₀ Bs A B) (k:Kp12 n₀ Bs B C):Kp12 n₀ Bs A C:=⟨h.1.trans k.1,k.2.trans h.2⟩
set_option maxRecDepth 100000 in
theorem back1_in (F:Fence) (n:Nat) (h8:F.fn 110) (hro:F.round=none) (hn:1≤n) (l Bs n₀ b off len cap:Nat) (xs:List Nat) (hW:W64 xs) (hlen:len≤33) (hb:b<n₀) (J Jx:List (Nat×W12)→World→Prop)
 (hY:∀ pre x W,J pre W→pre.length<len→YieldAt F (n-1) Tryz.prog l #[.int .i64 (x.1:Int),.float .f64 x.2.1] W fun e W' =>
  (e=.returned (.bool true)∧J (pre++[x]) W'∧Kp12 n₀ Bs W W')∨(e=.returned (.bool false)∧Jx (pre++[x]) W'))
 (W:World) (hBs:W.cell? ⟨Bs,0,none⟩=some (.slice (some ⟨b,off,none⟩) len cap)) (hc:∀ j,j<len→W.cell? ⟨b,off+j,none⟩=some (.float .f64 (xs.getD j 0))) (h0:J [] W) :
 CallsIn F n Tryz.prog 110 #[.func (.yield l) #[] #[],.pointer (some ⟨Bs,0,none⟩)] W fun e W'=>(∃ v,e=.returned v) ∧
  ((∃ ys,ys=up12 (dn12 xs hW len) len∧J ys W')∨(∃ pre,(∃ k,k≤len∧pre=up12 (dn12 xs hW len) k)∧Jx pre W')):=by
 refine callsIn_of_wp Tryz.func110 rfl h8 ?_ hro;simp only [Tryz.ntmps110,List.size_toArray,List.length_cons,List.length_nil,Nat.reduceAdd,Nat.reduceSub,Array.replicate_succ,Array.replicate_zero,List.push_toArray,List.append_toArray,List.nil_append,List.cons_append]
 gi_wp2
 gi_loopw [3] (fun i wr=>∃ m:Nat,m≤len∧i=.int .i64 ((m:Int)-1)∧J (up12 (dn12 xs hW len) (len-m)) wr∧Kp12 n₀ Bs W wr)
  (fun i _=>(intOf i+1).toNat)
 case atStart=>exact ⟨len,Nat.le_refl _,by first | rfl | simp,by simpa [up12] using h0,Below.refl _ _,rfl⟩
 case round =>
  obtain ⟨m,hm,rfl,hJs,hnx⟩:=hrel
  cases m with
  | zero =>
    gi_wp2
    go_end0
    exact ⟨⟨_,rfl⟩,.inl ⟨_,rfl,by simpa using hJs⟩⟩
  | succ j =>
    have ej:((j+1:Nat):Int)-1=(j:Nat):=by omega
    rw [ej];obtain ⟨x,hx⟩:∃ x,x=xs.getD j 0:=⟨_,rfl⟩;have hx64:x<18446744073709551616:=by rw [hx];exact hW.get j
    have hcx:wr.cell? ⟨b,off+j,none⟩=some (.float .f64 x):=by rw [hx];exact (hnx.1.cell (p:=⟨b,off+j,none⟩) hb).trans (hc j (by omega))
    have hcb:wr.cell? ⟨Bs,0,none⟩=some (.slice (some ⟨b,off,none⟩) len cap):=(World.cell?_of_block (a:=⟨Bs,0,none⟩) hnx.2).trans hBs
    have ed:dn12 xs hW len (len-(j+1))=(j,⟨x,hx64⟩):=by
     unfold dn12;have:len-1-(len-(j+1))=j:=by omega
     simp only [this,←hx]
    obtain ⟨fn,tmps,assign,body,hy,hR⟩:=hY _ (j,⟨x,hx64⟩) wr hJs (by rw [up12_len];omega)
    dsimp only at hy
    have hjl:j<len:=by omega
    have hjb:j<33:=by omega
    clear hx
    gi_wp2
    refine hR.mono ?_;rintro e W3 (⟨rfl,hJ3,hk3⟩|⟨rfl,hJx3⟩)
    · gi_wp2
      go_roundw
      case rel=>exact ⟨j,by omega,by first | rfl | simp,by rw [show len-j=len-(j+1)+1 by omega,up12_succ,ed];exact hJ3,hnx.trans hk3⟩
      case measure=>simp [intOf];try omega
    · gi_wp2
      refine bodyPost_ret (results_none rfl _ _ _) rfl ?_;exact ⟨⟨_,rfl⟩,.inr ⟨_,⟨len-(j+1)+1,by omega,by rw [up12_succ,ed]⟩,hJx3⟩⟩
set_option maxRecDepth 100000 in
theorem back1_nil (F:Fence) (n:Nat) (h8:F.fn 110) (hro:F.round=none) (l Bs:Nat) (J:List (Nat×W12)→World→Prop) (W:World) (a:Option Addr) (cap:Nat) (hBs:W.cell? ⟨Bs,0,none⟩=some (.slice a 0 cap)) (h0:J [] W) :
 CallsIn F n Tryz.prog 110 #[.func (.yield l) #[] #[],.pointer (some ⟨Bs,0,none⟩)] W fun e W'=>(∃ v,e=.returned v)∧J [] W':=by
 refine callsIn_of_wp Tryz.func110 rfl h8 ?_ hro;simp only [Tryz.ntmps110,List.size_toArray,List.length_cons,List.length_nil,Nat.reduceAdd,Nat.reduceSub,Array.replicate_succ,Array.replicate_zero,List.push_toArray,List.append_toArray,List.nil_append,List.cons_append]
 gi_wp2
 gi_loopw [3] (fun i wr=>i=.int .i64 (-1)∧J [] wr) (fun _ _=>0)
 case atStart=>exact ⟨by first | rfl | simp,h0⟩
 case round =>
  obtain ⟨rfl,hJs⟩:=hrel
  gi_wp2
  go_end0
  exact ⟨⟨_,rfl⟩,hJs⟩
theorem back_in (F:Fence) (n:Nat) (h6:F.fn 58) (hro:F.round=none) (a:Option Addr) (len cap:Nat) (w:World) :
 CallsIn F n Tryz.prog 58 #[.slice a len cap] w fun e w'=>e=.returned (.func (.func 110) #[] #[.pointer (some ⟨w.heap.size,0,none⟩)])∧w'=w.alloc (.cells #[.slice a len cap] 22):=by
 refine callsIn_of_wp Tryz.func58 rfl h6 ?_ hro;simp only [Tryz.ntmps58,List.size_toArray,List.length_cons,List.length_nil,Nat.reduceAdd,Nat.reduceSub,Array.replicate_succ,Array.replicate_zero,List.push_toArray,List.append_toArray,List.nil_append,List.cons_append]
 gi_wp2
 go_ret;exact ⟨rfl,rfl⟩
theorem back_stops (F:Fence) (n:Nat) (h8:F.fn 110) (hro:F.round=none) (hn:1≤n) (Bs n₀:Nat) (a:Option Addr) (len cap:Nat) (xs:List Nat) (hW:W64 xs) (hl:len=xs.length) (hlen:len≤33) (w:World) (hBs:Bs<w.heap.size) (hn₀:n₀≤w.heap.size)
 (hc:w.cell? ⟨Bs,0,none⟩=some (.slice a len cap)) (hF:Fs n₀ w a xs) :
 SeqStopsK F n Tryz.prog 110 #[.pointer (some ⟨Bs,0,none⟩)] (fun x:Nat×W12=>#[Value.int .i64 (x.1:Int),Value.float .f64 x.2.1]) (Kp12 n₀ Bs) (fun ys=>ys=up12 (dn12 xs hW len) len)
  (fun pre=>∃ k,k≤len∧pre=up12 (dn12 xs hW len) k) len w:=fun l J Jx W hWW _ _ hY h0=>by
 have hc':=(hWW.cell (p:=⟨Bs,0,none⟩) hBs).trans hc
 by_cases hx:xs=[]
 · subst hx
   obtain rfl:len=0:=by simpa using hl
   exact (back1_nil F n h8 hro l Bs J W a cap hc' h0).mono fun e W' ⟨he,hj⟩=>⟨he,.inl ⟨_,rfl,hj⟩⟩
 · obtain ⟨b,off,hb,rfl,hcs⟩:=(hF.below (hWW.mono hn₀)) hx
   exact back1_in F n h8 hro hn l Bs n₀ b off len cap xs hW hlen hb J Jx hY W hc' (fun j hj=>hcs j (by omega)) h0
end
section
open Go.RowKit
theorem cmpZ_scale11 (x y c:Int) (hc:0<c):cmpZ (x*c) (y*c)=cmpZ x y:=by
 unfold cmpZ;have h1:x*c<y*c↔x<y:=⟨fun h=>Int.lt_of_mul_lt_mul_right h (Int.le_of_lt hc),fun h=>Int.mul_lt_mul_of_pos_right h hc⟩
 have h2:y*c<x*c↔y<x:=⟨fun h=>Int.lt_of_mul_lt_mul_right h (Int.le_of_lt hc),fun h=>Int.mul_lt_mul_of_pos_right h hc⟩
 simp only [h1,h2]
theorem frm_fv {n:Bool}{X:Nat}{e:Int}(F:Frm n X e) (B:Int):Fv B (some (n,X,e)) (zv B (n,X,e)):=⟨n,X,e,rfl,F,rfl⟩
theorem ofK_iv (s:Bool) (K:Nat) (hK:K<9218868437227405312):Iv (ofK s K) (-1074) 1024:=by
 obtain ⟨x,hx⟩:∃ x,K/4503599627370496=x:=⟨_,rfl⟩;obtain ⟨f,hf⟩:∃ f,K%4503599627370496=f:=⟨_,rfl⟩;have hxl:x<2047:=by omega
 have hfl:f<4503599627370496:=by omega
 obtain ⟨M,hM⟩:∃ M,(if x=0 then f else f+4503599627370496)=M:=⟨_,rfl⟩
 obtain ⟨E,hE⟩:∃ E:Int,(if x=0 then (-1074:Int) else (x:Int)-1075)=E:=⟨_,rfl⟩
 have hME:(x=0∧M=f∧E=-1074)∨(x≠0∧M=f+4503599627370496∧E=(x:Int)-1075):=by
  by_cases h:x=0
  · rw [if_pos h] at hM hE;exact .inl ⟨h,hM.symm,hE.symm⟩
  · rw [if_neg h] at hM hE;exact .inr ⟨h,hM.symm,hE.symm⟩
 have hMl:M<9007199254740992:=by omega
 have hO:ofK s K=mkS s M E:=by unfold ofK ofR;rw [hx,hf,if_neg (by omega),hM,hE]
 rw [hO];have hb:=bl_le53 M hMl;exact mkS_iv s M E (-1074) 1024 (.inr (by omega)) (by omega) (by omega) (by omega)
end
end Go.Proofs.YthfkleadcnkglaaGreatDoor
