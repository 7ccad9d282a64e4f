import Derived.Test.YtgfemeencgjneaaGreatDoorZ3x
import Derived.Test.YtgfemeencgjneaaGreatDoorD30x
import Derived.Test.YtgfemeencgjneaaGreatDoorD20x
import Derived.Deep.Cut
import Derived.Test.YtgfemeencgjneaaGreatDoorD4x
import Derived.Test.YtgfemeencgjneaaGreatDoorM1x
import Derived.Laws.FloatArith
import Derived.Test.YtgfemeencgjneaaGreatDoorD15x
import Derived.BigQuiet
import Derived.Test.YtgfemeencgjneaaGreatDoorW8x
import Derived.Deep.RegionWith
import Derived.Deep.RegionHeld3
import Derived.Deep.CutRange
import Derived.Test.YtgfemeencgjneaaGreatDoorS15x
import Derived.ProofKit
import Derived.OpenShut
import Derived.ChangeOld
import Derived.SizedLaws
import Derived.ChangeArms
import Derived.KernelRfl
import Derived.ArgAppend
import Derived.Maps.AppendAt
import Derived.WalkMore
import Derived.OwnWalk
import Derived.RangeFuncNested
import Derived.RangeFuncBound
import Derived.RangeFuncCalls
import Derived.RangeFuncLeaves
import Derived.RangeFuncBox
import Derived.Shelf.Abstract
import Derived.Shelf.RegionOpen
import Derived.WalkKit
import Derived.OwnWalkIn
import Derived.TacticsInMore
import Derived.LoopNIn
import Derived.LoopIn
import Derived.Test.YtgfemeencgjneaaGreatDoorS6x
import Derived.Deep.RegionHeld
import Derived.Defers
import Derived.Laws.CopyOwn
import Derived.Deep.OwnRows
import Derived.Laws.MakeOwn
set_option linter.unusedVariables false
set_option linter.unusedSimpArgs false
set_option maxHeartbeats 16000000
set_option maxRecDepth 20000
namespace Go.Proofs.YtgfemeencgjneaaGreatDoor
namespace J
end J
section
open Go.RowKit
theorem one_begin (w:World) (n:Bool) (v:Value) (e:Int) (m:Bool) (u:Value) (f:Int) (W:World) (hW:W=w.alloc (.cells #[.bool n,v,.int .i64 e,.bool m,u,.int .i64 f] 78)) :
 Below w.heap.size w W∧W.heap.size=w.heap.size+1∧Rq W w.heap.size n v e m u f:=by
 rw [hW];exact ⟨below_alloc w _,by simp,Rq.new _ _ _ _ _ _ _⟩
theorem rounded_quotient64 {w:World}{n m:Bool}{a b:Option Addr}{la ca lb cb:Nat}{X Y:Nat}{e f:Int}(mode:Int) (hr:Rv w ⟨n,.slice a la ca,X,e,m,.slice b lb cb,Y,f⟩) (hT:Tab w)
 (o1 o2 z:Option (Bool×Nat×Int)) (ew:Int) (rw':Nat×Int) (ho1:mkS n X e=o1) (ho2:mkS m Y f=o2) (lz:(ws (dX z)).length≤8192) (hew:ew≠0→rw'.1=0∧rw'.2=ew)
 (ANS:Nat×Int) (hANS:ANS=if mode<0∨4<mode then (0,1) else if errL (fun _=>(⟨n,.slice a la ca,X,e,m,.slice b lb cb,Y,f⟩:Ri)) 1=0 then rw' else (0,errL (fun _=>(⟨n,.slice a la ca,X,e,m,.slice b lb cb,Y,f⟩:Ri)) 1))
 (HW:Hid (∀ (u:World) (p q:Value),Below w.heap.size w u→Nt w.heap.size u p (dX o1)→Nt w.heap.size u q (dX o2)→errL (fun _=>(⟨n,.slice a la ca,X,e,m,.slice b lb cb,Y,f⟩:Ri)) 1=0→Calls Tryz.prog 116 #[.agg #[.bool (dN o1),p,.int .i64 (dE o1),.bool (dN o2),q,.int .i64 (dE o2)]] u fun r w'=>(∃ v,r=.returned (.tuple #[.agg #[.bool (dN z),v,.int .i64 (dE z)],.int .i64 ew])∧Nt u.heap.size w' v (dX z))∧Below u.heap.size u w'))
 (HR:Hid (∀ (u:World) (p:Option Addr) (q:Nat),ew=0→¬ (mode<0∨4<mode)→errL (fun _=>(⟨n,.slice a la ca,X,e,m,.slice b lb cb,Y,f⟩:Ri)) 1=0→Below w.heap.size w u→Arg u p (ws (dX z)).length q (ws (dX z))→Calls Tryz.prog 117 #[.agg #[.bool (dN z),.slice p (ws (dX z)).length q,.int .i64 (dE z)],.int .i64 mode] u fun r w'=>r=.returned (.tuple #[.float .f64 rw'.1,.int .i64 rw'.2])∧Below u.heap.size u w')) :
 Calls Tryz.prog 115 #[.agg #[.bool n,.slice a la ca,.int .i64 e,.bool m,.slice b lb cb,.int .i64 f],.int .i64 mode,.func (.func 116) #[] #[],.func (.func 117) #[] #[]] w fun r w'=>r=.returned (.tuple #[.float .f64 ANS.1,.int .i64 ANS.2])∧Below w.heap.size w w':=by
 obtain ⟨W1,hW1⟩:∃ W,W=w.alloc (.cells #[.bool n,.slice a la ca,.int .i64 e,.bool m,.slice b lb cb,.int .i64 f] 78):=⟨_,rfl⟩;obtain ⟨hB,hz1,Q1⟩:=one_begin w n _ e m _ f W1 hW1
 by_cases hm:mode<0∨4<mode
 · rw [if_pos hm] at hANS
   subst hANS;have S0:=qsd hB;clear hB hz1 Q1 HW HR hr hT
   by_cases hm0:mode<0
   · have d1:=decide_eq_true hm0
     go_enter Tryz.func115,Tryz.ntmps115
     go_upto_region 1 with fail
     rw [←hW1];clear hW1;go_wp2
     go_ret2
     exact ⟨rfl,S0.out⟩
   · have d1:=decide_eq_false hm0
     have hm4:4<mode:=by omega
     have d2:=decide_eq_true hm4;clear hm;go_enter Tryz.func115,Tryz.ntmps115
     go_upto_region 1 with fail
     rw [←hW1];clear hW1;go_wp2
     go_ret2
     exact ⟨rfl,S0.out⟩
 · rw [if_neg hm] at hANS
   obtain ⟨R,hR⟩:∃ R,R=W1.alloc (.cells #[.bool n,.slice a la ca,.int .i64 e,.bool m,.slice b lb cb,.int .i64 f] 78):=⟨_,rfl⟩;have hin:=rin1 W1 _ (hr.below hB) (hT.belows hB) R hR;have hbR:Below W1.heap.size W1 R:=by rw [hR];exact below_alloc _ _
   have HF:=hid (forms1 R W1.heap.size _ hin);obtain ⟨I,hI⟩:∃ I:Nat→Ri,(fun _=>(⟨n,.slice a la ca,X,e,m,.slice b lb cb,Y,f⟩:Ri))=I:=⟨_,rfl⟩
   rw [hI] at HF hANS HW HR;obtain ⟨x0,x1,x2,x3,x4,x5⟩:=Q1.facts;have HAn:=qsd hANS;have S0:=(qsd (ai (hB.trans (hbR.mono hB.size)) (ai hI (ai ho1 ho2))));have d1:decide (mode<0)=false:=decide_eq_false (fun h=>hm (.inl h))
   have d2:decide (4<mode)=false:=decide_eq_false (fun h=>hm (.inr h))
   have HM:=qsd hm;obtain ⟨g12,hg12⟩:∃ g,W1.heap.size=g:=⟨_,rfl⟩;rw [hg12] at HF;clear hB hz1 Q1 hin hbR hr hT hANS hI ho1 ho2 hm;go_enter Tryz.func115,Tryz.ntmps115
   go_upto_region 1 with fail
   rw [←hW1];clear hW1
   go_wp2_with fail
   rw [←hR];clear hR hg12 x0 x1 x2 x3 x4 x5;refine HF.out.mono ?_;rintro r u1 ⟨hor,hb⟩;clear HF;obtain ⟨bel,hI,ho1,ho2⟩:=S0.out;have S1:=qsd (bel.trans (hb.mono bel.size))
   rcases hor with ⟨hne,rfl⟩|⟨h0,g',V,rfl,hO⟩
   · have HA2:=HAn.out
     rw [if_neg hne] at HA2;obtain ⟨er,her⟩:∃ er,errL I 1=er:=⟨_,rfl⟩;rw [her] at hne HA2 ⊢;have HA3:=qsd HA2;have hnb:(er==0)=false:=by simp [hne]
     clear HAn HA2 her hne bel hb hI ho1 ho2 S0 HW HR;go_wp2
     go_ret2
     rw [HA3.out];exact ⟨rfl,S1.out⟩
   · have HA2:=HAn.out
     rw [if_pos h0] at HA2;obtain ⟨q0,q1,q2,q3,q4,q5⟩:=hO.row.facts 0 (by omega)
     obtain ⟨N1,N2⟩:=hO.nts 0 (by omega)
     simp only [Nat.zero_mul,Nat.zero_add] at q0 q1 q2 q3 q4 q5;unfold frmI at q0 q1 q2 q3 q4 q5;have e0:I 0=⟨n,.slice a la ca,X,e,m,.slice b lb cb,Y,f⟩:=by rw [←hI]
     rw [e0] at N1 N2;simp only [e0] at q0 q1 q2 q3 q4 q5 N1 N2;have m1:=mkS_len n X e;have m2:=mkS_len m Y f;rw [ho1] at q0 q2 N1 m1;rw [ho2] at q3 q5 N2 m2;obtain ⟨v1,hv1⟩:∃ v1,(V 0).1=v1:=⟨_,rfl⟩;obtain ⟨v2,hv2⟩:∃ v1,(V 0).2=v1:=⟨_,rfl⟩;rw [hv1] at q1 N1;rw [hv2] at q4 N2;obtain ⟨a1,c1,rfl,_⟩:=N1.arg (by omega)
     obtain ⟨a2,c2,rfl,_⟩:=N2.arg (by omega)
     have HC:=hid (HW.out u1 _ _ (bel.trans (hb.mono bel.size)) (N1.mono (by have:=bel.size;omega)) (N2.mono (by have:=bel.size;omega)) h0)
     have S2:=(qsd (ai h0 HA2));clear HAn HA2 bel hb hI ho1 ho2 S0 hO N1 N2 HW h0 hv1 hv2 e0
     go_wp2_with fail
     clear q0 q1 q2 q3 q4 q5;refine HC.out.mono ?_;rintro r u2 ⟨⟨v,rfl,NZ⟩,hb⟩;obtain ⟨az,cz,rfl,_⟩:=NZ.arg (by omega)
     clear HC;obtain ⟨U3,hU3⟩:∃ U,U=u2.alloc (.cells #[.bool (dN z),.slice az (ws (dX z)).length cz,.int .i64 (dE z)] 70):=⟨_,rfl⟩;have hbA:Below u2.heap.size u2 U3:=by rw [hU3];exact below_alloc _ _
     have bb:=S1.out.trans (hb.mono S1.out.size);have bc:=bb.trans (hbA.mono bb.size)
     by_cases hew0:ew=0
     · have TZ:Tk U3 u2.heap.size 70 (.bool (dN z)) (.slice az (ws (dX z)).length cz) (.int .i64 (dE z)):=by rw [hU3];exact Tk.new _ _ _ _ _
       have HD:=hid (HR.out U3 az cz hew0 HM.out S2.out.1 bc ((NZ.below hbA).arg' (by omega)).2)
       obtain ⟨x0,x1,x2,_,_,_⟩:=TZ.facts;have S3:=(qsd (ai bc S2.out.2));clear bb bc hb hbA NZ TZ S1 S2 HR HM hew;subst hew0
       go_upto_region 7 with fail
       rw [←hU3];clear hU3
       go_wp2_with fail
       refine HD.out.mono ?_;rintro r u3 ⟨rfl,hb⟩;have S4:=qsd (S3.out.1.trans (hb.mono S3.out.1.size));clear hb HD x0 x1 x2;go_wp2
       go_ret2
       rw [S3.out.2];exact ⟨rfl,S4.out⟩
     · have hnb:(ew==0)=false:=by simp [hew0]
       have hA:ANS=(0,ew):=by
        rw [S2.out.2];have:=hew hew0;rw [←this.1,←this.2]
       have S3:=(qsd (ai bc hA));clear bb bc hb hbA NZ S1 S2 HR HM hew hA hew0
       go_upto_region 7 with fail
       rw [←hU3];clear hU3;go_wp2
       go_ret2
       rw [S3.out.2];exact ⟨rfl,S3.out.1⟩
theorem Quot_box {w:World}{a b:Option Addr}{la ca lb cb:Nat}(n m:Bool) (e f mode:Int) (ANS:Nat×Int)
 (HR:Hid (∀ u:World,Below w.heap.size w u→Calls Tryz.prog 115 #[.agg #[.bool n,.slice a la ca,.int .i64 e,.bool m,.slice b lb cb,.int .i64 f],.int .i64 mode,.func (.func 116) #[] #[],.func (.func 117) #[] #[]] u fun r w'=>r=.returned (.tuple #[.float .f64 ANS.1,.int .i64 ANS.2])∧Below u.heap.size u w')) :
 Calls Tryz.prog 83 #[.agg #[.bool n,.slice a la ca,.int .i64 e,.bool m,.slice b lb cb,.int .i64 f],.int .i64 mode] w fun r w'=>r=.returned (.tuple #[.float .f64 ANS.1,.int .i64 ANS.2])∧Below w.heap.size w w':=by
 obtain ⟨W1,hW1⟩:∃ W,W=w.alloc (.cells #[.bool n,.slice a la ca,.int .i64 e,.bool m,.slice b lb cb,.int .i64 f] 78):=⟨_,rfl⟩;obtain ⟨hB,hz1,Q1⟩:=one_begin w n _ e m _ f W1 hW1;have HC:=hid (HR.out W1 hB);obtain ⟨x0,x1,x2,x3,x4,x5⟩:=Q1.facts;have S0:=qsd hB;clear hB hz1 Q1 HR;go_enter Tryz.func83,Tryz.ntmps83
 go_upto_region 1 with fail
 rw [←hW1];clear hW1
 go_wp2_with fail
 refine HC.out.mono ?_;rintro r u1 ⟨rfl,hb⟩;have S1:=qsd (S0.out.trans (hb.mono S0.out.size));clear hb HC x0 x1 x2 x3 x4 x5;go_wp2
 go_ret2
 exact ⟨rfl,S1.out⟩
end
section
open Go.RowKit
theorem mkS_small (n:Bool) (M:Nat) (E:Int) (hM:M≠0) (hb:bl M≤1001) (h0:-4096≤E) (h1:E≤4096):mkS n M E=some (n,M/2^lo M,E+lo M)∧(M/2^lo M)%2=1∧M=M/2^lo M*2^lo M∧lo M≤1001:=by
 obtain ⟨q,h2,h3,h4⟩:=odd_part M hM;refine ⟨?_,by omega,by rw [h3,Nat.mul_comm];exact h2,by omega⟩
 unfold mkS;rw [if_neg hM,if_neg (by omega)]
def quoZ (n:Bool) (X:Nat) (e:Int) (Y:Nat) (f:Int):Option (Bool×Nat×Int):=mkS n (2*whoS X Y 64+(if atS X Y 64 then 0 else 1)) (clampE (e-f-byS X Y 64-cutS Y 64))
theorem clamp_rng (x:Int):-4096≤clampE x∧clampE x≤4096:=by unfold clampE;omega
theorem bl_two {W d k:Nat}(h:W<2^k) (hd:d≤1):bl (2*W+d)≤k+1:=bl_lt_pow (by rw [Nat.pow_succ];omega)
theorem grid64:Grid vK 9218868437227405312:=by
 refine ⟨by decide,?_,fun {k l} h=>vK_lt.2 h,fun k hk=>?_⟩
 · have:=vK_word 0 0 (.inl rfl) (by omega)
   simpa using this
 · by_cases h:k<4503599627370496
   · refine ⟨k,0,?_,?_,by omega,by omega⟩
     · have:=vK_word 0 k (.inl rfl) (by omega);rw [Nat.zero_mul,Nat.zero_add] at this;exact this
     · have:=vK_word 0 (k+1) (.inl rfl) (by omega);rw [Nat.zero_mul,Nat.zero_add] at this;exact this
   · obtain ⟨q,hq⟩:∃ q,k/4503599627370496=q:=⟨_,rfl⟩
     obtain ⟨g,hg⟩:∃ g,k%4503599627370496=g:=⟨_,rfl⟩;refine ⟨4503599627370496+g,q-1,?_,?_,by omega,by omega⟩
     · have:=vK_word (q-1) (4503599627370496+g) (.inr (by omega)) (by omega)
       rw [show (q-1)*4503599627370496+(4503599627370496+g)=k by omega] at this
       exact this
     · have:=vK_word (q-1) (4503599627370496+g+1) (.inr (by omega)) (by omega)
       rw [show (q-1)*4503599627370496+(4503599627370496+g+1)=k+1 by omega] at this
       exact this
theorem liesG64 {K:Nat}{t:Bool}{m:Int}{V S':Nat}(h:Lies K t m V S'):LiesG vK 9218868437227405312 1 K t m V S':=by
 refine ⟨h.fin,h.pos,fun ht=>?_,fun ht=>?_,fun ht hl=>?_,fun ht=>?_⟩
 · rw [Nat.pow_one];exact h.one ht
 · rw [Nat.pow_one];exact h.low ht
 · rw [Nat.pow_one] at hl
   have:=h.mids ht hl;rw [Nat.pow_one,Nat.pow_one,Nat.add_mul];exact this
 · rw [Nat.pow_one]
   rcases h.high ht with q|⟨q,r⟩
   · exact .inl q
   · exact .inr ⟨by omega,r⟩
theorem stand64 (n:Bool) (M:Nat) (E:Int) (hM:M≠0) (hb:bl M≤1001) (h0:-4096≤E) (h1:E≤4096) :
 ∃ K t m,LiesG vK 9218868437227405312 1 K t m (M*2^(E+(1074:Nat)).toNat) (2^(-(E+(1074:Nat))).toNat)∧∀ mode:Int,0≤mode→mode≤4→rndS (mkS n M E) mode=(rK mode n K t m+(if n then 9223372036854775808 else 0),0):=by
 obtain ⟨e1,e2,e3,e4⟩:=mkS_small n M E hM hb h0 h1;obtain ⟨M',hM'⟩:∃ M',M/2^lo M=M':=⟨_,rfl⟩;obtain ⟨l,hl⟩:∃ l,lo M=l:=⟨_,rfl⟩;rw [hM',hl] at e1 e3;rw [hM'] at e2;rw [hl] at e4;have hL:=lies M' (E+l) e2 (by omega) (by omega) (min E (-1074)) (by omega) (by omega)
 refine ⟨flK M' (E+l),(plc 53 (-1074) 1024 M' (E+l)).2.2.1,(plc 53 (-1074) 1024 M' (E+l)).2.2.2,?_,?_⟩
 · have:=liesG64 hL
   rw [e3]
   have w1:M'*2^(E+(l:Int)-min E (-1074)).toNat=M'*2^l*2^(E+(1074:Nat)).toNat:=by
    rw [Nat.mul_assoc,←Nat.pow_add];congr 2;omega
   have w2:(-1074-min E (-1074)).toNat=(-(E+(1074:Nat))).toNat:=by omega
   rw [w1,w2] at this;exact this
 · intro mode hm0 hm4
   rw [e1];unfold rndS;rw [if_neg (by omega)]
   simp only;rw [if_neg (by omega),rndK_eq]
theorem quo64 (n:Bool) (X:Nat) (e:Int) (Y:Nat) (f:Int) (hX:X%2=1) (hY:Y≠0) (bX:bl X≤262144) (bY:bl Y≤262144) :
 ∃ K t m,LiesG vK 9218868437227405312 1 K t m (rV11 X e f 1074 1) (rS11 Y e f 1074 1)∧∀ mode:Int,0≤mode→mode≤4→rndS (quoZ n X e Y f) mode=(rK mode n K t m+(if n then 9223372036854775808 else 0),0):=by
 have D:=divS_facts X Y 64 (.inr hX) hY (by omega) (by omega) bX bY
 have hX0:X≠0:=by omega
 have hW1:=D.least hX0;have hW2:=D.most;have c63:(2:Nat)^(64-1)=9223372036854775808:=by decide
 have sp:=quo_span X Y e f 1074 hY D;have hd:(if atS X Y 64 then 0 else 1)≤1:=by split <;> omega
 obtain ⟨K,t,m,hL,hR⟩:=stand64 n (2*whoS X Y 64+(if atS X Y 64 then 0 else 1)) (clampE (e-f-byS X Y 64-cutS Y 64)) (by omega) (by have:=bl_two hW2 hd;omega) (clamp_rng _).1 (clamp_rng _).2
 refine ⟨K,t,m,hL.of_alike grid64 (by omega) sp.pos ?_,hR⟩
 exact alike_clamp 1 (whoS X Y 64) _ _ _ 1074 _ (by omega) (by omega) (Nat.lt_trans hW2 (by decide)) hd (by omega) (by omega) sp
theorem quoZ_some (n:Bool) (X:Nat) (e:Int) (Y:Nat) (f:Int) (hX:X=0∨X%2=1) (hY:Y≠0) (bX:bl X≤262144) (bY:bl Y≤262144):(quoZ n X e Y f).isSome=true:=by
 have D:=divS_facts X Y 64 hX hY (by omega) (by omega) bX bY
 have hW2:=D.most;have hd:(if atS X Y 64 then 0 else 1)≤1:=by split <;> omega
 have hb:=bl_two hW2 hd;unfold quoZ
 by_cases hM:2*whoS X Y 64+(if atS X Y 64 then 0 else 1)=0
 · rw [hM,mkS_zero];rfl
 · rw [(mkS_small n _ _ hM (by omega) (clamp_rng _).1 (clamp_rng _).2).1];rfl
end
section
open Go.RowKit
def oneI (r:Ri):Nat→Ri:=fun _=>r
noncomputable def quoR (rnd:Option (Bool×Nat×Int)→Int→Nat×Int) (r:Ri) (mode:Int):Nat×Int :=
 if mode<0∨4<mode then (0,1) else if errL (oneI r) 1=0 then rnd (quoZ (dN (mkS r.n r.X r.e)) (dX (mkS r.n r.X r.e)) (dE (mkS r.n r.X r.e)) (dX (mkS r.m r.Y r.f)) (dE (mkS r.m r.Y r.f))) mode else (0,errL (oneI r) 1)
theorem frm_of {n:Bool}{X:Nat}{e:Int}(h:(mkS n X e).isSome=true):Frm (dN (mkS n X e)) (dX (mkS n X e)) (dE (mkS n X e)):=by
 cases ho:mkS n X e with
 | none=>rw [ho] at h;cases h
 | some d =>
   obtain ⟨n1,X1,e1⟩:=d;exact mkS_frm ho
theorem Frm.par {n:Bool}{X:Nat}{e:Int}(h:Frm n X e):X=0∨X%2=1:=by rcases h.odd with q | q;exact .inr q;exact .inl q.1
theorem quo_reform (n:Bool) (X:Nat) (e:Int) (Y:Nat) (f:Int) (hs:(quoZ n X e Y f).isSome=true):mkS (dN (quoZ n X e Y f)) (dX (quoZ n X e Y f)) (dE (quoZ n X e Y f))=quoZ n X e Y f:=reform (o:=quoZ n X e Y f) rfl hs
theorem Quot11 {w:World}{n m:Bool}{a b:Option Addr}{la ca lb cb:Nat}{X Y:Nat}{e f:Int}(mode:Int) (hr:Rv w ⟨n,.slice a la ca,X,e,m,.slice b lb cb,Y,f⟩) (hT:Tab w) :
 Calls Tryz.prog 83 #[.agg #[.bool n,.slice a la ca,.int .i64 e,.bool m,.slice b lb cb,.int .i64 f],.int .i64 mode] w fun r w' =>
  r=.returned (.tuple #[.float .f64 (quoR rndS ⟨n,.slice a la ca,X,e,m,.slice b lb cb,Y,f⟩ mode).1,.int .i64 (quoR rndS ⟨n,.slice a la ca,X,e,m,.slice b lb cb,Y,f⟩ mode).2])∧Below w.heap.size w w':=by
 refine Quot_box n m e f mode (quoR rndS ⟨n,.slice a la ca,X,e,m,.slice b lb cb,Y,f⟩ mode) ?_;intro u hu;have hrT:=hr.below hu;have hTu:=hT.belows hu;refine rounded_quotient64 mode hrT hTu (mkS n X e) (mkS m Y f) (quoZ (dN (mkS n X e)) (dX (mkS n X e)) (dE (mkS n X e)) (dX (mkS m Y f)) (dE (mkS m Y f))) 0 (rndS (quoZ (dN (mkS n X e)) (dX (mkS n X e)) (dE (mkS n X e)) (dX (mkS m Y f)) (dE (mkS m Y f))) mode) rfl rfl (mkS_len _ _ _) (fun h=>absurd rfl h) _ rfl ?_ ?_
 · intro v p q hv N1 N2 h0
   obtain ⟨k1,k2,k3,k4⟩:=errL0 h0 0 (by omega)
   simp only at k1 k2 k3 k4;have F1:=frm_of k2;have F2:=frm_of k3;obtain ⟨a1,c1,rfl,A1⟩:=N1.arg (by have:=frm_len F1;omega)
   obtain ⟨a2,c2,rfl,A2⟩:=N2.arg (by have:=frm_len F2;omega)
   have hq:=quotient_any (dN (mkS n X e)) (dN (mkS m Y f)) (dX (mkS n X e)) (dX (mkS m Y f)) (dE (mkS n X e)) (dE (mkS m Y f)) A1 A2 (hTu.belows hv) F1.par k4 F1.down F1.up F2.down F2.up F1.size F2.size;have hs:=quoZ_some (dN (mkS n X e)) (dX (mkS n X e)) (dE (mkS n X e)) (dX (mkS m Y f)) (dE (mkS m Y f)) F1.par k4 F1.size F2.size;have he:erS (quoZ (dN (mkS n X e)) (dX (mkS n X e)) (dE (mkS n X e)) (dX (mkS m Y f)) (dE (mkS m Y f)))=0:=by unfold erS;rw [hs];rfl
   unfold DAns at hq;rw [show mkS (dN (mkS n X e)) (2*whoS (dX (mkS n X e)) (dX (mkS m Y f)) 64+(if atS (dX (mkS n X e)) (dX (mkS m Y f)) 64 then 0 else 1)) (clampE (dE (mkS n X e)-dE (mkS m Y f)-byS (dX (mkS n X e)) (dX (mkS m Y f)) 64-cutS (dX (mkS m Y f)) 64))=quoZ (dN (mkS n X e)) (dX (mkS n X e)) (dE (mkS n X e)) (dX (mkS m Y f)) (dE (mkS m Y f)) from rfl,he] at hq
   exact hq
 · intro v p q _ hm h0 hv hA
   obtain ⟨k1,k2,k3,k4⟩:=errL0 h0 0 (by omega)
   simp only at k1 k2 k3 k4;have F1:=frm_of k2;have F2:=frm_of k3;have hs:=quoZ_some (dN (mkS n X e)) (dX (mkS n X e)) (dE (mkS n X e)) (dX (mkS m Y f)) (dE (mkS m Y f)) F1.par k4 F1.size F2.size;have rg:=frm_rng (o:=quoZ (dN (mkS n X e)) (dX (mkS n X e)) (dE (mkS n X e)) (dX (mkS m Y f)) (dE (mkS m Y f))) rfl;have hR:=Round_any hA (hTu.belows hv) (dN (quoZ (dN (mkS n X e)) (dX (mkS n X e)) (dE (mkS n X e)) (dX (mkS m Y f)) (dE (mkS m Y f)))) (dE (quoZ (dN (mkS n X e)) (dX (mkS n X e)) (dE (mkS n X e)) (dX (mkS m Y f)) (dE (mkS m Y f)))) mode (by omega) (by omega)
   rw [val_ws,quo_reform _ _ _ _ _ hs] at hR;exact hR
end
section
open Go.RowKit
def errN (X:Nat) (n:Bool) (e:Int) (Y:Nat) (m:Bool) (f:Int):Int:=if sgn m Y<0 then 1 else if (mkS n X e).isSome&&(mkS m Y f).isSome then (if dX (mkS m Y f)=0 then 21 else 0) else 2
theorem errL_one (r:Ri):errL (oneI r) 1=errN r.X r.n r.e r.Y r.m r.f:=by
 unfold errL errN oneI;simp only [show List.range 1=[0] from rfl,List.any_cons,List.any_nil,Bool.or_false,decide_eq_true_eq]
 cases (mkS r.n r.X r.e).isSome <;> cases (mkS r.m r.Y r.f).isSome <;> simp
theorem mkS_pow11 (n:Bool) (k Y:Nat) (e:Int):mkS n (2^k*Y) e=mkS n Y (e+k):=by
 induction k generalizing e with
 | zero=>simp
 | succ k ih=>rw [Nat.pow_succ,Nat.mul_comm (2^k) 2,Nat.mul_assoc,mkS_double,ih];congr 1;omega
end
section
open Go.RowKit
def Iv (o:Option (Bool×Nat×Int)) (lo hi:Int):Prop:=∃ n X e,o=some (n,X,e)∧Frm n X e∧(X=0∨(lo≤e∧e+(bl X:Int)≤hi))
theorem Iv.mono {o:Option (Bool×Nat×Int)}{a b c d:Int}(h:Iv o a b) (h1:c≤a) (h2:b≤d):Iv o c d:=by
 obtain ⟨n,X,e,h,F,hb⟩:=h;exact ⟨n,X,e,h,F,by omega⟩
theorem mkS_iv (n:Bool) (X:Nat) (e a b:Int) (h:X=0∨(a≤e∧e+(bl X:Int)≤b)) (hw:b-a≤262144) (ha:-1048576≤a) (hb:b≤1048576):Iv (mkS n X e) a b:=by
 by_cases h0:X=0
 · subst h0
   rw [mkS_zero];exact ⟨false,0,0,rfl,⟨.inr ⟨rfl,rfl,rfl⟩,by rw [bl_zero];omega,by omega,by omega⟩,.inl rfl⟩
 · obtain ⟨h1,h2⟩:=h.resolve_left h0
   obtain ⟨k,o1,o2,o3⟩:=odd_part X h0;have hp:=bl_pos (X/2^lo X) (by omega)
   have e1:mkS n X e=some (n,X/2^lo X,e+lo X):=by
    unfold mkS;rw [if_neg h0,if_neg (by omega)]
   exact ⟨n,_,_,e1,mkS_frm e1,.inr (by omega)⟩
theorem bl_mul_le (X Y:Nat):bl (X*Y)≤bl X+bl Y:=bl_lt_pow (by rw [Nat.pow_add];exact Nat.mul_lt_mul'' (bl_lt X) (bl_lt Y))
theorem Iv.mul {o p:Option (Bool×Nat×Int)}{a b c d:Int}(h1:Iv o a b) (h2:Iv p c d) (hw:(b+d)-(a+c)≤262144) (hl:-1048576≤a+c) (hh:b+d≤1048576):Iv (mulD o p) (a+c) (b+d):=by
 obtain ⟨n,X,e,rfl,F,hx⟩:=h1;obtain ⟨m,Y,f,rfl,G,hy⟩:=h2
 show Iv (mkS (n != m) (X*Y) (e+f)) _ _
 refine mkS_iv _ _ _ _ _ ?_ hw hl hh
 rcases hx with rfl|hx
 · left;rw [Nat.zero_mul]
 · rcases hy with rfl | hy
   · left;rw [Nat.mul_zero]
   · right
     have:=bl_mul_le X Y;omega
theorem pow_bound {X k:Nat}{j:Nat}(h:bl X+k≤j):X*2^k<2^j:=by
 have h1:=bl_lt X;have h2:X*2^k<2^bl X*2^k:=Nat.mul_lt_mul_of_pos_right h1 (Nat.two_pow_pos k);rw [←Nat.pow_add] at h2;exact Nat.lt_of_lt_of_le h2 (Nat.pow_le_pow_right (by decide) h)
theorem addUp_iv (n m:Bool) (X Y:Nat) (e f a b:Int) (hfe:f≤e) (ha:a≤f) (h1:e+(bl X:Int)≤b) (h2:f+(bl Y:Int)≤b) (hw:b+1-a≤262144) (hl:-1048576≤a) (hh:b+1≤1048576) (hX:X≠0):Iv (addUp n X e m Y f) a (b+1):=by
 have hp:=bl_pos X hX;unfold addUp;rw [if_neg (by omega)]
 obtain ⟨j,hj⟩:∃ j:Nat,(j:Int)=b-f:=⟨(b-f).toNat,by omega⟩
 have b1:X*2^(e-f).toNat<2^j:=pow_bound (by omega)
 have b2:Y<2^j:=Nat.lt_of_lt_of_le (bl_lt Y) (Nat.pow_le_pow_right (by decide) (by omega))
 have fin:∀ (s:Bool) (Z:Nat),Z<2^(j+1)→Iv (mkS s Z f) a (b+1):=by
  intro s Z hZ;refine mkS_iv s Z f a (b+1) ?_ hw hl hh
  by_cases h0:Z=0
  · exact .inl h0
  · right
    have:=bl_lt_pow hZ;omega
 have b3:(2:Nat)^(j+1)=2*2^j:=by rw [Nat.pow_succ,Nat.mul_comm]
 split
 · exact fin _ _ (by omega)
 · split
   · exact fin _ _ (by omega)
   · exact fin _ _ (by omega)
theorem Iv.add {o p:Option (Bool×Nat×Int)}{a b:Int}(h1:Iv o a b) (h2:Iv p a b) (hw:b+1-a≤262144) (hl:-1048576≤a) (hh:b+1≤1048576):Iv (addD o p) a (b+1):=by
 have h1':=h1;have h2':=h2;obtain ⟨n,X,e,rfl,F,hx⟩:=h1;obtain ⟨m,Y,f,rfl,G,hy⟩:=h2
 show Iv (addF (n,X,e) (m,Y,f)) a (b+1)
 unfold addF;simp only
 by_cases hX:X=0
 · rw [if_pos hX];exact h2'.mono (by omega) (by omega)
 · rw [if_neg hX]
   by_cases hY:Y=0
   · rw [if_pos hY];exact h1'.mono (by omega) (by omega)
   · rw [if_neg hY]
     have ex:=hx.resolve_left hX;have ey:=hy.resolve_left hY
     split
     · exact addUp_iv m n Y X f e a b (by omega) ex.1 ey.2 ex.2 hw hl hh hY
     · exact addUp_iv n m X Y e f a b (by omega) ey.1 ex.2 ey.2 hw hl hh hX
def valO (o:Option (Bool×Nat×Int)):Int:=zv (-1048576) (dN o,dX o,dE o)
theorem fvO {o:Option (Bool×Nat×Int)}{n:Bool}{X:Nat}{e:Int}(h:mkS n X e=o) (hs:o.isSome=true):Fv (-1048576) o (valO o):=by
 cases o with
 | none=>cases hs
 | some d=>obtain ⟨n1,X1,e1⟩:=d;exact ⟨n1,X1,e1,rfl,mkS_frm h,rfl⟩
theorem Fv.zero_iff {o:Option (Bool×Nat×Int)}{B z:Int}(h:Fv B o z):dX o=0↔z=0:=by
 obtain ⟨n,X,e,rfl,F,rfl⟩:=h.ex
 constructor
 · intro h0;exact zv_zero B h0
 · intro h0
   show X=0
   rcases Nat.eq_zero_or_pos X with q|q
   · exact q
   · exfalso
     have:=Nat.mul_pos q (Nat.two_pow_pos (e-B).toNat);unfold zv sg1 at h0
     cases n <;> simp only [Bool.false_eq_true,if_false,if_true] at h0 <;> omega
theorem Fv.neg_iff {o:Option (Bool×Nat×Int)}{B z:Int}(h:Fv B o z):dN o=true↔z<0:=by
 obtain ⟨n,X,e,rfl,F,rfl⟩:=h.ex
 show n=true↔_
 rcases F.odd with q|⟨rfl,rfl,rfl⟩
 · have:=Nat.mul_pos (show 0<X by omega) (Nat.two_pow_pos (e-B).toNat)
   unfold zv sg1
   cases n <;> simp only [Bool.false_eq_true,if_false,if_true,false_iff,true_iff] <;> omega
 · simp [zv]
theorem Fv.reform {o:Option (Bool×Nat×Int)}{B z:Int}(h:Fv B o z):mkS (dN o) (dX o) (dE o)=o:=by
 obtain ⟨n,X,e,rfl,F,rfl⟩:=h.ex;exact F.self
end
section
open Go.RowKit
theorem Fv.len {o:Option (Bool×Nat×Int)}{B z:Int}(h:Fv B o z):(ws (dX o)).length≤8192:=by
 obtain ⟨n,X,e,rfl,F,_⟩:=h.ex;exact frm_len F
end
section
open Go.RowKit
def Fm (o:Option (Bool×Nat×Int)):Prop:=∃ B x,Fv B o x
theorem Fm.len {o:Option (Bool×Nat×Int)}(h:Fm o):(ws (dX o)).length≤8192:=by obtain ⟨B,x,h⟩:=h;exact h.len
theorem Fm.re {o:Option (Bool×Nat×Int)}(h:Fm o):mkS (dN o) (dX o) (dE o)=o:=by obtain ⟨B,x,h⟩:=h;exact h.reform
theorem Fm.rng {o:Option (Bool×Nat×Int)}(h:Fm o):-9223372036854775808≤dE o∧dE o≤9223372036854775807:=by
 obtain ⟨B,x,h⟩:=h;obtain ⟨n,X,e,rfl,F,_⟩:=h.ex;have:=F.up;have:=F.down
 show -9223372036854775808≤e∧e≤9223372036854775807
 omega
end
section
open Go.RowKit
theorem vK_zero:vK 0=0:=by
 have:=vK_word 0 0 (.inl rfl) (by omega)
 simpa using this
end
section
open Go.RowKit
def fo8 (V:Int):Option (Bool×Nat×Int):=mkS (decide (V<0)) V.natAbs (-1074)
theorem sg1_abs (V:Int):sg1 (decide (V<0))*(V.natAbs:Int)=V:=by
 unfold sg1
 by_cases h:V<0
 · rw [decide_eq_true h,if_pos rfl];omega
 · rw [decide_eq_false h,if_neg (by decide)];omega
theorem fo8_fo (V:Int) (m:Nat) (hm:m≤200000) (hV:V.natAbs<2^m):Fo (fo8 V) (V*(UU:Int)) (-1074) ((m:Int)-1074):=by
 by_cases h0:V=0
 · subst h0
   refine ⟨⟨false,0,0,?_,?_,?_,.inl rfl⟩⟩
   · unfold fo8;exact mkS_zero _ _
   · exact mkS_frm (mkS_zero false 0)
   · rw [zv_zero _ rfl];simp
 · obtain ⟨X,e,h1,h2,h3,h4⟩:=mkS_sz (decide (V<0)) V.natAbs (-1074) (-1074) ((m:Int)-1074) (by omega) (by omega) (by have:=blLe hV;omega) (by omega) (by omega) (by omega)
   refine ⟨⟨_,X,e,h1,mkS_frm h1,?_,.inr ⟨h3,h4⟩⟩⟩;rw [zv_mkS h1 (-2097152) (.inr (by omega))]
   have e1:(2:Nat)^((-1074:Int) - -2097152).toNat=UU*SS:=US _ (by decide)
   rw [e1,Int.natCast_mul,Int.natCast_mul,←Int.mul_assoc,sg1_abs,Int.mul_assoc]
theorem fo8_one {o:Option (Bool×Nat×Int)}{V L H:Int}(h:Fo o (V*(UU:Int)) L H) (m:Nat) (hm:m≤200000) (hV:V.natAbs<2^m):o=fo8 V:=by
 obtain ⟨n,X,e,rfl,F1,z1,_⟩:=h.ex;obtain ⟨n',X',e',h2,F2,z2,_⟩:=(fo8_fo V m hm hV).ex;rw [h2];obtain ⟨rfl,rfl,rfl⟩:=zv_inj F1 F2 (-2097152) (by omega) (by rw [z1,z2])
 rfl
theorem top_fv {x:Nat}(hx:Wd x) (fx:finW x) (m:Nat) (hm:m=2098):(fvW x).natAbs<2^m:=by
 unfold fvW;rw [sg_abs];have:=top_v (magW x) fx 2045 rfl;obtain ⟨a,ha⟩:∃ a,a=2045:=⟨_,rfl⟩;have h2:=top_v (magW x) fx a ha;rw [show m=53+a by omega,Nat.pow_add]
 exact h2
theorem of_fo8 {x:Nat}(hx:Wd x) (fx:finW x):ofK (negW x) (magW x)=fo8 (fvW x):=by
 obtain ⟨n,X,e,h1,h2,_⟩:=of_fo (negW x) (magW x) fx;rw [h1];exact fo8_one h2 2098 (by omega) (top_fv hx fx 2098 rfl)
end
section
open Go.RowKit
theorem of_any8 (x:Nat) (hx:Wd x∧finW x) (w:World) (hT:Tab w) :
 Calls Tryz.prog 40 #[.float .f64 x] w fun r w'=>(∃ v,r=.returned (.tuple #[.agg #[.bool (dN (fo8 (fvW x))),v,.int .i64 (dE (fo8 (fvW x)))],.int .i64 0])∧Nt w.heap.size w' v (dX (fo8 (fvW x))))∧Below w.heap.size w w':=by
 obtain ⟨h1,h2,h3,_⟩:=wd64_bw (negW x) (magW x) (Nat.le_of_lt hx.2);have:=Of_any (negW x) (magW x/4503599627370496) (magW x%4503599627370496) h2 h3 w hT;rw [←h1,←wd_of x hx.1] at this;refine this.mono ?_;rintro r w' ⟨⟨v,rfl,hN⟩,hb⟩;have e:=of_fo8 hx.1 hx.2;unfold ofK at e;rw [e] at hN ⊢;have he:ofE (magW x/4503599627370496)=0:=by unfold ofE;rw [if_neg (by have:=hx.2;omega)]
 rw [he];exact ⟨⟨v,rfl,hN⟩,hb⟩
end
section
open Go.RowKit J
theorem st3_but12 (g:Nat) (w:World) (x y z:Value):But g w (st3 w g x y z):=(((But.refl g w).set _ _).set _ _).set _ _
def Lo (w:World) (g:Nat) (o:Option (Bool×Nat×Int)):Prop:=∃ a c,Dk w g (dN o) (.slice a (ws (dX o)).length c) (dE o)∧Nt 0 w (.slice a (ws (dX o)).length c) (dX o)
theorem Lo.below {w w':World}{g:Nat}{o:Option (Bool×Nat×Int)}(h:Lo w g o) (hb:Below w.heap.size w w'):Lo w' g o:=by
 obtain ⟨a,c,h1,h2⟩:=h;exact ⟨a,c,h1.below hb,h2.below hb⟩
theorem Lo.lt {w:World}{g:Nat}{o:Option (Bool×Nat×Int)}(h:Lo w g o):g<w.heap.size:=by
 obtain ⟨a,c,h1,h2⟩:=h;exact h1.lt
theorem Nt.off12 {lo g:Nat}{w:World}{v:Value}{X:Nat}{n:Bool}{a:Option Addr}{l c:Nat}{e:Int}(h:Nt lo w v X) (D:Dk w g n (.slice a l c) e) (x y z:Value):Nt lo (st3 w g x y z) v X:=by
 refine h.off (st3_but12 g w x y z) ?_
 rcases h.2 with ⟨rfl,_⟩|⟨g',cap,cur,rfl,_,hg,_⟩
 · simp [Value.ownBlock]
 · intro e'
   obtain rfl:g'=g:=by simpa [Value.ownBlock] using e'
   rw [show w.heap[g']?=_ from D] at hg
   simp at hg
theorem Lo.set {w:World}{g:Nat}{o p:Option (Bool×Nat×Int)}(h:Lo w g o) {a:Option Addr}{c:Nat}(hN:Nt 0 w (.slice a (ws (dX p)).length c) (dX p)) :
 Lo (st3 w g (.bool (dN p)) (.slice a (ws (dX p)).length c) (.int .i64 (dE p))) g p:=by
 obtain ⟨a0,c0,h1,h2⟩:=h;exact ⟨a,c,h1.set _ _ _,hN.off12 h1 _ _ _⟩
theorem Lo.other {w:World}{g g':Nat}{o p:Option (Bool×Nat×Int)}(h:Lo w g o) (h':Lo w g' p) (hg:g≠g') (x y z:Value):Lo (st3 w g' x y z) g o:=by
 obtain ⟨a,c,h1,h2⟩:=h;obtain ⟨a0,c0,k1,k2⟩:=h';exact ⟨a,c,h1.other _ hg _ _ _,h2.off12 k1 _ _ _⟩
theorem Lo.new {w:World}{o:Option (Bool×Nat×Int)}{a:Option Addr}{c:Nat}(hN:Nt 0 w (.slice a (ws (dX o)).length c) (dX o)):Lo (w.alloc (Obj.cells #[.bool (dN o),.slice a (ws (dX o)).length c,.int .i64 (dE o)] 70)) w.heap.size o :=
 ⟨a,c,Dk.new _ _ _ _,hN.below (below_alloc _ _)⟩
abbrev o00:Option (Bool×Nat×Int):=some (false,0,0)
theorem len00:(ws (dX o00)).length=0:=by simp [dX,ws_zero]
theorem Lo.zero (w:World):Lo (w.alloc (Obj.cells #[.bool false,.slice none 0 0,.int .i64 0] 70)) w.heap.size o00:=by
 refine ⟨none,0,?_,?_⟩
 · rw [len00];exact Dk.new _ _ _ _
 · rw [len00];exact Nt.nil _ _
theorem st3_bel12 {B g:Nat}{a w:World}(h:Below B a w) (hB:B≤w.heap.size) (hg:B≤g) (x y z:Value):Below B a (st3 w g x y z):=But.below h (st3_but12 g w x y z) hB hg
theorem Fm.er {o:Option (Bool×Nat×Int)}(h:Fm o):erS o=0:=by
 obtain ⟨B,x,h⟩:=h;obtain ⟨n,X,e,rfl,_⟩:=h.ex;rfl
theorem Fm.a12 {o:Option (Bool×Nat×Int)}{w:World}{a:Option Addr}{c:Nat}(F:Fm o) (N:Nt 0 w (.slice a (ws (dX o)).length c) (dX o)):Arg w a (ws (dX o)).length c (ws (dX o)):=(N.arg' (Nat.le_trans F.len (by decide))).2
theorem mulP12 {U:World}{a b:Option Addr}{c d:Nat}{o p q:Option (Bool×Nat×Int)}(F:Fm o) (G:Fm p) (N1:Nt 0 U (.slice a (ws (dX o)).length c) (dX o)) (N2:Nt 0 U (.slice b (ws (dX p)).length d) (dX p)) (hT:Tab U) (h:mulD o p=q) (H:Fm q) :
 Calls Tryz.prog 80 #[.agg #[.bool (dN o),.slice a (ws (dX o)).length c,.int .i64 (dE o)],.agg #[.bool (dN p),.slice b (ws (dX p)).length d,.int .i64 (dE p)]] U fun r w'=>(∃ v,r=.returned (.tuple #[.agg #[.bool (dN q),v,.int .i64 (dE q)],.int .i64 0])∧Nt U.heap.size w' v (dX q))∧Below U.heap.size U w':=by
 have:=Mul_any3 (F.a12 N1) (G.a12 N2) hT (dN o) (dN p) (dE o) (dE p) F.rng.1 F.rng.2 G.rng.1 G.rng.2;rw [val_ws,val_ws,F.re,G.re,h] at this;unfold DAns at this;rw [H.er] at this;exact this
theorem addP12' {U:World}{a b:Option Addr}{c d:Nat}{o p q:Option (Bool×Nat×Int)}(F:Fm o) (G:Fm p) (N1:Nt 0 U (.slice a (ws (dX o)).length c) (dX o)) (N2:Nt 0 U (.slice b (ws (dX p)).length d) (dX p)) (hT:Tab U) (h:addD o p=q) (H:Fm q) :
 Calls Tryz.prog 82 #[.agg #[.bool (dN o),.slice a (ws (dX o)).length c,.int .i64 (dE o)],.agg #[.bool (dN p),.slice b (ws (dX p)).length d,.int .i64 (dE p)]] U fun r w'=>(∃ v,r=.returned (.tuple #[.agg #[.bool (dN q),v,.int .i64 (dE q)],.int .i64 0])∧Nt U.heap.size w' v (dX q))∧Below U.heap.size U w':=by
 have:=Add_any3 (F.a12 N1) (G.a12 N2) hT (dN o) (dN p) (dE o) (dE p) F.rng.1 F.rng.2 G.rng.1 G.rng.2;rw [val_ws,val_ws,F.re,G.re,h] at this;unfold DAns at this;rw [H.er] at this;exact this
theorem Lo.shape {w:World}{lo:Nat}{v:Value}{q:Option (Bool×Nat×Int)}(H:Fm q) (h:Nt lo w v (dX q)):∃ a c,v=.slice a (ws (dX q)).length c∧Nt 0 w v (dX q):=by
 obtain ⟨a,c,rfl,_⟩:=h.arg (Nat.le_trans H.len (by decide))
 exact ⟨a,c,rfl,h.mono (Nat.zero_le _)⟩
end
section
open Go.RowKit
theorem frm_fv {n:Bool}{X:Nat}{e:Int}(F:Frm n X e) (B:Int):Fv B (some (n,X,e)) (zv B (n,X,e)):=⟨n,X,e,rfl,F,rfl⟩
end
section
open Go.RowKit Go.Shelf J
attribute [local go_sem] Oper.semAt_some
def oW (x:Nat):Option (Bool×Nat×Int):=fo8 (fvW x)
theorem of12 (x:Nat) (hx:x<18446744073709551616) (fx:finW x) (u:World) (hT:Tab u):Calls Tryz.prog 40 #[.float .f64 x] u fun r w'=>(∃ v,r=.returned (.tuple #[.agg #[.bool (dN (oW x)),v,.int .i64 (dE (oW x))],.int .i64 0])∧Nt u.heap.size w' v (dX (oW x)))∧Below u.heap.size u w':=of_any8 x ⟨hx,fx⟩ u hT
end
section
open Go.RowKit
theorem Iv.fm {o:Option (Bool×Nat×Int)}{a b:Int}(h:Iv o a b):Fm o:=by
 obtain ⟨n,X,e,rfl,F,_⟩:=h;exact ⟨0,_,frm_fv F 0⟩
end
section
open Go.RowKit
theorem rebase {o:Option (Bool×Nat×Int)}{B x:Int}(h:Fv B o x) (hB:B≤-1048576) (D:Int) (hD:D≤0):Fv (B+D) o (x*((2^(0-D).toNat:Nat):Int)):=by
 obtain ⟨n',X',e',hx,F',hz⟩:=h.ex;refine ⟨n',X',e',hx,F',?_⟩;rw [←hz];unfold zv;simp only;rw [Int.mul_assoc,←Int.natCast_mul,Nat.mul_assoc,←Nat.pow_add];have:=F'.down;rw [show (e'-(B+D)).toNat=(e'-B).toNat+(0-D).toNat by omega]
end
section
open Go.RowKit J
def EK:Nat:=1048576
theorem exP (a:Nat):∃ u:Nat,u=2^a:=⟨_,rfl⟩
noncomputable def MM:Nat:=Classical.choose (exP EK)
theorem M_eq:MM=2^EK:=Classical.choose_spec (exP EK)
theorem M_pos:0<MM:=by rw [M_eq];exact Nat.two_pow_pos _
theorem Fm.sm {o:Option (Bool×Nat×Int)}(h:Fm o):o.isSome=true:=by
 obtain ⟨B,x,h⟩:=h;obtain ⟨n,X,e,rfl,_⟩:=h.ex;rfl
theorem Fm.val {o:Option (Bool×Nat×Int)}(h:Fm o):Fv (-1048576) o (valO o):=fvO h.re h.sm
theorem Fv.uniq {B x y:Int}{o:Option (Bool×Nat×Int)}(h1:Fv B o x) (h2:Fv B o y):x=y:=by
 obtain ⟨n,X,e,ho,_,hz⟩:=h1.ex;obtain ⟨n',X',e',ho',_,hz'⟩:=h2.ex;rw [ho] at ho'
 cases ho'
 exact hz.symm.trans hz'
theorem val_mul {o p:Option (Bool×Nat×Int)}(F:Fm o) (G:Fm p) (H:Fm (mulD o p)):valO (mulD o p)*(MM:Int)=valO o*valO p:=by
 have h1:=Fv.mul (by decide) (by decide) F.val G.val H.sm
 have h2:=rebase H.val (by decide) (-1048576) (by decide)
 rw [show ((0:Int) - -1048576).toNat=EK from rfl,←M_eq] at h2
 exact (h1.uniq h2).symm
theorem val_add {o p:Option (Bool×Nat×Int)}(F:Fm o) (G:Fm p) (H:Fm (addD o p)):valO (addD o p)=valO o+valO p :=
 H.val.uniq (Fv.add (by decide) F.val G.val H.sm)
theorem valO_inj {o p:Option (Bool×Nat×Int)}(F:Fm o) (G:Fm p) (h:valO o=valO p):o=p:=by
 obtain ⟨h1,h2,h3⟩:=Fv.same (by decide) F.val G.val h
 obtain ⟨n,X,e,rfl,_⟩:=F.val.ex;obtain ⟨m,Y,f,rfl,_⟩:=G.val.ex;have h1:n=m:=h1;have h2:X=Y:=h2;have h3:e=f:=h3;rw [h1,h2,h3]
theorem val_mk {n:Bool}{X:Nat}{e:Int}(h:Fm (mkS n X e)) (he:-1048576≤e) (k:Nat) (hk:(e+1048576).toNat=k):valO (mkS n X e)=sg1 n*((X*2^k:Nat):Int):=by
 obtain ⟨⟨n',Y,f⟩,ho⟩:=Option.isSome_iff_exists.1 h.sm;have:=zv_mkS ho (-1048576) (.inr he);rw [show (e - -1048576).toNat=k by rw [←hk];congr 1] at this
 rw [←this,ho];rfl
theorem sg1_natAbs (V:Int) (K:Nat):sg1 (decide (V<0))*((V.natAbs*K:Nat):Int)=V*(K:Int):=by
 rw [Int.natCast_mul,←Int.mul_assoc]
 congr 1
 unfold sg1
 by_cases h:V<0
 · rw [decide_eq_true h,if_pos rfl];omega
 · rw [decide_eq_false h,if_neg (by decide)];omega
theorem ex_iv (V:Int) (m:Nat) (hm:m≤100000) (hV:V.natAbs<2^m):Iv (exV V) (-2148) ((m:Int)-2148):=by
 unfold exV;refine mkS_iv _ _ _ _ _ (.inr ⟨by omega,?_⟩) (by omega) (by omega) (by omega)
 have:=bl_lt_pow hV;omega
theorem ex_fm (V:Int) (m:Nat) (hm:m≤100000) (hV:V.natAbs<2^m):Fm (exV V):=(ex_iv V m hm hV).fm
theorem ex_zero:exV 0=o00:=mkS_zero _ _
end
section
open Go.RowKit J
def Bd (m:Nat) (V:Int):Prop:=V.natAbs≤2^m
theorem Bd.lt {m:Nat}{V:Int}(h:Bd m V):V.natAbs<2^(m+1):=by
 unfold Bd at h;rw [Nat.pow_succ];have:=Nat.two_pow_pos m;omega
theorem Bd.mul {a b:Nat}{V W:Int}(h:Bd a V) (k:Bd b W):Bd (a+b) (V*W):=by
 unfold Bd at *;rw [Int.natAbs_mul,Nat.pow_add];exact Nat.mul_le_mul h k
theorem Bd.add {m:Nat}{V W:Int}(h:Bd m V) (k:Bd m W):Bd (m+1) (V+W):=by
 unfold Bd at *;rw [Nat.pow_succ];omega
def gV (u:Nat) (V:Int):Option (Bool×Nat×Int):=mkS (decide (V<0)) V.natAbs (-(u:Int))
theorem g_iv {u m:Nat}{V:Int}(hu:u≤100000) (hm:m≤99999) (hV:Bd m V):Iv (gV u V) (-(u:Int)) (((m+1:Nat):Int)-(u:Int)):=by
 unfold gV;refine mkS_iv _ _ _ _ _ (.inr ⟨by omega,?_⟩) (by omega) (by omega) (by omega)
 have:=bl_lt_pow hV.lt;omega
theorem g_fm {u m:Nat}{V:Int}(hu:u≤100000) (hm:m≤99999) (hV:Bd m V):Fm (gV u V):=(g_iv hu hm hV).fm
theorem val_g {u:Nat}{V:Int}(h:Fm (gV u V)) (hu:u≤1000000) (k:Nat) (hk:k+u=EK):valO (gV u V)=V*((2^k:Nat):Int):=by
 unfold gV at h ⊢;rw [val_mk h (by omega) k (by unfold EK at hk;omega),sg1_natAbs]
theorem exK (u:Nat) (hu:u≤1000000):∃ k,k+u=EK:=⟨EK-u,by unfold EK;omega⟩
theorem g_mul {u v a b:Nat}{V W:Int}(hu:u≤50000) (hv:v≤50000) (ha:a≤40000) (hb:b≤40000) (h1:Bd a V) (h2:Bd b W):mulD (gV u V) (gV v W)=gV (u+v) (V*W):=by
 have F:=g_iv (u:=u) (by omega) (by omega) h1
 have G:=g_iv (u:=v) (by omega) (by omega) h2
 have hF:=(F.mul G (by omega) (by omega) (by omega)).fm
 have hG:=g_fm (u:=u+v) (by omega) (by omega) (h1.mul h2)
 refine valO_inj hF hG ?_;obtain ⟨k1,e1⟩:=exK u (by omega)
 obtain ⟨k2,e2⟩:=exK v (by omega)
 obtain ⟨k3,e3⟩:=exK (u+v) (by omega)
 have h:=val_mul F.fm G.fm hF;rw [val_g F.fm (by omega) k1 e1,val_g G.fm (by omega) k2 e2] at h
 rw [val_g hG (by omega) k3 e3]
 have hM:=M_pos;refine Int.eq_of_mul_eq_mul_right (a:=(MM:Int)) (by omega) (h.trans ?_)
 have e:((2^k1:Nat):Int)*((2^k2:Nat):Int)=((2^k3:Nat):Int)*(MM:Int):=by
  rw [←Int.natCast_mul,←Int.natCast_mul,M_eq,←Nat.pow_add,←Nat.pow_add,show k1+k2=k3+EK by omega]
 rw [Int.mul_assoc (V*W),←e,Int.mul_assoc,Int.mul_assoc,Int.mul_left_comm W]
theorem g_add {u m:Nat}{V W:Int}(hu:u≤100000) (hm:m≤90000) (h1:Bd m V) (h2:Bd m W):addD (gV u V) (gV u W)=gV u (V+W):=by
 have F:=g_iv (u:=u) (by omega) (by omega) h1
 have G:=g_iv (u:=u) (by omega) (by omega) h2
 have hF:=(F.add G (by omega) (by omega) (by omega)).fm
 have hG:=g_fm (u:=u) (by omega) (by omega) (h1.add h2)
 refine valO_inj hF hG ?_;obtain ⟨k1,e1⟩:=exK u (by omega)
 rw [val_add F.fm G.fm hF,val_g F.fm (by omega) k1 e1,val_g G.fm (by omega) k1 e1,val_g hG (by omega) k1 e1,Int.add_mul]
theorem g_sign {u m:Nat}{V:Int}(hu:u≤100000) (hm:m≤90000) (h:Bd m V):(dX (gV u V)=0↔V=0)∧(dN (gV u V)=true↔V<0):=by
 have F:=g_fm (u:=u) hu (by omega) h
 obtain ⟨k,e⟩:=exK u (by omega)
 have hv:=F.val;rw [val_g F (by omega) k e] at hv
 have hp:(0:Int)<((2^k:Nat):Int):=by have:=Nat.two_pow_pos k;omega
 refine ⟨hv.zero_iff.trans ?_,hv.neg_iff.trans ?_⟩
 · constructor
   · intro q
     rcases Int.mul_eq_zero.1 q with q|q
     · exact q
     · omega
   · rintro rfl;rw [Int.zero_mul]
 · constructor
   · intro q
     rcases Int.lt_or_le V 0 with r|r
     · exact r
     · have:=Int.mul_nonneg r (Int.le_of_lt hp);omega
   · intro q;exact Int.mul_neg_of_neg_of_pos q hp
attribute [irreducible] Bd
end
section
open Go.RowKit
open Go.Proofs.YtgfemeencgjneaaGreatDoor.B (f64bits f64frombits bw)
attribute [local go_sem] f64bits f64frombits
def kd (b:Nat):Nat :=
 if 9218868437227405312<b%9223372036854775808 then 5
 else if b%9223372036854775808=9218868437227405312 then (if b/9223372036854775808=1 then 4 else 3)
 else if b%9223372036854775808=0 then (if b/9223372036854775808=1 then 1 else 2)
 else 0
def kp (k:Nat):Nat:=if k=5 then 0 else if k=3 then 1 else if k=4 then 2 else if k=1 then 3 else if k=2 then 4 else 5
theorem kd_bw (s:Bool) (e f:Nat) (he:e<2048) (hf:f<4503599627370496):kd (bw s e f)=if e=2047 then (if f=0 then (if s then 4 else 3) else 5) else if e=0∧f=0 then (if s then 1 else 2) else 0:=by
 unfold kd bw;have h1:(s.toNat*9223372036854775808+e*4503599627370496+f)%9223372036854775808=e*4503599627370496+f:=by cases s <;> simp only [Bool.toNat_true,Bool.toNat_false] <;> omega
 have h2:(s.toNat*9223372036854775808+e*4503599627370496+f)/9223372036854775808=s.toNat:=by cases s <;> simp only [Bool.toNat_true,Bool.toNat_false] <;> omega
 rw [h1,h2]
 by_cases he2:e=2047
 · subst he2
   rw [if_pos rfl]
   by_cases hf0:f=0
   · subst hf0;cases s <;> simp
   · rw [if_pos (by omega),if_neg hf0]
 · rw [if_neg he2,if_neg (by omega),if_neg (by omega)]
   by_cases h0:e=0∧f=0
   · obtain ⟨rfl,rfl⟩:=h0;cases s <;> simp
   · rw [if_neg (by omega),if_neg h0]
theorem bySign_any (neg:Bool) (a b:Int) (w:World):Calls Tryz.prog 188 #[.bool neg,.int .i64 a,.int .i64 b] w fun r w'=>r=.returned (.int .i64 (if neg then a else b))∧w'=w:=by
 cases neg <;>
 · go_enter Tryz.func188,Tryz.ntmps188
   go_wp2;go_ret;exact ⟨rfl,rfl⟩
theorem kind_any (b:Nat) (hb:b<18446744073709551616) (w:World):Calls Tryz.prog 163 #[.float .f64 b] w fun r w'=>r=.returned (.int .i64 (kp (kd b):Nat))∧Below w.heap.size w w':=by
 obtain ⟨s,e,f,he,hf,rfl⟩:=B.bw_of b hb;rw [kd_bw s e f he hf];have H:=hid (B.Split_any s e f he hf);obtain ⟨x1,hx1⟩:∃ x,B.xp e=x:=⟨_,rfl⟩;obtain ⟨x2,hx2⟩:∃ x,B.fr e f=x:=⟨_,rfl⟩;rw [hx1,hx2] at H;clear hx1 hx2 hb
 by_cases he2:e=2047
 · subst he2
   by_cases hf0:f=0
   · subst hf0
     have hc:B.cls 2047 0=3:=by unfold B.cls;rw [if_pos rfl,if_pos rfl]
     have hg:B.ng s 2047 0=s:=by unfold B.ng;rw [if_neg (by simp)]
     rw [hc,hg] at H;rw [if_pos rfl,if_pos rfl];have HS:=hid (bySign_any s 2 1);obtain ⟨x,hx⟩:∃ x:Int,(if s then 2 else 1)=x:=⟨_,rfl⟩
     rw [hx] at HS;have hk:((kp (if s then 4 else 3):Nat):Int)=x:=by cases s <;> (subst hx;rfl)
     rw [hk];clear hc hg hx hk;go_enter Tryz.func163,Tryz.ntmps163
     go_wp2_with fail
     refine (H.out _).mono ?_;rintro r w1 ⟨rfl,hb1⟩;have HB:=qsd hb1;have hz:=hb1.size;clear hb1
     go_wp2_with fail
     refine (HS.out _).mono ?_;rintro r w2 ⟨rfl,rfl⟩;go_wp2;go_ret;exact ⟨rfl,(HB.out.alloc hz _)⟩
   · have hc:B.cls 2047 f=4:=by unfold B.cls;rw [if_pos rfl,if_neg hf0]
     rw [hc] at H;rw [if_pos rfl,if_neg hf0];obtain ⟨x3,hx3⟩:∃ x,B.ng s 2047 f=x:=⟨_,rfl⟩;rw [hx3] at H;clear hc hx3;go_enter Tryz.func163,Tryz.ntmps163
     go_wp2_with fail
     refine (H.out _).mono ?_;rintro r w1 ⟨rfl,hb1⟩;have HB:=qsd hb1;have hz:=hb1.size;clear hb1;go_wp2;go_ret;exact ⟨rfl,(HB.out.alloc hz _)⟩
 · rw [if_neg he2]
   have hg:B.ng s e f=s:=by unfold B.ng;rw [if_neg (fun h=>he2 h.1)]
   rw [hg] at H
   by_cases h0:e=0∧f=0
   · obtain ⟨rfl,rfl⟩:=h0
     have hc:B.cls 0 0=0:=by unfold B.cls;rw [if_neg (by omega),if_pos rfl,if_pos rfl]
     rw [hc] at H;rw [if_pos ⟨rfl,rfl⟩];have HS:=hid (bySign_any s 3 4);obtain ⟨x,hx⟩:∃ x:Int,(if s then 3 else 4)=x:=⟨_,rfl⟩
     rw [hx] at HS;have hk:((kp (if s then 1 else 2):Nat):Int)=x:=by cases s <;> (subst hx;rfl)
     rw [hk];clear hc hg hx hk;go_enter Tryz.func163,Tryz.ntmps163
     go_wp2_with fail
     refine (H.out _).mono ?_;rintro r w1 ⟨rfl,hb1⟩;have HB:=qsd hb1;have hz:=hb1.size;clear hb1
     go_wp2_with fail
     refine (HS.out _).mono ?_;rintro r w2 ⟨rfl,rfl⟩;go_wp2;go_ret;exact ⟨rfl,(HB.out.alloc hz _)⟩
   · rw [if_neg h0]
     obtain ⟨c,hc,h1,h2,h3⟩:∃ c:Int,B.cls e f=c∧(c==4)=false∧(c==3)=false∧(c==0)=false:=by
      unfold B.cls;rw [if_neg he2]
      by_cases he0:e=0
      · rw [if_pos he0,if_neg (fun h=>h0 ⟨he0,h⟩)];exact ⟨_,rfl,by decide,by decide,by decide⟩
      · rw [if_neg he0];exact ⟨_,rfl,by decide,by decide,by decide⟩
     rw [hc] at H;clear hc hg;go_enter Tryz.func163,Tryz.ntmps163
     go_wp2_with fail
     refine (H.out _).mono ?_;rintro r w1 ⟨rfl,hb1⟩;have HB:=qsd hb1;have hz:=hb1.size;clear hb1;go_wp2;go_ret;exact ⟨rfl,(HB.out.alloc hz _)⟩
end
section
open Go Go.RowKit J
theorem row14d:∃ d:TypeDesc,Tryz.prog.underlying 70=some d∧d.isRow=true:=by
 have h:(Tryz.prog.underlying 70).any (·.isRow)=true:=by kernel_rfl
 cases hd:Tryz.prog.underlying 70 with
 | none=>rw [hd] at h;cases h
 | some d=>rw [hd] at h;exact ⟨d,rfl,h⟩
theorem size14d:(Tryz.prog.info? 70).map (·.size)=some 3:=by kernel_rfl
theorem result14 {fn:Func}{p:Tmp}(h:fn.results=#[.cell p 70]) (tmps:Array Value) (W:World) (g:Nat) (n:Bool) (v:Value) (e:Int) (hp:tmps.getD p undef=.pointer (some ⟨g,0,none⟩)) (hD:Dk W g n v e) :
 (results fn tmps).run Tryz.prog W=.ok (.agg #[.bool n,v,.int .i64 e]) W:=by
 obtain ⟨d,h1,h2⟩:=row14d
 cases d <;> first
  | exact results_cell_row (P:=Tryz.prog) h tmps W g 70 _ _ _ hp hD h1 rfl (by rw [size14d];rfl)
  | exact absurd h2 (by simp [TypeDesc.isRow])
theorem end14 {fn:Func}{p:Tmp}(hfn:fn.results=#[.cell p 70]) {w base:World}{tmps:Array Value}{o q:Option (Bool×Nat×Int)}{a:Option Addr}{c g:Nat}(h2:tmps.getD p undef=.pointer (some ⟨g,0,none⟩))
 (hL:Lo base g q) (hbw:Below w.heap.size w base) (hg:w.heap.size≤g) (hN:Nt 0 base (.slice a (ws (dX o)).length c) (dX o)) :
 bodyPost Tryz.prog fn (fun r w'=>DVal 0 w' r o∧Below w.heap.size w w') .ret ⟨tmps,[]⟩
  (((base.setCell ⟨g,0,none⟩ (.bool (dN o))).setCell ⟨g,1,none⟩ (.slice a (ws (dX o)).length c)).setCell ⟨g,2,none⟩ (.int .i64 (dE o))):=by
 obtain ⟨a0,c0,hD,hM⟩:=hL;exact bodyPost_ret (v:=.agg #[.bool (dN o),.slice a (ws (dX o)).length c,.int .i64 (dE o)]) (result14 hfn _ _ g _ _ _ h2 (hD.set _ _ _)) rfl ⟨⟨_,rfl,hN.off12 hD _ _ _⟩,st3_bel12 hbw hbw.size hg _ _ _⟩
end
section
open Go.RowKit
theorem close13 {fn:Func}{p:Tmp}(hfn:fn.results=#[.cell p 70]) {w base:World}{tmps:Array Value}{o:Option (Bool×Nat×Int)}{v x y z:Value}{lo:Nat}(h2:tmps.getD p undef=.pointer (some ⟨w.heap.size,0,none⟩))
 (hZ:Bl base w.heap.size 70 [x,y,z]) (hbw:Below w.heap.size w base) (hN:Nt lo base v (dX o)) (hlo:w.heap.size<lo) :
 bodyPost Tryz.prog fn (fun r w'=>∃ v,r=.returned (.agg #[.bool (dN o),v,.int .i64 (dE o)])∧Nt w.heap.size w' v (dX o)∧Below w.heap.size w w') .ret ⟨tmps,[]⟩
  (((base.setCell ⟨w.heap.size,0,none⟩ (.bool (dN o))).setCell ⟨w.heap.size,1,none⟩ v).setCell ⟨w.heap.size,2,none⟩ (.int .i64 (dE o))):=by
 have q:Bl (((base.setCell ⟨w.heap.size,0,none⟩ (.bool (dN o))).setCell ⟨w.heap.size,1,none⟩ v).setCell ⟨w.heap.size,2,none⟩ (.int .i64 (dE o))) w.heap.size 70 [.bool (dN o),v,.int .i64 (dE o)]:=((hZ.set 0 _).set 1 _).set 2 _;have hbut:But w.heap.size base (((base.setCell ⟨w.heap.size,0,none⟩ (.bool (dN o))).setCell ⟨w.heap.size,1,none⟩ v).setCell ⟨w.heap.size,2,none⟩ (.int .i64 (dE o))):=(((But.refl _ _).set 0 _).set 1 _).set 2 _;refine bodyPost_ret (v:=.agg #[.bool (dN o),v,.int .i64 (dE o)]) (row_result hfn _ _ w.heap.size [.bool (dN o),v,.int .i64 (dE o)] h2 q Tryz.row_dyad (by rw [Tryz.size_dyad];rfl)) rfl ?_
 exact ⟨v,rfl,(hN.but7 hbut hlo).mono (by omega),But.below hbw hbut hbw.size (Nat.le_refl _)⟩
theorem HB13:∃ k:Nat,k=4238∧HB=2^k:=⟨4238,rfl,HB_two 4238 rfl⟩
theorem vS_bd {xs:List Nat}(hW:W64 xs) (hl:xs.length≤65536):∃ k:Nat,k=4238∧(vS xs).natAbs<2^k:=by
 obtain ⟨k,hk,e⟩:=HB13;refine ⟨k,hk,?_⟩;rw [←e];have h1:=vS_bound xs hW xs.length (Nat.le_refl _);rw [List.take_length] at h1;have h3:xs.length*QB≤65536*QB:=Nat.mul_le_mul_right _ hl;have h4:=QB_HB;have h5:=QB_pos;omega
theorem vS_fm {xs:List Nat}(hW:W64 xs) (hl:xs.length≤65536):Fm (exV (vS xs)):=by
 obtain ⟨k,hk,h⟩:=vS_bd hW hl;exact ex_fm _ k (by omega) h
theorem exact13 (xs:List Nat) (a:Option Addr) (n c:Nat) (w:World) (hn:n=xs.length) (hF:Fs w.heap.size w a xs) (hW:W64 xs) (hT:Tab w) (hl:n≤65536) :
 Calls Tryz.prog 161 #[.slice a n c] w fun r w'=>∃ v,r=.returned (.agg #[.bool (dN (exV (vS xs))),v,.int .i64 (dE (exV (vS xs)))])∧Nt w.heap.size w' v (dX (exV (vS xs)))∧Below w.heap.size w w':=by
 have HX:=qsd (ai hn (ai hF (ai hW (ai hT hl))));obtain ⟨o,ho⟩:∃ o,o=exV (vS xs):=⟨_,rfl⟩;rw [←ho];have HO:=qsd ho;clear hn hF hW hT ho;obtain ⟨W1,hW1⟩:∃ W,W=w.alloc (.cells #[.bool false,.slice none 0 0,.int .i64 0] 70):=⟨_,rfl⟩
 have H1:Aside (Below w.heap.size w W1∧Bl W1 w.heap.size 70 [.bool false,.slice none 0 0,.int .i64 0]∧W1.heap.size=w.heap.size+1):=by
  subst hW1;exact ⟨bel_alloc _ _,Bl.new _ 70 [_,_,_],by simp⟩
 go_enter Tryz.func161,Tryz.ntmps161
 go_wp2_with fail
 rw [←hW1];clear hW1;refine (New7 W1).mono ?_;rintro r w2 ⟨rfl,hA,hb2⟩;obtain ⟨g,hg⟩:∃ g,g=W1.heap.size:=⟨_,rfl⟩;rw [←hg] at hA ⊢
 have P2:Aside (Bl w2 w.heap.size 70 [.bool false,.slice none 0 0,.int .i64 0]∧Below w.heap.size w w2∧w.heap.size<g∧Acc7 w2 g 0 ⟨0,0,0,0,0,0⟩) :=
  ⟨H1.out.2.1.below hb2 (by have:=H1.out.2.2;omega),H1.out.1.trans (hb2.mono (by have:=H1.out.2.2;omega)),by have:=H1.out.2.2;omega,hA⟩
 clear hb2 hA hg H1;go_wp2
 go_loopg [9] n (fun gk i wr=>∃ k:Nat,gk+k=n∧i=.int .i64 (k:Nat)∧Aside (Acc7 wr g (vS (xs.take k)) (sS (xs.take k))∧Bl wr w.heap.size 70 [.bool false,.slice none 0 0,.int .i64 0]∧Below w.heap.size w wr))
 case atStart=>exact ⟨0,by omega,by simp,by simpa [vS,sS] using P2.out.2.2.2,P2.out.1,P2.out.2.1⟩
 case round =>
  obtain ⟨k,hgk,rfl,HA⟩:=hrel
  by_cases hk:k<n
  · obtain ⟨b,off,rfl,hc⟩:=HX.out.2.1.at HA.out.2.2 k (by rw [←HX.out.1];exact hk)
    obtain ⟨x,hx⟩:∃ x,x=xs.getD k 0:=⟨_,rfl⟩;rw [←hx] at hc
    have C:Hid (Calls Tryz.prog 185 #[.pointer (some ⟨g,0,none⟩),.float .f64 x] wr (Did g wr (0,vS (xs.take (k+1)),sS (xs.take (k+1))))):=by
     have hk2:k<xs.length:=by rw [←HX.out.1];exact hk
     obtain ⟨p1,p2⟩:=sS_pos xs k (by omega)
     obtain ⟨v1,v2⟩:=vS_bound xs HX.out.2.2.1 k (by omega)
     have hx64:x<18446744073709551616:=by rw [hx];exact HX.out.2.2.1.get k
     have hsm:=pT_small x 4607182418800017408 hx64 (by decide)
     have hl:=HX.out.2.2.2.2;have hkq:k*QB≤65536*QB:=Nat.mul_le_mul_right _ (by omega)
     have hQ:=QB_HB;have hqp:=QB_pos;have C:=Add7 g (vS (xs.take k)) (sS (xs.take k)) x wr HA.out.1 (p1.ok (by omega)) hx64
     rw [put_ok _ _ _ _ (by omega) (by omega) (by omega)] at C
     rw [vS_take xs k hk2,sS_take xs k hk2,←hx];exact C
    have hkb:k<4611686018427387904:=by have:=HX.out.2.2.2.2;omega
    clear hx
    go_wp2_with fail
    refine (C.out).mono ?_;rintro r w3 ⟨rfl,hA3,hbut⟩;have H3:=qsd (ai hA3 (ai (HA.out.2.1.but hbut (by have:=P2.out.2.2.1;omega)) (But.below HA.out.2.2 hbut HA.out.2.2.size (by have:=P2.out.2.2.1;omega))))
    clear hA3 hbut C;go_wp2
    go_roundg (gk-1)
    case measure=>omega
    case rel=>exact ⟨k+1,by omega,by first | rfl | simp,H3.out⟩
  · obtain rfl:n=k:=by omega
    have hd:decide ((n:Int)<n)=false:=by simp
    have C:Hid (Calls Tryz.prog 186 #[.pointer (some ⟨g,0,none⟩)] wr fun r w'=>∃ v,r=.returned (.agg #[.bool (dN o),v,.int .i64 (dE o)])∧Nt wr.heap.size w' v (dX o)∧Below wr.heap.size wr w'):=by
     have e:xs.take n=xs:=by rw [List.take_of_length_le];rw [←HX.out.1];omega
     have hA:=HA.out.1;rw [e] at hA;rw [HO.out];exact Exact7 g _ _ wr hA (HX.out.2.2.2.1.belows HA.out.2.2)
    have HL:=qsd (HA.out.2.1.lt)
    go_wp2_with fail
    refine (C.out).mono ?_;rintro r w3 ⟨v,rfl,hN,hb3⟩;obtain ⟨a9,c9,rfl,_⟩:=Lo.shape (q:=o) (by rw [HO.out];exact vS_fm HX.out.2.2.1 (by rw [←HX.out.1];exact HX.out.2.2.2.2)) hN
    have B3:=qsd (ai (HA.out.2.1.below hb3 HL.out) (ai (HA.out.2.2.trans (hb3.mono HA.out.2.2.size)) hN));have z0:=B3.out.1.cell 0 _ rfl;have z1:=B3.out.1.cell 1 _ rfl;have z2:=B3.out.1.cell 2 _ rfl;have f0:=B3.out.1.frozen 0;have f1:=B3.out.1.frozen 1;have f2:=B3.out.1.frozen 2;clear hb3 C hN;go_wp2;refine close13 Tryz.results161 ?_ B3.out.1 B3.out.2.1 B3.out.2.2 (HL.out);rfl
end
section
open Go.RowKit J
theorem LiesG.lies {K:Nat}{t:Bool}{m:Int}{V S:Nat}(h:LiesG vK 9218868437227405312 1 K t m V S):Lies K t m V S:=by
 obtain ⟨h1,h2,h3,h4,h5,h6⟩:=h;simp only [Nat.pow_one] at h3 h4 h5 h6;refine ⟨h1,h2,h3,h4,fun a b=>?_,fun a=>?_⟩
 · have:=h5 a b
   rw [Nat.add_mul] at this;exact this
 · rcases h6 a with q | ⟨q,r⟩
   · exact .inl q
   · exact .inr ⟨by omega,r⟩
theorem ex_parts13 {V:Int}(hV:V≠0) (k:Nat) (hk:k≤90000) (hb:V.natAbs<2^k):∃ X e,exV V=some (decide (V<0),X,e)∧X%2=1∧-2148≤e∧e≤100000∧X*2^(e+2148).toNat=V.natAbs∧bl X≤262144∧Frm (decide (V<0)) X e:=by
 obtain ⟨n,X,e,ho,F,hx⟩:=ex_iv V k (by omega) hb
 have hm:mkS (decide (V<0)) V.natAbs (-2148)=some (n,X,e):=ho;have hz:=zv_mkS hm (-2148) (.inr (by omega))
 unfold zv at hz;simp only at hz;rw [show ((-2148:Int) - -2148).toNat=0 by decide,Nat.pow_zero,Nat.mul_one] at hz
 have hX0:X≠0:=by
  rintro rfl;simp [sg1] at hz
  split at hz <;> omega
 have hp:0<X*2^(e - -2148).toNat:=Nat.mul_pos (by omega) (Nat.two_pow_pos _)
 rcases hx with h|⟨h1,h2⟩
 · exact absurd h hX0
 have hn:n=decide (V<0):=by
  by_cases hs:V<0
  · rw [decide_eq_true hs] at hz ⊢
    cases n with
    | true=>rfl
    | false=>simp only [sg1,if_true,Bool.false_eq_true,if_false] at hz;omega
  · rw [decide_eq_false hs] at hz ⊢
    cases n with
    | false=>rfl
    | true=>simp only [sg1,if_true,Bool.false_eq_true,if_false] at hz;omega
 rw [hn] at hz ho F
 have hv:X*2^(e - -2148).toNat=V.natAbs:=by
  by_cases hs:V<0
  · rw [decide_eq_true hs] at hz;simp only [sg1,if_true] at hz;omega
  · rw [decide_eq_false hs] at hz;simp only [sg1,Bool.false_eq_true,if_false] at hz;omega
 refine ⟨X,e,ho,?_,h1,by omega,?_,by omega,F⟩
 · rcases F.odd with q | q
   · exact q
   · exact absurd q.1 hX0
 · rw [show (e+2148).toNat=(e - -2148).toNat by congr 1]
   exact hv
theorem int_ex (N:Nat) (k:Nat) (hk:k=2148):exV ((N:Int)*((2^k:Nat):Int))=mkS false N 0:=by
 unfold exV;rw [←Int.natCast_mul,decide_eq_false (by omega),Int.natAbs_natCast,Nat.mul_comm,mkS_pow11]
 congr 1
 omega
end
section
open Go.RowKit J
def askE (mode:Int):Int:=if mode<0∨4<mode then 1 else 0
theorem asked13 (mode:Int) (w:World):Calls Tryz.prog 129 #[.int .i64 mode] w fun r w'=>r=.returned (.int .i64 (askE mode))∧w'=w:=by
 by_cases h0:mode<0
 · have e:askE mode=1:=if_pos (.inl h0)
   rw [e];clear e;go_enter Tryz.func129,Tryz.ntmps129;go_wp2;go_ret;exact ⟨rfl,rfl⟩
 · have d0:decide (mode<0)=false:=decide_eq_false h0
   by_cases h4:4<mode
   · have e:askE mode=1:=if_pos (.inr h4)
     rw [e];clear e;go_enter Tryz.func129,Tryz.ntmps129;go_wp2;go_ret;exact ⟨rfl,rfl⟩
   · have d4:decide (4<mode)=false:=decide_eq_false h4
     have e:askE mode=0:=if_neg (by omega)
     rw [e];clear e;go_enter Tryz.func129,Tryz.ntmps129;go_wp2;go_ret;exact ⟨rfl,rfl⟩
theorem beside13 (e:Int) (x:Nat) (w:World):Calls Tryz.prog 128 #[.int .i64 e,.float .f64 x] w fun r w'=>r=.returned (.float .f64 (if e=0 then x else 0))∧w'=w:=by
 by_cases h0:e=0
 · subst h0
   go_enter Tryz.func128,Tryz.ntmps128;go_wp2;go_ret;exact ⟨rfl,rfl⟩
 · rw [if_neg h0]
   have h1:(e==0)=false:=by simp [h0]
   go_enter Tryz.func128,Tryz.ntmps128;go_wp2;go_ret;exact ⟨rfl,rfl⟩
noncomputable def qnR (V:Int) (N:Nat) (mode:Int):Nat×Int:=quoR rndS ⟨dN (exV V),.bool false,dX (exV V),dE (exV V),dN (mkS false N 0),.bool false,dX (mkS false N 0),dE (mkS false N 0)⟩ mode
theorem int_fm (N:Nat) (h:N<2^41):Fm (mkS false N 0):=by
 obtain ⟨k,hk⟩:∃ k:Nat,k=2148:=⟨_,rfl⟩;rw [←int_ex N k hk];refine ex_fm _ (41+k) (by omega) ?_
 rw [←Int.natCast_mul,Int.natAbs_natCast,Nat.pow_add];exact Nat.mul_lt_mul_of_pos_right h (Nat.two_pow_pos k)
noncomputable def levR (xs:List Nat) (s:Sp) (mode:Int):Nat×Int :=
 if xs=[] then (0,3) else if vS xs=0 then (nt (snd s.n s.u s.d s.m s.p s.a) s.n s.u s.d s.m s.p s.a mode,0) else qnR (vS xs) xs.length mode
theorem sgn_ex {V:Int}(k:Nat) (hk:k≤90000) (hb:V.natAbs<2^k):(V=0→sgn (dN (exV V)) (val (ws (dX (exV V))))=0)∧(V≠0→(sgn (dN (exV V)) (val (ws (dX (exV V))))==0)=false)∧(V<0↔sgn (dN (exV V)) (val (ws (dX (exV V))))<0):=by
 rw [val_ws]
 by_cases h0:V=0
 · subst h0
   rw [ex_zero];exact ⟨fun _=>rfl,fun h=>absurd rfl h,by constructor <;> (intro h;exact absurd h (by decide))⟩
 · obtain ⟨X,e,ho,hX,he0,he1,hv,hbl,F⟩:=ex_parts13 h0 k hk hb
   rw [ho]
   show (V=0→sgn (decide (V<0)) X=0)∧(V≠0→(sgn (decide (V<0)) X==0)=false)∧(V<0↔sgn (decide (V<0)) X<0)
   unfold sgn;refine ⟨fun h=>absurd h h0,fun _=>?_,?_⟩
   · rw [if_neg (by omega)];by_cases hs:V<0 <;> simp [hs]
   · rw [if_neg (by omega)];by_cases hs:V<0 <;> simp [hs]
theorem level13 (xs:List Nat) (a:Option Addr) (n c:Nat) (sn su sd sm sp sa mode:Int) (w:World) (hn:n=xs.length) (hF:Fs w.heap.size w a xs) (hW:W64 xs) (hT:Tab w) (hl:n≤65536) (z:Nat×Int) (hz:levR xs ⟨sn,su,sd,sm,sp,sa⟩ mode=z) :
 Calls Tryz.prog 131 #[.slice a n c,.agg #[.int .i64 sn,.int .i64 su,.int .i64 sd,.int .i64 sm,.int .i64 sp,.int .i64 sa],.int .i64 mode] w fun r w'=>r=.returned (.tuple #[.float .f64 z.1,.int .i64 z.2])∧Below w.heap.size w w':=by
 obtain ⟨X,E⟩:=z;simp only
 by_cases h0:n=0
 · have e:(X,E)=(0,3):=by rw [←hz];unfold levR;rw [if_pos (List.eq_nil_of_length_eq_zero (by omega))]
   obtain ⟨rfl,rfl⟩:=Prod.mk.inj e;subst h0;clear hz hn hF hW hT e;go_enter Tryz.func131,Tryz.ntmps131;go_wp2;exact bodyPost_ret (v:=.tuple #[.float .f64 0,.int .i64 3]) (by simp [results,Tryz.results131,go_sem]) rfl ⟨rfl,bel_alloc _ _⟩
 · have hx0:xs≠[]:=by rintro rfl;simp at hn;omega
   unfold levR at hz;rw [if_neg hx0] at hz;simp only at hz;obtain ⟨k,hk,hvb⟩:=vS_bd hW (by omega)
   obtain ⟨g1,g2,g3⟩:=sgn_ex k (by omega) hvb
   have Fv:=qsd (vS_fm hW (by omega))
   obtain ⟨sb,W,hWs,HW⟩:∃ (sb:Value) (W:World),sb=.agg #[.int .i64 sn,.int .i64 su,.int .i64 sd,.int .i64 sm,.int .i64 sp,.int .i64 sa]∧W=w.alloc (Obj.cells #[.int .i64 sn,.int .i64 su,.int .i64 sd,.int .i64 sm,.int .i64 sp,.int .i64 sa] 168):=⟨_,_,rfl,rfl⟩;clear hWs
   have BW:Aside (Below w.heap.size w W∧Bl W w.heap.size 168 [.int .i64 sn,.int .i64 su,.int .i64 sd,.int .i64 sm,.int .i64 sp,.int .i64 sa]∧Tab W):=by
    rw [HW];exact ⟨bel_alloc _ _,Bl.new _ 168 [_,_,_,_,_,_],hT.belows (bel_alloc _ _)⟩
   have HE:=hid (exact13 xs a n c W hn ((hF.below BW.out.1).mono BW.out.1.size) hW BW.out.2.2 hl);obtain ⟨V,hV⟩:∃ V,vS xs=V:=⟨_,rfl⟩;rw [hV] at HE hz g1 g2 Fv;obtain ⟨ov,hov⟩:∃ o,exV V=o:=⟨_,rfl⟩;rw [hov] at HE g1 g2 Fv;have HS:Hid (∀ (u:World) (p:Option Addr) (q:Nat),Nt 0 u (.slice p (ws (dX ov)).length q) (dX ov)→Calls Tryz.prog 133 #[.agg #[.bool (dN ov),.slice p (ws (dX ov)).length q,.int .i64 (dE ov)]] u fun r u'=>r=.returned (.int .i64 (sgn (dN ov) (val (ws (dX ov)))))∧Below u.heap.size u u'):=fun u p q hN=>Sign_any3 (Fv.out.a12 hN) _ _
   have hnb:(n:Int)≠0:=by omega
   have HN:=qsd hn;have HTW:=qsd BW.out.2.2;obtain ⟨sg,hsg⟩:∃ sg,sgn (dN ov) (val (ws (dX ov)))=sg:=⟨_,rfl⟩;rw [hsg] at HS g1 g2;have HWW:=qsd HW;have G:=qsd (ai g1 g2);clear hn hF hW hT hx0 g1 g2 g3 hvb hk k hsg HW;go_enter Tryz.func131,Tryz.ntmps131
   go_wp2_with fail
   rw [←HWW.out];refine HE.out.mono ?_;rintro r u ⟨v,rfl,hN,hb⟩;obtain ⟨a1,c1,rfl,hN0⟩:=Lo.shape Fv.out hN;obtain ⟨U,hU⟩:∃ U,U=u.alloc (Obj.cells #[.bool (dN ov),.slice a1 (ws (dX ov)).length c1,.int .i64 (dE ov)] 70):=⟨_,rfl⟩;have bU:Below W.heap.size W U:=by rw [hU];exact hb.trans ((below_alloc _ _).mono hb.size)
   have H1:Aside (Lo U u.heap.size ov∧Bl U w.heap.size 168 [.int .i64 sn,.int .i64 su,.int .i64 sd,.int .i64 sm,.int .i64 sp,.int .i64 sa]∧Below w.heap.size w U∧Tab U∧Dk U u.heap.size (dN ov) (.slice a1 (ws (dX ov)).length c1) (dE ov)∧Nt 0 U (.slice a1 (ws (dX ov)).length c1) (dX ov)):=by
    refine ⟨?_,BW.out.2.1.below bU BW.out.2.1.lt,BW.out.1.trans (bU.mono BW.out.1.size),HTW.out.belows bU,?_,?_⟩
    · rw [hU];exact Lo.new hN0
    · rw [hU];exact Dk.new _ _ _ _
    · rw [hU];exact hN0.below (below_alloc _ _)
   obtain ⟨gd,hgd⟩:∃ g,g=u.heap.size:=⟨_,rfl⟩;have HU:=qsd hU;have C:=hid (HS.out U a1 c1 H1.out.2.2.2.2.2);rw [←hgd] at H1;obtain ⟨y0,y1,y2,yf0,yf1,yf2⟩:=H1.out.2.2.2.2.1.facts;clear hN hN0 hb bU hU HE HS
   go_upto_region 4 with fail
   try rw [←hgd]
   rw [←HU.out];clear HU hgd
   go_wp2_with fail
   refine C.out.mono ?_;rintro r v ⟨rfl,hb⟩
   have H2:Aside (Bl v w.heap.size 168 [.int .i64 sn,.int .i64 su,.int .i64 sd,.int .i64 sm,.int .i64 sp,.int .i64 sa]∧Below w.heap.size w v∧Tab v∧Dk v gd (dN ov) (.slice a1 (ws (dX ov)).length c1) (dE ov)∧Nt 0 v (.slice a1 (ws (dX ov)).length c1) (dX ov)) :=
    ⟨H1.out.2.1.below hb H1.out.2.1.lt,H1.out.2.2.1.trans (hb.mono H1.out.2.2.1.size),H1.out.2.2.2.1.belows hb,H1.out.2.2.2.2.1.below hb,H1.out.2.2.2.2.2.below hb⟩
   clear hb H1 C y0 y1 y2 yf0 yf1 yf2
   by_cases hv0:V=0
   · rw [if_pos hv0] at hz
     obtain ⟨hX,hE⟩:=Prod.mk.inj hz;have hs:=G.out.1 hv0;have HNo:=hid (fun u:World=>Nought_any sn su sd sm sp sa mode u)
     rw [hX] at HNo;subst hs;subst hE;have q0:=H2.out.1.cell 0 _ rfl;have q1:=H2.out.1.cell 1 _ rfl;have q2:=H2.out.1.cell 2 _ rfl;have q3:=H2.out.1.cell 3 _ rfl;have q4:=H2.out.1.cell 4 _ rfl;have q5:=H2.out.1.cell 5 _ rfl;clear hX hz G hov
     go_wp2_with fail
     refine (HNo.out _).mono ?_;rintro r u2 ⟨rfl,hb⟩;have B3:=qsd (H2.out.2.1.trans (hb.mono H2.out.2.1.size));clear hb HNo q0 q1 q2 q3 q4 q5;go_wp2;exact bodyPost_ret (v:=.tuple #[.float .f64 X,.int .i64 0]) (by simp [results,Tryz.results131,go_sem]) rfl ⟨rfl,B3.out⟩
   · rw [if_neg hv0] at hz
     have hs:=G.out.2 hv0;have hnN:n<2^41:=by omega
     have F1:=qsd (int_fm n hnN)
     have HI:Hid (∀ u:World,Tab u→Calls Tryz.prog 81 #[.int .i64 (n:Nat)] u fun r w'=>(∃ v,r=.returned (.agg #[.bool (dN (mkS false n 0)),v,.int .i64 (dE (mkS false n 0))])∧Nt u.heap.size w' v (dX (mkS false n 0)))∧Below u.heap.size u w'):=fun u hT=>by
      have:=Int_any (n:Nat) u hT (by omega) (by omega)
      rw [decide_eq_false (by omega),Int.natAbs_natCast] at this
      exact this
     have HR:Hid (∀ (u:World) (p q:Option Addr) (cp cq:Nat),Tab u→Nt 0 u (.slice p (ws (dX ov)).length cp) (dX ov)→Nt 0 u (.slice q (ws (dX (mkS false n 0))).length cq) (dX (mkS false n 0))→Calls Tryz.prog 83 #[.agg #[.bool (dN ov),.slice p (ws (dX ov)).length cp,.int .i64 (dE ov),.bool (dN (mkS false n 0)),.slice q (ws (dX (mkS false n 0))).length cq,.int .i64 (dE (mkS false n 0))],.int .i64 mode] u fun r w'=>r=.returned (.tuple #[.float .f64 X,.int .i64 E])∧Below u.heap.size u w'):=fun u p q cp cq hT n1 n2=>by
      have:=Quot11 (w:=u) (n:=dN ov) (m:=dN (mkS false n 0)) (X:=dX ov) (Y:=dX (mkS false n 0)) (e:=dE ov) (f:=dE (mkS false n 0)) mode ⟨n1.av (Nat.le_trans Fv.out.len (by decide)),n2.av (Nat.le_trans F1.out.len (by decide)),Fv.out.rng,F1.out.rng⟩ hT
      rw [show quoR rndS ⟨dN ov,.slice p (ws (dX ov)).length cp,dX ov,dE ov,dN (mkS false n 0),.slice q (ws (dX (mkS false n 0))).length cq,dX (mkS false n 0),dE (mkS false n 0)⟩ mode=(X,E) from (by rw [←hov,←hz,←HN.out];rfl)] at this
      exact this
     obtain ⟨ow,how⟩:∃ o,mkS false n 0=o:=⟨_,rfl⟩;rw [how] at HR HI F1;clear hz how G hov hv0 hnN
     go_upto_region 6 with fail
     have hdr:=(Below.refl v.heap.size v).drew;have BD:=qsd (ai (H2.out.2.1.trans (hdr.mono H2.out.2.1.size)) (ai (H2.out.2.2.2.1.below hdr) (ai (H2.out.2.2.2.2.below hdr) (H2.out.2.2.1.belows hdr))));clear hdr H2;have kS:=qsd (ai BD.out.2.1.facts.1 (ai BD.out.2.1.facts.2.1 BD.out.2.1.facts.2.2.1))
     go_region_held3 (fun w'=>w'.cell? ⟨gd,0,none⟩=some (.bool (dN ov))∧w'.cell? ⟨gd,1,none⟩=some (.slice a1 (ws (dX ov)).length c1)∧w'.cell? ⟨gd,2,none⟩=some (.int .i64 (dE ov))) (with_reducible exact kS.out) (first
      | (go_at_call 83
         with_reducible refine (HR.out _ a1 a2 c1 c2 BD.out.2.2.2 BD.out.2.2.1 Q2.out).mono ?_
         rintro r v ⟨rfl,hb⟩;have BD:=qsd (ai (BD.out.1.trans (hb.mono BD.out.1.size)) (ai (BD.out.2.1.below hb) (ai (BD.out.2.2.1.below hb) (BD.out.2.2.2.belows hb))));have kS:=qsd (ai BD.out.2.1.facts.1 (ai BD.out.2.1.facts.2.1 BD.out.2.1.facts.2.2.1));clear hb)
      | (go_at_call 81
         with_reducible refine (HI.out _ BD.out.2.2.2).mono ?_
         rintro r v ⟨⟨p,rfl,hN⟩,hb⟩;obtain ⟨a2,c2,rfl,hN0⟩:=Lo.shape F1.out hN;have BD:=qsd (ai (BD.out.1.trans (hb.mono BD.out.1.size)) (ai (BD.out.2.1.below hb) (ai (BD.out.2.2.1.below hb) (BD.out.2.2.2.belows hb))));have Q2:=qsd hN0;have kS:=qsd (ai BD.out.2.1.facts.1 (ai BD.out.2.1.facts.2.1 BD.out.2.1.facts.2.2.1));clear hb hN hN0))
     clear kS Q2 HR HI;go_wp2;exact bodyPost_ret (v:=.tuple #[.float .f64 X,.int .i64 E]) (by simp [results,Tryz.results131,go_sem]) rfl ⟨rfl,BD.out.1⟩
end
section
open Go.RowKit J
attribute [local go_sem] st_float
def bsd (e:Int) (x:Nat):Nat:=if e=0 then x else 0
theorem door13 {fn:Func}{f:FuncId}{px pe:Tmp}(hres:fn.results=#[.cell px 27,.cell pe 24]) {tmps:Array Value}{gx ge:Nat}{w:World}{x:Nat}{e:Int}{R:Ending→World→Prop}
 (hi:(callFunc f #[.pointer (some ⟨ge,0,none⟩),.pointer (some ⟨gx,0,none⟩)]).run Tryz.prog w=.ok (.enter f #[.pointer (some ⟨ge,0,none⟩),.pointer (some ⟨gx,0,none⟩)]) w)
 (HC:∀ (u:FrameMode),CallsD Tryz.prog f #[.pointer (some ⟨ge,0,none⟩),.pointer (some ⟨gx,0,none⟩)] u w fun r u' w'=>u'=u∧(r=.returned (.tuple #[])∧w'=w.setCell ⟨gx,0,none⟩ (.float .f64 (bsd e x))))
 (h1:tmps.getD px undef=.pointer (some ⟨gx,0,none⟩)) (h2:tmps.getD pe undef=.pointer (some ⟨ge,0,none⟩))
 (cx:w.cell? ⟨gx,0,none⟩=some (.float .f64 x)) (ce:w.cell? ⟨ge,0,none⟩=some (.int .i64 e)) (hne:ge≠gx)
 (hR:R (.returned (.tuple #[.float .f64 (bsd e x),.int .i64 e])) (w.setCell ⟨gx,0,none⟩ (.float .f64 (bsd e x)))) :
 Leaves Tryz.prog fn tmps R [{ target:=.fn (.func f) #[.pointer (some ⟨ge,0,none⟩),.pointer (some ⟨gx,0,none⟩)],args:=#[] }] .returning w:=by
 refine leaves_cons (f:=f) (args:=#[.pointer (some ⟨ge,0,none⟩),.pointer (some ⟨gx,0,none⟩)]) (by simp) (by simp [go_sem,hi]) ?_
 refine (HC _).mono ?_;rintro r u' w' ⟨rfl,rfl,rfl⟩;have q1:(w.setCell ⟨gx,0,none⟩ (.float .f64 (bsd e x))).cell? ⟨gx,0,none⟩=some (.float .f64 (bsd e x)):=World.cell?_setCell_same _ _ _ cx
 have q2:(w.setCell ⟨gx,0,none⟩ (.float .f64 (bsd e x))).cell? ⟨ge,0,none⟩=some (.int .i64 e):=by
  rw [World.cell?_setCell_other _ _ _ _ (by intro h;cases h;exact hne rfl)];exact ce
 rw [Array.getD_eq_getD_getElem?] at h1 h2;exact ⟨.tuple #[.float .f64 (bsd e x),.int .i64 e],by simp [results,hres,go_sem,h1,h2,q1,q2],hR⟩
theorem Middle1_d (gx ge x:Nat) (e:Int) (w:World) (cx:w.cell? ⟨gx,0,none⟩=some (.float .f64 x)) (ce:w.cell? ⟨ge,0,none⟩=some (.int .i64 e)) (fx:w.frozen? ⟨gx,0,none⟩=false) (u:FrameMode) :
 CallsD Tryz.prog 127 #[.pointer (some ⟨ge,0,none⟩),.pointer (some ⟨gx,0,none⟩)] u w fun r u' w'=>u'=u∧(r=.returned (.tuple #[])∧w'=w.setCell ⟨gx,0,none⟩ (.float .f64 (bsd e x))):=by
 have HB:=hid (fun w:World=>beside13 e x w)
 go_enter_d Tryz.func127,Tryz.ntmps127
 go_wp2_with fail
 refine (HB.out _).mono ?_;rintro r v ⟨rfl,rfl⟩;obtain ⟨b,hb⟩:∃ b,b=bsd e x:=⟨_,rfl⟩;have hb2:(if e=0 then x else 0)=b:=hb.symm
 rw [hb2];have HBB:=qsd hb;clear hb hb2 HB;go_wp2
 go_end0
 exact ⟨rfl,by rw [HBB.out]⟩
end
namespace Ps
open Go.RowKit
open Go.RowKit
def Wf (xs:List Nat):Prop:=∀ x ∈ xs,x<18446744073709551616
theorem Wf.get {xs:List Nat}(h:Wf xs) (k:Nat):xs.getD k 0<18446744073709551616:=by
 by_cases hk:k<xs.length
 · rw [List.getD_eq_getElem?_getD,List.getElem?_eq_getElem hk];exact h _ (List.getElem_mem hk)
 · rw [List.getD_eq_getElem?_getD,List.getElem?_eq_none (by omega)];decide
def U (n:Nat):Value:=.float .f64 n
def Rd (B:Nat) (w:World) (ao:Option Addr) (xs:List Nat):Prop :=
 xs≠[]→∃ b off,b<B∧ao=some ⟨b,off,none⟩∧∀ i,i<xs.length→w.cell? ⟨b,off+i,none⟩=some (.float .f64 (xs.getD i 0))
theorem Rd.below {B:Nat}{w w':World}{ao:Option Addr}{xs:List Nat}(h:Rd B w ao xs) (hb:Below B w w'):Rd B w' ao xs:=by
 intro hx;obtain ⟨b,off,hlt,rfl,hc⟩:=h hx;exact ⟨b,off,hlt,rfl,fun i hi=>(hb.cell (p:=⟨b,off+i,none⟩) hlt).trans (hc i hi)⟩
theorem Rd.mono {B B':Nat}{w:World}{ao:Option Addr}{xs:List Nat}(h:Rd B w ao xs) (hB:B≤B'):Rd B' w ao xs:=by
 intro hx;obtain ⟨b,off,hlt,rfl,hc⟩:=h hx;exact ⟨b,off,by omega,rfl,hc⟩
def Lt (lo:Nat) (w:World) (v:Value) (xs:List Nat):Prop:=w.ownsRow lo 27 1 v xs.length (xs.map U)
theorem Lt.nil (lo:Nat) (w:World):Lt lo w (.slice none 0 0) []:=World.ownsRow_nil _ _ _ _
theorem Tryz.info27:(Tryz.prog.info? 27).map (fun i=>(i.zero,i.size,i.bytes))=some (some (.float .f64 0),1,8):=by kernel_rfl
open Go.RowKit
abbrev Rw (lo:Nat) (w:World) (v:Value) (n:Nat) (ys:List Value):Prop:=w.ownsRow lo 27 1 v n ys
def Keep (w w':World):Prop:=∀ (g:Nat) (cur:Array Value) (e:TypeId),e≠23→e≠176→w.heap[g]?=some (.cells cur e (0,0))→w'.heap[g]?=some (.cells cur e (0,0))
theorem Keep.row {w w':World}{lo:Nat}{v:Value}{n:Nat}{ys:List Value}(h:Rw lo w v n ys) (k:Keep w w'):Rw lo w' v n ys:=by
 refine ⟨h.1,?_⟩
 rcases h.2 with hn|⟨g,cap,cur,rfl,hlo,hg,rest⟩
 · exact .inl hn
 · exact .inr ⟨g,cap,cur,rfl,hlo,k _ _ _ (by decide) (by decide) hg,rest⟩
theorem Keep.below {w w':World}(h:Below w.heap.size w w'):Keep w w':=fun g cur _ _ _ e=>by rw [h.block g (Array.getElem?_eq_some_iff.1 e).1];exact e
theorem row_other {w w':World}{lo e s:Nat}{v:Value}{n:Nat}{ys:List Value}(h:w.ownsRow lo e s v n ys) (hb:∀ g,v.ownBlock=some g→w'.heap[g]?=w.heap[g]?):w'.ownsRow lo e s v n ys:=by
 refine ⟨h.1,?_⟩
 rcases h.2 with hn|⟨g,cap,cur,rfl,hlo,hg,rest⟩
 · exact .inl hn
 · refine .inr ⟨g,cap,cur,rfl,hlo,?_,rest⟩
   rw [hb g rfl];exact hg
theorem append_word (w:World) (lo:Nat) (v:Value) (n:Nat) (ys:List Value) (x:Value) (s:Nat) (ty:TypeId) (hown:Rw lo w v n ys) (hx:w.cell? ⟨s,0,none⟩=some x) (h1:x.oneCell'=true)
 (hbig:n+1≤17592186044416) (hlo:lo≤w.heap.size) :
 ∃ v' w',(Builtin.append_ #[23,23] ty #[v,.slice (some ⟨s,0,none⟩) 1 1]).run Tryz.prog w=.ok v' w'∧Rw lo w' v' (n+1) (ys++[x])∧w.grownBy w' v.ownBlock ∧
   (v'.ownBlock=v.ownBlock∨∃ g,v'.ownBlock=some g∧w.heap.size≤g)∧(∀ (u:Value) (k:Nat) (zs:List Value),Rw lo w u k zs→(u.ownBlock=v.ownBlock→k≤n)→Rw lo w' u k zs):=by
 obtain ⟨i0,hi,hz0,hz1,hz2⟩:=info_parts Tryz.info27
 have hnews:∀ j u,[x][j]?=some u→w.cell? ((⟨s,0,none⟩:Addr).add j)=some u:=by
  intro j u hj
  match j,hj with
  | 0,hj=>simp at hj;subst hj;simpa [Addr.add] using hx
 have h1':∀ u ∈ [x],u.oneCell'=true:=by intro u hu;simp at hu;subst hu;exact h1
 have keep:∀ w',w.grownBy w' none→∀ (u:Value) (k:Nat) (zs:List Value),Rw lo w u k zs→Rw lo w' u k zs:=by
  intro w' hg u k zs hr
  rcases hr.2 with hn|⟨g,cap,cur,rfl,hl,hgb,rest⟩
  · exact ⟨hr.1,.inl hn⟩
  · refine ⟨hr.1,.inr ⟨g,cap,cur,rfl,hl,?_,rest⟩⟩
    rw [hg.block g (Array.getElem?_eq_some_iff.1 hgb).1 (by simp)];exact hgb
 have newb:∀ (v':Value) (w':World) (m:Nat) (zs:List Value),w'.ownsRow w.heap.size 27 1 v' (m+1) zs→∃ g,v'.ownBlock=some g∧w.heap.size≤g:=by
  intro v' w' m zs h
  rcases h.2 with ⟨_,h0⟩|⟨g,cap,cur,rfl,hl,_⟩
  · omega
  · exact ⟨g,rfl,hl⟩
 have mono:∀ (v':Value) (w':World) (m:Nat) (zs:List Value),w'.ownsRow w.heap.size 27 1 v' m zs→Rw lo w' v' m zs:=by
  intro v' w' m zs h;refine ⟨h.1,?_⟩
  rcases h.2 with hn|⟨g,cap,cur,rfl,hl,rest⟩
  · exact .inl hn
  · exact .inr ⟨g,cap,cur,rfl,by omega,rest⟩
 rcases hown.2 with ⟨rfl,rfl⟩|⟨g,cap,cur,rfl,hlg,hg,hnc,hm,hs,ht⟩
 · obtain ⟨v',w',r1,r2,r3,_,_⟩:=run_append_own_at (P:=Tryz.prog) w w.heap.size 23 ty 27 i0 (.float .f64 0) 1 8 Tryz.underlying23 hi hz0 hz1 hz2 rfl (by decide) (.slice none 0 0) 0 [] (World.ownsRow_nil _ _ _ _) ⟨s,0,none⟩ 1 1 [x] rfl hnews h1' (by unfold maxLen;omega) (by omega) (Nat.le_refl _)
   have hy:ys=[]:=List.eq_nil_of_length_eq_zero (by simpa using hown.1)
   subst hy;exact ⟨v',w',r1,mono _ _ _ _ (by simpa using r2),r3,.inr (newb _ _ 0 _ (by simpa using r2)),fun u k zs hr _=>keep _ r3 u k zs hr⟩
 · by_cases hroom:n+1≤cap
   · have hr:=run_append_room (P:=Tryz.prog) w 23 ty 27 i0 Tryz.underlying23 hi g n cap cur hg ⟨s,0,none⟩ 1 1 [x] (by rw [hz1];rfl) hnews h1' hroom (by rw [hz1,hs];simp;omega)
     rw [hz1] at hr;refine ⟨_,_,hr,⟨by simpa using hown.1,.inr ⟨g,cap,_,rfl,hlg,setRow_heap w g cur _ 27 _ hg,hroom,hm,?_,?_⟩⟩,⟨rfl,rfl,rfl,by simp,fun k _ hk=>setRow_other w g k _ (fun e=>hk (by simp [Value.ownBlock,e]))⟩,.inl rfl,?_⟩
     · simp only [List.size_toArray,List.length_append,List.length_take,List.length_drop,Array.length_toList,List.length_cons,List.length_nil]
       omega
     · rw [ht]
       have hyl:ys.length=n:=by simpa using hown.1
       simp only [Nat.mul_one,List.append_assoc];rw [←List.append_assoc];rw [List.take_append_of_le_length (by simp [hyl])]
       rw [List.take_of_length_le (by simp [hyl])]
     · intro u k zs hr2 hle
       rcases hr2.2 with hn|⟨g2,cap2,cur2,rfl,hl2,hg2,hnc2,hm2,hs2,ht2⟩
       · exact ⟨hr2.1,.inl hn⟩
       · by_cases he:g2=g
         · subst he
           rw [hg] at hg2
           cases hg2
           have hk:=hle rfl;refine ⟨hr2.1,.inr ⟨g2,cap2,_,rfl,hl2,setRow_heap w g2 cur _ 27 _ hg,hnc2,hm2,?_,?_⟩⟩
           · simp only [List.size_toArray,List.length_append,List.length_take,List.length_drop,Array.length_toList,List.length_cons,List.length_nil]
             omega
           · have hcl:cur.toList.length=cap2:=by simpa using hs2
             rw [←ht2];simp only [Nat.mul_one,List.append_assoc];rw [List.take_append_of_le_length (by rw [List.length_take];omega),List.take_take,Nat.min_eq_left hk]
         · refine ⟨hr2.1,.inr ⟨g2,cap2,cur2,rfl,hl2,?_,hnc2,hm2,hs2,ht2⟩⟩
           rw [setRow_other w g g2 _ he];exact hg2
   · obtain ⟨v',w',r1,r2,r3⟩:=run_append_arg_grows (P:=Tryz.prog) w 23 ty 27 i0 (.float .f64 0) 1 8 Tryz.underlying23 hi hz0 hz1 hz2 rfl (by decide) ⟨g,0,none⟩ n cap ys (by simpa using hown.1) (fun j u hj=>hown.cells (g:=g) (by simp [Value.ownBlock]) j u hj) ⟨s,0,none⟩ 1 1 [x] rfl hnews (by omega) (by unfold maxLen;omega) (by omega)
     exact ⟨v',w',r1,mono _ _ _ _ r2,⟨r3.os,r3.tape,r3.output,r3.size,fun k hk _=>r3.block k hk (by simp)⟩,.inr (newb _ _ n _ r2),fun u k zs hr _=>keep _ r3 u k zs hr⟩
theorem wpList_append_run2 {w:World}{ops:Array Oper}{rest:List Oper}{o:Oper}{a:Act}{Q:Exit→Act→World→Prop}(hgd:o.guard=none) (s x:Operand) (t:TypeId)
 (ho:o.op=.call { callee:=.builtin .append,args:=#[s,x],argTypes:=#[t,t] }) (v u:Value) (hs:a.eval s=v) (hx:a.eval x=u) (v':Value) (w':World)
 (hrun:(Builtin.append_ #[t,t] o.type #[v,u]).run Tryz.prog w=.ok v' w') (h:wpList Tryz.prog ops Q rest (a.put o.dst v') w'):wpList Tryz.prog ops Q (o::rest) a w:=by
 refine wpList_plain hgd fun K hK=>?_
 unfold Oper.wp;simp [execOp,ho,resolve,invoke,builtin,hs,hx,hrun,Result.andThen];exact hK _ _ h
end Ps
end Go.Proofs.YtgfemeencgjneaaGreatDoor
