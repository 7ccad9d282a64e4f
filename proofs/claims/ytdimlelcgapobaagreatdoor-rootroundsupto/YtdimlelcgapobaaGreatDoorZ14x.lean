import Derived.Test.YtdimlelcgapobaaGreatDoorZ9x
import Derived.Test.YtdimlelcgapobaaGreatDoorBN2x
import Derived.Test.YtdimlelcgapobaaGreatDoorZ3x
set_option linter.unusedVariables false
set_option linter.unusedSimpArgs false
set_option maxHeartbeats 16000000
set_option maxRecDepth 20000
namespace Go.Proofs.YtdimlelcgapobaaGreatDoor
section
open Go.RowKit
theorem one_begin (w:World) (n:Bool) (v:Value) (e:Int) (m:Bool) (u:Value) (f:Int) (W:World) (hW:W=w.alloc (.cells #[.bool n,v,.int .i64 e,.bool m,u,.int .i64 f] 30)) :
 Below w.heap.size w W∧W.heap.size=w.heap.size+1∧Rq W w.heap.size n v e m u f:=by
 rw [hW];exact ⟨below_alloc w _,by simp,Rq.new _ _ _ _ _ _ _⟩
theorem rounded_quotient64 {w:World}{n m:Bool}{a b:Option Addr}{la ca lb cb:Nat}{X Y:Nat}{e f:Int}(mode:Int) (hr:Rv w ⟨n,.slice a la ca,X,e,m,.slice b lb cb,Y,f⟩) (hT:Tab w)
 (o1 o2 z:Option (Bool×Nat×Int)) (ew:Int) (rw':Nat×Int) (ho1:mkS n X e=o1) (ho2:mkS m Y f=o2) (lz:(ws (dX z)).length≤8192) (hew:ew≠0→rw'.1=0∧rw'.2=ew)
 (ANS:Nat×Int) (hANS:ANS=if mode<0∨4<mode then (0,1) else if errL (fun _=>(⟨n,.slice a la ca,X,e,m,.slice b lb cb,Y,f⟩:Ri)) 1=0 then rw' else (0,errL (fun _=>(⟨n,.slice a la ca,X,e,m,.slice b lb cb,Y,f⟩:Ri)) 1))
 (HW:Hid (∀ (u:World) (p q:Value),Below w.heap.size w u→Nt w.heap.size u p (dX o1)→Nt w.heap.size u q (dX o2)→errL (fun _=>(⟨n,.slice a la ca,X,e,m,.slice b lb cb,Y,f⟩:Ri)) 1=0→Calls Tryz.prog 42 #[.agg #[.bool (dN o1),p,.int .i64 (dE o1),.bool (dN o2),q,.int .i64 (dE o2)]] u fun r w'=>(∃ v,r=.returned (.tuple #[.agg #[.bool (dN z),v,.int .i64 (dE z)],.int .i64 ew])∧Nt u.heap.size w' v (dX z))∧Below u.heap.size u w'))
 (HR:Hid (∀ (u:World) (p:Option Addr) (q:Nat),ew=0→¬ (mode<0∨4<mode)→errL (fun _=>(⟨n,.slice a la ca,X,e,m,.slice b lb cb,Y,f⟩:Ri)) 1=0→Below w.heap.size w u→Arg u p (ws (dX z)).length q (ws (dX z))→Calls Tryz.prog 43 #[.agg #[.bool (dN z),.slice p (ws (dX z)).length q,.int .i64 (dE z)],.int .i64 mode] u fun r w'=>r=.returned (.tuple #[.float .f64 rw'.1,.int .i64 rw'.2])∧Below u.heap.size u w')) :
 Calls Tryz.prog 41 #[.agg #[.bool n,.slice a la ca,.int .i64 e,.bool m,.slice b lb cb,.int .i64 f],.int .i64 mode,.func (.func 42) #[] #[],.func (.func 43) #[] #[]] w fun r w'=>r=.returned (.tuple #[.float .f64 ANS.1,.int .i64 ANS.2])∧Below w.heap.size w w':=by
 obtain ⟨W1,hW1⟩:∃ W,W=w.alloc (.cells #[.bool n,.slice a la ca,.int .i64 e,.bool m,.slice b lb cb,.int .i64 f] 30):=⟨_,rfl⟩;obtain ⟨hB,hz1,Q1⟩:=one_begin w n _ e m _ f W1 hW1
 by_cases hm:mode<0∨4<mode
 · rw [if_pos hm] at hANS
   subst hANS;have S0:=sd hB;clear hB hz1 Q1 HW HR hr hT
   by_cases hm0:mode<0
   · have d1:=decide_eq_true hm0
     go_enter Tryz.func41,Tryz.ntmps41
     go_upto_region 1 with fail
     rw [←hW1];clear hW1;go_wp2
     go_ret2
     exact ⟨rfl,S0.out⟩
   · have d1:=decide_eq_false hm0
     have hm4:4<mode:=by omega
     have d2:=decide_eq_true hm4;clear hm;go_enter Tryz.func41,Tryz.ntmps41
     go_upto_region 1 with fail
     rw [←hW1];clear hW1;go_wp2
     go_ret2
     exact ⟨rfl,S0.out⟩
 · rw [if_neg hm] at hANS
   obtain ⟨R,hR⟩:∃ R,R=W1.alloc (.cells #[.bool n,.slice a la ca,.int .i64 e,.bool m,.slice b lb cb,.int .i64 f] 30):=⟨_,rfl⟩;have hin:=rin1 W1 _ (hr.below hB) (hT.belows hB) R hR;have hbR:Below W1.heap.size W1 R:=by rw [hR];exact below_alloc _ _
   have HF:=hid (forms1 R W1.heap.size _ hin);obtain ⟨I,hI⟩:∃ I:Nat→Ri,(fun _=>(⟨n,.slice a la ca,X,e,m,.slice b lb cb,Y,f⟩:Ri))=I:=⟨_,rfl⟩
   rw [hI] at HF hANS HW HR;obtain ⟨x0,x1,x2,x3,x4,x5⟩:=Q1.facts;have HAn:=sd hANS;have S0:=(sd (ai (hB.trans (hbR.mono hB.size)) (ai hI (ai ho1 ho2))));have d1:decide (mode<0)=false:=decide_eq_false (fun h=>hm (.inl h))
   have d2:decide (4<mode)=false:=decide_eq_false (fun h=>hm (.inr h))
   have HM:=sd hm;obtain ⟨g12,hg12⟩:∃ g,W1.heap.size=g:=⟨_,rfl⟩;rw [hg12] at HF;clear hB hz1 Q1 hin hbR hr hT hANS hI ho1 ho2 hm;go_enter Tryz.func41,Tryz.ntmps41
   go_upto_region 1 with fail
   rw [←hW1];clear hW1
   go_wp2_with fail
   rw [←hR];clear hR hg12 x0 x1 x2 x3 x4 x5;refine HF.out.mono ?_;rintro r u1 ⟨hor,hb⟩;clear HF;obtain ⟨bel,hI,ho1,ho2⟩:=S0.out;have S1:=sd (bel.trans (hb.mono bel.size))
   rcases hor with ⟨hne,rfl⟩|⟨h0,g',V,rfl,hO⟩
   · have HA2:=HAn.out
     rw [if_neg hne] at HA2;obtain ⟨er,her⟩:∃ er,errL I 1=er:=⟨_,rfl⟩;rw [her] at hne HA2 ⊢;have HA3:=sd HA2;have hnb:(er==0)=false:=by simp [hne]
     clear HAn HA2 her hne bel hb hI ho1 ho2 S0 HW HR;go_wp2
     go_ret2
     rw [HA3.out];exact ⟨rfl,S1.out⟩
   · have HA2:=HAn.out
     rw [if_pos h0] at HA2;obtain ⟨q0,q1,q2,q3,q4,q5⟩:=hO.row.facts 0 (by omega)
     obtain ⟨N1,N2⟩:=hO.nts 0 (by omega)
     simp only [Nat.zero_mul,Nat.zero_add] at q0 q1 q2 q3 q4 q5;unfold frmI at q0 q1 q2 q3 q4 q5;have e0:I 0=⟨n,.slice a la ca,X,e,m,.slice b lb cb,Y,f⟩:=by rw [←hI]
     rw [e0] at N1 N2;simp only [e0] at q0 q1 q2 q3 q4 q5 N1 N2;have m1:=mkS_len n X e;have m2:=mkS_len m Y f;rw [ho1] at q0 q2 N1 m1;rw [ho2] at q3 q5 N2 m2;obtain ⟨v1,hv1⟩:∃ v1,(V 0).1=v1:=⟨_,rfl⟩;obtain ⟨v2,hv2⟩:∃ v1,(V 0).2=v1:=⟨_,rfl⟩;rw [hv1] at q1 N1;rw [hv2] at q4 N2;obtain ⟨a1,c1,rfl,_⟩:=N1.arg (by omega)
     obtain ⟨a2,c2,rfl,_⟩:=N2.arg (by omega)
     have HC:=hid (HW.out u1 _ _ (bel.trans (hb.mono bel.size)) (N1.mono (by have:=bel.size;omega)) (N2.mono (by have:=bel.size;omega)) h0)
     have S2:=(sd (ai h0 HA2));clear HAn HA2 bel hb hI ho1 ho2 S0 hO N1 N2 HW h0 hv1 hv2 e0
     go_wp2_with fail
     clear q0 q1 q2 q3 q4 q5;refine HC.out.mono ?_;rintro r u2 ⟨⟨v,rfl,NZ⟩,hb⟩;obtain ⟨az,cz,rfl,_⟩:=NZ.arg (by omega)
     clear HC;obtain ⟨U3,hU3⟩:∃ U,U=u2.alloc (.cells #[.bool (dN z),.slice az (ws (dX z)).length cz,.int .i64 (dE z)] 27):=⟨_,rfl⟩;have hbA:Below u2.heap.size u2 U3:=by rw [hU3];exact below_alloc _ _
     have bb:=S1.out.trans (hb.mono S1.out.size);have bc:=bb.trans (hbA.mono bb.size)
     by_cases hew0:ew=0
     · have TZ:Tk U3 u2.heap.size 27 (.bool (dN z)) (.slice az (ws (dX z)).length cz) (.int .i64 (dE z)):=by rw [hU3];exact Tk.new _ _ _ _ _
       have HD:=hid (HR.out U3 az cz hew0 HM.out S2.out.1 bc ((NZ.below hbA).arg' (by omega)).2)
       obtain ⟨x0,x1,x2,_,_,_⟩:=TZ.facts;have S3:=(sd (ai bc S2.out.2));clear bb bc hb hbA NZ TZ S1 S2 HR HM hew;subst hew0
       go_upto_region 7 with fail
       rw [←hU3];clear hU3
       go_wp2_with fail
       refine HD.out.mono ?_;rintro r u3 ⟨rfl,hb⟩;have S4:=sd (S3.out.1.trans (hb.mono S3.out.1.size));clear hb HD x0 x1 x2;go_wp2
       go_ret2
       rw [S3.out.2];exact ⟨rfl,S4.out⟩
     · have hnb:(ew==0)=false:=by simp [hew0]
       have hA:ANS=(0,ew):=by
        rw [S2.out.2];have:=hew hew0;rw [←this.1,←this.2]
       have S3:=(sd (ai bc hA));clear bb bc hb hbA NZ S1 S2 HR HM hew hA hew0
       go_upto_region 7 with fail
       rw [←hU3];clear hU3;go_wp2
       go_ret2
       rw [S3.out.2];exact ⟨rfl,S3.out.1⟩
theorem Quot_box {w:World}{a b:Option Addr}{la ca lb cb:Nat}(n m:Bool) (e f mode:Int) (ANS:Nat×Int)
 (HR:Hid (∀ u:World,Below w.heap.size w u→Calls Tryz.prog 41 #[.agg #[.bool n,.slice a la ca,.int .i64 e,.bool m,.slice b lb cb,.int .i64 f],.int .i64 mode,.func (.func 42) #[] #[],.func (.func 43) #[] #[]] u fun r w'=>r=.returned (.tuple #[.float .f64 ANS.1,.int .i64 ANS.2])∧Below u.heap.size u w')) :
 Calls Tryz.prog 10 #[.agg #[.bool n,.slice a la ca,.int .i64 e,.bool m,.slice b lb cb,.int .i64 f],.int .i64 mode] w fun r w'=>r=.returned (.tuple #[.float .f64 ANS.1,.int .i64 ANS.2])∧Below w.heap.size w w':=by
 obtain ⟨W1,hW1⟩:∃ W,W=w.alloc (.cells #[.bool n,.slice a la ca,.int .i64 e,.bool m,.slice b lb cb,.int .i64 f] 30):=⟨_,rfl⟩;obtain ⟨hB,hz1,Q1⟩:=one_begin w n _ e m _ f W1 hW1;have HC:=hid (HR.out W1 hB);obtain ⟨x0,x1,x2,x3,x4,x5⟩:=Q1.facts;have S0:=sd hB;clear hB hz1 Q1 HR;go_enter Tryz.func10,Tryz.ntmps10
 go_upto_region 1 with fail
 rw [←hW1];clear hW1
 go_wp2_with fail
 refine HC.out.mono ?_;rintro r u1 ⟨rfl,hb⟩;have S1:=sd (S0.out.trans (hb.mono S0.out.size));clear hb HC x0 x1 x2 x3 x4 x5;go_wp2
 go_ret2
 exact ⟨rfl,S1.out⟩
theorem rounded_squareRoot64 {w:World}{n m:Bool}{a b:Option Addr}{la ca lb cb:Nat}{X Y:Nat}{e f:Int}(mode:Int) (hr:Rv w ⟨n,.slice a la ca,X,e,m,.slice b lb cb,Y,f⟩) (hT:Tab w)
 (o1 o2 z:Option (Bool×Nat×Int)) (ew:Int) (rw':Nat×Int) (ho1:mkS n X e=o1) (ho2:mkS m Y f=o2) (lz:(ws (dX z)).length≤8192) (hew:ew≠0→rw'.1=0∧rw'.2=ew)
 (ANS:Nat×Int) (hANS:ANS=if mode<0∨4<mode then (0,1) else if errL (fun _=>(⟨n,.slice a la ca,X,e,m,.slice b lb cb,Y,f⟩:Ri)) 1=0 then rw' else (0,errL (fun _=>(⟨n,.slice a la ca,X,e,m,.slice b lb cb,Y,f⟩:Ri)) 1))
 (HW:Hid (∀ (u:World) (p q:Value),Below w.heap.size w u→Nt w.heap.size u p (dX o1)→Nt w.heap.size u q (dX o2)→errL (fun _=>(⟨n,.slice a la ca,X,e,m,.slice b lb cb,Y,f⟩:Ri)) 1=0→Calls Tryz.prog 45 #[.agg #[.bool (dN o1),p,.int .i64 (dE o1),.bool (dN o2),q,.int .i64 (dE o2)]] u fun r w'=>(∃ v,r=.returned (.tuple #[.agg #[.bool (dN z),v,.int .i64 (dE z)],.int .i64 ew])∧Nt u.heap.size w' v (dX z))∧Below u.heap.size u w'))
 (HR:Hid (∀ (u:World) (p:Option Addr) (q:Nat),ew=0→¬ (mode<0∨4<mode)→errL (fun _=>(⟨n,.slice a la ca,X,e,m,.slice b lb cb,Y,f⟩:Ri)) 1=0→Below w.heap.size w u→Arg u p (ws (dX z)).length q (ws (dX z))→Calls Tryz.prog 43 #[.agg #[.bool (dN z),.slice p (ws (dX z)).length q,.int .i64 (dE z)],.int .i64 mode] u fun r w'=>r=.returned (.tuple #[.float .f64 rw'.1,.int .i64 rw'.2])∧Below u.heap.size u w')) :
 Calls Tryz.prog 41 #[.agg #[.bool n,.slice a la ca,.int .i64 e,.bool m,.slice b lb cb,.int .i64 f],.int .i64 mode,.func (.func 45) #[] #[],.func (.func 43) #[] #[]] w fun r w'=>r=.returned (.tuple #[.float .f64 ANS.1,.int .i64 ANS.2])∧Below w.heap.size w w':=by
 obtain ⟨W1,hW1⟩:∃ W,W=w.alloc (.cells #[.bool n,.slice a la ca,.int .i64 e,.bool m,.slice b lb cb,.int .i64 f] 30):=⟨_,rfl⟩;obtain ⟨hB,hz1,Q1⟩:=one_begin w n _ e m _ f W1 hW1
 by_cases hm:mode<0∨4<mode
 · rw [if_pos hm] at hANS
   subst hANS;have S0:=sd hB;clear hB hz1 Q1 HW HR hr hT
   by_cases hm0:mode<0
   · have d1:=decide_eq_true hm0
     go_enter Tryz.func41,Tryz.ntmps41
     go_upto_region 1 with fail
     rw [←hW1];clear hW1;go_wp2
     go_ret2
     exact ⟨rfl,S0.out⟩
   · have d1:=decide_eq_false hm0
     have hm4:4<mode:=by omega
     have d2:=decide_eq_true hm4;clear hm;go_enter Tryz.func41,Tryz.ntmps41
     go_upto_region 1 with fail
     rw [←hW1];clear hW1;go_wp2
     go_ret2
     exact ⟨rfl,S0.out⟩
 · rw [if_neg hm] at hANS
   obtain ⟨R,hR⟩:∃ R,R=W1.alloc (.cells #[.bool n,.slice a la ca,.int .i64 e,.bool m,.slice b lb cb,.int .i64 f] 30):=⟨_,rfl⟩;have hin:=rin1 W1 _ (hr.below hB) (hT.belows hB) R hR;have hbR:Below W1.heap.size W1 R:=by rw [hR];exact below_alloc _ _
   have HF:=hid (forms1 R W1.heap.size _ hin);obtain ⟨I,hI⟩:∃ I:Nat→Ri,(fun _=>(⟨n,.slice a la ca,X,e,m,.slice b lb cb,Y,f⟩:Ri))=I:=⟨_,rfl⟩
   rw [hI] at HF hANS HW HR;obtain ⟨x0,x1,x2,x3,x4,x5⟩:=Q1.facts;have HAn:=sd hANS;have S0:=(sd (ai (hB.trans (hbR.mono hB.size)) (ai hI (ai ho1 ho2))));have d1:decide (mode<0)=false:=decide_eq_false (fun h=>hm (.inl h))
   have d2:decide (4<mode)=false:=decide_eq_false (fun h=>hm (.inr h))
   have HM:=sd hm;obtain ⟨g12,hg12⟩:∃ g,W1.heap.size=g:=⟨_,rfl⟩;rw [hg12] at HF;clear hB hz1 Q1 hin hbR hr hT hANS hI ho1 ho2 hm;go_enter Tryz.func41,Tryz.ntmps41
   go_upto_region 1 with fail
   rw [←hW1];clear hW1
   go_wp2_with fail
   rw [←hR];clear hR hg12 x0 x1 x2 x3 x4 x5;refine HF.out.mono ?_;rintro r u1 ⟨hor,hb⟩;clear HF;obtain ⟨bel,hI,ho1,ho2⟩:=S0.out;have S1:=sd (bel.trans (hb.mono bel.size))
   rcases hor with ⟨hne,rfl⟩|⟨h0,g',V,rfl,hO⟩
   · have HA2:=HAn.out
     rw [if_neg hne] at HA2;obtain ⟨er,her⟩:∃ er,errL I 1=er:=⟨_,rfl⟩;rw [her] at hne HA2 ⊢;have HA3:=sd HA2;have hnb:(er==0)=false:=by simp [hne]
     clear HAn HA2 her hne bel hb hI ho1 ho2 S0 HW HR;go_wp2
     go_ret2
     rw [HA3.out];exact ⟨rfl,S1.out⟩
   · have HA2:=HAn.out
     rw [if_pos h0] at HA2;obtain ⟨q0,q1,q2,q3,q4,q5⟩:=hO.row.facts 0 (by omega)
     obtain ⟨N1,N2⟩:=hO.nts 0 (by omega)
     simp only [Nat.zero_mul,Nat.zero_add] at q0 q1 q2 q3 q4 q5;unfold frmI at q0 q1 q2 q3 q4 q5;have e0:I 0=⟨n,.slice a la ca,X,e,m,.slice b lb cb,Y,f⟩:=by rw [←hI]
     rw [e0] at N1 N2;simp only [e0] at q0 q1 q2 q3 q4 q5 N1 N2;have m1:=mkS_len n X e;have m2:=mkS_len m Y f;rw [ho1] at q0 q2 N1 m1;rw [ho2] at q3 q5 N2 m2;obtain ⟨v1,hv1⟩:∃ v1,(V 0).1=v1:=⟨_,rfl⟩;obtain ⟨v2,hv2⟩:∃ v1,(V 0).2=v1:=⟨_,rfl⟩;rw [hv1] at q1 N1;rw [hv2] at q4 N2;obtain ⟨a1,c1,rfl,_⟩:=N1.arg (by omega)
     obtain ⟨a2,c2,rfl,_⟩:=N2.arg (by omega)
     have HC:=hid (HW.out u1 _ _ (bel.trans (hb.mono bel.size)) (N1.mono (by have:=bel.size;omega)) (N2.mono (by have:=bel.size;omega)) h0)
     have S2:=(sd (ai h0 HA2));clear HAn HA2 bel hb hI ho1 ho2 S0 hO N1 N2 HW h0 hv1 hv2 e0
     go_wp2_with fail
     clear q0 q1 q2 q3 q4 q5;refine HC.out.mono ?_;rintro r u2 ⟨⟨v,rfl,NZ⟩,hb⟩;obtain ⟨az,cz,rfl,_⟩:=NZ.arg (by omega)
     clear HC;obtain ⟨U3,hU3⟩:∃ U,U=u2.alloc (.cells #[.bool (dN z),.slice az (ws (dX z)).length cz,.int .i64 (dE z)] 27):=⟨_,rfl⟩;have hbA:Below u2.heap.size u2 U3:=by rw [hU3];exact below_alloc _ _
     have bb:=S1.out.trans (hb.mono S1.out.size);have bc:=bb.trans (hbA.mono bb.size)
     by_cases hew0:ew=0
     · have TZ:Tk U3 u2.heap.size 27 (.bool (dN z)) (.slice az (ws (dX z)).length cz) (.int .i64 (dE z)):=by rw [hU3];exact Tk.new _ _ _ _ _
       have HD:=hid (HR.out U3 az cz hew0 HM.out S2.out.1 bc ((NZ.below hbA).arg' (by omega)).2)
       obtain ⟨x0,x1,x2,_,_,_⟩:=TZ.facts;have S3:=(sd (ai bc S2.out.2));clear bb bc hb hbA NZ TZ S1 S2 HR HM hew;subst hew0
       go_upto_region 7 with fail
       rw [←hU3];clear hU3
       go_wp2_with fail
       refine HD.out.mono ?_;rintro r u3 ⟨rfl,hb⟩;have S4:=sd (S3.out.1.trans (hb.mono S3.out.1.size));clear hb HD x0 x1 x2;go_wp2
       go_ret2
       rw [S3.out.2];exact ⟨rfl,S4.out⟩
     · have hnb:(ew==0)=false:=by simp [hew0]
       have hA:ANS=(0,ew):=by
        rw [S2.out.2];have:=hew hew0;rw [←this.1,←this.2]
       have S3:=(sd (ai bc hA));clear bb bc hb hbA NZ S1 S2 HR HM hew hA hew0
       go_upto_region 7 with fail
       rw [←hU3];clear hU3;go_wp2
       go_ret2
       rw [S3.out.2];exact ⟨rfl,S3.out.1⟩
theorem Root_box {w:World}{a b:Option Addr}{la ca lb cb:Nat}(n m:Bool) (e f mode:Int) (ANS:Nat×Int)
 (HR:Hid (∀ u:World,Below w.heap.size w u→Calls Tryz.prog 41 #[.agg #[.bool n,.slice a la ca,.int .i64 e,.bool m,.slice b lb cb,.int .i64 f],.int .i64 mode,.func (.func 45) #[] #[],.func (.func 43) #[] #[]] u fun r w'=>r=.returned (.tuple #[.float .f64 ANS.1,.int .i64 ANS.2])∧Below u.heap.size u w')) :
 Calls Tryz.prog 14 #[.agg #[.bool n,.slice a la ca,.int .i64 e,.bool m,.slice b lb cb,.int .i64 f],.int .i64 mode] w fun r w'=>r=.returned (.tuple #[.float .f64 ANS.1,.int .i64 ANS.2])∧Below w.heap.size w w':=by
 obtain ⟨W1,hW1⟩:∃ W,W=w.alloc (.cells #[.bool n,.slice a la ca,.int .i64 e,.bool m,.slice b lb cb,.int .i64 f] 30):=⟨_,rfl⟩;obtain ⟨hB,hz1,Q1⟩:=one_begin w n _ e m _ f W1 hW1;have HC:=hid (HR.out W1 hB);obtain ⟨x0,x1,x2,x3,x4,x5⟩:=Q1.facts;have S0:=sd hB;clear hB hz1 Q1 HR;go_enter Tryz.func14,Tryz.ntmps14
 go_upto_region 1 with fail
 rw [←hW1];clear hW1
 go_wp2_with fail
 refine HC.out.mono ?_;rintro r u1 ⟨rfl,hb⟩;have S1:=sd (S0.out.trans (hb.mono S0.out.size));clear hb HC x0 x1 x2 x3 x4 x5;go_wp2
 go_ret2
 exact ⟨rfl,S1.out⟩
theorem rounded_quotient32 {w:World}{n m:Bool}{a b:Option Addr}{la ca lb cb:Nat}{X Y:Nat}{e f:Int}(mode:Int) (hr:Rv w ⟨n,.slice a la ca,X,e,m,.slice b lb cb,Y,f⟩) (hT:Tab w)
 (o1 o2 z:Option (Bool×Nat×Int)) (ew:Int) (rw':Nat×Int) (ho1:mkS n X e=o1) (ho2:mkS m Y f=o2) (lz:(ws (dX z)).length≤8192) (hew:ew≠0→rw'.1=0∧rw'.2=ew)
 (ANS:Nat×Int) (hANS:ANS=if mode<0∨4<mode then (0,1) else if errL (fun _=>(⟨n,.slice a la ca,X,e,m,.slice b lb cb,Y,f⟩:Ri)) 1=0 then rw' else (0,errL (fun _=>(⟨n,.slice a la ca,X,e,m,.slice b lb cb,Y,f⟩:Ri)) 1))
 (HW:Hid (∀ (u:World) (p q:Value),Below w.heap.size w u→Nt w.heap.size u p (dX o1)→Nt w.heap.size u q (dX o2)→errL (fun _=>(⟨n,.slice a la ca,X,e,m,.slice b lb cb,Y,f⟩:Ri)) 1=0→Calls Tryz.prog 42 #[.agg #[.bool (dN o1),p,.int .i64 (dE o1),.bool (dN o2),q,.int .i64 (dE o2)]] u fun r w'=>(∃ v,r=.returned (.tuple #[.agg #[.bool (dN z),v,.int .i64 (dE z)],.int .i64 ew])∧Nt u.heap.size w' v (dX z))∧Below u.heap.size u w'))
 (HR:Hid (∀ (u:World) (p:Option Addr) (q:Nat),ew=0→¬ (mode<0∨4<mode)→errL (fun _=>(⟨n,.slice a la ca,X,e,m,.slice b lb cb,Y,f⟩:Ri)) 1=0→Below w.heap.size w u→Arg u p (ws (dX z)).length q (ws (dX z))→Calls Tryz.prog 47 #[.agg #[.bool (dN z),.slice p (ws (dX z)).length q,.int .i64 (dE z)],.int .i64 mode] u fun r w'=>r=.returned (.tuple #[.float .f32 rw'.1,.int .i64 rw'.2])∧Below u.heap.size u w')) :
 Calls Tryz.prog 46 #[.agg #[.bool n,.slice a la ca,.int .i64 e,.bool m,.slice b lb cb,.int .i64 f],.int .i64 mode,.func (.func 42) #[] #[],.func (.func 47) #[] #[]] w fun r w'=>r=.returned (.tuple #[.float .f32 ANS.1,.int .i64 ANS.2])∧Below w.heap.size w w':=by
 obtain ⟨W1,hW1⟩:∃ W,W=w.alloc (.cells #[.bool n,.slice a la ca,.int .i64 e,.bool m,.slice b lb cb,.int .i64 f] 30):=⟨_,rfl⟩;obtain ⟨hB,hz1,Q1⟩:=one_begin w n _ e m _ f W1 hW1
 by_cases hm:mode<0∨4<mode
 · rw [if_pos hm] at hANS
   subst hANS;have S0:=sd hB;clear hB hz1 Q1 HW HR hr hT
   by_cases hm0:mode<0
   · have d1:=decide_eq_true hm0
     go_enter Tryz.func46,Tryz.ntmps46
     go_upto_region 1 with fail
     rw [←hW1];clear hW1;go_wp2
     go_ret2
     exact ⟨rfl,S0.out⟩
   · have d1:=decide_eq_false hm0
     have hm4:4<mode:=by omega
     have d2:=decide_eq_true hm4;clear hm;go_enter Tryz.func46,Tryz.ntmps46
     go_upto_region 1 with fail
     rw [←hW1];clear hW1;go_wp2
     go_ret2
     exact ⟨rfl,S0.out⟩
 · rw [if_neg hm] at hANS
   obtain ⟨R,hR⟩:∃ R,R=W1.alloc (.cells #[.bool n,.slice a la ca,.int .i64 e,.bool m,.slice b lb cb,.int .i64 f] 30):=⟨_,rfl⟩;have hin:=rin1 W1 _ (hr.below hB) (hT.belows hB) R hR;have hbR:Below W1.heap.size W1 R:=by rw [hR];exact below_alloc _ _
   have HF:=hid (forms1 R W1.heap.size _ hin);obtain ⟨I,hI⟩:∃ I:Nat→Ri,(fun _=>(⟨n,.slice a la ca,X,e,m,.slice b lb cb,Y,f⟩:Ri))=I:=⟨_,rfl⟩
   rw [hI] at HF hANS HW HR;obtain ⟨x0,x1,x2,x3,x4,x5⟩:=Q1.facts;have HAn:=sd hANS;have S0:=(sd (ai (hB.trans (hbR.mono hB.size)) (ai hI (ai ho1 ho2))));have d1:decide (mode<0)=false:=decide_eq_false (fun h=>hm (.inl h))
   have d2:decide (4<mode)=false:=decide_eq_false (fun h=>hm (.inr h))
   have HM:=sd hm;obtain ⟨g12,hg12⟩:∃ g,W1.heap.size=g:=⟨_,rfl⟩;rw [hg12] at HF;clear hB hz1 Q1 hin hbR hr hT hANS hI ho1 ho2 hm;go_enter Tryz.func46,Tryz.ntmps46
   go_upto_region 1 with fail
   rw [←hW1];clear hW1
   go_wp2_with fail
   rw [←hR];clear hR hg12 x0 x1 x2 x3 x4 x5;refine HF.out.mono ?_;rintro r u1 ⟨hor,hb⟩;clear HF;obtain ⟨bel,hI,ho1,ho2⟩:=S0.out;have S1:=sd (bel.trans (hb.mono bel.size))
   rcases hor with ⟨hne,rfl⟩|⟨h0,g',V,rfl,hO⟩
   · have HA2:=HAn.out
     rw [if_neg hne] at HA2;obtain ⟨er,her⟩:∃ er,errL I 1=er:=⟨_,rfl⟩;rw [her] at hne HA2 ⊢;have HA3:=sd HA2;have hnb:(er==0)=false:=by simp [hne]
     clear HAn HA2 her hne bel hb hI ho1 ho2 S0 HW HR;go_wp2
     go_ret2
     rw [HA3.out];exact ⟨rfl,S1.out⟩
   · have HA2:=HAn.out
     rw [if_pos h0] at HA2;obtain ⟨q0,q1,q2,q3,q4,q5⟩:=hO.row.facts 0 (by omega)
     obtain ⟨N1,N2⟩:=hO.nts 0 (by omega)
     simp only [Nat.zero_mul,Nat.zero_add] at q0 q1 q2 q3 q4 q5;unfold frmI at q0 q1 q2 q3 q4 q5;have e0:I 0=⟨n,.slice a la ca,X,e,m,.slice b lb cb,Y,f⟩:=by rw [←hI]
     rw [e0] at N1 N2;simp only [e0] at q0 q1 q2 q3 q4 q5 N1 N2;have m1:=mkS_len n X e;have m2:=mkS_len m Y f;rw [ho1] at q0 q2 N1 m1;rw [ho2] at q3 q5 N2 m2;obtain ⟨v1,hv1⟩:∃ v1,(V 0).1=v1:=⟨_,rfl⟩;obtain ⟨v2,hv2⟩:∃ v1,(V 0).2=v1:=⟨_,rfl⟩;rw [hv1] at q1 N1;rw [hv2] at q4 N2;obtain ⟨a1,c1,rfl,_⟩:=N1.arg (by omega)
     obtain ⟨a2,c2,rfl,_⟩:=N2.arg (by omega)
     have HC:=hid (HW.out u1 _ _ (bel.trans (hb.mono bel.size)) (N1.mono (by have:=bel.size;omega)) (N2.mono (by have:=bel.size;omega)) h0)
     have S2:=(sd (ai h0 HA2));clear HAn HA2 bel hb hI ho1 ho2 S0 hO N1 N2 HW h0 hv1 hv2 e0
     go_wp2_with fail
     clear q0 q1 q2 q3 q4 q5;refine HC.out.mono ?_;rintro r u2 ⟨⟨v,rfl,NZ⟩,hb⟩;obtain ⟨az,cz,rfl,_⟩:=NZ.arg (by omega)
     clear HC;obtain ⟨U3,hU3⟩:∃ U,U=u2.alloc (.cells #[.bool (dN z),.slice az (ws (dX z)).length cz,.int .i64 (dE z)] 27):=⟨_,rfl⟩;have hbA:Below u2.heap.size u2 U3:=by rw [hU3];exact below_alloc _ _
     have bb:=S1.out.trans (hb.mono S1.out.size);have bc:=bb.trans (hbA.mono bb.size)
     by_cases hew0:ew=0
     · have TZ:Tk U3 u2.heap.size 27 (.bool (dN z)) (.slice az (ws (dX z)).length cz) (.int .i64 (dE z)):=by rw [hU3];exact Tk.new _ _ _ _ _
       have HD:=hid (HR.out U3 az cz hew0 HM.out S2.out.1 bc ((NZ.below hbA).arg' (by omega)).2)
       obtain ⟨x0,x1,x2,_,_,_⟩:=TZ.facts;have S3:=(sd (ai bc S2.out.2));clear bb bc hb hbA NZ TZ S1 S2 HR HM hew;subst hew0
       go_upto_region 7 with fail
       rw [←hU3];clear hU3
       go_wp2_with fail
       refine HD.out.mono ?_;rintro r u3 ⟨rfl,hb⟩;have S4:=sd (S3.out.1.trans (hb.mono S3.out.1.size));clear hb HD x0 x1 x2;go_wp2
       go_ret2
       rw [S3.out.2];exact ⟨rfl,S4.out⟩
     · have hnb:(ew==0)=false:=by simp [hew0]
       have hA:ANS=(0,ew):=by
        rw [S2.out.2];have:=hew hew0;rw [←this.1,←this.2]
       have S3:=(sd (ai bc hA));clear bb bc hb hbA NZ S1 S2 HR HM hew hA hew0
       go_upto_region 7 with fail
       rw [←hU3];clear hU3;go_wp2
       go_ret2
       rw [S3.out.2];exact ⟨rfl,S3.out.1⟩
theorem Quot32_box {w:World}{a b:Option Addr}{la ca lb cb:Nat}(n m:Bool) (e f mode:Int) (ANS:Nat×Int)
 (HR:Hid (∀ u:World,Below w.heap.size w u→Calls Tryz.prog 46 #[.agg #[.bool n,.slice a la ca,.int .i64 e,.bool m,.slice b lb cb,.int .i64 f],.int .i64 mode,.func (.func 42) #[] #[],.func (.func 47) #[] #[]] u fun r w'=>r=.returned (.tuple #[.float .f32 ANS.1,.int .i64 ANS.2])∧Below u.heap.size u w')) :
 Calls Tryz.prog 15 #[.agg #[.bool n,.slice a la ca,.int .i64 e,.bool m,.slice b lb cb,.int .i64 f],.int .i64 mode] w fun r w'=>r=.returned (.tuple #[.float .f32 ANS.1,.int .i64 ANS.2])∧Below w.heap.size w w':=by
 obtain ⟨W1,hW1⟩:∃ W,W=w.alloc (.cells #[.bool n,.slice a la ca,.int .i64 e,.bool m,.slice b lb cb,.int .i64 f] 30):=⟨_,rfl⟩;obtain ⟨hB,hz1,Q1⟩:=one_begin w n _ e m _ f W1 hW1;have HC:=hid (HR.out W1 hB);obtain ⟨x0,x1,x2,x3,x4,x5⟩:=Q1.facts;have S0:=sd hB;clear hB hz1 Q1 HR;go_enter Tryz.func15,Tryz.ntmps15
 go_upto_region 1 with fail
 rw [←hW1];clear hW1
 go_wp2_with fail
 refine HC.out.mono ?_;rintro r u1 ⟨rfl,hb⟩;have S1:=sd (S0.out.trans (hb.mono S0.out.size));clear hb HC x0 x1 x2 x3 x4 x5;go_wp2
 go_ret2
 exact ⟨rfl,S1.out⟩
theorem rounded_squareRoot32 {w:World}{n m:Bool}{a b:Option Addr}{la ca lb cb:Nat}{X Y:Nat}{e f:Int}(mode:Int) (hr:Rv w ⟨n,.slice a la ca,X,e,m,.slice b lb cb,Y,f⟩) (hT:Tab w)
 (o1 o2 z:Option (Bool×Nat×Int)) (ew:Int) (rw':Nat×Int) (ho1:mkS n X e=o1) (ho2:mkS m Y f=o2) (lz:(ws (dX z)).length≤8192) (hew:ew≠0→rw'.1=0∧rw'.2=ew)
 (ANS:Nat×Int) (hANS:ANS=if mode<0∨4<mode then (0,1) else if errL (fun _=>(⟨n,.slice a la ca,X,e,m,.slice b lb cb,Y,f⟩:Ri)) 1=0 then rw' else (0,errL (fun _=>(⟨n,.slice a la ca,X,e,m,.slice b lb cb,Y,f⟩:Ri)) 1))
 (HW:Hid (∀ (u:World) (p q:Value),Below w.heap.size w u→Nt w.heap.size u p (dX o1)→Nt w.heap.size u q (dX o2)→errL (fun _=>(⟨n,.slice a la ca,X,e,m,.slice b lb cb,Y,f⟩:Ri)) 1=0→Calls Tryz.prog 45 #[.agg #[.bool (dN o1),p,.int .i64 (dE o1),.bool (dN o2),q,.int .i64 (dE o2)]] u fun r w'=>(∃ v,r=.returned (.tuple #[.agg #[.bool (dN z),v,.int .i64 (dE z)],.int .i64 ew])∧Nt u.heap.size w' v (dX z))∧Below u.heap.size u w'))
 (HR:Hid (∀ (u:World) (p:Option Addr) (q:Nat),ew=0→¬ (mode<0∨4<mode)→errL (fun _=>(⟨n,.slice a la ca,X,e,m,.slice b lb cb,Y,f⟩:Ri)) 1=0→Below w.heap.size w u→Arg u p (ws (dX z)).length q (ws (dX z))→Calls Tryz.prog 47 #[.agg #[.bool (dN z),.slice p (ws (dX z)).length q,.int .i64 (dE z)],.int .i64 mode] u fun r w'=>r=.returned (.tuple #[.float .f32 rw'.1,.int .i64 rw'.2])∧Below u.heap.size u w')) :
 Calls Tryz.prog 46 #[.agg #[.bool n,.slice a la ca,.int .i64 e,.bool m,.slice b lb cb,.int .i64 f],.int .i64 mode,.func (.func 45) #[] #[],.func (.func 47) #[] #[]] w fun r w'=>r=.returned (.tuple #[.float .f32 ANS.1,.int .i64 ANS.2])∧Below w.heap.size w w':=by
 obtain ⟨W1,hW1⟩:∃ W,W=w.alloc (.cells #[.bool n,.slice a la ca,.int .i64 e,.bool m,.slice b lb cb,.int .i64 f] 30):=⟨_,rfl⟩;obtain ⟨hB,hz1,Q1⟩:=one_begin w n _ e m _ f W1 hW1
 by_cases hm:mode<0∨4<mode
 · rw [if_pos hm] at hANS
   subst hANS;have S0:=sd hB;clear hB hz1 Q1 HW HR hr hT
   by_cases hm0:mode<0
   · have d1:=decide_eq_true hm0
     go_enter Tryz.func46,Tryz.ntmps46
     go_upto_region 1 with fail
     rw [←hW1];clear hW1;go_wp2
     go_ret2
     exact ⟨rfl,S0.out⟩
   · have d1:=decide_eq_false hm0
     have hm4:4<mode:=by omega
     have d2:=decide_eq_true hm4;clear hm;go_enter Tryz.func46,Tryz.ntmps46
     go_upto_region 1 with fail
     rw [←hW1];clear hW1;go_wp2
     go_ret2
     exact ⟨rfl,S0.out⟩
 · rw [if_neg hm] at hANS
   obtain ⟨R,hR⟩:∃ R,R=W1.alloc (.cells #[.bool n,.slice a la ca,.int .i64 e,.bool m,.slice b lb cb,.int .i64 f] 30):=⟨_,rfl⟩;have hin:=rin1 W1 _ (hr.below hB) (hT.belows hB) R hR;have hbR:Below W1.heap.size W1 R:=by rw [hR];exact below_alloc _ _
   have HF:=hid (forms1 R W1.heap.size _ hin);obtain ⟨I,hI⟩:∃ I:Nat→Ri,(fun _=>(⟨n,.slice a la ca,X,e,m,.slice b lb cb,Y,f⟩:Ri))=I:=⟨_,rfl⟩
   rw [hI] at HF hANS HW HR;obtain ⟨x0,x1,x2,x3,x4,x5⟩:=Q1.facts;have HAn:=sd hANS;have S0:=(sd (ai (hB.trans (hbR.mono hB.size)) (ai hI (ai ho1 ho2))));have d1:decide (mode<0)=false:=decide_eq_false (fun h=>hm (.inl h))
   have d2:decide (4<mode)=false:=decide_eq_false (fun h=>hm (.inr h))
   have HM:=sd hm;obtain ⟨g12,hg12⟩:∃ g,W1.heap.size=g:=⟨_,rfl⟩;rw [hg12] at HF;clear hB hz1 Q1 hin hbR hr hT hANS hI ho1 ho2 hm;go_enter Tryz.func46,Tryz.ntmps46
   go_upto_region 1 with fail
   rw [←hW1];clear hW1
   go_wp2_with fail
   rw [←hR];clear hR hg12 x0 x1 x2 x3 x4 x5;refine HF.out.mono ?_;rintro r u1 ⟨hor,hb⟩;clear HF;obtain ⟨bel,hI,ho1,ho2⟩:=S0.out;have S1:=sd (bel.trans (hb.mono bel.size))
   rcases hor with ⟨hne,rfl⟩|⟨h0,g',V,rfl,hO⟩
   · have HA2:=HAn.out
     rw [if_neg hne] at HA2;obtain ⟨er,her⟩:∃ er,errL I 1=er:=⟨_,rfl⟩;rw [her] at hne HA2 ⊢;have HA3:=sd HA2;have hnb:(er==0)=false:=by simp [hne]
     clear HAn HA2 her hne bel hb hI ho1 ho2 S0 HW HR;go_wp2
     go_ret2
     rw [HA3.out];exact ⟨rfl,S1.out⟩
   · have HA2:=HAn.out
     rw [if_pos h0] at HA2;obtain ⟨q0,q1,q2,q3,q4,q5⟩:=hO.row.facts 0 (by omega)
     obtain ⟨N1,N2⟩:=hO.nts 0 (by omega)
     simp only [Nat.zero_mul,Nat.zero_add] at q0 q1 q2 q3 q4 q5;unfold frmI at q0 q1 q2 q3 q4 q5;have e0:I 0=⟨n,.slice a la ca,X,e,m,.slice b lb cb,Y,f⟩:=by rw [←hI]
     rw [e0] at N1 N2;simp only [e0] at q0 q1 q2 q3 q4 q5 N1 N2;have m1:=mkS_len n X e;have m2:=mkS_len m Y f;rw [ho1] at q0 q2 N1 m1;rw [ho2] at q3 q5 N2 m2;obtain ⟨v1,hv1⟩:∃ v1,(V 0).1=v1:=⟨_,rfl⟩;obtain ⟨v2,hv2⟩:∃ v1,(V 0).2=v1:=⟨_,rfl⟩;rw [hv1] at q1 N1;rw [hv2] at q4 N2;obtain ⟨a1,c1,rfl,_⟩:=N1.arg (by omega)
     obtain ⟨a2,c2,rfl,_⟩:=N2.arg (by omega)
     have HC:=hid (HW.out u1 _ _ (bel.trans (hb.mono bel.size)) (N1.mono (by have:=bel.size;omega)) (N2.mono (by have:=bel.size;omega)) h0)
     have S2:=(sd (ai h0 HA2));clear HAn HA2 bel hb hI ho1 ho2 S0 hO N1 N2 HW h0 hv1 hv2 e0
     go_wp2_with fail
     clear q0 q1 q2 q3 q4 q5;refine HC.out.mono ?_;rintro r u2 ⟨⟨v,rfl,NZ⟩,hb⟩;obtain ⟨az,cz,rfl,_⟩:=NZ.arg (by omega)
     clear HC;obtain ⟨U3,hU3⟩:∃ U,U=u2.alloc (.cells #[.bool (dN z),.slice az (ws (dX z)).length cz,.int .i64 (dE z)] 27):=⟨_,rfl⟩;have hbA:Below u2.heap.size u2 U3:=by rw [hU3];exact below_alloc _ _
     have bb:=S1.out.trans (hb.mono S1.out.size);have bc:=bb.trans (hbA.mono bb.size)
     by_cases hew0:ew=0
     · have TZ:Tk U3 u2.heap.size 27 (.bool (dN z)) (.slice az (ws (dX z)).length cz) (.int .i64 (dE z)):=by rw [hU3];exact Tk.new _ _ _ _ _
       have HD:=hid (HR.out U3 az cz hew0 HM.out S2.out.1 bc ((NZ.below hbA).arg' (by omega)).2)
       obtain ⟨x0,x1,x2,_,_,_⟩:=TZ.facts;have S3:=(sd (ai bc S2.out.2));clear bb bc hb hbA NZ TZ S1 S2 HR HM hew;subst hew0
       go_upto_region 7 with fail
       rw [←hU3];clear hU3
       go_wp2_with fail
       refine HD.out.mono ?_;rintro r u3 ⟨rfl,hb⟩;have S4:=sd (S3.out.1.trans (hb.mono S3.out.1.size));clear hb HD x0 x1 x2;go_wp2
       go_ret2
       rw [S3.out.2];exact ⟨rfl,S4.out⟩
     · have hnb:(ew==0)=false:=by simp [hew0]
       have hA:ANS=(0,ew):=by
        rw [S2.out.2];have:=hew hew0;rw [←this.1,←this.2]
       have S3:=(sd (ai bc hA));clear bb bc hb hbA NZ S1 S2 HR HM hew hA hew0
       go_upto_region 7 with fail
       rw [←hU3];clear hU3;go_wp2
       go_ret2
       rw [S3.out.2];exact ⟨rfl,S3.out.1⟩
theorem Root32_box {w:World}{a b:Option Addr}{la ca lb cb:Nat}(n m:Bool) (e f mode:Int) (ANS:Nat×Int)
 (HR:Hid (∀ u:World,Below w.heap.size w u→Calls Tryz.prog 46 #[.agg #[.bool n,.slice a la ca,.int .i64 e,.bool m,.slice b lb cb,.int .i64 f],.int .i64 mode,.func (.func 45) #[] #[],.func (.func 47) #[] #[]] u fun r w'=>r=.returned (.tuple #[.float .f32 ANS.1,.int .i64 ANS.2])∧Below u.heap.size u w')) :
 Calls Tryz.prog 16 #[.agg #[.bool n,.slice a la ca,.int .i64 e,.bool m,.slice b lb cb,.int .i64 f],.int .i64 mode] w fun r w'=>r=.returned (.tuple #[.float .f32 ANS.1,.int .i64 ANS.2])∧Below w.heap.size w w':=by
 obtain ⟨W1,hW1⟩:∃ W,W=w.alloc (.cells #[.bool n,.slice a la ca,.int .i64 e,.bool m,.slice b lb cb,.int .i64 f] 30):=⟨_,rfl⟩;obtain ⟨hB,hz1,Q1⟩:=one_begin w n _ e m _ f W1 hW1;have HC:=hid (HR.out W1 hB);obtain ⟨x0,x1,x2,x3,x4,x5⟩:=Q1.facts;have S0:=sd hB;clear hB hz1 Q1 HR;go_enter Tryz.func16,Tryz.ntmps16
 go_upto_region 1 with fail
 rw [←hW1];clear hW1
 go_wp2_with fail
 refine HC.out.mono ?_;rintro r u1 ⟨rfl,hb⟩;have S1:=sd (S0.out.trans (hb.mono S0.out.size));clear hb HC x0 x1 x2 x3 x4 x5;go_wp2
 go_ret2
 exact ⟨rfl,S1.out⟩
end
section
open Go.RowKit
theorem mkS_small (n:Bool) (M:Nat) (E:Int) (hM:M≠0) (hb:bl M≤1001) (h0:-4096≤E) (h1:E≤4096):mkS n M E=some (n,M/2^lo M,E+lo M)∧(M/2^lo M)%2=1∧M=M/2^lo M*2^lo M∧lo M≤1001:=by
 obtain ⟨q,h2,h3,h4⟩:=odd_part M hM;refine ⟨?_,by omega,by rw [h3,Nat.mul_comm];exact h2,by omega⟩
 unfold mkS;rw [if_neg hM,if_neg (by omega)]
def quoZ (n:Bool) (X:Nat) (e:Int) (Y:Nat) (f:Int):Option (Bool×Nat×Int):=mkS n (2*whoS X Y 64+(if atS X Y 64 then 0 else 1)) (clampE (e-f-byS X Y 64-cutS Y 64))
def sqX (X:Nat) (e:Int) (Y:Nat) (f:Int):Int:=e-f-byS X Y 129-cutS Y 129
def sqW (X:Nat) (e:Int) (Y:Nat) (f:Int):Nat:=hvW (whoS X Y 129) (sqX X e Y f)
theorem root_there (W:Nat):∃ r,IsRoot W r:=by
 induction W with
 | zero=>exact ⟨0,by unfold IsRoot;omega⟩
 | succ W ih =>
   obtain ⟨r,h1,h2⟩:=ih
   by_cases h:W+1<(r+1)*(r+1)
   · exact ⟨r,by omega,h⟩
   · refine ⟨r+1,by omega,?_⟩
     have:(r+1)*(r+1)<(r+1+1)*(r+1+1):=Nat.mul_lt_mul'' (by omega) (by omega)
     omega
noncomputable def sqR (W:Nat):Nat:=Classical.choose (root_there W)
theorem sqR_is (W:Nat):IsRoot W (sqR W):=Classical.choose_spec (root_there W)
def sqT (X:Nat) (e:Int) (Y:Nat) (f:Int):Bool:=hvA (whoS X Y 129) (sqX X e Y f) (atS X Y 129)
noncomputable def sqD (X:Nat) (e:Int) (Y:Nat) (f:Int):Bool:=sqT X e Y f&&decide (sqW X e Y f=sqR (sqW X e Y f)*sqR (sqW X e Y f))
noncomputable def sqZ (X:Nat) (e:Int) (Y:Nat) (f:Int):Option (Bool×Nat×Int):=mkS false (2*sqR (sqW X e Y f)+(if sqD X e Y f then 0 else 1)) (clampE (hvX (sqX X e Y f)/2))
theorem clamp_rng (x:Int):-4096≤clampE x∧clampE x≤4096:=by unfold clampE;omega
theorem lt_of_sq {R k W:Nat}(h:R*R≤W) (hW:W<2^(2*k)):R<2^k:=by
 rcases Nat.lt_or_ge R (2^k) with q|q
 · exact q
 · have:=Nat.mul_le_mul q q
   rw [←Nat.pow_add,show k+k=2*k by omega] at this
   omega
theorem ge_of_sq {R k W:Nat}(h:W<(R+1)*(R+1)) (hW:2^(2*k)≤W):2^k≤R:=by
 rcases Nat.lt_or_ge R (2^k) with q|q
 · have:=Nat.mul_le_mul (show R+1≤2^k from q) (show R+1≤2^k from q)
   rw [←Nat.pow_add,show k+k=2*k by omega] at this
   omega
 · exact q
theorem sqW_lt (X:Nat) (e:Int) (Y:Nat) (f:Int) (D:DivS X Y 129):sqW X e Y f<2^130:=by
 have:=D.most;unfold sqW hvW
 split <;> omega
theorem sqW_ge (X:Nat) (e:Int) (Y:Nat) (f:Int) (D:DivS X Y 129) (hX:X≠0):2^(2*63)≤sqW X e Y f:=by
 have:=D.least hX;have e1:(2:Nat)^(129-1)=4*2^(2*63):=by decide
 have e2:(1:Nat)≤2^(2*63):=Nat.two_pow_pos _;unfold sqW hvW
 split <;> omega
theorem bl_two {W d k:Nat}(h:W<2^k) (hd:d≤1):bl (2*W+d)≤k+1:=bl_lt_pow (by rw [Nat.pow_succ];omega)
theorem grid64:Grid vK 9218868437227405312:=by
 refine ⟨by decide,?_,fun {k l} h=>vK_lt.2 h,fun k hk=>?_⟩
 · have:=vK_word 0 0 (.inl rfl) (by omega)
   simpa using this
 · by_cases h:k<4503599627370496
   · refine ⟨k,0,?_,?_,by omega,by omega⟩
     · have:=vK_word 0 k (.inl rfl) (by omega);rw [Nat.zero_mul,Nat.zero_add] at this;exact this
     · have:=vK_word 0 (k+1) (.inl rfl) (by omega);rw [Nat.zero_mul,Nat.zero_add] at this;exact this
   · obtain ⟨q,hq⟩:∃ q,k/4503599627370496=q:=⟨_,rfl⟩
     obtain ⟨g,hg⟩:∃ g,k%4503599627370496=g:=⟨_,rfl⟩;refine ⟨4503599627370496+g,q-1,?_,?_,by omega,by omega⟩
     · have:=vK_word (q-1) (4503599627370496+g) (.inr (by omega)) (by omega)
       rw [show (q-1)*4503599627370496+(4503599627370496+g)=k by omega] at this
       exact this
     · have:=vK_word (q-1) (4503599627370496+g+1) (.inr (by omega)) (by omega)
       rw [show (q-1)*4503599627370496+(4503599627370496+g+1)=k+1 by omega] at this
       exact this
theorem liesG64 {K:Nat}{t:Bool}{m:Int}{V S':Nat}(h:Lies K t m V S'):LiesG vK 9218868437227405312 1 K t m V S':=by
 refine ⟨h.fin,h.pos,fun ht=>?_,fun ht=>?_,fun ht hl=>?_,fun ht=>?_⟩
 · rw [Nat.pow_one];exact h.one ht
 · rw [Nat.pow_one];exact h.low ht
 · rw [Nat.pow_one] at hl
   have:=h.mids ht hl;rw [Nat.pow_one,Nat.pow_one,Nat.add_mul];exact this
 · rw [Nat.pow_one]
   rcases h.high ht with q|⟨q,r⟩
   · exact .inl q
   · exact .inr ⟨by omega,r⟩
theorem stand64 (n:Bool) (M:Nat) (E:Int) (hM:M≠0) (hb:bl M≤1001) (h0:-4096≤E) (h1:E≤4096) :
 ∃ K t m,LiesG vK 9218868437227405312 1 K t m (M*2^(E+(1074:Nat)).toNat) (2^(-(E+(1074:Nat))).toNat)∧∀ mode:Int,0≤mode→mode≤4→rndS (mkS n M E) mode=(rK mode n K t m+(if n then 9223372036854775808 else 0),0):=by
 obtain ⟨e1,e2,e3,e4⟩:=mkS_small n M E hM hb h0 h1;obtain ⟨M',hM'⟩:∃ M',M/2^lo M=M':=⟨_,rfl⟩;obtain ⟨l,hl⟩:∃ l,lo M=l:=⟨_,rfl⟩;rw [hM',hl] at e1 e3;rw [hM'] at e2;rw [hl] at e4;have hL:=lies M' (E+l) e2 (by omega) (by omega) (min E (-1074)) (by omega) (by omega)
 refine ⟨flK M' (E+l),(plc 53 (-1074) 1024 M' (E+l)).2.2.1,(plc 53 (-1074) 1024 M' (E+l)).2.2.2,?_,?_⟩
 · have:=liesG64 hL
   rw [e3]
   have w1:M'*2^(E+(l:Int)-min E (-1074)).toNat=M'*2^l*2^(E+(1074:Nat)).toNat:=by
    rw [Nat.mul_assoc,←Nat.pow_add];congr 2;omega
   have w2:(-1074-min E (-1074)).toNat=(-(E+(1074:Nat))).toNat:=by omega
   rw [w1,w2] at this;exact this
 · intro mode hm0 hm4
   rw [e1];unfold rndS;rw [if_neg (by omega)]
   simp only;rw [if_neg (by omega),rndK_eq]
theorem quo64 (n:Bool) (X:Nat) (e:Int) (Y:Nat) (f:Int) (hX:X%2=1) (hY:Y≠0) (bX:bl X≤262144) (bY:bl Y≤262144) :
 ∃ K t m,LiesG vK 9218868437227405312 1 K t m (rV11 X e f 1074 1) (rS11 Y e f 1074 1)∧∀ mode:Int,0≤mode→mode≤4→rndS (quoZ n X e Y f) mode=(rK mode n K t m+(if n then 9223372036854775808 else 0),0):=by
 have D:=divS_facts X Y 64 (.inr hX) hY (by omega) (by omega) bX bY
 have hX0:X≠0:=by omega
 have hW1:=D.least hX0;have hW2:=D.most;have c63:(2:Nat)^(64-1)=9223372036854775808:=by decide
 have sp:=quo_span X Y e f 1074 hY D;have hd:(if atS X Y 64 then 0 else 1)≤1:=by split <;> omega
 obtain ⟨K,t,m,hL,hR⟩:=stand64 n (2*whoS X Y 64+(if atS X Y 64 then 0 else 1)) (clampE (e-f-byS X Y 64-cutS Y 64)) (by omega) (by have:=bl_two hW2 hd;omega) (clamp_rng _).1 (clamp_rng _).2
 refine ⟨K,t,m,hL.of_alike grid64 (by omega) sp.pos ?_,hR⟩
 exact alike_clamp 1 (whoS X Y 64) _ _ _ 1074 _ (by omega) (by omega) (Nat.lt_trans hW2 (by decide)) hd (by omega) (by omega) sp
theorem sqr64 (X:Nat) (e:Int) (Y:Nat) (f:Int) (hX:X%2=1) (hY:Y≠0) (bX:bl X≤262144) (bY:bl Y≤262144) :
 ∃ K t m,LiesG vK 9218868437227405312 2 K t m (rV11 X e f 1074 2) (rS11 Y e f 1074 2)∧∀ mode:Int,0≤mode→mode≤4→rndS (sqZ X e Y f) mode=(rK mode false K t m,0):=by
 have D:=divS_facts X Y 129 (.inr hX) hY (by omega) (by omega) bX bY
 have hX0:X≠0:=by omega
 have g1:=sqW_ge X e Y f D hX0;have g2:=sqW_lt X e Y f D;obtain ⟨r1,r2⟩:=sqR_is (sqW X e Y f);have q1:=ge_of_sq r2 g1;have q2:sqR (sqW X e Y f)<2^65:=lt_of_sq r1 (by rw [show 2*65=130 by rfl];exact g2)
 have sp:=root_span X Y e f 1074 (sqR (sqW X e Y f)) hY D (sqX X e Y f) rfl (sqR_is _);have hd:(if sqD X e Y f then 0 else 1)≤1:=by split <;> omega
 have c63:(2:Nat)^63=9223372036854775808:=by decide
 obtain ⟨K,t,m,hL,hR⟩:=stand64 false (2*sqR (sqW X e Y f)+(if sqD X e Y f then 0 else 1)) (clampE (hvX (sqX X e Y f)/2)) (by omega) (by have:=bl_two q2 hd;omega) (clamp_rng _).1 (clamp_rng _).2
 refine ⟨K,t,m,hL.of_alike grid64 (by omega) sp.pos ?_,fun mode h0 h4=>?_⟩
 · exact alike_clamp 2 (sqR (sqW X e Y f)) _ _ _ 1074 _ (by omega) (by omega) (Nat.lt_trans q2 (by decide)) hd (by omega) (by omega) sp
 · have:=hR mode h0 h4
   simp only [Bool.false_eq_true,if_false,Nat.add_zero] at this;exact this
theorem grid32:Grid S.vK 2139095040:=by
 refine ⟨by decide,?_,fun {k l} h=>S.vK_lt.2 h,fun k hk=>?_⟩
 · have:=S.vK_word 0 0 (.inl rfl) (by omega)
   simpa using this
 · by_cases h:k<8388608
   · refine ⟨k,0,?_,?_,by omega,by omega⟩
     · have:=S.vK_word 0 k (.inl rfl) (by omega);rw [Nat.zero_mul,Nat.zero_add] at this;exact this
     · have:=S.vK_word 0 (k+1) (.inl rfl) (by omega);rw [Nat.zero_mul,Nat.zero_add] at this;exact this
   · obtain ⟨q,hq⟩:∃ q,k/8388608=q:=⟨_,rfl⟩
     obtain ⟨g,hg⟩:∃ g,k%8388608=g:=⟨_,rfl⟩;refine ⟨8388608+g,q-1,?_,?_,by omega,by omega⟩
     · have:=S.vK_word (q-1) (8388608+g) (.inr (by omega)) (by omega)
       rw [show (q-1)*8388608+(8388608+g)=k by omega] at this
       exact this
     · have:=S.vK_word (q-1) (8388608+g+1) (.inr (by omega)) (by omega)
       rw [show (q-1)*8388608+(8388608+g+1)=k+1 by omega] at this
       exact this
theorem liesG32 {K:Nat}{t:Bool}{m:Int}{V S':Nat}(h:S.Lies K t m V S'):LiesG S.vK 2139095040 1 K t m V S':=by
 refine ⟨h.fin,h.pos,fun ht=>?_,fun ht=>?_,fun ht hl=>?_,fun ht=>?_⟩
 · rw [Nat.pow_one];exact h.one ht
 · rw [Nat.pow_one];exact h.low ht
 · rw [Nat.pow_one] at hl
   have:=h.mids ht hl;rw [Nat.pow_one,Nat.pow_one,Nat.add_mul];exact this
 · rw [Nat.pow_one]
   rcases h.high ht with q|⟨q,r⟩
   · exact .inl q
   · exact .inr ⟨by omega,r⟩
theorem stand32 (n:Bool) (M:Nat) (E:Int) (hM:M≠0) (hb:bl M≤1001) (h0:-4096≤E) (h1:E≤4096) :
 ∃ K t m,LiesG S.vK 2139095040 1 K t m (M*2^(E+(149:Nat)).toNat) (2^(-(E+(149:Nat))).toNat)∧∀ mode:Int,0≤mode→mode≤4→S.rndS (mkS n M E) mode=(S.rK mode n K t m+(if n then 2147483648 else 0),0):=by
 obtain ⟨e1,e2,e3,e4⟩:=mkS_small n M E hM hb h0 h1;obtain ⟨M',hM'⟩:∃ M',M/2^lo M=M':=⟨_,rfl⟩;obtain ⟨l,hl⟩:∃ l,lo M=l:=⟨_,rfl⟩;rw [hM',hl] at e1 e3;rw [hM'] at e2;rw [hl] at e4;have hL:=S.lies M' (E+l) e2 (by omega) (by omega) (min E (-149)) (by omega) (by omega)
 refine ⟨S.flK M' (E+l),(plc 24 (-149) 128 M' (E+l)).2.2.1,(plc 24 (-149) 128 M' (E+l)).2.2.2,?_,?_⟩
 · have:=liesG32 hL
   rw [e3]
   have w1:M'*2^(E+(l:Int)-min E (-149)).toNat=M'*2^l*2^(E+(149:Nat)).toNat:=by
    rw [Nat.mul_assoc,←Nat.pow_add];congr 2;omega
   have w2:(-149-min E (-149)).toNat=(-(E+(149:Nat))).toNat:=by omega
   rw [w1,w2] at this;exact this
 · intro mode hm0 hm4
   rw [e1];unfold S.rndS;rw [if_neg (by omega)]
   simp only;unfold S.rW;rw [if_neg (by omega),S.rndK_eq]
theorem quo32 (n:Bool) (X:Nat) (e:Int) (Y:Nat) (f:Int) (hX:X%2=1) (hY:Y≠0) (bX:bl X≤262144) (bY:bl Y≤262144) :
 ∃ K t m,LiesG S.vK 2139095040 1 K t m (rV11 X e f 149 1) (rS11 Y e f 149 1)∧∀ mode:Int,0≤mode→mode≤4→S.rndS (quoZ n X e Y f) mode=(S.rK mode n K t m+(if n then 2147483648 else 0),0):=by
 have D:=divS_facts X Y 64 (.inr hX) hY (by omega) (by omega) bX bY
 have hX0:X≠0:=by omega
 have hW1:=D.least hX0;have hW2:=D.most;have c63:(2:Nat)^(64-1)=9223372036854775808:=by decide
 have sp:=quo_span X Y e f 149 hY D;have hd:(if atS X Y 64 then 0 else 1)≤1:=by split <;> omega
 obtain ⟨K,t,m,hL,hR⟩:=stand32 n (2*whoS X Y 64+(if atS X Y 64 then 0 else 1)) (clampE (e-f-byS X Y 64-cutS Y 64)) (by omega) (by have:=bl_two hW2 hd;omega) (clamp_rng _).1 (clamp_rng _).2
 refine ⟨K,t,m,hL.of_alike grid32 (by omega) sp.pos ?_,hR⟩
 exact alike_clamp 1 (whoS X Y 64) _ _ _ 149 _ (by omega) (by omega) (Nat.lt_trans hW2 (by decide)) hd (by omega) (by omega) sp
theorem sqr32 (X:Nat) (e:Int) (Y:Nat) (f:Int) (hX:X%2=1) (hY:Y≠0) (bX:bl X≤262144) (bY:bl Y≤262144) :
 ∃ K t m,LiesG S.vK 2139095040 2 K t m (rV11 X e f 149 2) (rS11 Y e f 149 2)∧∀ mode:Int,0≤mode→mode≤4→S.rndS (sqZ X e Y f) mode=(S.rK mode false K t m,0):=by
 have D:=divS_facts X Y 129 (.inr hX) hY (by omega) (by omega) bX bY
 have hX0:X≠0:=by omega
 have g1:=sqW_ge X e Y f D hX0;have g2:=sqW_lt X e Y f D;obtain ⟨r1,r2⟩:=sqR_is (sqW X e Y f);have q1:=ge_of_sq r2 g1;have q2:sqR (sqW X e Y f)<2^65:=lt_of_sq r1 (by rw [show 2*65=130 by rfl];exact g2)
 have sp:=root_span X Y e f 149 (sqR (sqW X e Y f)) hY D (sqX X e Y f) rfl (sqR_is _);have hd:(if sqD X e Y f then 0 else 1)≤1:=by split <;> omega
 have c63:(2:Nat)^63=9223372036854775808:=by decide
 obtain ⟨K,t,m,hL,hR⟩:=stand32 false (2*sqR (sqW X e Y f)+(if sqD X e Y f then 0 else 1)) (clampE (hvX (sqX X e Y f)/2)) (by omega) (by have:=bl_two q2 hd;omega) (clamp_rng _).1 (clamp_rng _).2
 refine ⟨K,t,m,hL.of_alike grid32 (by omega) sp.pos ?_,fun mode h0 h4=>?_⟩
 · exact alike_clamp 2 (sqR (sqW X e Y f)) _ _ _ 149 _ (by omega) (by omega) (Nat.lt_trans q2 (by decide)) hd (by omega) (by omega) sp
 · have:=hR mode h0 h4
   simp only [Bool.false_eq_true,if_false,Nat.add_zero] at this;exact this
theorem quoZ_some (n:Bool) (X:Nat) (e:Int) (Y:Nat) (f:Int) (hX:X=0∨X%2=1) (hY:Y≠0) (bX:bl X≤262144) (bY:bl Y≤262144):(quoZ n X e Y f).isSome=true:=by
 have D:=divS_facts X Y 64 hX hY (by omega) (by omega) bX bY
 have hW2:=D.most;have hd:(if atS X Y 64 then 0 else 1)≤1:=by split <;> omega
 have hb:=bl_two hW2 hd;unfold quoZ
 by_cases hM:2*whoS X Y 64+(if atS X Y 64 then 0 else 1)=0
 · rw [hM,mkS_zero];rfl
 · rw [(mkS_small n _ _ hM (by omega) (clamp_rng _).1 (clamp_rng _).2).1];rfl
theorem sqZ_some (X:Nat) (e:Int) (Y:Nat) (f:Int) (hX:X=0∨X%2=1) (hY:Y≠0) (bX:bl X≤262144) (bY:bl Y≤262144):(sqZ X e Y f).isSome=true:=by
 have D:=divS_facts X Y 129 hX hY (by omega) (by omega) bX bY
 have g2:=sqW_lt X e Y f D;obtain ⟨r1,r2⟩:=sqR_is (sqW X e Y f);have q2:sqR (sqW X e Y f)<2^65:=lt_of_sq r1 (by rw [show 2*65=130 by rfl];exact g2)
 have hd:(if sqD X e Y f then 0 else 1)≤1:=by split <;> omega
 have hb:=bl_two q2 hd;unfold sqZ
 by_cases hM:2*sqR (sqW X e Y f)+(if sqD X e Y f then 0 else 1)=0
 · rw [hM,mkS_zero];rfl
 · rw [(mkS_small false _ _ hM (by omega) (clamp_rng _).1 (clamp_rng _).2).1];rfl
theorem div_nought (Y size:Nat) (hY:Y≠0) (hs0:1≤size) (hs:size≤1000) (bY:bl Y≤262144):whoS 0 Y size=0∧atS 0 Y size=true:=by
 have D:=divS_facts 0 Y size (.inl rfl) hY hs0 hs (by rw [bl_zero];omega) bY
 have hby:0≤byS 0 Y size:=by unfold byS;rw [bl_zero];omega
 have hlev:levS 0 Y size=0:=by unfold levS;split <;> simp
 have h1:who0 0 Y size=0:=by unfold who0;rw [hlev,Nat.zero_div]
 have h2:lefS 0 Y size=0:=by unfold lefS;rw [hlev,Nat.zero_mod]
 have h3:hasS 0 Y size=0:=by unfold hasS;rw [h2,Nat.zero_mul]
 have h4:takS 0 Y size=0:=by unfold takS;rw [h1,Nat.zero_mul]
 refine ⟨?_,?_⟩
 · unfold whoS;rw [h3,h4,if_neg (by omega),h1]
 · unfold atS;rw [h3,h4];simp [hby]
theorem quoZ_nought (n:Bool) (e:Int) (Y:Nat) (f:Int) (hY:Y≠0) (bY:bl Y≤262144):quoZ n 0 e Y f=some (false,0,0):=by
 obtain ⟨h1,h2⟩:=div_nought Y 64 hY (by omega) (by omega) bY
 unfold quoZ;rw [h1,h2];exact mkS_zero _ _
theorem sqZ_nought (e:Int) (Y:Nat) (f:Int) (hY:Y≠0) (bY:bl Y≤262144):sqZ 0 e Y f=some (false,0,0):=by
 obtain ⟨h1,h2⟩:=div_nought Y 129 hY (by omega) (by omega) bY
 have hW:sqW 0 e Y f=0:=by unfold sqW hvW;rw [h1];split <;> rfl
 have hR:sqR 0=0:=by
  have:=(sqR_is 0).1
  rcases Nat.eq_zero_or_pos (sqR 0) with q|q
  · exact q
  · have:=Nat.mul_pos q q;omega
 have hT:sqT 0 e Y f=true:=by unfold sqT hvA;rw [h1,h2];split <;> rfl
 have hD:sqD 0 e Y f=true:=by unfold sqD;rw [hT,hW,hR];rfl
 unfold sqZ;rw [hD,hW,hR];exact mkS_zero _ _
end
section
open Go.RowKit
theorem par_even {x:Int}(h:x%2=0):(x.tmod 2==0)=true:=by
 have:(2:Int) ∣ x:=Int.dvd_of_emod_eq_zero h;rw [Int.tmod_eq_zero_of_dvd this];rfl
theorem par_odd {x:Int}(h:¬ x%2=0):(x.tmod 2==0)=false:=by
 apply beq_eq_false_iff_ne.2
 intro k;exact h (Int.emod_eq_zero_of_dvd (Int.dvd_of_tmod_eq_zero k))
theorem half_even {x:Int}(h:x%2=0):x.tdiv 2=x/2:=by
 obtain ⟨k,hk⟩:=Int.dvd_of_emod_eq_zero h;subst hk;rw [Int.mul_tdiv_cancel_left _ (by decide),Int.mul_ediv_cancel_left _ (by decide)]
theorem hvX_even (x:Int):hvX x%2=0:=by unfold hvX;split <;> omega
theorem squareRoot_any {w:World}{a b:Option Addr}{ca cb:Nat}(m:Bool) (X Y:Nat) (e f:Int)
 (AX:Arg w a (ws X).length ca (ws X)) (AY:Arg w b (ws Y).length cb (ws Y)) (hT:Tab w) (hX:X=0∨X%2=1) (hY:Y≠0)
 (he0:-1048576≤e) (he1:e≤1048576) (hf0:-1048576≤f) (hf1:f≤1048576) (bX:bl X≤262144) (bY:bl Y≤262144) :
 Calls Tryz.prog 45 #[.agg #[.bool false,.slice a (ws X).length ca,.int .i64 e,.bool m,.slice b (ws Y).length cb,.int .i64 f]] w fun r w'=>DAns w.heap.size w' r (sqZ X e Y f)∧Below w.heap.size w w':=by
 have D:=divS_facts X Y 129 hX hY (by omega) (by omega) bX bY
 have bW:bl (whoS X Y 129)≤130:=bl_lt_pow D.most;have hc:cutS Y 129≤129:=by unfold cutS;omega
 have hb:-262144≤byS X Y 129∧byS X Y 129≤264000:=by have:=D.blh;unfold byS;omega
 have hx:-10000000<sqX X e Y f∧sqX X e Y f<10000000:=by unfold sqX;omega
 have HD:∀ u,Below w.heap.size w u→Calls Tryz.prog 78 #[.agg #[.bool false,.slice a (ws X).length ca,.int .i64 e,.bool m,.slice b (ws Y).length cb,.int .i64 f],.int .i64 129] u fun r w'=>(∃ v,r=.returned (.agg #[v,.int .i64 (sqX X e Y f),.bool (atS X Y 129)])∧Nt u.heap.size w' v (whoS X Y 129))∧Below u.heap.size u w':=fun u hu=>divided_any false m X Y e f 129 (AX.below hu) (AY.below hu) hX hY he0 he1 hf0 hf1 (by omega) (by omega) bX bY
 obtain ⟨r1,r2⟩:=sqR_is (sqW X e Y f);have g2:=sqW_lt X e Y f D;have q2:sqR (sqW X e Y f)<2^65:=lt_of_sq r1 (by rw [show 2*65=130 by rfl];exact g2)
 have bR:bl (sqR (sqW X e Y f))≤65:=bl_lt_pow q2;have bW':bl (sqW X e Y f)≤130:=bl_lt_pow g2;have bL:bl (sqW X e Y f-sqR (sqW X e Y f)*sqR (sqW X e Y f))≤262144:=bl_le_of (Nat.sub_le _ _) (by omega)
 have HR:∀ (u:World) (p:Option Addr) (q:Nat),Arg u p (ws (sqW X e Y f)).length q (ws (sqW X e Y f))→Calls Tryz.prog 81 #[.slice p (ws (sqW X e Y f)).length q] u fun r w'=>∃ v v',r=.returned (.tuple #[v,v'])∧Nt u.heap.size w' v (sqR (sqW X e Y f))∧Nt u.heap.size w' v' (sqW X e Y f-sqR (sqW X e Y f)*sqR (sqW X e Y f))∧Below u.heap.size u w':=by
  intro u p q hA;exact Root_arg hA (by rw [val_ws];exact ⟨r1,r2⟩) (by rw [val_ws])
 have HL:∀ (u:World) (p:Option Addr) (q:Nat),Arg u p (ws (sqW X e Y f-sqR (sqW X e Y f)*sqR (sqW X e Y f))).length q (ws (sqW X e Y f-sqR (sqW X e Y f)*sqR (sqW X e Y f)))→Calls Tryz.prog 82 #[.slice p (ws (sqW X e Y f-sqR (sqW X e Y f)*sqR (sqW X e Y f))).length q] u fun r w'=>r=.returned (.int .i64 (bl (sqW X e Y f-sqR (sqW X e Y f)*sqR (sqW X e Y f)):Nat))∧Below u.heap.size u w':=by
  intro u p q hA;exact Len_arg hA (by rw [val_ws])
 have hz:(bl (sqW X e Y f-sqR (sqW X e Y f)*sqR (sqW X e Y f))==0)=decide (sqW X e Y f=sqR (sqW X e Y f)*sqR (sqW X e Y f)):=by
  by_cases h:sqW X e Y f=sqR (sqW X e Y f)*sqR (sqW X e Y f)
  · rw [decide_eq_true h,show sqW X e Y f-sqR (sqW X e Y f)*sqR (sqW X e Y f)=0 by omega,bl_zero];rfl
  · rw [decide_eq_false h]
    have:=bl_pos (sqW X e Y f-sqR (sqW X e Y f)*sqR (sqW X e Y f)) (by omega)
    exact beq_eq_false_iff_ne.2 (by omega)
 have hz2:(((bl (sqW X e Y f-sqR (sqW X e Y f)*sqR (sqW X e Y f)):Nat):Int)==0)=decide (sqW X e Y f=sqR (sqW X e Y f)*sqR (sqW X e Y f)):=by
  rw [←hz]
  by_cases h:bl (sqW X e Y f-sqR (sqW X e Y f)*sqR (sqW X e Y f))=0
  · rw [h];rfl
  · rw [beq_eq_false_iff_ne.2 h,beq_eq_false_iff_ne.2 (show ((bl (sqW X e Y f-sqR (sqW X e Y f)*sqR (sqW X e Y f)):Nat):Int)≠0 by omega)]
 have hvx:=hvX_even (sqX X e Y f);have hhr:-10000000≤hvX (sqX X e Y f)∧hvX (sqX X e Y f)≤10000000:=by unfold hvX;split <;> omega
 have HI:∀ (d:Bool) (u:World) (p:Option Addr) (q:Nat),d=sqD X e Y f→Below w.heap.size w u→Arg u p (ws (sqR (sqW X e Y f))).length q (ws (sqR (sqW X e Y f)))→Calls Tryz.prog 77 #[.bool false,.agg #[.slice p (ws (sqR (sqW X e Y f))).length q,.int .i64 (hvX (sqX X e Y f)/2),.bool d]] u fun r w'=>DAns u.heap.size w' r (sqZ X e Y f)∧Below u.heap.size u w':=by
  intro d u p q hd hu hA;subst hd;exact inside_any false _ _ _ hA (hT.belows hu) (by omega) (by omega) (by omega)
 have lV:=mkS_len false (2*sqR (sqW X e Y f)+(if sqD X e Y f then 0 else 1)) (clampE (hvX (sqX X e Y f)/2))
 have ht:=half_even hvx;unfold DAns at HI ⊢
 by_cases hev:sqX X e Y f%2=0
 · have eW:sqW X e Y f=whoS X Y 129:=by unfold sqW hvW;rw [if_pos hev]
   have eX:hvX (sqX X e Y f)=sqX X e Y f:=by unfold hvX;rw [if_pos hev]
   have eT:sqT X e Y f=atS X Y 129:=by unfold sqT hvA;rw [if_pos hev]
   rw [eX] at ht hhr
   cases hat:atS X Y 129 with
   | true =>
     rw [hat] at HD eT;refine sqrt_even_at m e f (whoS X Y 129) 0 (sqR (sqW X e Y f)) (sqW X e Y f-sqR (sqW X e Y f)*sqR (sqW X e Y f)) _ (sqX X e Y f) 0 (hvX (sqX X e Y f)/2) false _ _ _ _ _ (len_bl8 (by omega)) (by rw [ws0];omega) (len_bl8 (by omega)) (len_bl8 bL) lV (by omega) (by omega) (par_even hev) (by rw [eX];exact ht) (by omega) (by omega) HD (by rw [eW] at HR ⊢;exact HR) HL hz2 hz ?_
     intro u p q hu hA;exact HI _ u p q (by unfold sqD;rw [eT];rfl) hu hA
   | false =>
     rw [hat] at HD eT;refine sqrt_even_in m e f (whoS X Y 129) 0 (sqR (sqW X e Y f)) (sqW X e Y f-sqR (sqW X e Y f)*sqR (sqW X e Y f)) 0 (sqX X e Y f) 0 (hvX (sqX X e Y f)/2) false false _ _ _ _ (len_bl8 (by omega)) (by rw [ws0];omega) (len_bl8 (by omega)) (len_bl8 bL) lV (by omega) (by omega) (par_even hev) (by rw [eX];exact ht) (by omega) (by omega) HD (by rw [eW] at HR ⊢;exact HR) ?_
     intro u p q hu hA;exact HI _ u p q (by unfold sqD;rw [eT];rfl) hu hA
 · have eW:sqW X e Y f=whoS X Y 129/2:=by unfold sqW hvW;rw [if_neg hev]
   have eX:hvX (sqX X e Y f)=sqX X e Y f+1:=by unfold hvX;rw [if_neg hev]
   have eT:sqT X e Y f=(atS X Y 129&&decide (whoS X Y 129%2=0)):=by unfold sqT hvA;rw [if_neg hev]
   have e1:shiftS (whoS X Y 129) (-1)=(sqW X e Y f,0):=by
    have:=shiftS_dn (X:=whoS X Y 129) (k:=1) (V:=sqW X e Y f) (notLG11 (by omega)) (by rw [eW])
    exact this
   have HH:∀ (t':Bool) (u:World) (p:Option Addr) (q:Nat),t'=sqT X e Y f→Arg u p (ws (whoS X Y 129)).length q (ws (whoS X Y 129))→Calls Tryz.prog 80 #[.agg #[.slice p (ws (whoS X Y 129)).length q,.int .i64 (sqX X e Y f),.bool (atS X Y 129)]] u fun r w'=>(∃ v,r=.returned (.agg #[v,.int .i64 (hvX (sqX X e Y f)),.bool t'])∧Nt u.heap.size w' v (sqW X e Y f))∧Below u.heap.size u w':=by
    intro t' u p q ht' hA;rw [ht',eT]
    cases hat:atS X Y 129 with
    | true =>
      have hb:(!decide (whoS X Y 129/2^0%2=1))=(true&&decide (whoS X Y 129%2=0)):=by
       rw [Nat.pow_zero,Nat.div_one,Bool.true_and]
       by_cases h:whoS X Y 129%2=0
       · rw [decide_eq_true h,decide_eq_false (by omega)];rfl
       · rw [decide_eq_false h,decide_eq_true (by omega)];rfl
      rw [←hb];exact halved_yes (whoS X Y 129) _ _ _ hA (by omega) (by omega) e1 eX.symm (len_bl8 (by omega)) _ rfl
    | false=>exact halved_no (whoS X Y 129) _ _ _ hA (by omega) (by omega) e1 eX.symm (len_bl8 (by omega))
   cases hsT:sqT X e Y f with
   | true =>
     refine sqrt_odd_at m e f (whoS X Y 129) (sqW X e Y f) (sqR (sqW X e Y f)) (sqW X e Y f-sqR (sqW X e Y f)*sqR (sqW X e Y f)) _ (sqX X e Y f) (hvX (sqX X e Y f)) (hvX (sqX X e Y f)/2) (atS X Y 129) _ _ _ _ _ (len_bl8 (by omega)) (len_bl8 (by omega)) (len_bl8 (by omega)) (len_bl8 bL) lV hhr.1 hhr.2 (par_odd hev) ht (by omega) (by omega) HD (fun u p q hA=>HH true u p q hsT.symm hA) HR HL hz2 hz ?_
     intro u p q hu hA;exact HI _ u p q (by unfold sqD;rw [hsT];rfl) hu hA
   | false =>
     refine sqrt_odd_in m e f (whoS X Y 129) (sqW X e Y f) (sqR (sqW X e Y f)) (sqW X e Y f-sqR (sqW X e Y f)*sqR (sqW X e Y f)) 0 (sqX X e Y f) (hvX (sqX X e Y f)) (hvX (sqX X e Y f)/2) (atS X Y 129) false _ _ _ _ (len_bl8 (by omega)) (len_bl8 (by omega)) (len_bl8 (by omega)) (len_bl8 bL) lV hhr.1 hhr.2 (par_odd hev) ht (by omega) (by omega) HD (fun u p q hA=>HH false u p q hsT.symm hA) HR ?_
     intro u p q hu hA;exact HI _ u p q (by unfold sqD;rw [hsT];rfl) hu hA
def oneI (r:Ri):Nat→Ri:=fun _=>r
noncomputable def quoR (rnd:Option (Bool×Nat×Int)→Int→Nat×Int) (r:Ri) (mode:Int):Nat×Int :=
 if mode<0∨4<mode then (0,1) else if errL (oneI r) 1=0 then rnd (quoZ (dN (mkS r.n r.X r.e)) (dX (mkS r.n r.X r.e)) (dE (mkS r.n r.X r.e)) (dX (mkS r.m r.Y r.f)) (dE (mkS r.m r.Y r.f))) mode else (0,errL (oneI r) 1)
noncomputable def sqrR (rnd:Option (Bool×Nat×Int)→Int→Nat×Int) (r:Ri) (mode:Int):Nat×Int :=
 if mode<0∨4<mode then (0,1) else if errL (oneI r) 1=0 then (if dN (mkS r.n r.X r.e) then (0,110) else rnd (sqZ (dX (mkS r.n r.X r.e)) (dE (mkS r.n r.X r.e)) (dX (mkS r.m r.Y r.f)) (dE (mkS r.m r.Y r.f))) mode) else (0,errL (oneI r) 1)
theorem frm_of {n:Bool}{X:Nat}{e:Int}(h:(mkS n X e).isSome=true):Frm (dN (mkS n X e)) (dX (mkS n X e)) (dE (mkS n X e)):=by
 cases ho:mkS n X e with
 | none=>rw [ho] at h;cases h
 | some d =>
   obtain ⟨n1,X1,e1⟩:=d;exact mkS_frm ho
theorem Frm.par {n:Bool}{X:Nat}{e:Int}(h:Frm n X e):X=0∨X%2=1:=by rcases h.odd with q | q;exact .inr q;exact .inl q.1
theorem sq_reform (X:Nat) (e:Int) (Y:Nat) (f:Int) (hs:(sqZ X e Y f).isSome=true):mkS (dN (sqZ X e Y f)) (dX (sqZ X e Y f)) (dE (sqZ X e Y f))=sqZ X e Y f:=reform (o:=sqZ X e Y f) rfl hs
theorem quo_reform (n:Bool) (X:Nat) (e:Int) (Y:Nat) (f:Int) (hs:(quoZ n X e Y f).isSome=true):mkS (dN (quoZ n X e Y f)) (dX (quoZ n X e Y f)) (dE (quoZ n X e Y f))=quoZ n X e Y f:=reform (o:=quoZ n X e Y f) rfl hs
theorem Quot11 {w:World}{n m:Bool}{a b:Option Addr}{la ca lb cb:Nat}{X Y:Nat}{e f:Int}(mode:Int) (hr:Rv w ⟨n,.slice a la ca,X,e,m,.slice b lb cb,Y,f⟩) (hT:Tab w) :
 Calls Tryz.prog 10 #[.agg #[.bool n,.slice a la ca,.int .i64 e,.bool m,.slice b lb cb,.int .i64 f],.int .i64 mode] w fun r w' =>
  r=.returned (.tuple #[.float .f64 (quoR rndS ⟨n,.slice a la ca,X,e,m,.slice b lb cb,Y,f⟩ mode).1,.int .i64 (quoR rndS ⟨n,.slice a la ca,X,e,m,.slice b lb cb,Y,f⟩ mode).2])∧Below w.heap.size w w':=by
 refine Quot_box n m e f mode (quoR rndS ⟨n,.slice a la ca,X,e,m,.slice b lb cb,Y,f⟩ mode) ?_;intro u hu;have hrT:=hr.below hu;have hTu:=hT.belows hu;refine rounded_quotient64 mode hrT hTu (mkS n X e) (mkS m Y f) (quoZ (dN (mkS n X e)) (dX (mkS n X e)) (dE (mkS n X e)) (dX (mkS m Y f)) (dE (mkS m Y f))) 0 (rndS (quoZ (dN (mkS n X e)) (dX (mkS n X e)) (dE (mkS n X e)) (dX (mkS m Y f)) (dE (mkS m Y f))) mode) rfl rfl (mkS_len _ _ _) (fun h=>absurd rfl h) _ rfl ?_ ?_
 · intro v p q hv N1 N2 h0
   obtain ⟨k1,k2,k3,k4⟩:=errL0 h0 0 (by omega)
   simp only at k1 k2 k3 k4;have F1:=frm_of k2;have F2:=frm_of k3;obtain ⟨a1,c1,rfl,A1⟩:=N1.arg (by have:=frm_len F1;omega)
   obtain ⟨a2,c2,rfl,A2⟩:=N2.arg (by have:=frm_len F2;omega)
   have hq:=quotient_any (dN (mkS n X e)) (dN (mkS m Y f)) (dX (mkS n X e)) (dX (mkS m Y f)) (dE (mkS n X e)) (dE (mkS m Y f)) A1 A2 (hTu.belows hv) F1.par k4 F1.down F1.up F2.down F2.up F1.size F2.size;have hs:=quoZ_some (dN (mkS n X e)) (dX (mkS n X e)) (dE (mkS n X e)) (dX (mkS m Y f)) (dE (mkS m Y f)) F1.par k4 F1.size F2.size;have he:erS (quoZ (dN (mkS n X e)) (dX (mkS n X e)) (dE (mkS n X e)) (dX (mkS m Y f)) (dE (mkS m Y f)))=0:=by unfold erS;rw [hs];rfl
   unfold DAns at hq;rw [show mkS (dN (mkS n X e)) (2*whoS (dX (mkS n X e)) (dX (mkS m Y f)) 64+(if atS (dX (mkS n X e)) (dX (mkS m Y f)) 64 then 0 else 1)) (clampE (dE (mkS n X e)-dE (mkS m Y f)-byS (dX (mkS n X e)) (dX (mkS m Y f)) 64-cutS (dX (mkS m Y f)) 64))=quoZ (dN (mkS n X e)) (dX (mkS n X e)) (dE (mkS n X e)) (dX (mkS m Y f)) (dE (mkS m Y f)) from rfl,he] at hq
   exact hq
 · intro v p q _ hm h0 hv hA
   obtain ⟨k1,k2,k3,k4⟩:=errL0 h0 0 (by omega)
   simp only at k1 k2 k3 k4;have F1:=frm_of k2;have F2:=frm_of k3;have hs:=quoZ_some (dN (mkS n X e)) (dX (mkS n X e)) (dE (mkS n X e)) (dX (mkS m Y f)) (dE (mkS m Y f)) F1.par k4 F1.size F2.size;have rg:=frm_rng (o:=quoZ (dN (mkS n X e)) (dX (mkS n X e)) (dE (mkS n X e)) (dX (mkS m Y f)) (dE (mkS m Y f))) rfl;have hR:=Round_any hA (hTu.belows hv) (dN (quoZ (dN (mkS n X e)) (dX (mkS n X e)) (dE (mkS n X e)) (dX (mkS m Y f)) (dE (mkS m Y f)))) (dE (quoZ (dN (mkS n X e)) (dX (mkS n X e)) (dE (mkS n X e)) (dX (mkS m Y f)) (dE (mkS m Y f)))) mode (by omega) (by omega)
   rw [val_ws,quo_reform _ _ _ _ _ hs] at hR;exact hR
theorem Root11 {w:World}{n m:Bool}{a b:Option Addr}{la ca lb cb:Nat}{X Y:Nat}{e f:Int}(mode:Int) (hr:Rv w ⟨n,.slice a la ca,X,e,m,.slice b lb cb,Y,f⟩) (hT:Tab w) :
 Calls Tryz.prog 14 #[.agg #[.bool n,.slice a la ca,.int .i64 e,.bool m,.slice b lb cb,.int .i64 f],.int .i64 mode] w fun r w' =>
  r=.returned (.tuple #[.float .f64 (sqrR rndS ⟨n,.slice a la ca,X,e,m,.slice b lb cb,Y,f⟩ mode).1,.int .i64 (sqrR rndS ⟨n,.slice a la ca,X,e,m,.slice b lb cb,Y,f⟩ mode).2])∧Below w.heap.size w w':=by
 refine Root_box n m e f mode (sqrR rndS ⟨n,.slice a la ca,X,e,m,.slice b lb cb,Y,f⟩ mode) ?_;intro u hu;have hrT:=hr.below hu;have hTu:=hT.belows hu
 cases hn:dN (mkS n X e) with
 | true =>
   refine rounded_squareRoot64 mode hrT hTu (mkS n X e) (mkS m Y f) none 110 (0,110) rfl rfl (by show (ws 0).length≤8192;rw [ws0];omega) (fun h=>⟨rfl,rfl⟩) _ (by unfold sqrR;simp only;rw [hn];rfl) ?_ ?_
   · intro v p q hv N1 N2 h0
     obtain ⟨k1,k2,k3,k4⟩:=errL0 h0 0 (by omega)
     simp only at k1 k2 k3 k4;obtain ⟨a1,c1,rfl,A1⟩:=N1.arg (by have:=frm_len (frm_of k2);omega)
     obtain ⟨a2,c2,rfl,A2⟩:=N2.arg (by have:=frm_len (frm_of k3);omega)
     rw [hn];refine (sqrt_neg _ _ _).mono ?_;rintro r w' ⟨rfl,hb⟩;exact ⟨⟨_,rfl,Nt.nil _ _⟩,hb⟩
   · intro v p q h110
     exact absurd h110 (by decide)
 | false =>
   have hz:(0:Int)≠0→(rndS (sqZ (dX (mkS n X e)) (dE (mkS n X e)) (dX (mkS m Y f)) (dE (mkS m Y f))) mode).1=0∧(rndS (sqZ (dX (mkS n X e)) (dE (mkS n X e)) (dX (mkS m Y f)) (dE (mkS m Y f))) mode).2=0:=fun h=>absurd rfl h
   refine rounded_squareRoot64 mode hrT hTu (mkS n X e) (mkS m Y f) (sqZ (dX (mkS n X e)) (dE (mkS n X e)) (dX (mkS m Y f)) (dE (mkS m Y f))) 0 (rndS (sqZ (dX (mkS n X e)) (dE (mkS n X e)) (dX (mkS m Y f)) (dE (mkS m Y f))) mode) rfl rfl (mkS_len _ _ _) hz _ (by unfold sqrR;simp only;rw [hn];rfl) ?_ ?_
   · intro v p q hv N1 N2 h0
     obtain ⟨k1,k2,k3,k4⟩:=errL0 h0 0 (by omega)
     simp only at k1 k2 k3 k4;have F1:=frm_of k2;have F2:=frm_of k3;obtain ⟨a1,c1,rfl,A1⟩:=N1.arg (by have:=frm_len F1;omega)
     obtain ⟨a2,c2,rfl,A2⟩:=N2.arg (by have:=frm_len F2;omega)
     have hq:=squareRoot_any (dN (mkS m Y f)) (dX (mkS n X e)) (dX (mkS m Y f)) (dE (mkS n X e)) (dE (mkS m Y f)) A1 A2 (hTu.belows hv) F1.par k4 F1.down F1.up F2.down F2.up F1.size F2.size;have hs:=sqZ_some (dX (mkS n X e)) (dE (mkS n X e)) (dX (mkS m Y f)) (dE (mkS m Y f)) F1.par k4 F1.size F2.size;have he:erS (sqZ (dX (mkS n X e)) (dE (mkS n X e)) (dX (mkS m Y f)) (dE (mkS m Y f)))=0:=by unfold erS;rw [hs];rfl
     unfold DAns at hq;rw [he] at hq;rw [hn];exact hq
   · intro v p q _ hm h0 hv hA
     obtain ⟨k1,k2,k3,k4⟩:=errL0 h0 0 (by omega)
     simp only at k1 k2 k3 k4;have F1:=frm_of k2;have F2:=frm_of k3;have hs:=sqZ_some (dX (mkS n X e)) (dE (mkS n X e)) (dX (mkS m Y f)) (dE (mkS m Y f)) F1.par k4 F1.size F2.size;have rg:=frm_rng (o:=sqZ (dX (mkS n X e)) (dE (mkS n X e)) (dX (mkS m Y f)) (dE (mkS m Y f))) rfl;have hR:=Round_any hA (hTu.belows hv) (dN (sqZ (dX (mkS n X e)) (dE (mkS n X e)) (dX (mkS m Y f)) (dE (mkS m Y f)))) (dE (sqZ (dX (mkS n X e)) (dE (mkS n X e)) (dX (mkS m Y f)) (dE (mkS m Y f)))) mode (by omega) (by omega)
     rw [val_ws,sq_reform _ _ _ _ hs] at hR;exact hR
theorem Quot3211 {w:World}{n m:Bool}{a b:Option Addr}{la ca lb cb:Nat}{X Y:Nat}{e f:Int}(mode:Int) (hr:Rv w ⟨n,.slice a la ca,X,e,m,.slice b lb cb,Y,f⟩) (hT:Tab w) :
 Calls Tryz.prog 15 #[.agg #[.bool n,.slice a la ca,.int .i64 e,.bool m,.slice b lb cb,.int .i64 f],.int .i64 mode] w fun r w' =>
  r=.returned (.tuple #[.float .f32 (quoR S.rndS ⟨n,.slice a la ca,X,e,m,.slice b lb cb,Y,f⟩ mode).1,.int .i64 (quoR S.rndS ⟨n,.slice a la ca,X,e,m,.slice b lb cb,Y,f⟩ mode).2])∧Below w.heap.size w w':=by
 refine Quot32_box n m e f mode (quoR S.rndS ⟨n,.slice a la ca,X,e,m,.slice b lb cb,Y,f⟩ mode) ?_;intro u hu;have hrT:=hr.below hu;have hTu:=hT.belows hu;refine rounded_quotient32 mode hrT hTu (mkS n X e) (mkS m Y f) (quoZ (dN (mkS n X e)) (dX (mkS n X e)) (dE (mkS n X e)) (dX (mkS m Y f)) (dE (mkS m Y f))) 0 (S.rndS (quoZ (dN (mkS n X e)) (dX (mkS n X e)) (dE (mkS n X e)) (dX (mkS m Y f)) (dE (mkS m Y f))) mode) rfl rfl (mkS_len _ _ _) (fun h=>absurd rfl h) _ rfl ?_ ?_
 · intro v p q hv N1 N2 h0
   obtain ⟨k1,k2,k3,k4⟩:=errL0 h0 0 (by omega)
   simp only at k1 k2 k3 k4;have F1:=frm_of k2;have F2:=frm_of k3;obtain ⟨a1,c1,rfl,A1⟩:=N1.arg (by have:=frm_len F1;omega)
   obtain ⟨a2,c2,rfl,A2⟩:=N2.arg (by have:=frm_len F2;omega)
   have hq:=quotient_any (dN (mkS n X e)) (dN (mkS m Y f)) (dX (mkS n X e)) (dX (mkS m Y f)) (dE (mkS n X e)) (dE (mkS m Y f)) A1 A2 (hTu.belows hv) F1.par k4 F1.down F1.up F2.down F2.up F1.size F2.size;have hs:=quoZ_some (dN (mkS n X e)) (dX (mkS n X e)) (dE (mkS n X e)) (dX (mkS m Y f)) (dE (mkS m Y f)) F1.par k4 F1.size F2.size;have he:erS (quoZ (dN (mkS n X e)) (dX (mkS n X e)) (dE (mkS n X e)) (dX (mkS m Y f)) (dE (mkS m Y f)))=0:=by unfold erS;rw [hs];rfl
   unfold DAns at hq;rw [show mkS (dN (mkS n X e)) (2*whoS (dX (mkS n X e)) (dX (mkS m Y f)) 64+(if atS (dX (mkS n X e)) (dX (mkS m Y f)) 64 then 0 else 1)) (clampE (dE (mkS n X e)-dE (mkS m Y f)-byS (dX (mkS n X e)) (dX (mkS m Y f)) 64-cutS (dX (mkS m Y f)) 64))=quoZ (dN (mkS n X e)) (dX (mkS n X e)) (dE (mkS n X e)) (dX (mkS m Y f)) (dE (mkS m Y f)) from rfl,he] at hq
   exact hq
 · intro v p q _ hm h0 hv hA
   obtain ⟨k1,k2,k3,k4⟩:=errL0 h0 0 (by omega)
   simp only at k1 k2 k3 k4;have F1:=frm_of k2;have F2:=frm_of k3;have hs:=quoZ_some (dN (mkS n X e)) (dX (mkS n X e)) (dE (mkS n X e)) (dX (mkS m Y f)) (dE (mkS m Y f)) F1.par k4 F1.size F2.size;have rg:=frm_rng (o:=quoZ (dN (mkS n X e)) (dX (mkS n X e)) (dE (mkS n X e)) (dX (mkS m Y f)) (dE (mkS m Y f))) rfl;have hR:=S.Round32_any hA (hTu.belows hv) (dN (quoZ (dN (mkS n X e)) (dX (mkS n X e)) (dE (mkS n X e)) (dX (mkS m Y f)) (dE (mkS m Y f)))) (dE (quoZ (dN (mkS n X e)) (dX (mkS n X e)) (dE (mkS n X e)) (dX (mkS m Y f)) (dE (mkS m Y f)))) mode (by omega) (by omega)
   rw [val_ws,quo_reform _ _ _ _ _ hs] at hR;exact hR
theorem Root3211 {w:World}{n m:Bool}{a b:Option Addr}{la ca lb cb:Nat}{X Y:Nat}{e f:Int}(mode:Int) (hr:Rv w ⟨n,.slice a la ca,X,e,m,.slice b lb cb,Y,f⟩) (hT:Tab w) :
 Calls Tryz.prog 16 #[.agg #[.bool n,.slice a la ca,.int .i64 e,.bool m,.slice b lb cb,.int .i64 f],.int .i64 mode] w fun r w' =>
  r=.returned (.tuple #[.float .f32 (sqrR S.rndS ⟨n,.slice a la ca,X,e,m,.slice b lb cb,Y,f⟩ mode).1,.int .i64 (sqrR S.rndS ⟨n,.slice a la ca,X,e,m,.slice b lb cb,Y,f⟩ mode).2])∧Below w.heap.size w w':=by
 refine Root32_box n m e f mode (sqrR S.rndS ⟨n,.slice a la ca,X,e,m,.slice b lb cb,Y,f⟩ mode) ?_;intro u hu;have hrT:=hr.below hu;have hTu:=hT.belows hu
 cases hn:dN (mkS n X e) with
 | true =>
   refine rounded_squareRoot32 mode hrT hTu (mkS n X e) (mkS m Y f) none 110 (0,110) rfl rfl (by show (ws 0).length≤8192;rw [ws0];omega) (fun h=>⟨rfl,rfl⟩) _ (by unfold sqrR;simp only;rw [hn];rfl) ?_ ?_
   · intro v p q hv N1 N2 h0
     obtain ⟨k1,k2,k3,k4⟩:=errL0 h0 0 (by omega)
     simp only at k1 k2 k3 k4;obtain ⟨a1,c1,rfl,A1⟩:=N1.arg (by have:=frm_len (frm_of k2);omega)
     obtain ⟨a2,c2,rfl,A2⟩:=N2.arg (by have:=frm_len (frm_of k3);omega)
     rw [hn];refine (sqrt_neg _ _ _).mono ?_;rintro r w' ⟨rfl,hb⟩;exact ⟨⟨_,rfl,Nt.nil _ _⟩,hb⟩
   · intro v p q h110
     exact absurd h110 (by decide)
 | false =>
   have hz:(0:Int)≠0→(S.rndS (sqZ (dX (mkS n X e)) (dE (mkS n X e)) (dX (mkS m Y f)) (dE (mkS m Y f))) mode).1=0∧(S.rndS (sqZ (dX (mkS n X e)) (dE (mkS n X e)) (dX (mkS m Y f)) (dE (mkS m Y f))) mode).2=0:=fun h=>absurd rfl h
   refine rounded_squareRoot32 mode hrT hTu (mkS n X e) (mkS m Y f) (sqZ (dX (mkS n X e)) (dE (mkS n X e)) (dX (mkS m Y f)) (dE (mkS m Y f))) 0 (S.rndS (sqZ (dX (mkS n X e)) (dE (mkS n X e)) (dX (mkS m Y f)) (dE (mkS m Y f))) mode) rfl rfl (mkS_len _ _ _) hz _ (by unfold sqrR;simp only;rw [hn];rfl) ?_ ?_
   · intro v p q hv N1 N2 h0
     obtain ⟨k1,k2,k3,k4⟩:=errL0 h0 0 (by omega)
     simp only at k1 k2 k3 k4;have F1:=frm_of k2;have F2:=frm_of k3;obtain ⟨a1,c1,rfl,A1⟩:=N1.arg (by have:=frm_len F1;omega)
     obtain ⟨a2,c2,rfl,A2⟩:=N2.arg (by have:=frm_len F2;omega)
     have hq:=squareRoot_any (dN (mkS m Y f)) (dX (mkS n X e)) (dX (mkS m Y f)) (dE (mkS n X e)) (dE (mkS m Y f)) A1 A2 (hTu.belows hv) F1.par k4 F1.down F1.up F2.down F2.up F1.size F2.size;have hs:=sqZ_some (dX (mkS n X e)) (dE (mkS n X e)) (dX (mkS m Y f)) (dE (mkS m Y f)) F1.par k4 F1.size F2.size;have he:erS (sqZ (dX (mkS n X e)) (dE (mkS n X e)) (dX (mkS m Y f)) (dE (mkS m Y f)))=0:=by unfold erS;rw [hs];rfl
     unfold DAns at hq;rw [he] at hq;rw [hn];exact hq
   · intro v p q _ hm h0 hv hA
     obtain ⟨k1,k2,k3,k4⟩:=errL0 h0 0 (by omega)
     simp only at k1 k2 k3 k4;have F1:=frm_of k2;have F2:=frm_of k3;have hs:=sqZ_some (dX (mkS n X e)) (dE (mkS n X e)) (dX (mkS m Y f)) (dE (mkS m Y f)) F1.par k4 F1.size F2.size;have rg:=frm_rng (o:=sqZ (dX (mkS n X e)) (dE (mkS n X e)) (dX (mkS m Y f)) (dE (mkS m Y f))) rfl;have hR:=S.Round32_any hA (hTu.belows hv) (dN (sqZ (dX (mkS n X e)) (dE (mkS n X e)) (dX (mkS m Y f)) (dE (mkS m Y f)))) (dE (sqZ (dX (mkS n X e)) (dE (mkS n X e)) (dX (mkS m Y f)) (dE (mkS m Y f)))) mode (by omega) (by omega)
     rw [val_ws,sq_reform _ _ _ _ hs] at hR;exact hR
end
end Go.Proofs.YtdimlelcgapobaaGreatDoor
