import Derived.Test.YtdimlelcgapobaaGreatDoorZ41x
import Derived.Test.YtdimlelcgapobaaGreatDoorZ14x
import Derived.Test.YtdimlelcgapobaaGreatDoorZ20x
import Derived.Test.YtdimlelcgapobaaGreatDoorW34x
import Derived.Test.YtdimlelcgapobaaGreatDoorZ23x
set_option linter.unusedVariables false
set_option linter.unusedSimpArgs false
set_option maxHeartbeats 16000000
set_option maxRecDepth 20000
namespace Go.Proofs.YtdimlelcgapobaaGreatDoor
section
open Go.RowKit
theorem lies_nought {v:Nat→Nat}{top n S:Nat}(G:Grid v top) (hn:n≠0) (hS:0<S):LiesG v top n 0 true 0 0 S :=
 ⟨by have:=G.one;omega,hS,fun _=>by rw [G.zero,Nat.zero_pow (by omega),Nat.zero_mul],(fun h=>by cases h),(fun h=>by cases h),(fun h=>by cases h)⟩
theorem rV_zero (e f:Int) (u n:Nat):rV11 0 e f u n=0:=by unfold rV11;rw [Nat.zero_mul]
theorem rS_pos {Y:Nat}(h:Y≠0) (e f:Int) (u n:Nat):0<rS11 Y e f u n:=by unfold rS11;exact Nat.mul_pos (by omega) (Nat.two_pow_pos _)
theorem errN_zero {X:Nat}{n:Bool}{e:Int}{Y:Nat}{m:Bool}{f:Int}(h:errN X n e Y m f=0):(mkS n X e).isSome=true∧(mkS m Y f).isSome=true∧dX (mkS m Y f)≠0:=by
 unfold errN at h
 split at h
 · cases h
 · split at h
   · rename_i h2
     rw [Bool.and_eq_true] at h2
     split at h
     · cases h
     · rename_i h3;exact ⟨h2.1,h2.2,h3⟩
   · cases h
theorem docQuot {w:World}{n m:Bool}{a b:Option Addr}{la ca lb cb X Y:Nat}{e f:Int}(mode:Int) (hN:Al w (.slice a la ca) X) (hD:Al w (.slice b lb cb) Y) (be:-9223372036854775808≤e∧e≤9223372036854775807) (bf:-9223372036854775808≤f∧f≤9223372036854775807) :
 Calls Tryz.prog 18 #[.agg #[.bool n,.slice a la ca,.int .i64 e,.bool m,.slice b lb cb,.int .i64 f],.int .i64 mode] w fun r w'=>r=.returned (.tuple #[.float .f64 (quoR rndS ⟨n,.slice a la ca,X,e,m,.slice b lb cb,Y,f⟩ mode).1,.int .i64 (quoR rndS ⟨n,.slice a la ca,X,e,m,.slice b lb cb,Y,f⟩ mode).2])∧Below w.heap.size w w':=by
 by_cases hm:mode<0∨4<mode
 · have e1:quoR rndS ⟨n,.slice a la ca,X,e,m,.slice b lb cb,Y,f⟩ mode=(0,1):=by unfold quoR;rw [if_pos hm]
   rw [e1];exact rQuot11 mode 0 false 1 (by omega) 0 rfl (hid fun u hu=>rounded_mode (X:=X) (Y:=Y) _ _ _ _ mode hm)
 · have hm0:0≤mode:=by omega
   have hm4:mode≤4:=by omega
   have el:=errL_one ⟨n,.slice a la ca,X,e,m,.slice b lb cb,Y,f⟩
   by_cases h0:errN X n e Y m f=0
   · obtain ⟨s1,s2,hY⟩:=errN_zero h0
     have F1:=frm_of s1;have F2:=frm_of s2;have ez:errL (oneI ⟨n,.slice a la ca,X,e,m,.slice b lb cb,Y,f⟩) 1=0:=el.trans h0
     obtain ⟨K,t,mm,L,hq⟩:∃ K t mm,LiesG vK 9218868437227405312 1 K t mm (rV11 (dX (mkS n X e)) (dE (mkS n X e)) (dE (mkS m Y f)) 1074 1) (rS11 (dX (mkS m Y f)) (dE (mkS n X e)) (dE (mkS m Y f)) 1074 1)∧rndS (quoZ (dN (mkS n X e)) (dX (mkS n X e)) (dE (mkS n X e)) (dX (mkS m Y f)) (dE (mkS m Y f))) mode=((if t then K else if outS mode K mm (dN (mkS n X e)) then K+1 else K)+(if (dN (mkS n X e)) then 9223372036854775808 else 0),0):=by
      rcases F1.odd with h|⟨h1,h2,h3⟩
      · obtain ⟨K,t,mm,L,hq⟩:=quo64 (dN (mkS n X e)) (dX (mkS n X e)) (dE (mkS n X e)) (dX (mkS m Y f)) (dE (mkS m Y f)) h hY F1.size F2.size
        exact ⟨K,t,mm,L,by have q:=hq mode hm0 hm4;rw [q];rfl⟩
      · refine ⟨0,true,0,?_,?_⟩
        · rw [h1,rV_zero];exact lies_nought grid64 (by omega) (rS_pos hY _ _ _ _)
        · rw [h1,quoZ_nought _ _ _ _ hY F2.size]
          unfold rndS;rw [if_neg (by omega)]
          simp [h2]
     have hfin:=L.fin
     have e1:quoR rndS ⟨n,.slice a la ca,X,e,m,.slice b lb cb,Y,f⟩ mode=((if t then K else if outS mode K mm (dN (mkS n X e)) then K+1 else K)+(if dN (mkS n X e) then 9223372036854775808 else 0),0):=by
      unfold quoR;simp only;rw [if_neg hm,if_pos ez];exact hq
     rw [e1];refine rQuot11 mode _ (dN (mkS n X e)) 0 (by split;omega;split <;> omega) _ rfl (hid fun u hu=>?_)
     refine rounded_ok _ _ _ _ mode hm0 hm4 (hN.below hu) (hD.below hu) be bf _ _ rfl rfl _ h0 rfl (.inl rfl) _ (hid fun x p q lx cx ly cy hx A1 A2=>?_)
     exact nearbyG wd64_is A1 A2 ⟨F1.down,F1.up⟩ ⟨F2.down,F2.up⟩ F2.size (.inl rfl) L false rfl mode hm0 hm4
   · have ez:errL (oneI ⟨n,.slice a la ca,X,e,m,.slice b lb cb,Y,f⟩) 1=errN X n e Y m f:=el
     have e1:quoR rndS ⟨n,.slice a la ca,X,e,m,.slice b lb cb,Y,f⟩ mode=(0,errN X n e Y m f):=by unfold quoR;rw [if_neg hm,if_neg (by rw [ez];exact h0),ez]
     rw [e1];exact rQuot11 mode 0 false _ (by omega) 0 rfl (hid fun u hu=>rounded_err _ _ _ _ mode hm0 hm4 (hN.below hu) (hD.below hu) be bf _ _ rfl rfl _ rfl h0)
theorem docRoot {w:World}{n m:Bool}{a b:Option Addr}{la ca lb cb X Y:Nat}{e f:Int}(mode:Int) (hN:Al w (.slice a la ca) X) (hD:Al w (.slice b lb cb) Y) (be:-9223372036854775808≤e∧e≤9223372036854775807) (bf:-9223372036854775808≤f∧f≤9223372036854775807) :
 Calls Tryz.prog 19 #[.agg #[.bool n,.slice a la ca,.int .i64 e,.bool m,.slice b lb cb,.int .i64 f],.int .i64 mode] w fun r w'=>r=.returned (.tuple #[.float .f64 (sqrR rndS ⟨n,.slice a la ca,X,e,m,.slice b lb cb,Y,f⟩ mode).1,.int .i64 (sqrR rndS ⟨n,.slice a la ca,X,e,m,.slice b lb cb,Y,f⟩ mode).2])∧Below w.heap.size w w':=by
 by_cases hm:mode<0∨4<mode
 · have e1:sqrR rndS ⟨n,.slice a la ca,X,e,m,.slice b lb cb,Y,f⟩ mode=(0,1):=by unfold sqrR;rw [if_pos hm]
   rw [e1];exact rRoot11 mode 0 false 1 (by omega) 0 rfl (hid fun u hu=>rounded_mode (X:=X) (Y:=Y) _ _ _ _ mode hm)
 · have hm0:0≤mode:=by omega
   have hm4:mode≤4:=by omega
   have el:=errL_one ⟨n,.slice a la ca,X,e,m,.slice b lb cb,Y,f⟩
   by_cases h0:errN X n e Y m f=0
   · obtain ⟨s1,s2,hY⟩:=errN_zero h0
     have F1:=frm_of s1;have F2:=frm_of s2;have ez:errL (oneI ⟨n,.slice a la ca,X,e,m,.slice b lb cb,Y,f⟩) 1=0:=el.trans h0
     by_cases hng:dN (mkS n X e)=true
     · have e1:sqrR rndS ⟨n,.slice a la ca,X,e,m,.slice b lb cb,Y,f⟩ mode=(0,110):=by unfold sqrR;simp only;rw [if_neg hm,if_pos ez,hng,if_pos rfl]
       rw [e1];exact rRoot11 mode 0 false 110 (by omega) 0 rfl (hid fun u hu=>rounded_below _ _ _ _ mode hm0 hm4 (hN.below hu) (hD.below hu) be bf _ _ rfl rfl _ rfl h0 rfl hng)
     have hng':dN (mkS n X e)=false:=by cases h:dN (mkS n X e);rfl;exact absurd h hng
     obtain ⟨K,t,mm,L,hq⟩:∃ K t mm,LiesG vK 9218868437227405312 2 K t mm (rV11 (dX (mkS n X e)) (dE (mkS n X e)) (dE (mkS m Y f)) 1074 2) (rS11 (dX (mkS m Y f)) (dE (mkS n X e)) (dE (mkS m Y f)) 1074 2)∧rndS (sqZ (dX (mkS n X e)) (dE (mkS n X e)) (dX (mkS m Y f)) (dE (mkS m Y f))) mode=((if t then K else if outS mode K mm false then K+1 else K)+(if false then 9223372036854775808 else 0),0):=by
      rcases F1.odd with h|⟨h1,h2,h3⟩
      · obtain ⟨K,t,mm,L,hq⟩:=sqr64 (dX (mkS n X e)) (dE (mkS n X e)) (dX (mkS m Y f)) (dE (mkS m Y f)) h hY F1.size F2.size
        exact ⟨K,t,mm,L,by have q:=hq mode hm0 hm4;rw [q];unfold rK;simp⟩
      · refine ⟨0,true,0,?_,?_⟩
        · rw [h1,rV_zero];exact lies_nought grid64 (by omega) (rS_pos hY _ _ _ _)
        · rw [h1,sqZ_nought _ _ _ hY F2.size]
          unfold rndS;rw [if_neg (by omega)]
          rfl
     have hfin:=L.fin
     have e1:sqrR rndS ⟨n,.slice a la ca,X,e,m,.slice b lb cb,Y,f⟩ mode=((if t then K else if outS mode K mm (dN (mkS n X e)) then K+1 else K)+(if dN (mkS n X e) then 9223372036854775808 else 0),0):=by
      unfold sqrR;simp only;rw [if_neg hm,if_pos ez];rw [hng',if_neg (by decide)];exact hq
     rw [e1];refine rRoot11 mode _ (dN (mkS n X e)) 0 (by split;omega;split <;> omega) _ rfl (hid fun u hu=>?_)
     refine rounded_ok _ _ _ _ mode hm0 hm4 (hN.below hu) (hD.below hu) be bf _ _ rfl rfl _ h0 rfl (.inr hng') _ (hid fun x p q lx cx ly cy hx A1 A2=>?_)
     exact nearbyG wd64_is A1 A2 ⟨F1.down,F1.up⟩ ⟨F2.down,F2.up⟩ F2.size (.inr rfl) L true rfl mode hm0 hm4
   · have ez:errL (oneI ⟨n,.slice a la ca,X,e,m,.slice b lb cb,Y,f⟩) 1=errN X n e Y m f:=el
     have e1:sqrR rndS ⟨n,.slice a la ca,X,e,m,.slice b lb cb,Y,f⟩ mode=(0,errN X n e Y m f):=by unfold sqrR;rw [if_neg hm,if_neg (by rw [ez];exact h0),ez]
     rw [e1];exact rRoot11 mode 0 false _ (by omega) 0 rfl (hid fun u hu=>rounded_err _ _ _ _ mode hm0 hm4 (hN.below hu) (hD.below hu) be bf _ _ rfl rfl _ rfl h0)
theorem docQuot32 {w:World}{n m:Bool}{a b:Option Addr}{la ca lb cb X Y:Nat}{e f:Int}(mode:Int) (hN:Al w (.slice a la ca) X) (hD:Al w (.slice b lb cb) Y) (be:-9223372036854775808≤e∧e≤9223372036854775807) (bf:-9223372036854775808≤f∧f≤9223372036854775807) :
 Calls Tryz.prog 20 #[.agg #[.bool n,.slice a la ca,.int .i64 e,.bool m,.slice b lb cb,.int .i64 f],.int .i64 mode] w fun r w'=>r=.returned (.tuple #[.float .f32 (quoR S.rndS ⟨n,.slice a la ca,X,e,m,.slice b lb cb,Y,f⟩ mode).1,.int .i64 (quoR S.rndS ⟨n,.slice a la ca,X,e,m,.slice b lb cb,Y,f⟩ mode).2])∧Below w.heap.size w w':=by
 by_cases hm:mode<0∨4<mode
 · have e1:quoR S.rndS ⟨n,.slice a la ca,X,e,m,.slice b lb cb,Y,f⟩ mode=(0,1):=by unfold quoR;rw [if_pos hm]
   rw [e1];exact rQuot3211 mode 0 false 1 (by omega) 0 rfl (hid fun u hu=>rounded_mode (X:=X) (Y:=Y) _ _ _ _ mode hm)
 · have hm0:0≤mode:=by omega
   have hm4:mode≤4:=by omega
   have el:=errL_one ⟨n,.slice a la ca,X,e,m,.slice b lb cb,Y,f⟩
   by_cases h0:errN X n e Y m f=0
   · obtain ⟨s1,s2,hY⟩:=errN_zero h0
     have F1:=frm_of s1;have F2:=frm_of s2;have ez:errL (oneI ⟨n,.slice a la ca,X,e,m,.slice b lb cb,Y,f⟩) 1=0:=el.trans h0
     obtain ⟨K,t,mm,L,hq⟩:∃ K t mm,LiesG S.vK 2139095040 1 K t mm (rV11 (dX (mkS n X e)) (dE (mkS n X e)) (dE (mkS m Y f)) 149 1) (rS11 (dX (mkS m Y f)) (dE (mkS n X e)) (dE (mkS m Y f)) 149 1)∧S.rndS (quoZ (dN (mkS n X e)) (dX (mkS n X e)) (dE (mkS n X e)) (dX (mkS m Y f)) (dE (mkS m Y f))) mode=((if t then K else if outS mode K mm (dN (mkS n X e)) then K+1 else K)+(if (dN (mkS n X e)) then 2147483648 else 0),0):=by
      rcases F1.odd with h|⟨h1,h2,h3⟩
      · obtain ⟨K,t,mm,L,hq⟩:=quo32 (dN (mkS n X e)) (dX (mkS n X e)) (dE (mkS n X e)) (dX (mkS m Y f)) (dE (mkS m Y f)) h hY F1.size F2.size
        exact ⟨K,t,mm,L,by have q:=hq mode hm0 hm4;rw [q];rfl⟩
      · refine ⟨0,true,0,?_,?_⟩
        · rw [h1,rV_zero];exact lies_nought grid32 (by omega) (rS_pos hY _ _ _ _)
        · rw [h1,quoZ_nought _ _ _ _ hY F2.size]
          unfold S.rndS;rw [if_neg (by omega)]
          simp [S.rW,h2]
     have hfin:=L.fin
     have e1:quoR S.rndS ⟨n,.slice a la ca,X,e,m,.slice b lb cb,Y,f⟩ mode=((if t then K else if outS mode K mm (dN (mkS n X e)) then K+1 else K)+(if dN (mkS n X e) then 2147483648 else 0),0):=by
      unfold quoR;simp only;rw [if_neg hm,if_pos ez];exact hq
     rw [e1];refine rQuot3211 mode _ (dN (mkS n X e)) 0 (by split;omega;split <;> omega) _ rfl (hid fun u hu=>?_)
     refine rounded_ok _ _ _ _ mode hm0 hm4 (hN.below hu) (hD.below hu) be bf _ _ rfl rfl _ h0 rfl (.inl rfl) _ (hid fun x p q lx cx ly cy hx A1 A2=>?_)
     exact nearbyG wd32_is A1 A2 ⟨F1.down,F1.up⟩ ⟨F2.down,F2.up⟩ F2.size (.inl rfl) L false rfl mode hm0 hm4
   · have ez:errL (oneI ⟨n,.slice a la ca,X,e,m,.slice b lb cb,Y,f⟩) 1=errN X n e Y m f:=el
     have e1:quoR S.rndS ⟨n,.slice a la ca,X,e,m,.slice b lb cb,Y,f⟩ mode=(0,errN X n e Y m f):=by unfold quoR;rw [if_neg hm,if_neg (by rw [ez];exact h0),ez]
     rw [e1];exact rQuot3211 mode 0 false _ (by omega) 0 rfl (hid fun u hu=>rounded_err _ _ _ _ mode hm0 hm4 (hN.below hu) (hD.below hu) be bf _ _ rfl rfl _ rfl h0)
theorem docRoot32 {w:World}{n m:Bool}{a b:Option Addr}{la ca lb cb X Y:Nat}{e f:Int}(mode:Int) (hN:Al w (.slice a la ca) X) (hD:Al w (.slice b lb cb) Y) (be:-9223372036854775808≤e∧e≤9223372036854775807) (bf:-9223372036854775808≤f∧f≤9223372036854775807) :
 Calls Tryz.prog 21 #[.agg #[.bool n,.slice a la ca,.int .i64 e,.bool m,.slice b lb cb,.int .i64 f],.int .i64 mode] w fun r w'=>r=.returned (.tuple #[.float .f32 (sqrR S.rndS ⟨n,.slice a la ca,X,e,m,.slice b lb cb,Y,f⟩ mode).1,.int .i64 (sqrR S.rndS ⟨n,.slice a la ca,X,e,m,.slice b lb cb,Y,f⟩ mode).2])∧Below w.heap.size w w':=by
 by_cases hm:mode<0∨4<mode
 · have e1:sqrR S.rndS ⟨n,.slice a la ca,X,e,m,.slice b lb cb,Y,f⟩ mode=(0,1):=by unfold sqrR;rw [if_pos hm]
   rw [e1];exact rRoot3211 mode 0 false 1 (by omega) 0 rfl (hid fun u hu=>rounded_mode (X:=X) (Y:=Y) _ _ _ _ mode hm)
 · have hm0:0≤mode:=by omega
   have hm4:mode≤4:=by omega
   have el:=errL_one ⟨n,.slice a la ca,X,e,m,.slice b lb cb,Y,f⟩
   by_cases h0:errN X n e Y m f=0
   · obtain ⟨s1,s2,hY⟩:=errN_zero h0
     have F1:=frm_of s1;have F2:=frm_of s2;have ez:errL (oneI ⟨n,.slice a la ca,X,e,m,.slice b lb cb,Y,f⟩) 1=0:=el.trans h0
     by_cases hng:dN (mkS n X e)=true
     · have e1:sqrR S.rndS ⟨n,.slice a la ca,X,e,m,.slice b lb cb,Y,f⟩ mode=(0,110):=by unfold sqrR;simp only;rw [if_neg hm,if_pos ez,hng,if_pos rfl]
       rw [e1];exact rRoot3211 mode 0 false 110 (by omega) 0 rfl (hid fun u hu=>rounded_below _ _ _ _ mode hm0 hm4 (hN.below hu) (hD.below hu) be bf _ _ rfl rfl _ rfl h0 rfl hng)
     have hng':dN (mkS n X e)=false:=by cases h:dN (mkS n X e);rfl;exact absurd h hng
     obtain ⟨K,t,mm,L,hq⟩:∃ K t mm,LiesG S.vK 2139095040 2 K t mm (rV11 (dX (mkS n X e)) (dE (mkS n X e)) (dE (mkS m Y f)) 149 2) (rS11 (dX (mkS m Y f)) (dE (mkS n X e)) (dE (mkS m Y f)) 149 2)∧S.rndS (sqZ (dX (mkS n X e)) (dE (mkS n X e)) (dX (mkS m Y f)) (dE (mkS m Y f))) mode=((if t then K else if outS mode K mm false then K+1 else K)+(if false then 2147483648 else 0),0):=by
      rcases F1.odd with h|⟨h1,h2,h3⟩
      · obtain ⟨K,t,mm,L,hq⟩:=sqr32 (dX (mkS n X e)) (dE (mkS n X e)) (dX (mkS m Y f)) (dE (mkS m Y f)) h hY F1.size F2.size
        exact ⟨K,t,mm,L,by have q:=hq mode hm0 hm4;rw [q];unfold S.rK;simp⟩
      · refine ⟨0,true,0,?_,?_⟩
        · rw [h1,rV_zero];exact lies_nought grid32 (by omega) (rS_pos hY _ _ _ _)
        · rw [h1,sqZ_nought _ _ _ hY F2.size]
          unfold S.rndS;rw [if_neg (by omega)]
          simp [S.rW,h2]
     have hfin:=L.fin
     have e1:sqrR S.rndS ⟨n,.slice a la ca,X,e,m,.slice b lb cb,Y,f⟩ mode=((if t then K else if outS mode K mm (dN (mkS n X e)) then K+1 else K)+(if dN (mkS n X e) then 2147483648 else 0),0):=by
      unfold sqrR;simp only;rw [if_neg hm,if_pos ez];rw [hng',if_neg (by decide)];exact hq
     rw [e1];refine rRoot3211 mode _ (dN (mkS n X e)) 0 (by split;omega;split <;> omega) _ rfl (hid fun u hu=>?_)
     refine rounded_ok _ _ _ _ mode hm0 hm4 (hN.below hu) (hD.below hu) be bf _ _ rfl rfl _ h0 rfl (.inr hng') _ (hid fun x p q lx cx ly cy hx A1 A2=>?_)
     exact nearbyG wd32_is A1 A2 ⟨F1.down,F1.up⟩ ⟨F2.down,F2.up⟩ F2.size (.inr rfl) L true rfl mode hm0 hm4
   · have ez:errL (oneI ⟨n,.slice a la ca,X,e,m,.slice b lb cb,Y,f⟩) 1=errN X n e Y m f:=el
     have e1:sqrR S.rndS ⟨n,.slice a la ca,X,e,m,.slice b lb cb,Y,f⟩ mode=(0,errN X n e Y m f):=by unfold sqrR;rw [if_neg hm,if_neg (by rw [ez];exact h0),ez]
     rw [e1];exact rRoot3211 mode 0 false _ (by omega) 0 rfl (hid fun u hu=>rounded_err _ _ _ _ mode hm0 hm4 (hN.below hu) (hD.below hu) be bf _ _ rfl rfl _ rfl h0)
end
section
open Go.RowKit
theorem Own.off {w w':World}{g g':Nat}{L:List Nat}(h:Own w g L) (hb:But g' w w') (hg:g≠g'):Own w' g L:=by
 have hl:=h.lt;unfold Own at h ⊢;rw [hb.block g hl hg];exact h
theorem lent_res (W:World) (g:Nat) (n:Bool) (v:Value) (e:Int) (m:Bool) (u:Value) (f:Int) (tmps:Array Value) (ht:tmps[2]?.getD undef=.pointer (some ⟨g,0,none⟩)) (D:Rq W g n v e m u f) :
 (results Tryz.f13 tmps).run Tryz.prog W=.ok (.agg #[.bool n,v,.int .i64 e,.bool m,u,.int .i64 f]) W:=by
 obtain ⟨x0,x1,x2,x3,x4,x5⟩:=D.facts;simp [results,Tryz.results13,ht,go_sem,x0,x1,x2,x3,x4,x5]
theorem lent11 {w:World}{n m:Bool}{a b:Option Addr}{la ca lb cb:Nat}{xs ys:List Nat}{e f:Int}(hA:Arg w a la ca xs) (hD:Arg w b lb cb ys) (hl:la≤2000000) (hk:lb≤2000000) :
 Calls Tryz.prog 13 #[.agg #[.bool n,.slice a la ca,.int .i64 e,.bool m,.slice b lb cb,.int .i64 f]] w fun r w'=>(∃ g1 g2,r=.returned (.agg #[.bool n,.slice (some ⟨g1,0,none⟩) la (la+2),.int .i64 e,.bool m,.slice (some ⟨g2,0,none⟩) lb (lb+2),.int .i64 f])∧Own w' g1 (xs++[71,72])∧Own w' g2 (ys++[71,72])∧g1<g2∧w.heap.size≤g1)∧Below w.heap.size w w':=by
 obtain ⟨W1,hW1⟩:∃ W,W=(w.alloc (.cells #[.bool n,.slice a la ca,.int .i64 e,.bool m,.slice b lb cb,.int .i64 f] 30)).alloc (.cells #[.bool false,.slice none 0 0,.int .i64 0,.bool false,.slice none 0 0,.int .i64 0] 30):=⟨_,rfl⟩;obtain ⟨hB,hz1,Q1,Q2⟩:=same_begin11 w ⟨n,.slice a la ca,0,e,m,.slice b lb cb,0,f⟩ ⟨false,.slice none 0 0,0,0,false,.slice none 0 0,0,0⟩ W1 hW1;simp only at Q1 Q2;obtain ⟨x0,x1,x2,x3,x4,x5⟩:=Q1.facts;have A1:=hA.below hB;have A2:=hD.below hB;have dr:Below W1.heap.size W1 W1.drew:=(Below.refl _ _).drew;have T1:=hid (lent_any xs a la ca W1.heap.size W1 A1.len A1.cap (by omega) A1.rd (Nat.le_refl _))
 have T2:=hid (lent_any xs a la ca W1.heap.size W1.drew A1.len A1.cap (by omega) (A1.below dr).rd (Nat.le_refl _))
 have S0:=(sd (ai hB (ai Q1 (ai Q2 (ai A2 (ai hz1 hk))))));have ne1:w.heap.size≠w.heap.size+1:=by omega
 have ne2:w.heap.size+1≠w.heap.size:=by omega
 clear hB hz1 Q1 Q2 A1 A2 dr hA hD hl hk;go_enter Tryz.func13,Tryz.ntmps13
 go_upto_region 1 with fail
 rw [←hW1];clear hW1
 go_region_held3 (fun w'=>w'.cell? ⟨w.heap.size,0,none⟩=some (.bool n)∧w'.cell? ⟨w.heap.size,1,none⟩=some (.slice a la ca)∧w'.cell? ⟨w.heap.size,2,none⟩=some (.int .i64 e)∧w'.cell? ⟨w.heap.size,3,none⟩=some (.bool m)∧w'.cell? ⟨w.heap.size,4,none⟩=some (.slice b lb cb)∧w'.cell? ⟨w.heap.size,5,none⟩=some (.int .i64 f)) (go_keep) (first
  | (go_at_call 44
     first | with_reducible refine T1.out.mono ?_ | with_reducible refine T2.out.mono ?_
     rintro r v1 ⟨rfl,hO,hb⟩;have hw:Below W1.heap.size W1 v1:=by first | exact hb | exact ((Below.refl _ W1).drew).trans (hb.mono (Nat.le_refl _))
     have hO1:Own v1 W1.heap.size (xs++[71,72]):=hO;obtain ⟨bel,Q1,Q2,A2,hz1,hk⟩:=S0.out;obtain ⟨m0,m1,m2,m3,m4,m5⟩:=(Q1.below hw).facts;have A3:=A2.below hw;have T3:=hid (lent_any ys b lb cb v1.heap.size v1 A3.len A3.cap (by omega) A3.rd (Nat.le_refl _))
     have S4:=(sd (ai (bel.trans (hw.mono bel.size)) (ai (Q1.below hw) (ai (Q2.below hw) (ai hO1 (ai hO1.lt hz1))))));clear hO hO1 hb hw bel Q1 Q2 A2 A3 hz1 hk)
  | (go_at_call 44
     with_reducible refine T3.out.mono ?_
     rintro r v2 ⟨rfl,hO,hb⟩;obtain ⟨bel,Q1,Q2,hO1,hlt,hz1⟩:=S4.out;obtain ⟨k0,k1,k2,k3,k4,k5⟩:=(Q1.below hb).facts;obtain ⟨r0,r1,r2,r3,r4,r5⟩:=(Q2.below hb).facts;obtain ⟨rf0,rf1,rf2,rf3,rf4,rf5⟩:=(Q2.below hb).frz;have S5:=(sd (ai (bel.trans (hb.mono bel.size)) (ai (Q2.below hb) (ai (hO1.below hb hlt) (ai hO (ai hlt hz1))))));clear hO hb bel Q1 Q2 hO1 hlt hz1))
 all_goals (
  go_wp2;obtain ⟨bel,Q2,hO1,hO,hlt,hz1⟩:=S5.out;have hsz:=bel.size
  first
  | exact bodyPost_ret (lent_res _ (w.heap.size+1) n (.slice (some ⟨W1.heap.size,0,none⟩) la (la+2)) e m (.slice (some ⟨v1.heap.size,0,none⟩) lb (lb+2)) f _ rfl (Q2.set _ _ _ _ _ _)) rfl ⟨⟨W1.heap.size,v1.heap.size,rfl,hO1.off (st6_but _ _ _ _ _ _ _ _) (by omega),hO.off (st6_but _ _ _ _ _ _ _ _) (by omega),hlt,by omega⟩,below_st6 bel hsz (by omega) _ _ _ _ _ _⟩
  | exact bodyPost_ret (lent_res _ (w.heap.size+1) n (.slice (some ⟨W1.heap.size,0,none⟩) la (la+2)) e m (.slice (some ⟨v1.heap.size,0,none⟩) lb (lb+2)) f _ rfl (Q2.set _ _ _ _ _ _)) rfl ⟨⟨W1.heap.size,v1.heap.size,rfl,hO1.off (st6_but _ _ _ _ _ _ _ _) (by omega),hO.off (st6_but _ _ _ _ _ _ _ _) (by omega),hlt,by omega⟩,(below_st6 bel hsz (by omega) _ _ _ _ _ _).drew⟩)
theorem asLent11 {w:World}{n m:Bool}{a b:Option Addr}{la ca lb cb g1 g2 B:Nat}{xs ys:List Nat}{e f:Int}(hA:Arg w a la ca xs) (hD:Arg w b lb cb ys) (hl:la≤2000000) (hk:lb≤2000000) (hRA:Rd B w a xs) (hRD:Rd B w b ys) (hg1:B≤g1) (hg:g1<g2) (h1:Own w g1 (xs++[71,72])) (h2:Own w g2 (ys++[71,72])) :
 Calls Tryz.prog 17 #[.agg #[.bool n,.slice (some ⟨g1,0,none⟩) la (la+2),.int .i64 e,.bool m,.slice (some ⟨g2,0,none⟩) lb (lb+2),.int .i64 f],.agg #[.bool n,.slice a la ca,.int .i64 e,.bool m,.slice b lb cb,.int .i64 f]] w fun r w'=>r=.returned (.bool true)∧Below B w w':=by
 obtain ⟨W1,hW1⟩:∃ W,W=(w.alloc (.cells #[.bool n,.slice (some ⟨g1,0,none⟩) la (la+2),.int .i64 e,.bool m,.slice (some ⟨g2,0,none⟩) lb (lb+2),.int .i64 f] 30)).alloc (.cells #[.bool n,.slice a la ca,.int .i64 e,.bool m,.slice b lb cb,.int .i64 f] 30):=⟨_,rfl⟩;obtain ⟨hB,hz1,Q1,Q2⟩:=same_begin11 w ⟨n,.slice (some ⟨g1,0,none⟩) la (la+2),0,e,m,.slice (some ⟨g2,0,none⟩) lb (lb+2),0,f⟩ ⟨n,.slice a la ca,0,e,m,.slice b lb cb,0,f⟩ W1 hW1;simp only at Q1 Q2;have l1:=h1.lt;have l2:=h2.lt;have hBw:B≤w.heap.size:=by omega
 have bB:Below B w W1:=hB.mono hBw;have HC:=hid (asLent_any xs a la ca B g1 W1 hA.len hA.cap (by omega) hA.wf (hRA.below bB) hg1 (h1.below hB l1))
 obtain ⟨x0,x1,x2,x3,x4,x5⟩:=Q1.facts;obtain ⟨y0,y1,y2,y3,y4,y5⟩:=Q2.facts;have S0:=(sd (ai bB (ai Q1 (ai Q2 (ai hD (ai hRD (ai (h2.below hB l2) (ai l1 (ai l2 (ai hz1 (ai hBw (ai hg1 (ai hg hk)))))))))))));clear hB hz1 Q1 Q2 l1 l2 hBw bB hA hD hRA hRD hg1 hg h1 h2 hl hk;go_enter Tryz.func17,Tryz.ntmps17
 go_upto_region 1 with fail
 rw [←hW1];clear hW1
 go_wp2_with fail
 clear x0 x1 x2 x3 x4 x5 y0 y1 y2 y3 y4 y5;refine HC.out.mono ?_;rintro r u1 ⟨rfl,hb⟩;obtain ⟨bB,Q1,Q2,hD,hRD,h2,l1,l2,hz1,hBw,hg1,hg,hk⟩:=S0.out;have b1:Below B w u1:=But.below bB hb (by omega) hg1
 have HD:=hid (asLent_any ys b lb cb B g2 u1 hD.len hD.cap (by omega) hD.wf (hRD.below b1) (by omega) (h2.off hb (by omega)))
 have Q1':=Q1.but hb (by omega)
 obtain ⟨x0,x1,x2,x3,x4,x5⟩:=Q1'.facts;obtain ⟨y0,y1,y2,y3,y4,y5⟩:=(Q2.but hb (by omega)).facts
 have S1:=(sd (ai b1 (ai ((show B≤u1.heap.size by have:=Q1'.lt;omega)) ((show B≤g2 by omega)))))
 clear bB Q1 Q2 hD hRD h2 l1 l2 hz1 hBw hg1 hg hk b1 hb HC S0 Q1'
 go_wp2_with fail
 clear x0 x1 x2 x3 x4 x5 y0 y1 y2 y3 y4 y5;refine HD.out.mono ?_;rintro r u2 ⟨rfl,hb⟩;have S2:=sd (But.below S1.out.1 hb S1.out.2.1 S1.out.2.2);clear hb HD S1;go_wp2;go_ret;exact ⟨rfl,S2.out⟩
end
section
open Go.RowKit
def Ow (w:World) (g:Nat) (L:List Nat):Prop:=Own w g L
theorem Ow.below {w w':World}{g:Nat}{L:List Nat}(h:Ow w g L) (hb:Below w.heap.size w w'):Ow w' g L:=Own.below h hb (Own.lt h)
theorem Ow.arg {w:World}{g n:Nat}{xs:List Nat}(h:Ow w g (xs++[71,72])) (hn:n=xs.length) (hx:Wf xs) (hb:n≤2000000):Arg w (some ⟨g,0,none⟩) n (n+2) xs:=by
 subst hn;refine ⟨rfl,by omega,by omega,hx,?_,fun e=>by cases e⟩
 have hl:=Own.lt h;have r:=Rd.ofOwn (show Own w g (xs++[71,72]) from h) 0 xs.length
 rw [List.drop_zero,List.take_left'  rfl] at r;intro hne;obtain ⟨b,off,hlt,e,hc⟩:=r hne;exact ⟨b,off,by omega,e,hc⟩
theorem rd_low {w u:World}{B:Nat}{a:Option Addr}{xs:List Nat}(h:Rd w.heap.size w a xs) (hb:Below w.heap.size w u) (hB:w.heap.size≤B):Rd B u a xs:=by
 intro hx;obtain ⟨b,off,hlt,e,hc⟩:=(h.below hb) hx;exact ⟨b,off,by omega,e,hc⟩
theorem quoR_val (rnd:Option (Bool×Nat×Int)→Int→Nat×Int) (n:Bool) (v v':Value) (X:Nat) (e:Int) (m:Bool) (u u':Value) (Y:Nat) (f mode:Int):quoR rnd ⟨n,v,X,e,m,u,Y,f⟩ mode=quoR rnd ⟨n,v',X,e,m,u',Y,f⟩ mode:=by
 unfold quoR;rw [errL_one,errL_one]
theorem sqrR_val (rnd:Option (Bool×Nat×Int)→Int→Nat×Int) (n:Bool) (v v':Value) (X:Nat) (e:Int) (m:Bool) (u u':Value) (Y:Nat) (f mode:Int):sqrR rnd ⟨n,v,X,e,m,u,Y,f⟩ mode=sqrR rnd ⟨n,v',X,e,m,u',Y,f⟩ mode:=by
 unfold sqrR;rw [errL_one,errL_one]
section
attribute [local go_sem] B.f64bits B.f32bits
theorem rounds_law {w:World}{n m:Bool}{a b:Option Addr}{la ca lb cb:Nat}{xs ys:List Nat}{e f:Int}(mode:Int) (hA:Arg w a la ca xs) (hD:Arg w b lb cb ys) (be:-9223372036854775808≤e∧e≤9223372036854775807) (bf:-9223372036854775808≤f∧f≤9223372036854775807) (hT:Tab w) (z1:la≤2000000) (z2:lb≤2000000) :
 Calls Tryz.prog 4 #[.agg #[.bool n,.slice a la ca,.int .i64 e,.bool m,.slice b lb cb,.int .i64 f],.int .i64 mode] w fun r w'=>r=.returned (.bool true)∧Below w.heap.size w w':=by
 obtain ⟨W1,hW1⟩:∃ W,W=w.alloc (.cells #[.bool n,.slice a la ca,.int .i64 e,.bool m,.slice b lb cb,.int .i64 f] 30):=⟨_,rfl⟩;have hB:Below w.heap.size w W1:=by rw [hW1];exact below_alloc _ _
 have QA0:Rq W1 w.heap.size n (.slice a la ca) e m (.slice b lb cb) f:=by rw [hW1];exact Rq.new _ _ _ _ _ _ _
 obtain ⟨z1',h1⟩:∃ z,quoR rndS ⟨n,.slice a la ca,val xs,e,m,.slice b lb cb,val ys,f⟩ mode=z:=⟨_,rfl⟩;obtain ⟨z2',h2⟩:∃ z,sqrR rndS ⟨n,.slice a la ca,val xs,e,m,.slice b lb cb,val ys,f⟩ mode=z:=⟨_,rfl⟩;obtain ⟨z3',h3⟩:∃ z,quoR S.rndS ⟨n,.slice a la ca,val xs,e,m,.slice b lb cb,val ys,f⟩ mode=z:=⟨_,rfl⟩;obtain ⟨z4',h4⟩:∃ z,sqrR S.rndS ⟨n,.slice a la ca,val xs,e,m,.slice b lb cb,val ys,f⟩ mode=z:=⟨_,rfl⟩;obtain ⟨y1,c1⟩:=z1';obtain ⟨y2,c2⟩:=z2';obtain ⟨y3,c3⟩:=z3';obtain ⟨y4,c4⟩:=z4';have hAl:Al w (.slice a la ca) (val xs):=⟨_,_,_,_,rfl,hA,rfl,z1⟩;have hDl:Al w (.slice b lb cb) (val ys):=⟨_,_,_,_,rfl,hD,rfl,z2⟩;have D1:=hid fun u (hu:Below w.heap.size w u)=>docQuot (n:=n) (m:=m) mode (hAl.below hu) (hDl.below hu) be bf
 have D2:=hid fun u (hu:Below w.heap.size w u)=>docRoot (n:=n) (m:=m) mode (hAl.below hu) (hDl.below hu) be bf
 have D3:=hid fun u (hu:Below w.heap.size w u)=>docQuot32 (n:=n) (m:=m) mode (hAl.below hu) (hDl.below hu) be bf
 have D4:=hid fun u (hu:Below w.heap.size w u)=>docRoot32 (n:=n) (m:=m) mode (hAl.below hu) (hDl.below hu) be bf
 rw [h1] at D1;rw [h2] at D2;rw [h3] at D3;rw [h4] at D4;have HH:=(sd (ai h1 (ai h2 (ai h3 h4))));have HT:=sd hT;have BD:=(sd (ai hA (ai hD (ai be (ai bf (ai z1 z2))))));clear hT z1 z2 h1 h2 h3 h4 hAl hDl hA hD be bf;have hbel:=hB;have S0:=(sd (ai hbel QA0));clear hbel;clear hB QA0;go_enter Tryz.func4,Tryz.ntmps4;obtain ⟨bel,QA⟩:=S0.out;have HC:=hid (awake11 W1 (HT.out.belows bel));clear bel QA
 go_upto_region 1 with fail
 rw [←hW1];clear hW1
 go_wp2_with fail
 refine HC.out.mono ?_;rintro r u1 ⟨rfl,hb⟩;clear HC;obtain ⟨bel,QA⟩:=S0.out;have hbn:=bel.trans (hb.mono bel.size);have S1:=sd (ai hbn (QA.below hb));clear bel QA;clear hb hbn S0;obtain ⟨x0,x1,x2,x3,x4,x5⟩:=S1.out.2.facts;have HB0:Aside (w.heap.size<u1.heap.size∧Below w.heap.size w u1):=sd ⟨S1.out.2.lt,S1.out.1⟩;obtain ⟨bel,QA⟩:=S1.out;have HC:=hid (lent11 (n:=n) (m:=m) (e:=e) (f:=f) (BD.out.1.below bel) (BD.out.2.1.below bel) BD.out.2.2.2.2.1 BD.out.2.2.2.2.2);clear bel QA
 go_wp2_with fail
 clear x0 x1 x2 x3 x4 x5;refine HC.out.mono ?_;rintro r u2 ⟨⟨g1,g2,rfl,hO1,hO2,hg,hg1⟩,hb⟩;clear HC;obtain ⟨bel,QA⟩:=S1.out;have hbn:=bel.trans (hb.mono bel.size);have S2:=sd (ai hbn (ai (QA.below hb) (ai ((show Ow _ g1 _ from hO1)) (show Ow _ g2 _ from hO2))))
 clear bel QA;clear hb hbn S1;have HG:=(sd (ai hg hg1));clear hg hg1 hO1 hO2;obtain ⟨A3,hU3⟩:∃ U,U=u2.alloc (.cells #[.bool n,.slice (some ⟨g1,0,none⟩) la (la+2),.int .i64 e,.bool m,.slice (some ⟨g2,0,none⟩) lb (lb+2),.int .i64 f] 30):=⟨_,rfl⟩;obtain ⟨bel,QA,O1,O2⟩:=S2.out;have hbA:Below u2.heap.size u2 A3:=by rw [hU3];exact below_alloc _ _
 have hbB:=bel.trans (hbA.mono bel.size);have T3:=ai hbB (ai (QA.below hbA) (ai (O1.below hbA) (ai (O2.below hbA) (show Rq A3 u2.heap.size n (.slice (some ⟨g1,0,none⟩) la (la+2)) e m (.slice (some ⟨g2,0,none⟩) lb (lb+2)) f by rw [hU3];exact Rq.new _ _ _ _ _ _ _))))
 have S3:=sd T3;clear bel QA O1 O2;clear hbA hbB T3 S2;obtain ⟨x0,x1,x2,x3,x4,x5⟩:=S3.out.2.2.2.2.facts;obtain ⟨bel,QA,O1,O2,QL⟩:=S3.out;have HC:=hid ((show Calls Tryz.prog 10 #[.agg #[.bool n,.slice (some ⟨g1,0,none⟩) la (la+2),.int .i64 e,.bool m,.slice (some ⟨g2,0,none⟩) lb (lb+2),.int .i64 f],.int .i64 mode] A3 fun r w'=>r=.returned (.tuple #[.float .f64 y1,.int .i64 c1])∧Below A3.heap.size A3 w' from by have h:=Quot11 mode (⟨⟨_,_,_,_,rfl,O1.arg BD.out.1.len BD.out.1.wf BD.out.2.2.2.2.1,rfl⟩,⟨_,_,_,_,rfl,O2.arg BD.out.2.1.len BD.out.2.1.wf BD.out.2.2.2.2.2,rfl⟩,BD.out.2.2.1,BD.out.2.2.2.1⟩:Rv A3 ⟨n,.slice (some ⟨g1,0,none⟩) la (la+2),val xs,e,m,.slice (some ⟨g2,0,none⟩) lb (lb+2),val ys,f⟩) (HT.out.belows bel);rw [quoR_val _ n _ (.slice a la ca) (val xs) e m _ (.slice b lb cb) (val ys) f mode,HH.out.1] at h;exact h))
 clear bel QA O1 O2 QL
 go_upto_region 3 with fail
 rw [←hU3];clear hU3
 go_wp2_with fail
 clear x0 x1 x2 x3 x4 x5;refine HC.out.mono ?_;rintro r u4 ⟨rfl,hb⟩;clear HC;obtain ⟨bel,QA,O1,O2,QL⟩:=S3.out;have hbn:=bel.trans (hb.mono bel.size);have S4:=sd (ai hbn (ai (QA.below hb) (ai (O1.below hb) (ai (O2.below hb) (QL.below hb)))));clear bel QA O1 O2 QL;clear hb hbn S3;obtain ⟨x0,x1,x2,x3,x4,x5⟩:=S4.out.2.2.2.2.facts;obtain ⟨bel,QA,O1,O2,QL⟩:=S4.out;have HC:=hid ((show Calls Tryz.prog 14 #[.agg #[.bool n,.slice (some ⟨g1,0,none⟩) la (la+2),.int .i64 e,.bool m,.slice (some ⟨g2,0,none⟩) lb (lb+2),.int .i64 f],.int .i64 mode] u4 fun r w'=>r=.returned (.tuple #[.float .f64 y2,.int .i64 c2])∧Below u4.heap.size u4 w' from by have h:=Root11 mode (⟨⟨_,_,_,_,rfl,O1.arg BD.out.1.len BD.out.1.wf BD.out.2.2.2.2.1,rfl⟩,⟨_,_,_,_,rfl,O2.arg BD.out.2.1.len BD.out.2.1.wf BD.out.2.2.2.2.2,rfl⟩,BD.out.2.2.1,BD.out.2.2.2.1⟩:Rv u4 ⟨n,.slice (some ⟨g1,0,none⟩) la (la+2),val xs,e,m,.slice (some ⟨g2,0,none⟩) lb (lb+2),val ys,f⟩) (HT.out.belows bel);rw [sqrR_val _ n _ (.slice a la ca) (val xs) e m _ (.slice b lb cb) (val ys) f mode,HH.out.2.1] at h;exact h))
 clear bel QA O1 O2 QL
 go_wp2_with fail
 clear x0 x1 x2 x3 x4 x5;refine HC.out.mono ?_;rintro r u5 ⟨rfl,hb⟩;clear HC;obtain ⟨bel,QA,O1,O2,QL⟩:=S4.out;have hbn:=bel.trans (hb.mono bel.size);have S5:=sd (ai hbn (ai (QA.below hb) (ai (O1.below hb) (ai (O2.below hb) (QL.below hb)))));clear bel QA O1 O2 QL;clear hb hbn S4;obtain ⟨x0,x1,x2,x3,x4,x5⟩:=S5.out.2.2.2.2.facts;obtain ⟨bel,QA,O1,O2,QL⟩:=S5.out;have HC:=hid ((show Calls Tryz.prog 15 #[.agg #[.bool n,.slice (some ⟨g1,0,none⟩) la (la+2),.int .i64 e,.bool m,.slice (some ⟨g2,0,none⟩) lb (lb+2),.int .i64 f],.int .i64 mode] u5 fun r w'=>r=.returned (.tuple #[.float .f32 y3,.int .i64 c3])∧Below u5.heap.size u5 w' from by have h:=Quot3211 mode (⟨⟨_,_,_,_,rfl,O1.arg BD.out.1.len BD.out.1.wf BD.out.2.2.2.2.1,rfl⟩,⟨_,_,_,_,rfl,O2.arg BD.out.2.1.len BD.out.2.1.wf BD.out.2.2.2.2.2,rfl⟩,BD.out.2.2.1,BD.out.2.2.2.1⟩:Rv u5 ⟨n,.slice (some ⟨g1,0,none⟩) la (la+2),val xs,e,m,.slice (some ⟨g2,0,none⟩) lb (lb+2),val ys,f⟩) (HT.out.belows bel);rw [quoR_val _ n _ (.slice a la ca) (val xs) e m _ (.slice b lb cb) (val ys) f mode,HH.out.2.2.1] at h;exact h))
 clear bel QA O1 O2 QL
 go_wp2_with fail
 clear x0 x1 x2 x3 x4 x5;refine HC.out.mono ?_;rintro r u6 ⟨rfl,hb⟩;clear HC;obtain ⟨bel,QA,O1,O2,QL⟩:=S5.out;have hbn:=bel.trans (hb.mono bel.size);have S6:=sd (ai hbn (ai (QA.below hb) (ai (O1.below hb) (ai (O2.below hb) (QL.below hb)))));clear bel QA O1 O2 QL;clear hb hbn S5;obtain ⟨x0,x1,x2,x3,x4,x5⟩:=S6.out.2.2.2.2.facts;obtain ⟨bel,QA,O1,O2,QL⟩:=S6.out;have HC:=hid ((show Calls Tryz.prog 16 #[.agg #[.bool n,.slice (some ⟨g1,0,none⟩) la (la+2),.int .i64 e,.bool m,.slice (some ⟨g2,0,none⟩) lb (lb+2),.int .i64 f],.int .i64 mode] u6 fun r w'=>r=.returned (.tuple #[.float .f32 y4,.int .i64 c4])∧Below u6.heap.size u6 w' from by have h:=Root3211 mode (⟨⟨_,_,_,_,rfl,O1.arg BD.out.1.len BD.out.1.wf BD.out.2.2.2.2.1,rfl⟩,⟨_,_,_,_,rfl,O2.arg BD.out.2.1.len BD.out.2.1.wf BD.out.2.2.2.2.2,rfl⟩,BD.out.2.2.1,BD.out.2.2.2.1⟩:Rv u6 ⟨n,.slice (some ⟨g1,0,none⟩) la (la+2),val xs,e,m,.slice (some ⟨g2,0,none⟩) lb (lb+2),val ys,f⟩) (HT.out.belows bel);rw [sqrR_val _ n _ (.slice a la ca) (val xs) e m _ (.slice b lb cb) (val ys) f mode,HH.out.2.2.2] at h;exact h))
 clear bel QA O1 O2 QL
 go_wp2_with fail
 clear x0 x1 x2 x3 x4 x5;refine HC.out.mono ?_;rintro r u7 ⟨rfl,hb⟩;clear HC;obtain ⟨bel,QA,O1,O2,QL⟩:=S6.out;have hbn:=bel.trans (hb.mono bel.size);have S7:=sd (ai hbn (ai (QA.below hb) (ai (O1.below hb) (ai (O2.below hb) (QL.below hb)))));clear bel QA O1 O2 QL;clear hb hbn S6;obtain ⟨x0,x1,x2,x3,x4,x5⟩:=S7.out.2.2.2.2.facts;obtain ⟨y0,y1,y2,y3,y4,y5⟩:=S7.out.2.1.facts;obtain ⟨bel,QA,O1,O2,QL⟩:=S7.out;have HC:=hid (asLent11 (B:=u1.heap.size) (n:=n) (m:=m) (e:=e) (f:=f) (BD.out.1.below bel) (BD.out.2.1.below bel) BD.out.2.2.2.2.1 BD.out.2.2.2.2.2 (rd_low BD.out.1.rd bel (Nat.le_of_lt HB0.out.1)) (rd_low BD.out.2.1.rd bel (Nat.le_of_lt HB0.out.1)) HG.out.2 HG.out.1 O1 O2);clear bel QA O1 O2 QL
 go_wp2_with fail
 clear x0 x1 x2 x3 x4 x5 y0 y1 y2 y3 y4 y5;refine HC.out.mono ?_;rintro r u8 ⟨rfl,hb⟩;obtain ⟨bel,QA,O1,O2,QL⟩:=S7.out;have S8:=(sd (ai (bel.trans (hb.mono (Nat.le_of_lt HB0.out.1))) (QA.low hb HB0.out.1)));clear bel QA O1 O2 QL;clear hb HC S7 HG HB0 HH;obtain ⟨x0,x1,x2,x3,x4,x5⟩:=S8.out.2.facts;obtain ⟨bel,QA⟩:=S8.out;have HC:=hid (D1.out _ bel);clear bel QA
 go_wp2_with fail
 clear x0 x1 x2 x3 x4 x5;refine HC.out.mono ?_;rintro r u9 ⟨rfl,hb⟩;clear HC;obtain ⟨bel,QA⟩:=S8.out;have hbn:=bel.trans (hb.mono bel.size);have S9:=sd (ai hbn (QA.below hb));clear bel QA;clear hb hbn S8;obtain ⟨x0,x1,x2,x3,x4,x5⟩:=S9.out.2.facts;obtain ⟨bel,QA⟩:=S9.out;have HC:=hid (D2.out _ bel);clear bel QA
 go_wp2_with fail
 clear x0 x1 x2 x3 x4 x5;refine HC.out.mono ?_;rintro r u10 ⟨rfl,hb⟩;clear HC;obtain ⟨bel,QA⟩:=S9.out;have hbn:=bel.trans (hb.mono bel.size);have S10:=sd (ai hbn (QA.below hb));clear bel QA;clear hb hbn S9;obtain ⟨x0,x1,x2,x3,x4,x5⟩:=S10.out.2.facts;obtain ⟨bel,QA⟩:=S10.out;have HC:=hid (D3.out _ bel);clear bel QA
 go_wp2_with fail
 clear x0 x1 x2 x3 x4 x5;refine HC.out.mono ?_;rintro r u11 ⟨rfl,hb⟩;clear HC;obtain ⟨bel,QA⟩:=S10.out;have hbn:=bel.trans (hb.mono bel.size);have S11:=sd (ai hbn (QA.below hb));clear bel QA;clear hb hbn S10;obtain ⟨x0,x1,x2,x3,x4,x5⟩:=S11.out.2.facts;obtain ⟨bel,QA⟩:=S11.out;have HC:=hid (D4.out _ bel);clear bel QA
 go_wp2_with fail
 clear x0 x1 x2 x3 x4 x5;refine HC.out.mono ?_;rintro r u12 ⟨rfl,hb⟩;clear HC;obtain ⟨bel,QA⟩:=S11.out;have hbn:=bel.trans (hb.mono bel.size);have S12:=sd (ai hbn (QA.below hb));clear bel QA;clear hb hbn S11;have S99:=sd S12.out.1;clear S12 D1 D2 D3 D4 HT BD;go_wp2;go_ret;exact ⟨rfl,S99.out⟩
end
theorem walk_RootRounds (n:Bool) (a:Option Addr) (la ca:Nat) (e:Int) (xs:List Nat) (m:Bool) (b:Option Addr) (lb cb:Nat) (f:Int) (ys:List Nat) (mode:Int) (w:World) (hT:Tab w) (h:CameR w a la ca e xs b lb cb f ys) (hm:(Lit.int .i64 mode).wf=true) (z:la≤1048576∧lb≤1048576) :
 Calls Tryz.prog 4 #[.agg #[.bool n,.slice a la ca,.int .i64 e,.bool m,.slice b lb cb,.int .i64 f],.int .i64 mode] w fun r w'=>r=.returned (.bool true)∧Below w.heap.size w w' :=
 rounds_law mode (h.num.came.arg (by omega)) (h.den.came.arg (by omega)) ⟨h.num.lo,h.num.hi⟩ ⟨h.den.lo,h.den.hi⟩ hT (by omega) (by omega)
end
end Go.Proofs.YtdimlelcgapobaaGreatDoor
