import Derived.Test.YtgfemeencgjneaaGreatDoorHI9x
import Derived.Test.YtgfemeencgjneaaGreatDoorZ26x
import Derived.Test.YtgfemeencgjneaaGreatDoorZ5x
import Derived.Deep.RegionWith
import Derived.Deep.CutRange
import Derived.Test.YtgfemeencgjneaaGreatDoorHI4x
set_option linter.unusedVariables false
set_option linter.unusedSimpArgs false
set_option maxHeartbeats 16000000
set_option maxRecDepth 20000
namespace Go.Proofs.YtgfemeencgjneaaGreatDoor
namespace J
end J
section
open Go.RowKit
theorem sign_al {w:World}{v:Value}{X:Nat}(h1:Al w v X) (ng:Bool) (e:Int):Calls Tryz.prog 122 #[.agg #[.bool ng,v,.int .i64 e]] w fun r w'=>r=.returned (.int .i64 (sgn ng X))∧Below w.heap.size w w':=by
 obtain ⟨a,l,c,xs,rfl,hA,rfl,hl⟩:=h1;exact rSign_any3 hA ng e
theorem made_al {w:World}{v:Value}{X:Nat}(h1:Al w v X) (n:Bool) (e:Int) (be:-9223372036854775808≤e∧e≤9223372036854775807) (o:Option (Bool×Nat×Int)) (ho:mkS n X e=o) (s:Bool) (hs:o.isSome=s):Calls Tryz.prog 59 #[.agg #[.bool n,v,.int .i64 e]] w fun r w'=>(∃ p,r=.returned (.tuple #[.agg #[.bool (dN o),p,.int .i64 (dE o)],.bool s])∧Nt w.heap.size w' p (dX o))∧Below w.heap.size w w':=by
 obtain ⟨a,l,c,xs,rfl,hA,rfl,hl⟩:=h1;subst ho hs;exact rMade_any hA hl n e be.1 be.2
def MayA (lo:Nat) (w:World) (r:Ending) (o p:Option (Bool×Nat×Int)) (er:Int):Prop :=
 ∃ v,r=.returned (.tuple #[v,.int .i64 er])∧(er=0→∃ x y,R1 w v (dN o) x (dE o) (dN p) y (dE p)∧Nt lo w x (dX o)∧Nt lo w y (dX p))
theorem may1 {w:World}{g:Nat}{n m:Bool}{a b:Option Addr}{la ca lb cb X Y:Nat}{e f:Int}(hq:Rq w g n (.slice a la ca) e m (.slice b lb cb) f) (hN:Al w (.slice a la ca) X) (hD:Al w (.slice b lb cb) Y) (be:-9223372036854775808≤e∧e≤9223372036854775807) (bf:-9223372036854775808≤f∧f≤9223372036854775807)
 (o p:Option (Bool×Nat×Int)) (ho:mkS n X e=o) (hp:mkS m Y f=p) (er:Int) (her:errN X n e Y m f=er) :
 Calls Tryz.prog 95 #[.slice (some ⟨g,0,none⟩) 1 1] w fun r w'=>MayA w.heap.size w' r o p er∧Below w.heap.size w w':=by
 have S0:=(qsd (ai (Below.refl w.heap.size w) hq));have AA:=(qsd (ai hN (ai hD (ai be (ai bf (ai ho (ai hp her)))))));have LL:Aside ((ws (dX o)).length≤8192∧(ws (dX p)).length≤8192):=qsd ⟨by rw [←ho];exact mkS_len _ _ _,by rw [←hp];exact mkS_len _ _ _⟩
 obtain ⟨sg,hsg⟩:∃ x,sgn m Y=x:=⟨_,rfl⟩;have SG:=qsd hsg;clear hq hN hD be bf ho hp her hsg;have one:decide ((1:Int)<1)=false:=by decide
 go_enter Tryz.func95,Tryz.ntmps95;go_wp2
 go_loopg [4] 1 (fun gk i wr=>∃ k:Nat,gk+k=1∧i=.int .i64 (k:Nat)∧Aside (Below w.heap.size w wr∧(k=1→¬ sgn m Y<0)))
 case atStart=>exact ⟨0,by omega,by simp,qsd ⟨S0.out.1,fun h=>by cases h⟩⟩
 case round =>
  obtain ⟨k,hgk,rfl,HA⟩:=hrel
  by_cases hk:k<1
  · obtain rfl:k=0:=by omega
    obtain ⟨x0,x1,x2,x3,x4,x5⟩:=(S0.out.2.below HA.out.1).facts;have HC:=hid (sign_al (AA.out.2.1.below HA.out.1) m f);rw [SG.out] at HC
    go_wp2_with fail
    clear x0 x1 x2 x3 x4 x5;refine HC.out.mono ?_;rintro r u1 ⟨rfl,hb⟩;have HB:=qsd (HA.out.1.trans (hb.mono HA.out.1.size));clear HC hb HA
    by_cases hs:sg<0
    · have hs':decide (sg<0)=true:=decide_eq_true hs
      have HE:Aside (er=1):=qsd (by rw [←AA.out.2.2.2.2.2.2];unfold errN;rw [if_pos (by rw [SG.out];exact hs)])
      clear hs;go_wp2;exact bodyPost_ret (v:=.tuple #[.slice none 0 0,.int .i64 1]) (by simp [results,Tryz.results95,go_sem]) rfl ⟨⟨_,by rw [HE.out],fun h=>by rw [HE.out] at h;cases h⟩,HB.out⟩
    · have hs':decide (sg<0)=false:=decide_eq_false hs
      have HS:=qsd hs;clear hs
      go_wp2_with fail
      go_roundg 0
      case measure=>omega
      case rel=>exact ⟨1,by omega,by first | rfl | simp,qsd ⟨HB.out,fun _=>by rw [SG.out];exact HS.out⟩⟩
  · obtain rfl:k=1:=by omega
    have HS:=qsd (HA.out.2 rfl);have HB:=qsd HA.out.1;clear HA;go_wp2
    go_loopg [6,5] 1 (fun gk i v wr=>∃ (k:Nat) (v0:Value),gk+k=1∧i=.int .i64 (k:Nat)∧v=v0∧Aside (Below w.heap.size w wr∧(k=0→v0=.slice none 0 0)∧(k=1→o.isSome=true∧p.isSome=true∧∃ x y,R1 wr v0 (dN o) x (dE o) (dN p) y (dE p)∧Nt w.heap.size wr x (dX o)∧Nt w.heap.size wr y (dX p))))
    case atStart=>exact ⟨0,_,by omega,by simp,rfl,qsd ⟨HB.out,fun _=>rfl,fun h=>by cases h⟩⟩
    case round =>
     obtain ⟨j,v,hgj,rfl,hv,HA⟩:=hrel
     by_cases hj:j<1
     · obtain rfl:j=0:=by omega
       have hv0:=HA.out.2.1 rfl;subst hv0;subst hv;obtain ⟨s1,hs1⟩:∃ x,o.isSome=x:=⟨_,rfl⟩;obtain ⟨s2,hs2⟩:∃ x,p.isSome=x:=⟨_,rfl⟩;have SS:=(qsd (ai hs1 hs2));have S1:=(qsd (ai HA.out.1 (ai (S0.out.2.below HA.out.1) (ai (AA.out.1.below HA.out.1) (AA.out.2.1.below HA.out.1)))));clear hs1 hs2 HA;obtain ⟨x0,x1,x2,x3,x4,x5⟩:=S1.out.2.1.facts;have HC:=hid (made_al S1.out.2.2.1 n e AA.out.2.2.1 o AA.out.2.2.2.2.1 s1 SS.out.1)
       go_wp2_with fail
       clear x0 x1 x2 x3 x4 x5;refine HC.out.mono ?_;rintro r u1 ⟨⟨q,rfl,hN⟩,hb⟩;obtain ⟨q1,d1,rfl,-⟩:=hN.shape;obtain ⟨U1,hU1⟩:∃ U,U=u1.alloc (.cells #[.bool (dN o),.slice q1 (ws (dX o)).length d1,.int .i64 (dE o)] 70):=⟨_,rfl⟩
       have S2:Aside (Below w.heap.size w U1∧Rq U1 g n (.slice a la ca) e m (.slice b lb cb) f∧Al U1 (.slice b lb cb) Y∧Dk U1 u1.heap.size (dN o) (.slice q1 (ws (dX o)).length d1) (dE o)∧Nt w.heap.size U1 (.slice q1 (ws (dX o)).length d1) (dX o)):=by
        have b0:=S1.out.1;have b1:=b0.trans (hb.mono b0.size);have hA:Below u1.heap.size u1 U1:=by rw [hU1];exact below_alloc _ _
        exact qsd ⟨b1.trans (hA.mono b1.size),(S1.out.2.1.below hb).below hA,(S1.out.2.2.2.below hb).below hA,by rw [hU1];exact Dk.new _ _ _ _,(hN.mono b0.size).below hA⟩
       clear HC hb hN S1;obtain ⟨x0,x1,x2,x3,x4,x5⟩:=S2.out.2.1.facts;have HC:=hid (made_al S2.out.2.2.1 m f AA.out.2.2.2.1 p AA.out.2.2.2.2.2.1 s2 SS.out.2)
       go_upto_region 11 with fail
       rw [←hU1];clear hU1
       go_wp2_with fail
       clear x0 x1 x2 x3 x4 x5;refine HC.out.mono ?_;rintro r u2 ⟨⟨q,rfl,hN⟩,hb⟩;obtain ⟨q2,d2,rfl,-⟩:=hN.shape;obtain ⟨U2,hU2⟩:∃ U,U=u2.alloc (.cells #[.bool (dN p),.slice q2 (ws (dX p)).length d2,.int .i64 (dE p)] 70):=⟨_,rfl⟩
       have S3:Aside (Below w.heap.size w U2∧Dk U2 u1.heap.size (dN o) (.slice q1 (ws (dX o)).length d1) (dE o)∧Nt w.heap.size U2 (.slice q1 (ws (dX o)).length d1) (dX o)∧Dk U2 u2.heap.size (dN p) (.slice q2 (ws (dX p)).length d2) (dE p)∧Nt w.heap.size U2 (.slice q2 (ws (dX p)).length d2) (dX p)):=by
        have b0:=S2.out.1;have b1:=b0.trans (hb.mono b0.size);have hA:Below u2.heap.size u2 U2:=by rw [hU2];exact below_alloc _ _
        exact qsd ⟨b1.trans (hA.mono b1.size),(S2.out.2.2.2.1.below hb).below hA,(S2.out.2.2.2.2.below hb).below hA,by rw [hU2];exact Dk.new _ _ _ _,(hN.mono b0.size).below hA⟩
       clear HC hb hN S2
       by_cases hbad:s1=true∧s2=true
       · obtain ⟨rfl,rfl⟩:=hbad
         obtain ⟨x0,x1,x2,x3,x4,x5⟩:=S3.out.2.1.facts;obtain ⟨y0,y1,y2,y3,y4,y5⟩:=S3.out.2.2.2.1.facts;obtain ⟨v',w',r1,r2,r3⟩:=append_r U2 (dN o) q1 (ws (dX o)).length d1 (dE o) (dN p) q2 (ws (dX p)).length d2 (dE p);have HR:=qsd r1;have HN:=(qsd (ai r2 (ai (S3.out.1.trans (r3.mono S3.out.1.size)) (ai (S3.out.2.2.1.below r3) (S3.out.2.2.2.2.below r3)))));clear r1 r2 r3
         go_upto_region 14 with fail
         rw [←hU2];clear hU2
         go_wp2_with (at_builtin;refine wpList_append10 rfl (.tmp 55) (.tmp 59) 134 rfl _ _ rfl rfl _ _ HR.out ?_)
         go_roundg 0
         case measure=>omega
         case rel=>exact ⟨1,_,by omega,by first | rfl | simp,rfl,qsd ⟨HN.out.2.1,(fun h=>by cases h),fun _=>⟨SS.out.1,SS.out.2,_,_,HN.out.1,HN.out.2.2.1,HN.out.2.2.2⟩⟩⟩
       · have HE:Aside (er=2):=qsd (by
          rw [←AA.out.2.2.2.2.2.2];unfold errN;rw [if_neg (by have:=HS.out;omega),AA.out.2.2.2.2.1,AA.out.2.2.2.2.2.1,SS.out.1,SS.out.2]
          rw [if_neg (by intro h;rw [Bool.and_eq_true] at h;exact hbad h)])
         have H5:=qsd S3.out.1;clear S3
         cases s1
         · go_upto_region 12 with fail
           rw [←hU2];clear hU2 hbad;go_wp2;exact bodyPost_ret (v:=.tuple #[.slice none 0 0,.int .i64 2]) (by simp [results,Tryz.results95,go_sem]) rfl ⟨⟨_,by rw [HE.out],fun h=>by rw [HE.out] at h;cases h⟩,H5.out⟩
         · cases s2
           · go_upto_region 12 with fail
             rw [←hU2];clear hU2 hbad;go_wp2;exact bodyPost_ret (v:=.tuple #[.slice none 0 0,.int .i64 2]) (by simp [results,Tryz.results95,go_sem]) rfl ⟨⟨_,by rw [HE.out],fun h=>by rw [HE.out] at h;cases h⟩,H5.out⟩
           · exact absurd ⟨rfl,rfl⟩ hbad
     · obtain rfl:j=1:=by omega
       obtain ⟨i1,i2,x,y,hR,hx,hy⟩:=HA.out.2.2 rfl;obtain ⟨gg,cap,rfl,hcap,hgg,c0,c1,c2,c3,c4,c5⟩:=hR.ex;subst hv;obtain ⟨q1,d1,rfl,-⟩:=hx.shape;obtain ⟨q2,d2,rfl,-⟩:=hy.shape;have HX:=(qsd (ai HA.out.1 (ai hR (ai hx (ai hy (ai i1 i2))))));clear HA hR hx hy hgg i1 i2;go_wp2
       go_loopg [11] 1 (fun gk i wq=>∃ (k:Nat),gk+k=1∧i=.int .i64 (k:Nat)∧wq=wr∧Aside (k=1→dX p≠0))
       case atStart=>exact ⟨0,by omega,by simp,rfl,qsd fun h=>by cases h⟩
       case round =>
        obtain ⟨i,hgi,rfl,rfl,HP⟩:=hrel
        by_cases hi:i<1
        · obtain rfl:i=0:=by omega
          by_cases h0:dX p=0
          · have r1:((((ws (dX p)).length:Nat):Int)==0)=true:=by rw [h0,ws0];rfl
            have r2:((ws (dX p)).length==0)=true:=by rw [h0,ws0];rfl
            have HE:Aside (er=21):=qsd (by
             rw [←AA.out.2.2.2.2.2.2];unfold errN;rw [if_neg (by have:=HS.out;omega),AA.out.2.2.2.2.1,AA.out.2.2.2.2.2.1,HX.out.2.2.2.2.1,HX.out.2.2.2.2.2,if_pos (by decide),if_pos h0])
            clear h0;go_wp2;exact bodyPost_ret (v:=.tuple #[.slice none 0 0,.int .i64 21]) (by simp [results,Tryz.results95,go_sem]) rfl ⟨⟨_,by rw [HE.out],fun h=>by rw [HE.out] at h;cases h⟩,HX.out.1⟩
          · have r1:((((ws (dX p)).length:Nat):Int)==0)=false:=len_ne h0
            have r2:((ws (dX p)).length==0)=false:=beq_eq_false_iff_ne.2 (fun h=>h0 ((ws_len_zero _).1 h))
            have H0:=qsd h0;clear h0
            go_wp2_with fail
            go_roundg 0
            case measure=>omega
            case rel=>exact ⟨1,by omega,by first | rfl | simp,rfl,qsd fun _=>H0.out⟩
        · obtain rfl:i=1:=by omega
          have HE:Aside (er=0):=qsd (by
           rw [←AA.out.2.2.2.2.2.2];unfold errN;rw [if_neg (by have:=HS.out;omega),AA.out.2.2.2.2.1,AA.out.2.2.2.2.2.1,HX.out.2.2.2.2.1,HX.out.2.2.2.2.2,if_pos (by decide),if_neg (HP.out rfl)])
          go_wp2;exact bodyPost_ret (v:=.tuple #[.slice (some ⟨gg,0,none⟩) 1 cap,.int .i64 0]) (by simp [results,Tryz.results95,go_sem]) rfl ⟨⟨_,by rw [HE.out],fun _=>⟨_,_,HX.out.2.1,HX.out.2.2.1,HX.out.2.2.2.1⟩⟩,HX.out.1⟩
end
section
open Go.RowKit
theorem rounded_mode {w:World}{n m:Bool}{a b:Option Addr}{la ca lb cb X Y:Nat}{e f:Int}(dg ls:Int) (En:Nat) (sq:Bool) (mode:Int) (hm:mode<0∨4<mode) :
 Calls Tryz.prog 68 #[.agg #[.int .i64 dg,.int .i64 ls,.int .u64 (En:Nat)],.agg #[.bool n,.slice a la ca,.int .i64 e,.bool m,.slice b lb cb,.int .i64 f],.bool sq,.int .i64 mode] w fun r w'=>r=.returned (.tuple #[.int .u64 0,.bool false,.int .i64 1])∧Below w.heap.size w w':=by
 obtain ⟨W1,hW1⟩:∃ W,W=(w.alloc (.cells #[.int .i64 dg,.int .i64 ls,.int .u64 (En:Nat)] 99)).alloc (.cells #[.bool n,.slice a la ca,.int .i64 e,.bool m,.slice b lb cb,.int .i64 f] 78):=⟨_,rfl⟩;obtain ⟨hB,Z,QR⟩:=two_boxes w dg ls En n _ e m _ f W1 hW1;have S9:=qsd hB;clear hB Z QR;have hd:(mode<0)∨(¬ mode<0∧4<mode):=by omega
 clear hm;go_enter Tryz.func68,Tryz.ntmps68
 go_upto_region 1 with fail
 rw [←hW1];clear hW1
 rcases hd with hd|⟨hd,hd2⟩
 · have d1:=decide_eq_true hd
   clear hd;go_wp2;exact bodyPost_ret (v:=.tuple #[.int .u64 0,.bool false,.int .i64 1]) (by simp [results,Tryz.results68,go_sem]) rfl ⟨rfl,S9.out⟩
 · have d1:=decide_eq_false hd
   have d2:=decide_eq_true hd2;clear hd hd2;go_wp2;exact bodyPost_ret (v:=.tuple #[.int .u64 0,.bool false,.int .i64 1]) (by simp [results,Tryz.results68,go_sem]) rfl ⟨rfl,S9.out⟩
theorem rounded_err {w:World}{n m:Bool}{a b:Option Addr}{la ca lb cb X Y:Nat}{e f:Int}(dg ls:Int) (En:Nat) (sq:Bool) (mode:Int) (hm0:0≤mode) (hm4:mode≤4) (hN:Al w (.slice a la ca) X) (hD:Al w (.slice b lb cb) Y) (be:-9223372036854775808≤e∧e≤9223372036854775807) (bf:-9223372036854775808≤f∧f≤9223372036854775807)
 (o p:Option (Bool×Nat×Int)) (ho:mkS n X e=o) (hp:mkS m Y f=p) (er:Int) (her:errN X n e Y m f=er) (hne:er≠0) :
 Calls Tryz.prog 68 #[.agg #[.int .i64 dg,.int .i64 ls,.int .u64 (En:Nat)],.agg #[.bool n,.slice a la ca,.int .i64 e,.bool m,.slice b lb cb,.int .i64 f],.bool sq,.int .i64 mode] w fun r w'=>r=.returned (.tuple #[.int .u64 0,.bool false,.int .i64 er])∧Below w.heap.size w w':=by
 obtain ⟨W1,hW1⟩:∃ W,W=(w.alloc (.cells #[.int .i64 dg,.int .i64 ls,.int .u64 (En:Nat)] 99)).alloc (.cells #[.bool n,.slice a la ca,.int .i64 e,.bool m,.slice b lb cb,.int .i64 f] 78):=⟨_,rfl⟩;obtain ⟨hB,Z,QR⟩:=two_boxes w dg ls En n _ e m _ f W1 hW1;obtain ⟨L1,hL1⟩:∃ W,W=W1.alloc (.cells #[.bool n,.slice a la ca,.int .i64 e,.bool m,.slice b lb cb,.int .i64 f] 78):=⟨_,rfl⟩;have hB2:Below W1.heap.size W1 L1:=by rw [hL1];exact below_alloc _ _
 have bel:=hB.trans (hB2.mono hB.size);have LQ:Rq L1 W1.heap.size n (.slice a la ca) e m (.slice b lb cb) f:=by rw [hL1];exact Rq.new _ _ _ _ _ _ _
 have HC:=hid (may1 LQ (hN.below bel) (hD.below bel) be bf o p ho hp er her);have LL:Aside ((ws (dX o)).length≤8192∧(ws (dX p)).length≤8192):=qsd ⟨by rw [←ho];exact mkS_len _ _ _,by rw [←hp];exact mkS_len _ _ _⟩
 obtain ⟨x0,x1,x2,x3,x4,x5⟩:=QR.facts;have S0:=(qsd (ai bel (Z.below hB2)));have d1:decide (mode<0)=false:=decide_eq_false (by omega)
 have d2:decide (4<mode)=false:=decide_eq_false (by omega)
 clear hB hB2 bel LQ Z QR hN hD be bf ho hp her hm0 hm4;go_enter Tryz.func68,Tryz.ntmps68
 go_upto_region 1 with fail
 rw [←hW1];clear hW1
 go_wp2_with fail
 rw [←hL1];clear hL1 x0 x1 x2 x3 x4 x5;refine HC.out.mono ?_;rintro r u1 ⟨⟨v,rfl,hR⟩,hb⟩;have S9:=qsd (S0.out.1.trans (hb.mono S0.out.1.size));have hne':(er != 0)=true:=by simpa using hne
 have hne2:(er==0)=false:=by simpa using hne
 clear hb hR HC S0 LL;go_wp2;exact bodyPost_ret (v:=.tuple #[.int .u64 0,.bool false,.int .i64 er]) (by simp [results,Tryz.results68,go_sem]) rfl ⟨rfl,S9.out⟩
theorem rounded_ok {w:World}{n m:Bool}{a b:Option Addr}{la ca lb cb X Y:Nat}{e f:Int}(dg ls:Int) (En:Nat) (sq:Bool) (mode:Int) (hm0:0≤mode) (hm4:mode≤4) (hN:Al w (.slice a la ca) X) (hD:Al w (.slice b lb cb) Y) (be:-9223372036854775808≤e∧e≤9223372036854775807) (bf:-9223372036854775808≤f∧f≤9223372036854775807)
 (o p:Option (Bool×Nat×Int)) (ho:mkS n X e=o) (hp:mkS m Y f=p) (er:Int) (her:errN X n e Y m f=er) (h0:er=0) (hsq:sq=false∨dN o=false) (K:Nat)
 (HNb:Hid (∀ (u:World) (x y:Option Addr) (lx cx ly cy:Nat),Below w.heap.size w u→Al u (.slice x lx cx) (dX o)→Al u (.slice y ly cy) (dX p)→Calls Tryz.prog 96 #[.agg #[.int .i64 dg,.int .i64 ls,.int .u64 (En:Nat)],.agg #[.bool (dN o),.slice x lx cx,.int .i64 (dE o),.bool (dN p),.slice y ly cy,.int .i64 (dE p)],.bool sq,.int .i64 mode] u fun r w'=>r=.returned (.int .u64 (K:Nat))∧Below u.heap.size u w')) :
 Calls Tryz.prog 68 #[.agg #[.int .i64 dg,.int .i64 ls,.int .u64 (En:Nat)],.agg #[.bool n,.slice a la ca,.int .i64 e,.bool m,.slice b lb cb,.int .i64 f],.bool sq,.int .i64 mode] w fun r w'=>r=.returned (.tuple #[.int .u64 (K:Nat),.bool (dN o),.int .i64 0])∧Below w.heap.size w w':=by
 obtain ⟨W1,hW1⟩:∃ W,W=(w.alloc (.cells #[.int .i64 dg,.int .i64 ls,.int .u64 (En:Nat)] 99)).alloc (.cells #[.bool n,.slice a la ca,.int .i64 e,.bool m,.slice b lb cb,.int .i64 f] 78):=⟨_,rfl⟩;obtain ⟨hB,Z,QR⟩:=two_boxes w dg ls En n _ e m _ f W1 hW1;obtain ⟨L1,hL1⟩:∃ W,W=W1.alloc (.cells #[.bool n,.slice a la ca,.int .i64 e,.bool m,.slice b lb cb,.int .i64 f] 78):=⟨_,rfl⟩;have hB2:Below W1.heap.size W1 L1:=by rw [hL1];exact below_alloc _ _
 have bel:=hB.trans (hB2.mono hB.size);have LQ:Rq L1 W1.heap.size n (.slice a la ca) e m (.slice b lb cb) f:=by rw [hL1];exact Rq.new _ _ _ _ _ _ _
 have HC:=hid (may1 LQ (hN.below bel) (hD.below bel) be bf o p ho hp er her);have LL:Aside ((ws (dX o)).length≤8192∧(ws (dX p)).length≤8192):=qsd ⟨by rw [←ho];exact mkS_len _ _ _,by rw [←hp];exact mkS_len _ _ _⟩
 obtain ⟨x0,x1,x2,x3,x4,x5⟩:=QR.facts;have S0:=(qsd (ai bel (Z.below hB2)));have d1:decide (mode<0)=false:=decide_eq_false (by omega)
 have d2:decide (4<mode)=false:=decide_eq_false (by omega)
 clear hB hB2 bel LQ Z QR hN hD be bf ho hp her hm0 hm4;go_enter Tryz.func68,Tryz.ntmps68
 go_upto_region 1 with fail
 rw [←hW1];clear hW1
 go_wp2_with fail
 rw [←hL1];clear hL1 x0 x1 x2 x3 x4 x5;refine HC.out.mono ?_;rintro r u1 ⟨⟨v,rfl,hR⟩,hb⟩;obtain ⟨x,y,hR1,hx,hy⟩:=hR h0;subst h0;obtain ⟨gg,cap,rfl,hcap,hgg,c0,c1,c2,c3,c4,c5⟩:=hR1.ex;obtain ⟨q1,e1,rfl,-⟩:=hx.shape;obtain ⟨q2,e2,rfl,-⟩:=hy.shape;have S1:=(qsd (ai (S0.out.1.trans (hb.mono S0.out.1.size)) (ai (S0.out.2.below hb) (ai (hx.al' (Nat.le_trans LL.out.1 (by decide))) (ai (hy.al' (Nat.le_trans LL.out.2 (by decide))) (ai hR1 hgg))))))
 clear hb hR HC S0 LL hx hy hR1 hgg;obtain ⟨ng,hng⟩:∃ z,dN o=z:=⟨_,rfl⟩;obtain ⟨z0,z1,z2⟩:=S1.out.2.1.facts;have T1:=hid (HNb.out u1 q1 q2 _ e1 _ e2 S1.out.1 S1.out.2.2.1 S1.out.2.2.2.1);have dr:Below u1.heap.size u1 u1.drew:=(Below.refl _ _).drew;have T2:=hid (HNb.out u1.drew q1 q2 _ e1 _ e2 S1.out.1.drew (S1.out.2.2.1.below dr) (S1.out.2.2.2.1.below dr));have CC:=(qsd (ai c0 (ai c1 (ai c2 (ai c3 (ai c4 (ai c5 (ai z0 (ai z1 z2)))))))));rw [hng] at c0 T1 T2 hsq;have NG:=qsd hng;clear dr HNb hng
 rcases hsq with rfl|rfl
 · go_upto_region 8 with fail
   go_region_held3 (fun w'=>w'.cell? ⟨gg,0,none⟩=some (.bool ng)∧w'.cell? ⟨gg,1,none⟩=some (.slice q1 (ws (dX o)).length e1)∧w'.cell? ⟨gg,2,none⟩=some (.int .i64 (dE o))∧w'.cell? ⟨gg,3,none⟩=some (.bool (dN p))∧w'.cell? ⟨gg,4,none⟩=some (.slice q2 (ws (dX p)).length e2)∧w'.cell? ⟨gg,5,none⟩=some (.int .i64 (dE p))∧w'.cell? ⟨w.heap.size,0,none⟩=some (.int .i64 dg)∧w'.cell? ⟨w.heap.size,1,none⟩=some (.int .i64 ls)∧w'.cell? ⟨w.heap.size,2,none⟩=some (.int .u64 (En:Nat))) (go_keep) (first
    | (go_at_call 96
       first | with_reducible refine T1.out.mono ?_ | with_reducible refine T2.out.mono ?_
       rintro r v1 ⟨rfl,hb⟩;have hw:Below u1.heap.size u1 v1:=by first | exact hb | exact ((Below.refl _ u1).drew).trans (hb.mono (Nat.le_refl _))
       have hcg:∀ i,v1.cell? ⟨gg,i,none⟩=u1.cell? ⟨gg,i,none⟩:=fun i=>hw.cell (p:=⟨gg,i,none⟩) S1.out.2.2.2.2.2
       have k0:v1.cell? ⟨gg,0,none⟩=some (.bool ng):=by rw [hcg,CC.out.1,NG.out]
       have k1:=(hcg 1).trans CC.out.2.1;have k2:=(hcg 2).trans CC.out.2.2.1;have k3:=(hcg 3).trans CC.out.2.2.2.1;have k4:=(hcg 4).trans CC.out.2.2.2.2.1;have k5:=(hcg 5).trans CC.out.2.2.2.2.2.1;obtain ⟨j0,j1,j2⟩:=(S1.out.2.1.below hw).facts;have S9:=qsd (S1.out.1.trans (hw.mono S1.out.1.size));clear hb hw hcg)
    | fail)
   all_goals (
    go_wp2;exact bodyPost_ret (v:=.tuple #[.int .u64 (K:Nat),.bool ng,.int .i64 0]) (by simp [results,Tryz.results68,go_sem]) rfl ⟨by rw [NG.out],S9.out⟩)
 · cases sq
   · go_upto_region 8 with fail
     go_region_held3 (fun w'=>w'.cell? ⟨gg,0,none⟩=some (.bool false)∧w'.cell? ⟨gg,1,none⟩=some (.slice q1 (ws (dX o)).length e1)∧w'.cell? ⟨gg,2,none⟩=some (.int .i64 (dE o))∧w'.cell? ⟨gg,3,none⟩=some (.bool (dN p))∧w'.cell? ⟨gg,4,none⟩=some (.slice q2 (ws (dX p)).length e2)∧w'.cell? ⟨gg,5,none⟩=some (.int .i64 (dE p))∧w'.cell? ⟨w.heap.size,0,none⟩=some (.int .i64 dg)∧w'.cell? ⟨w.heap.size,1,none⟩=some (.int .i64 ls)∧w'.cell? ⟨w.heap.size,2,none⟩=some (.int .u64 (En:Nat))) (go_keep) (first
      | (go_at_call 96
         first | with_reducible refine T1.out.mono ?_ | with_reducible refine T2.out.mono ?_
         rintro r v1 ⟨rfl,hb⟩;have hw:Below u1.heap.size u1 v1:=by first | exact hb | exact ((Below.refl _ u1).drew).trans (hb.mono (Nat.le_refl _))
         have hcg:∀ i,v1.cell? ⟨gg,i,none⟩=u1.cell? ⟨gg,i,none⟩:=fun i=>hw.cell (p:=⟨gg,i,none⟩) S1.out.2.2.2.2.2
         have k0:v1.cell? ⟨gg,0,none⟩=some (.bool false):=by rw [hcg,CC.out.1,NG.out]
         have k1:=(hcg 1).trans CC.out.2.1;have k2:=(hcg 2).trans CC.out.2.2.1;have k3:=(hcg 3).trans CC.out.2.2.2.1;have k4:=(hcg 4).trans CC.out.2.2.2.2.1;have k5:=(hcg 5).trans CC.out.2.2.2.2.2.1;obtain ⟨j0,j1,j2⟩:=(S1.out.2.1.below hw).facts;have S9:=qsd (S1.out.1.trans (hw.mono S1.out.1.size));clear hb hw hcg)
      | fail)
     all_goals (
      go_wp2;exact bodyPost_ret (v:=.tuple #[.int .u64 (K:Nat),.bool false,.int .i64 0]) (by simp [results,Tryz.results68,go_sem]) rfl ⟨by rw [NG.out],S9.out⟩)
   · go_upto_region 8 with fail
     go_region_held3 (fun w'=>w'.cell? ⟨gg,0,none⟩=some (.bool false)∧w'.cell? ⟨gg,1,none⟩=some (.slice q1 (ws (dX o)).length e1)∧w'.cell? ⟨gg,2,none⟩=some (.int .i64 (dE o))∧w'.cell? ⟨gg,3,none⟩=some (.bool (dN p))∧w'.cell? ⟨gg,4,none⟩=some (.slice q2 (ws (dX p)).length e2)∧w'.cell? ⟨gg,5,none⟩=some (.int .i64 (dE p))∧w'.cell? ⟨w.heap.size,0,none⟩=some (.int .i64 dg)∧w'.cell? ⟨w.heap.size,1,none⟩=some (.int .i64 ls)∧w'.cell? ⟨w.heap.size,2,none⟩=some (.int .u64 (En:Nat))) (go_keep) (first
      | (go_at_call 96
         first | with_reducible refine T1.out.mono ?_ | with_reducible refine T2.out.mono ?_
         rintro r v1 ⟨rfl,hb⟩;have hw:Below u1.heap.size u1 v1:=by first | exact hb | exact ((Below.refl _ u1).drew).trans (hb.mono (Nat.le_refl _))
         have hcg:∀ i,v1.cell? ⟨gg,i,none⟩=u1.cell? ⟨gg,i,none⟩:=fun i=>hw.cell (p:=⟨gg,i,none⟩) S1.out.2.2.2.2.2
         have k0:v1.cell? ⟨gg,0,none⟩=some (.bool false):=by rw [hcg,CC.out.1,NG.out]
         have k1:=(hcg 1).trans CC.out.2.1;have k2:=(hcg 2).trans CC.out.2.2.1;have k3:=(hcg 3).trans CC.out.2.2.2.1;have k4:=(hcg 4).trans CC.out.2.2.2.2.1;have k5:=(hcg 5).trans CC.out.2.2.2.2.2.1;obtain ⟨j0,j1,j2⟩:=(S1.out.2.1.below hw).facts;have S9:=qsd (S1.out.1.trans (hw.mono S1.out.1.size));clear hb hw hcg)
      | fail)
     all_goals (
      go_wp2;exact bodyPost_ret (v:=.tuple #[.int .u64 (K:Nat),.bool false,.int .i64 0]) (by simp [results,Tryz.results68,go_sem]) rfl ⟨by rw [NG.out],S9.out⟩)
end
section
open Go.RowKit
theorem rQuot11 {w:World}{n m:Bool}{a b:Option Addr}{la ca lb cb:Nat}{e f:Int}(mode:Int) (k:Nat) (ng:Bool) (er:Int) (hk:k<9223372036854775808) (z:Nat) (hz:k+(if ng then 9223372036854775808 else 0)=z)
 (HR:Hid (∀ u:World,Below w.heap.size w u→Calls Tryz.prog 68 #[.agg #[.int .i64 53,.int .i64 (-1074),.int .u64 9218868437227405312],.agg #[.bool n,.slice a la ca,.int .i64 e,.bool m,.slice b lb cb,.int .i64 f],.bool false,.int .i64 mode] u fun r w'=>r=.returned (.tuple #[.int .u64 (k:Nat),.bool ng,.int .i64 er])∧Below u.heap.size u w')) :
 Calls Tryz.prog 34 #[.agg #[.bool n,.slice a la ca,.int .i64 e,.bool m,.slice b lb cb,.int .i64 f],.int .i64 mode] w fun r w'=>r=.returned (.tuple #[.float .f64 z,.int .i64 er])∧Below w.heap.size w w':=by
 obtain ⟨W1,hW1⟩:∃ W,W=w.alloc (.cells #[.bool n,.slice a la ca,.int .i64 e,.bool m,.slice b lb cb,.int .i64 f] 78):=⟨_,rfl⟩;have hB:Below w.heap.size w W1:=by rw [hW1];exact below_alloc _ _
 have QR0:Rq W1 w.heap.size n (.slice a la ca) e m (.slice b lb cb) f:=by rw [hW1];exact Rq.new _ _ _ _ _ _ _
 obtain ⟨x0,x1,x2,x3,x4,x5⟩:=QR0.facts;have S0:=(qsd (ai hB QR0));have HWd:Hid (∀ u:World,Calls Tryz.prog 69 #[.int .u64 (k:Nat),.bool ng,.int .i64 er] u fun r w'=>r=.returned (.tuple #[.float .f64 z,.int .i64 er])∧w'=u):=hid fun u=>by have h:=wide64_any k hk ng er u;rw [hz] at h;exact h
 clear hB QR0 hk hz;go_enter Tryz.func34,Tryz.ntmps34
 go_upto_region 1 with fail
 rw [←hW1];clear hW1;have T1:=hid (of64_any W1);have T2:=hid (of64_any W1.drew)
 go_region_held3 (fun w'=>w'.cell? ⟨w.heap.size,0,none⟩=some (.bool n)∧w'.cell? ⟨w.heap.size,1,none⟩=some (.slice a la ca)∧w'.cell? ⟨w.heap.size,2,none⟩=some (.int .i64 e)∧w'.cell? ⟨w.heap.size,3,none⟩=some (.bool m)∧w'.cell? ⟨w.heap.size,4,none⟩=some (.slice b lb cb)∧w'.cell? ⟨w.heap.size,5,none⟩=some (.int .i64 f)) (go_keep) (first
  | (go_at_call 57
     first | with_reducible refine T1.out.mono ?_ | with_reducible refine T2.out.mono ?_
     rintro r v1 ⟨rfl,hb⟩;have hw:Below W1.heap.size W1 v1:=by first | exact hb | exact ((Below.refl _ W1).drew).trans (hb.mono (Nat.le_refl _))
     obtain ⟨m0,m1,m2,m3,m4,m5⟩:=(S0.out.2.below hw).facts;have T3:=hid (HR.out v1 (S0.out.1.trans (hw.mono S0.out.1.size)));have S4:=(qsd (ai (S0.out.1.trans (hw.mono S0.out.1.size)) (S0.out.2.below hw)));clear hb hw)
  | (go_at_call 68
     with_reducible refine T3.out.mono ?_
     rintro r v2 ⟨rfl,hb⟩;obtain ⟨k0,k1,k2,k3,k4,k5⟩:=(S4.out.2.below hb).facts;have S5:=qsd (S4.out.1.trans (hb.mono S4.out.1.size));clear hb))
 all_goals (
  go_wp2_with fail
  refine (HWd.out _).mono ?_;rintro r v3 ⟨rfl,rfl⟩;go_wp2;exact bodyPost_ret (v:=.tuple #[.float .f64 z,.int .i64 er]) (by simp [results,Tryz.results34,go_sem]) rfl ⟨rfl,S5.out⟩)
end
section
open Go.RowKit
theorem lies_nought {v:Nat→Nat}{top n S:Nat}(G:Grid v top) (hn:n≠0) (hS:0<S):LiesG v top n 0 true 0 0 S :=
 ⟨by have:=G.one;omega,hS,fun _=>by rw [G.zero,Nat.zero_pow (by omega),Nat.zero_mul],(fun h=>by cases h),(fun h=>by cases h),(fun h=>by cases h)⟩
theorem rV_zero (e f:Int) (u n:Nat):rV11 0 e f u n=0:=by unfold rV11;rw [Nat.zero_mul]
theorem rS_pos {Y:Nat}(h:Y≠0) (e f:Int) (u n:Nat):0<rS11 Y e f u n:=by unfold rS11;exact Nat.mul_pos (by omega) (Nat.two_pow_pos _)
theorem errN_zero {X:Nat}{n:Bool}{e:Int}{Y:Nat}{m:Bool}{f:Int}(h:errN X n e Y m f=0):(mkS n X e).isSome=true∧(mkS m Y f).isSome=true∧dX (mkS m Y f)≠0:=by
 unfold errN at h
 split at h
 · cases h
 · split at h
   · rename_i h2
     rw [Bool.and_eq_true] at h2
     split at h
     · cases h
     · rename_i h3;exact ⟨h2.1,h2.2,h3⟩
   · cases h
theorem docQuot {w:World}{n m:Bool}{a b:Option Addr}{la ca lb cb X Y:Nat}{e f:Int}(mode:Int) (hN:Al w (.slice a la ca) X) (hD:Al w (.slice b lb cb) Y) (be:-9223372036854775808≤e∧e≤9223372036854775807) (bf:-9223372036854775808≤f∧f≤9223372036854775807) :
 Calls Tryz.prog 34 #[.agg #[.bool n,.slice a la ca,.int .i64 e,.bool m,.slice b lb cb,.int .i64 f],.int .i64 mode] w fun r w'=>r=.returned (.tuple #[.float .f64 (quoR rndS ⟨n,.slice a la ca,X,e,m,.slice b lb cb,Y,f⟩ mode).1,.int .i64 (quoR rndS ⟨n,.slice a la ca,X,e,m,.slice b lb cb,Y,f⟩ mode).2])∧Below w.heap.size w w':=by
 by_cases hm:mode<0∨4<mode
 · have e1:quoR rndS ⟨n,.slice a la ca,X,e,m,.slice b lb cb,Y,f⟩ mode=(0,1):=by unfold quoR;rw [if_pos hm]
   rw [e1];exact rQuot11 mode 0 false 1 (by omega) 0 rfl (hid fun u hu=>rounded_mode (X:=X) (Y:=Y) _ _ _ _ mode hm)
 · have hm0:0≤mode:=by omega
   have hm4:mode≤4:=by omega
   have el:=errL_one ⟨n,.slice a la ca,X,e,m,.slice b lb cb,Y,f⟩
   by_cases h0:errN X n e Y m f=0
   · obtain ⟨s1,s2,hY⟩:=errN_zero h0
     have F1:=frm_of s1;have F2:=frm_of s2;have ez:errL (oneI ⟨n,.slice a la ca,X,e,m,.slice b lb cb,Y,f⟩) 1=0:=el.trans h0
     obtain ⟨K,t,mm,L,hq⟩:∃ K t mm,LiesG vK 9218868437227405312 1 K t mm (rV11 (dX (mkS n X e)) (dE (mkS n X e)) (dE (mkS m Y f)) 1074 1) (rS11 (dX (mkS m Y f)) (dE (mkS n X e)) (dE (mkS m Y f)) 1074 1)∧rndS (quoZ (dN (mkS n X e)) (dX (mkS n X e)) (dE (mkS n X e)) (dX (mkS m Y f)) (dE (mkS m Y f))) mode=((if t then K else if outS mode K mm (dN (mkS n X e)) then K+1 else K)+(if (dN (mkS n X e)) then 9223372036854775808 else 0),0):=by
      rcases F1.odd with h|⟨h1,h2,h3⟩
      · obtain ⟨K,t,mm,L,hq⟩:=quo64 (dN (mkS n X e)) (dX (mkS n X e)) (dE (mkS n X e)) (dX (mkS m Y f)) (dE (mkS m Y f)) h hY F1.size F2.size
        exact ⟨K,t,mm,L,by have q:=hq mode hm0 hm4;rw [q];rfl⟩
      · refine ⟨0,true,0,?_,?_⟩
        · rw [h1,rV_zero];exact lies_nought grid64 (by omega) (rS_pos hY _ _ _ _)
        · rw [h1,quoZ_nought _ _ _ _ hY F2.size]
          unfold rndS;rw [if_neg (by omega)]
          simp [h2]
     have hfin:=L.fin
     have e1:quoR rndS ⟨n,.slice a la ca,X,e,m,.slice b lb cb,Y,f⟩ mode=((if t then K else if outS mode K mm (dN (mkS n X e)) then K+1 else K)+(if dN (mkS n X e) then 9223372036854775808 else 0),0):=by
      unfold quoR;simp only;rw [if_neg hm,if_pos ez];exact hq
     rw [e1];refine rQuot11 mode _ (dN (mkS n X e)) 0 (by split;omega;split <;> omega) _ rfl (hid fun u hu=>?_)
     refine rounded_ok _ _ _ _ mode hm0 hm4 (hN.below hu) (hD.below hu) be bf _ _ rfl rfl _ h0 rfl (.inl rfl) _ (hid fun x p q lx cx ly cy hx A1 A2=>?_)
     exact nearbyG wd64_is A1 A2 ⟨F1.down,F1.up⟩ ⟨F2.down,F2.up⟩ F2.size (.inl rfl) L false rfl mode hm0 hm4
   · have ez:errL (oneI ⟨n,.slice a la ca,X,e,m,.slice b lb cb,Y,f⟩) 1=errN X n e Y m f:=el
     have e1:quoR rndS ⟨n,.slice a la ca,X,e,m,.slice b lb cb,Y,f⟩ mode=(0,errN X n e Y m f):=by unfold quoR;rw [if_neg hm,if_neg (by rw [ez];exact h0),ez]
     rw [e1];exact rQuot11 mode 0 false _ (by omega) 0 rfl (hid fun u hu=>rounded_err _ _ _ _ mode hm0 hm4 (hN.below hu) (hD.below hu) be bf _ _ rfl rfl _ rfl h0)
end
section
open Go Go.RowKit J
attribute [local go_sem] st_float
theorem Fm.al13 {w:World}{p:Option Addr}{c:Nat}{o:Option (Bool×Nat×Int)}(F:Fm o) (N:Nt 0 w (.slice p (ws (dX o)).length c) (dX o)):Al w (.slice p (ws (dX o)).length c) (dX o):=⟨p,_,c,ws (dX o),rfl,F.a12 N,val_ws _,Nat.le_trans F.len (by decide)⟩
structure Db17 (ol oh:Option (Bool×Nat×Int)) (i p z:Nat) (ip iq q1 q2 q dn:Option (Bool×Nat×Int)) (ez:Int):Prop where
 fip:Fm ip
 fiq:Fm iq
 f1:Fm q1
 f2:Fm q2
 fq:Fm q
 fd:Fm dn
 a1:(∀ u:World,Calls Tryz.prog 32 #[.int .i64 ((p-i:Nat):Nat)] u fun r w'=>(∃ v,r=.returned (.agg #[.bool (dN ip),v,.int .i64 (dE ip)])∧Nt u.heap.size w' v (dX ip))∧Below u.heap.size u w')
 a2:(∀ u:World,Calls Tryz.prog 32 #[.int .i64 (i:Nat)] u fun r w'=>(∃ v,r=.returned (.agg #[.bool (dN iq),v,.int .i64 (dE iq)])∧Nt u.heap.size w' v (dX iq))∧Below u.heap.size u w')
 a3:(∀ u:World,Calls Tryz.prog 32 #[.int .i64 (p:Nat)] u fun r w'=>(∃ v,r=.returned (.agg #[.bool (dN dn),v,.int .i64 (dE dn)])∧Nt u.heap.size w' v (dX dn))∧Below u.heap.size u w')
 m1:(∀ (u:World) (a b:Option Addr) (c d:Nat),Nt 0 u (.slice a (ws (dX ol)).length c) (dX ol)→Nt 0 u (.slice b (ws (dX ip)).length d) (dX ip)→Calls Tryz.prog 31 #[.agg #[.bool (dN ol),.slice a (ws (dX ol)).length c,.int .i64 (dE ol)],.agg #[.bool (dN ip),.slice b (ws (dX ip)).length d,.int .i64 (dE ip)]] u fun r w'=>(∃ v,r=.returned (.tuple #[.agg #[.bool (dN q1),v,.int .i64 (dE q1)],.int .i64 0])∧Nt u.heap.size w' v (dX q1))∧Below u.heap.size u w')
 m2:(∀ (u:World) (a b:Option Addr) (c d:Nat),Nt 0 u (.slice a (ws (dX oh)).length c) (dX oh)→Nt 0 u (.slice b (ws (dX iq)).length d) (dX iq)→Calls Tryz.prog 31 #[.agg #[.bool (dN oh),.slice a (ws (dX oh)).length c,.int .i64 (dE oh)],.agg #[.bool (dN iq),.slice b (ws (dX iq)).length d,.int .i64 (dE iq)]] u fun r w'=>(∃ v,r=.returned (.tuple #[.agg #[.bool (dN q2),v,.int .i64 (dE q2)],.int .i64 0])∧Nt u.heap.size w' v (dX q2))∧Below u.heap.size u w')
 ad:(∀ (u:World) (a b:Option Addr) (c d:Nat),Nt 0 u (.slice a (ws (dX q1)).length c) (dX q1)→Nt 0 u (.slice b (ws (dX q2)).length d) (dX q2)→Calls Tryz.prog 33 #[.agg #[.bool (dN q1),.slice a (ws (dX q1)).length c,.int .i64 (dE q1)],.agg #[.bool (dN q2),.slice b (ws (dX q2)).length d,.int .i64 (dE q2)]] u fun r w'=>(∃ v,r=.returned (.tuple #[.agg #[.bool (dN q),v,.int .i64 (dE q)],.int .i64 0])∧Nt u.heap.size w' v (dX q))∧Below u.heap.size u w')
 qt:∀ (u:World) (a b:Option Addr) (c d:Nat),Nt 0 u (.slice a (ws (dX q)).length c) (dX q)→Nt 0 u (.slice b (ws (dX dn)).length d) (dX dn)→Calls Tryz.prog 34 #[.agg #[.bool (dN q),.slice a (ws (dX q)).length c,.int .i64 (dE q),.bool (dN dn),.slice b (ws (dX dn)).length d,.int .i64 (dE dn)],.int .i64 0] u fun r w'=>r=.returned (.tuple #[.float .f64 z,.int .i64 ez])∧Below u.heap.size u w'
theorem db17 (lo hi i p:Nat) (hl:lo<18446744073709551616) (fl:finW lo) (hh:hi<18446744073709551616) (fh:finW hi) (hr:i≤p) (hd:p≤2147483648) :
 ∃ ip iq q1 q2 q dn ez,Db17 (gV 1074 (fvW lo)) (gV 1074 (fvW hi)) i p (edW lo hi i p) ip iq q1 q2 q dn ez:=by
 obtain ⟨z,hz⟩:∃ z,z=2098:=⟨_,rfl⟩;obtain ⟨k,hk⟩:∃ z,z=31:=⟨_,rfl⟩;have b1:=bd_fv17 hl fl z hz;have b2:=bd_fv17 hh fh z hz;have bn:∀ n:Nat,n≤2147483648→Bd k (n:Int):=fun n hn=>by unfold Bd;rw [Int.natAbs_natCast,hk];exact hn
 have Fl:=g_fm (u:=1074) (by omega) (by omega) b1
 have Fh:=g_fm (u:=1074) (by omega) (by omega) b2
 have Fip:=g_fm (u:=0) (by omega) (by omega) (bn (p-i) (by omega))
 have Fiq:=g_fm (u:=0) (by omega) (by omega) (bn i (by omega))
 have e1:=g_mul (u:=1074) (v:=0) (by omega) (by omega) (by omega) (by omega) b1 (bn (p-i) (by omega))
 have e2:=g_mul (u:=1074) (v:=0) (by omega) (by omega) (by omega) (by omega) b2 (bn i (by omega))
 have c1:=b1.mul (bn (p-i) (by omega))
 have c2:=b2.mul (bn i (by omega))
 have F1:=g_fm (u:=1074) (by omega) (by omega) c1
 have F2:=g_fm (u:=1074) (by omega) (by omega) c2
 have ea:=g_add (u:=1074) (by omega) (by omega) c1 c2
 have Fq:=g_fm (u:=1074) (by omega) (by omega) (c1.add c2)
 have Fd:=g_fm (u:=0) (by omega) (by omega) (bn p hd)
 obtain ⟨V,hV⟩:∃ V,V=lnV17 lo hi i p:=⟨_,rfl⟩;have hV':fvW lo*((p-i:Nat):Int)+fvW hi*(i:Int)=V:=hV.symm;rw [hV'] at ea Fq
 refine ⟨_,_,_,_,_,_,(qR17 (gV 1074 V) (gV 0 (p:Int)) 0).2,Fip,Fiq,F1,F2,Fq,Fd,
  fun u=>(rInt_any ((p-i:Nat):Int) u (by omega) (by omega)).mono (fun r w' h=>h),
  fun u=>(rInt_any (i:Nat) u (by omega) (by omega)).mono (fun r w' h=>h),
  fun u=>(rInt_any (p:Nat) u (by omega) (by omega)).mono (fun r w' h=>h),
  fun u a b c d N1 N2=>rmul12 Fl Fip N1 N2 e1 F1,
  fun u a b c d N1 N2=>rmul12 Fh Fiq N1 N2 e2 F2,
  fun u a b c d N1 N2=>radd12 F1 F2 N1 N2 ea Fq,fun u a b c d N1 N2=>?_⟩
 have:=docQuot (w:=u) 0 (Fq.al13 N1) (Fd.al13 N2) Fq.rng (n:=dN (gV 1074 V)) (m:=dN (gV 0 (p:Int))) (f:=dE (gV 0 (p:Int))) Fd.rng;unfold edW;rw [←hV];exact this
end
section
open Go Go.RowKit J
attribute [local go_sem] st_float
noncomputable def edK (lo hi p k:Nat):List Nat:=(List.range k).map (fun i=>edW lo hi i p)
theorem edK_len (lo hi p k:Nat):(edK lo hi p k).length=k:=by simp [edK]
theorem edK_succ (lo hi p k:Nat):edK lo hi p k++[edW lo hi k p]=edK lo hi p (k+1):=by simp [edK,List.range_succ]
theorem rEdges17 (lo hi p:Nat) (w:World) (hl:lo<18446744073709551616) (fl:finW lo) (hh:hi<18446744073709551616) (fh:finW hi) (h1:1≤p) (h2:p<1024) (hW:W64 (edL lo hi p)) :
 Calls Tryz.prog 18 #[.float .f64 lo,.float .f64 hi,.int .i64 (p:Nat)] w fun r w'=>((Edg (edL lo hi p)∧∃ g c,r=.returned (.tuple #[.slice (some ⟨g,0,none⟩) (p+1) c,.int .i64 0])∧w.heap.size≤g∧Fs w'.heap.size w' (some ⟨g,0,none⟩) (edL lo hi p))∨(¬ Edg (edL lo hi p)∧r=.returned (.tuple #[.slice none 0 0,.int .i64 170])))∧Below w.heap.size w w':=by
 obtain ⟨ol,hol⟩:∃ o,o=gV 1074 (fvW lo):=⟨_,rfl⟩;obtain ⟨oh,hoh⟩:∃ o,o=gV 1074 (fvW hi):=⟨_,rfl⟩;have Fl:Fm ol:=by rw [hol];exact g_fm (by omega) (by omega) (bd_fv17 hl fl 2098 rfl)
 have Fh:Fm oh:=by rw [hoh];exact g_fm (by omega) (by omega) (bd_fv17 hh fh 2098 rfl)
 have CL:=hid (rof12 lo hl fl w);have CH:Hid (∀ u,Calls Tryz.prog 30 #[.float .f64 hi] u fun r w'=>(∃ v,r=.returned (.tuple #[.agg #[.bool (dN oh),v,.int .i64 (dE oh)],.int .i64 0])∧Nt u.heap.size w' v (dX oh))∧Below u.heap.size u w'):=fun u=>by rw [hoh];exact rof12 hi hh fh u
 rw [g_oW,←hol] at CL;have DB:Aside (∀ i,i≤p→∃ ip iq q1 q2 q dn ez,Db17 ol oh i p (edW lo hi i p) ip iq q1 q2 q dn ez):=fun i hi'=>by rw [hol,hoh];exact db17 lo hi i p hl fl hh fh hi' (by omega)
 have d1:decide ((p:Int)<1)=false:=by simp;omega
 have d2:decide ((1024:Int)≤(p:Int))=false:=by simp;omega
 have FF:=(qsd (ai Fl (ai Fh hW)));clear hl fl hh fh hol hoh Fl Fh hW;go_enter Tryz.func18,Tryz.ntmps18
 go_wp2_with fail
 refine CL.out.mono ?_;rintro r v1 ⟨⟨s1,rfl,hN⟩,hb⟩;obtain ⟨al,cl,rfl,hN0⟩:=Lo.shape FF.out.1 hN;obtain ⟨V1,hV1⟩:∃ V,V=v1.alloc (dc17 ol al cl):=⟨_,rfl⟩;obtain ⟨g8,hg8⟩:∃ g,g=v1.heap.size:=⟨_,rfl⟩
 have K1:Aside (Dk V1 g8 (dN ol) (.slice al (ws (dX ol)).length cl) (dE ol)∧Nt 0 V1 (.slice al (ws (dX ol)).length cl) (dX ol)∧Below w.heap.size w V1):=by
  rw [hV1,hg8];exact ⟨Dk.new _ _ _ _,hN0.below (below_alloc _ _),hb.trans ((below_alloc _ _).mono hb.size)⟩
 have HV:=(qsd (ai hV1 hg8));clear CL hb hN hN0 hV1 hg8
 go_upto_region 4 with fail
 rw [←HV.out.1,←HV.out.2];clear HV;have C:=hid (CH.out V1)
 go_wp2_with fail
 refine C.out.mono ?_;rintro r v2 ⟨⟨s2,rfl,hN⟩,hb⟩;obtain ⟨ah,ch,rfl,hN0⟩:=Lo.shape FF.out.2.1 hN;obtain ⟨U,hU⟩:∃ V,V=v2.alloc (dc17 oh ah ch):=⟨_,rfl⟩;obtain ⟨g10,hg10⟩:∃ g,g=v2.heap.size:=⟨_,rfl⟩
 have K2:Aside (Dk U g8 (dN ol) (.slice al (ws (dX ol)).length cl) (dE ol)∧Nt 0 U (.slice al (ws (dX ol)).length cl) (dX ol)∧Dk U g10 (dN oh) (.slice ah (ws (dX oh)).length ch) (dE oh)∧Nt 0 U (.slice ah (ws (dX oh)).length ch) (dX oh)∧Below w.heap.size w U):=by
  rw [hU,hg10];have b2:=K1.out.2.2.trans (hb.mono K1.out.2.2.size);have al2:=below_alloc v2 (dc17 oh ah ch);exact ⟨(K1.out.1.below hb).below al2,(K1.out.2.1.below hb).below al2,Dk.new _ _ _ _,hN0.below al2,b2.trans (al2.mono b2.size)⟩
 have HV:=(qsd (ai hU hg10));clear C CH hb hN hN0 hU hg10 K1
 go_upto_region 5 with fail
 rw [←HV.out.1,←HV.out.2];clear HV;go_wp2
 go_loopg [12,13] (p+1) (fun gk vo iv wr=>∃ k:Nat,gk+k=p+1∧iv=.int .i64 (k:Nat)∧Aside (wr.ownsRow U.heap.size 27 1 vo (edK lo hi p k).length ((edK lo hi p k).map Fw10)∧Below U.heap.size U wr))
 case atStart=>exact ⟨0,by omega,by first | rfl | simp,World.ownsRow_nil U U.heap.size 27 1,Below.refl _ _⟩
 case round =>
  obtain ⟨k,hgk,rfl,HA⟩:=hrel
  by_cases hk:k≤p
  · have hdk:decide ((k:Int)≤(p:Int))=true:=by simp;omega
    obtain ⟨k1,hk1⟩:∃ x,x=k+1:=⟨_,rfl⟩;have wk:IntKind.i64.wrap ((k:Int)+1)=(k1:Int):=wrapY (by omega) (by omega)
    obtain ⟨rem,hrem'⟩:∃ x,x=p-k:=⟨_,rfl⟩;have hrem:IntKind.i64.wrap ((p:Int)-(k:Int))=(rem:Int):=wrapY (by omega) (by omega)
    obtain ⟨ip,iq,q1,q2,q,dn,ez,D⟩:=DB.out k hk;have HA1:Hid (∀ u:World,Below wr.heap.size wr u→Calls Tryz.prog 32 #[.int .i64 (rem:Nat)] u fun r w'=>(∃ v,r=.returned (.agg #[.bool (dN ip),v,.int .i64 (dE ip)])∧Nt u.heap.size w' v (dX ip))∧Below u.heap.size u w'):=by rw [hrem'];exact fun u _=>D.a1 u
    have HA2:=hid (fun (u:World) (_:Below wr.heap.size wr u)=>D.a2 u)
    have HA3:=hid (fun (u:World) (_:Below wr.heap.size wr u)=>D.a3 u)
    have HM1:=hid (fun (u:World) (a b:Option Addr) (c d:Nat) (_:Below wr.heap.size wr u)=>D.m1 u a b c d)
    have HM2:=hid (fun (u:World) (a b:Option Addr) (c d:Nat) (_:Below wr.heap.size wr u)=>D.m2 u a b c d)
    have HADD:=hid D.ad;have HQT:=hid D.qt;have FG:=(qsd (ai D.fip (ai D.fiq (ai D.f1 (ai D.f2 (ai D.fq D.fd))))));obtain ⟨z,hz⟩:∃ z,z=edW lo hi k p:=⟨_,rfl⟩;rw [←hz] at HQT;obtain ⟨V,hVV⟩:∃ V,V=wr:=⟨_,rfl⟩;have hUwr:=HA.out.2
    have H1:Aside (Lo V g10 oh∧Below wr.heap.size wr V∧Dk V g8 (dN ol) (.slice al (ws (dX ol)).length cl) (dE ol)∧Nt 0 V (.slice al (ws (dX ol)).length cl) (dX ol)):=by
     rw [hVV];exact ⟨⟨ah,ch,K2.out.2.2.1.below hUwr,K2.out.2.2.2.1.below hUwr⟩,Below.refl _ _,K2.out.1.below hUwr,K2.out.2.1.below hUwr⟩
    have HK:=(qsd (ai hk1 hz));have HVV:=qsd hVV;clear hk1 hrem' D hz hVV hUwr DB
    go_upto_region 11 with fail
    rw [←HVV.out]
    go_cut [14,15] from 50 to 58 (fun pv ev wx=>∃ g7,pv=.pointer (some ⟨g7,0,none⟩)∧ev=.int .i64 0∧Aside (Lo wx g7 q1∧Lo wx g10 oh∧Below wr.heap.size wr wx∧wr.heap.size≤g7))
    case first =>
     have hdr:=(Below.refl V.heap.size V).drew;have BB:=qsd (ai (H1.out.1.below hdr) (ai (H1.out.2.1.trans (hdr.mono H1.out.2.1.size)) (ai (H1.out.2.2.1.below hdr) (H1.out.2.2.2.below hdr))));clear hdr H1;obtain ⟨p0,p1,p2,f0,f1,f2⟩:=BB.out.2.2.1.facts;have hlt0:g8<V.heap.size:=BB.out.2.2.1.lt;have q0:V.cell? ⟨g8,0,none⟩=some (.bool (dN ol)):=p0;have q1':V.cell? ⟨g8,1,none⟩=some (.slice al (ws (dX ol)).length cl):=p1;have q2':V.cell? ⟨g8,2,none⟩=some (.int .i64 (dE ol)):=p2;have hne0:g8≠V.heap.size:=by omega
     refine calm17 ?_
     go_region_with (first
      | (go_at_call 32
         first
         | (with_reducible refine (HA1.out _ BB.out.2.1).mono ?_
            rintro r v ⟨⟨p,rfl,hN⟩,hb⟩;obtain ⟨a2,c2,rfl,hN0⟩:=Lo.shape FG.out.1 hN;have BB:=qsd (ai (BB.out.1.below hb) (ai (BB.out.2.1.trans (hb.mono BB.out.2.1.size)) (ai (BB.out.2.2.1.below hb) (BB.out.2.2.2.below hb))));have Q2:=qsd hN0;obtain ⟨p0,p1,p2,f0,f1,f2⟩:=BB.out.2.2.1.facts;have hlt:=BB.out.2.2.1.lt;have hne:=Nat.ne_of_lt hlt;clear hb hN hN0)
         | (have G7l:=qsd (ai BB.out.1.lt BB.out.2.1.size)
            have BB:=qsd (ai (BB.out.1.below (below_alloc _ Zd17)) (ai (BB.out.2.1.trans ((below_alloc _ Zd17).mono BB.out.2.1.size)) (ai (BB.out.2.2.1.below (below_alloc _ Zd17)) (BB.out.2.2.2.below (below_alloc _ Zd17)))));refine (HA1.out _ BB.out.2.1).mono ?_;rintro r v ⟨⟨p,rfl,hN⟩,hb⟩;obtain ⟨a2,c2,rfl,hN0⟩:=Lo.shape FG.out.1 hN;have G7:=qsd ((Lo.zero _).below hb);have BB:=qsd (ai (BB.out.1.below hb) (ai (BB.out.2.1.trans (hb.mono BB.out.2.1.size)) (ai (BB.out.2.2.1.below hb) (BB.out.2.2.2.below hb))));have Q2:=qsd hN0;obtain ⟨p0,p1,p2,f0,f1,f2⟩:=BB.out.2.2.1.facts;have hlt:=BB.out.2.2.1.lt;have hne:=Nat.ne_of_lt hlt;clear hb hN hN0))
      | (go_at_call 31
         first
         | (with_reducible refine (HM1.out _ al a2 cl c2 BB.out.2.1 BB.out.2.2.2 Q2.out).mono ?_
            rintro r v ⟨⟨p,rfl,hN⟩,hb⟩;obtain ⟨a3,c3,rfl,hN0⟩:=Lo.shape FG.out.2.2.1 hN
            try (have G7:=qsd (G7.out.below hb);obtain ⟨e1,e2,D7,e3⟩:=G7.out;obtain ⟨y0,y1,y2,z0,z1,z2⟩:=D7.facts;try dsimp only [World.drew] at y0 y1 y2 z0 z1 z2;clear D7 e3)
            have BB:=qsd (ai (BB.out.1.below hb) (ai (BB.out.2.1.trans (hb.mono BB.out.2.1.size)) hN0));clear hb hN hN0 p0 p1 p2 f0 f1 f2)
         | (have G7l:=qsd (ai BB.out.1.lt BB.out.2.1.size)
            have BB:=qsd (ai (BB.out.1.below (below_alloc _ Zd17)) (ai (BB.out.2.1.trans ((below_alloc _ Zd17).mono BB.out.2.1.size)) (ai (BB.out.2.2.1.below (below_alloc _ Zd17)) (BB.out.2.2.2.below (below_alloc _ Zd17)))));have Q2:=qsd (Q2.out.below (below_alloc _ Zd17));refine (HM1.out _ al a2 cl c2 BB.out.2.1 BB.out.2.2.2 Q2.out).mono ?_;rintro r v ⟨⟨p,rfl,hN⟩,hb⟩;obtain ⟨a3,c3,rfl,hN0⟩:=Lo.shape FG.out.2.2.1 hN;have G7:=qsd ((Lo.zero _).below hb);obtain ⟨e1,e2,D7,e3⟩:=G7.out;obtain ⟨y0,y1,y2,z0,z1,z2⟩:=D7.facts
            try dsimp only [World.drew] at y0 y1 y2 z0 z1 z2
            clear D7 e3;have BB:=qsd (ai (BB.out.1.below hb) (ai (BB.out.2.1.trans (hb.mono BB.out.2.1.size)) hN0));clear hb hN hN0 p0 p1 p2 f0 f1 f2)))
     all_goals
      go_wp2_with fail
      go_meet
      case rel=>first
       | exact ⟨_,rfl,rfl,Lo.new BB.out.2.2,BB.out.1.below (below_alloc _ _),BB.out.2.1.trans ((below_alloc _ _).mono BB.out.2.1.size),BB.out.2.1.size⟩
       | exact ⟨_,rfl,rfl,G7.out.set BB.out.2.2,BB.out.1.other G7.out (Nat.ne_of_lt G7l.out.1) _ _ _,st3_bel12 BB.out.2.1 BB.out.2.1.size G7l.out.2 _ _ _,G7l.out.2⟩
    clear H1;obtain ⟨g9,rfl,rfl,HB⟩:=hcut;obtain ⟨V2,hW⟩:∃ W,W=wc:=⟨_,rfl⟩;subst hW;obtain ⟨ah',ch',Dh,Nh⟩:=HB.out.2.1;have H1:Aside (Lo V2 g9 q1∧Below wr.heap.size wr V2∧Dk V2 g10 (dN oh) (.slice ah' (ws (dX oh)).length ch') (dE oh)∧Nt 0 V2 (.slice ah' (ws (dX oh)).length ch') (dX oh)):=⟨HB.out.1,HB.out.2.2.1,Dh,Nh⟩;clear Dh Nh HB HA1 HM1
    go_upto_region 12 with fail
    go_cut [16,17] from 59 to 65 (fun pv ev wx=>∃ g7,pv=.pointer (some ⟨g7,0,none⟩)∧ev=.int .i64 0∧Aside (Lo wx g7 q2∧Lo wx g9 q1∧Below wr.heap.size wr wx∧wr.heap.size≤g7))
    case first =>
     have hdr:=(Below.refl V2.heap.size V2).drew;have BB:=qsd (ai (H1.out.1.below hdr) (ai (H1.out.2.1.trans (hdr.mono H1.out.2.1.size)) (ai (H1.out.2.2.1.below hdr) (H1.out.2.2.2.below hdr))));clear hdr H1;obtain ⟨p0,p1,p2,f0,f1,f2⟩:=BB.out.2.2.1.facts;have hlt0:g10<V2.heap.size:=BB.out.2.2.1.lt;have q0:V2.cell? ⟨g10,0,none⟩=some (.bool (dN oh)):=p0;have q1':V2.cell? ⟨g10,1,none⟩=some (.slice ah' (ws (dX oh)).length ch'):=p1;have q2':V2.cell? ⟨g10,2,none⟩=some (.int .i64 (dE oh)):=p2;have hne0:g10≠V2.heap.size:=by omega
     refine calm17 ?_
     go_region_with (first
      | (go_at_call 32
         first
         | (with_reducible refine (HA2.out _ BB.out.2.1).mono ?_
            rintro r v ⟨⟨p,rfl,hN⟩,hb⟩;obtain ⟨a2,c2,rfl,hN0⟩:=Lo.shape FG.out.2.1 hN;have BB:=qsd (ai (BB.out.1.below hb) (ai (BB.out.2.1.trans (hb.mono BB.out.2.1.size)) (ai (BB.out.2.2.1.below hb) (BB.out.2.2.2.below hb))));have Q2:=qsd hN0;obtain ⟨p0,p1,p2,f0,f1,f2⟩:=BB.out.2.2.1.facts;have hlt:=BB.out.2.2.1.lt;have hne:=Nat.ne_of_lt hlt;clear hb hN hN0)
         | (have G7l:=qsd (ai BB.out.1.lt BB.out.2.1.size)
            have BB:=qsd (ai (BB.out.1.below (below_alloc _ Zd17)) (ai (BB.out.2.1.trans ((below_alloc _ Zd17).mono BB.out.2.1.size)) (ai (BB.out.2.2.1.below (below_alloc _ Zd17)) (BB.out.2.2.2.below (below_alloc _ Zd17)))));refine (HA2.out _ BB.out.2.1).mono ?_;rintro r v ⟨⟨p,rfl,hN⟩,hb⟩;obtain ⟨a2,c2,rfl,hN0⟩:=Lo.shape FG.out.2.1 hN;have G7:=qsd ((Lo.zero _).below hb);have BB:=qsd (ai (BB.out.1.below hb) (ai (BB.out.2.1.trans (hb.mono BB.out.2.1.size)) (ai (BB.out.2.2.1.below hb) (BB.out.2.2.2.below hb))));have Q2:=qsd hN0;obtain ⟨p0,p1,p2,f0,f1,f2⟩:=BB.out.2.2.1.facts;have hlt:=BB.out.2.2.1.lt;have hne:=Nat.ne_of_lt hlt;clear hb hN hN0))
      | (go_at_call 31
         first
         | (with_reducible refine (HM2.out _ ah' a2 ch' c2 BB.out.2.1 BB.out.2.2.2 Q2.out).mono ?_
            rintro r v ⟨⟨p,rfl,hN⟩,hb⟩;obtain ⟨a3,c3,rfl,hN0⟩:=Lo.shape FG.out.2.2.2.1 hN
            try (have G7:=qsd (G7.out.below hb);obtain ⟨e1,e2,D7,e3⟩:=G7.out;obtain ⟨y0,y1,y2,z0,z1,z2⟩:=D7.facts;try dsimp only [World.drew] at y0 y1 y2 z0 z1 z2;clear D7 e3)
            have BB:=qsd (ai (BB.out.1.below hb) (ai (BB.out.2.1.trans (hb.mono BB.out.2.1.size)) hN0));clear hb hN hN0 p0 p1 p2 f0 f1 f2)
         | (have G7l:=qsd (ai BB.out.1.lt BB.out.2.1.size)
            have BB:=qsd (ai (BB.out.1.below (below_alloc _ Zd17)) (ai (BB.out.2.1.trans ((below_alloc _ Zd17).mono BB.out.2.1.size)) (ai (BB.out.2.2.1.below (below_alloc _ Zd17)) (BB.out.2.2.2.below (below_alloc _ Zd17)))));have Q2:=qsd (Q2.out.below (below_alloc _ Zd17));refine (HM2.out _ ah' a2 ch' c2 BB.out.2.1 BB.out.2.2.2 Q2.out).mono ?_;rintro r v ⟨⟨p,rfl,hN⟩,hb⟩;obtain ⟨a3,c3,rfl,hN0⟩:=Lo.shape FG.out.2.2.2.1 hN;have G7:=qsd ((Lo.zero _).below hb);obtain ⟨e1,e2,D7,e3⟩:=G7.out;obtain ⟨y0,y1,y2,z0,z1,z2⟩:=D7.facts
            try dsimp only [World.drew] at y0 y1 y2 z0 z1 z2
            clear D7 e3;have BB:=qsd (ai (BB.out.1.below hb) (ai (BB.out.2.1.trans (hb.mono BB.out.2.1.size)) hN0));clear hb hN hN0 p0 p1 p2 f0 f1 f2)))
     all_goals
      go_wp2_with fail
      go_meet
      case rel=>first
       | exact ⟨_,rfl,rfl,Lo.new BB.out.2.2,BB.out.1.below (below_alloc _ _),BB.out.2.1.trans ((below_alloc _ _).mono BB.out.2.1.size),BB.out.2.1.size⟩
       | exact ⟨_,rfl,rfl,G7.out.set BB.out.2.2,BB.out.1.other G7.out (Nat.ne_of_lt G7l.out.1) _ _ _,st3_bel12 BB.out.2.1 BB.out.2.1.size G7l.out.2 _ _ _,G7l.out.2⟩
    clear H1;obtain ⟨g11,rfl,rfl,HB⟩:=hcut;obtain ⟨W1,hW⟩:∃ W,W=wc:=⟨_,rfl⟩;subst hW;obtain ⟨⟨x11,k11,D11,M11⟩,⟨x9,k9,D9,M9⟩,hb,_⟩:=HB.out;obtain ⟨p0,p1,p2,_,_,_⟩:=D9.facts;obtain ⟨q0,q1',q2',_,_,_⟩:=D11.facts;have C:=hid (HADD.out W1 x9 x11 k9 k11 M9 M11);have K3:=qsd hb;clear D9 M9 D11 M11 hb HB HADD HA2 HM2
    go_wp2_with fail
    refine C.out.mono ?_;rintro r v3 ⟨⟨s3,rfl,hN⟩,hb⟩;obtain ⟨a3,c3,rfl,hN0⟩:=Lo.shape FG.out.2.2.2.2.1 hN;obtain ⟨V3,hV3⟩:∃ V,V=v3.alloc (dc17 q a3 c3):=⟨_,rfl⟩;obtain ⟨g13,hg13⟩:∃ g,g=v3.heap.size:=⟨_,rfl⟩
    have K4:Aside (Dk V3 g13 (dN q) (.slice a3 (ws (dX q)).length c3) (dE q)∧Nt 0 V3 (.slice a3 (ws (dX q)).length c3) (dX q)∧Below wr.heap.size wr V3):=by
     rw [hV3,hg13];have b3:=K3.out.trans (hb.mono K3.out.size);exact ⟨Dk.new _ _ _ _,hN0.below (below_alloc _ _),b3.trans ((below_alloc _ _).mono b3.size)⟩
    have HV:=(qsd (ai hV3 hg13));clear C hb hN hN0 K3 hV3 hg13 p0 p1 p2 q0 q1' q2'
    go_upto_region 14 with fail
    rw [←HV.out.1,←HV.out.2];clear HV
    go_cut [20,21] from 72 to 79 (fun v ev wx=>v=.float .f64 z∧ev=.int .i64 ez∧Aside (Below wr.heap.size wr wx))
    case first =>
     have hdr:=(Below.refl V3.heap.size V3).drew;have BB:Aside (Dk V3.drew g13 (dN q) (.slice a3 (ws (dX q)).length c3) (dE q)∧Nt 0 V3.drew (.slice a3 (ws (dX q)).length c3) (dX q)∧Below wr.heap.size wr V3.drew):=⟨K4.out.1.below hdr,K4.out.2.1.below hdr,K4.out.2.2.drew⟩;clear hdr K4;obtain ⟨d0,d1',d2',_,_,_⟩:=BB.out.1.facts;refine calm17 ?_
     go_region_with (first
      | (go_at_call 34
         with_reducible refine (HQT.out _ a3 a5 c3 c5 BB.out.2.1 Q5.out).mono ?_
         rintro r v ⟨rfl,hb⟩;have BE:=qsd (BB.out.2.2.trans (hb.mono BB.out.2.2.size));clear hb d0 d1' d2')
      | (go_at_call 32
         with_reducible refine (HA3.out _ BB.out.2.2).mono ?_
         rintro r v ⟨⟨s5,rfl,hN⟩,hb⟩;obtain ⟨a5,c5,rfl,hN0⟩:=Lo.shape FG.out.2.2.2.2.2 hN;have BB:=qsd (ai (BB.out.1.below hb) (ai (BB.out.2.1.below hb) (BB.out.2.2.trans (hb.mono BB.out.2.2.size))));have Q5:=qsd hN0;obtain ⟨d0,d1',d2',_,_,_⟩:=BB.out.1.facts;clear hb hN hN0))
     all_goals
      go_wp2_with fail
      go_meet
      case rel=>exact ⟨rfl,rfl,BE.out⟩
    clear K4 HA3 HQT;obtain ⟨rfl,rfl,HB⟩:=hcut;obtain ⟨W4,hW⟩:∃ W,W=wc:=⟨_,rfl⟩;subst hW;obtain ⟨vo',W5,hrun,hrow,hbl,hsz⟩:=append10 U.heap.size u12 (edK lo hi p k) z W4 (own_below10 HA.out.1 HB.out) (Nat.le_trans HA.out.2.size HB.out.size) (by rw [edK_len];omega)
    have HR:=qsd hrun
    have HN:Aside (W5.ownsRow U.heap.size 27 1 vo' (edK lo hi p k1).length ((edK lo hi p k1).map Fw10)∧Below U.heap.size U W5):=by
     rw [HK.out.1,←edK_succ,←HK.out.2];exact ⟨hrow,(HA.out.2.trans (HB.out.mono HA.out.2.size)).trans hbl⟩
    clear hrun hrow hbl hsz HB HA
    go_wp2_with (at_builtin;refine wpList_append10 rfl _ _ 23 rfl _ _ rfl rfl vo' W5 HR.out ?_)
    go_roundg (p+1-k1)
    case measure=>have:=HK.out.1;omega
    case rel=>exact ⟨k1,by have:=HK.out.1;omega,by first | rfl | simp,HN.out⟩
  · obtain rfl:k=p+1:=by omega
    have hdk:decide (((p+1:Nat):Int)≤(p:Int))=false:=decide_eq_false (by omega)
    have hdk2:¬ p+1≤p:=by omega
    have hdk3:decide ((p:Int)+1≤(p:Int))=false:=decide_eq_false (by omega)
    obtain ⟨gx,c,rfl,hgx,hgy,hF⟩:=Rf.fs17 (R:=edK lo hi p (p+1)) HA.out.1 (by rw [edK_len];omega)
    rw [edK_len] at HA ⊢;have hEq:edK lo hi p (p+1)=edL lo hi p:=rfl;rw [hEq] at hF;have hbw:=K2.out.2.2.2.2.trans (HA.out.2.mono K2.out.2.2.2.2.size);have C:=hid (May17 (edL lo hi p) (some ⟨gx,0,none⟩) (p+1) c wr hF (by rw [edL_len]) (by omega) FF.out.2.2)
    have HO:=(qsd (ai hF (ai hbw (Nat.le_trans K2.out.2.2.2.2.size hgx))));clear hF hbw HA K2 DB hEq hgx hgy
    go_wp2_with fail
    refine C.out.mono ?_;rintro r v ⟨⟨b,rfl,hbe⟩,hbv⟩;have HB:=qsd hbv;clear C hbv
    cases b
    · have HE:Aside (¬ Edg (edL lo hi p)):=qsd (fun h=>Bool.noConfusion (hbe.2 h))
      clear hbe;go_wp2;refine bodyPost_ret (v:=.tuple #[.slice none 0 0,.int .i64 170]) (by simp [results,Tryz.results18,go_sem]) rfl ?_
      exact ⟨.inr ⟨HE.out,rfl⟩,HO.out.2.1.trans (HB.out.mono HO.out.2.1.size)⟩
    · have HE:Aside (Edg (edL lo hi p)):=qsd (hbe.1 rfl)
      clear hbe;go_wp2;refine bodyPost_ret (v:=.tuple #[.slice (some ⟨gx,0,none⟩) (p+1) c,.int .i64 0]) (by simp [results,Tryz.results18,go_sem]) rfl ?_
      exact ⟨.inl ⟨HE.out,gx,c,rfl,HO.out.2.2,(HO.out.1.below HB.out).mono HB.out.size⟩,HO.out.2.1.trans (HB.out.mono HO.out.2.1.size)⟩
end
section
open Go Go.RowKit J
attribute [local go_sem] st_float
theorem wf64f13 {a:Nat}(h:(Lit.float .f64 a).wf=true):a<18446744073709551616:=by
 simpa [Lit.wf] using h
abbrev w7:Nat:=4619567317775286272
abbrev w8:Nat:=4620693217682128896
theorem app17 (u:World) (lo:Nat) (v:Value) (L:List Nat) (x:Nat) (hR:Rf lo u v L) (hL:L.length≤2000) (hlo:lo≤u.heap.size) :
 ∃ v' W',(Builtin.append_ #[23,23] 23 #[v,.slice (some ⟨u.heap.size,0,none⟩) 1 1]).run Tryz.prog (u.alloc (Obj.cells #[.float .f64 x] 27))=.ok v' W'∧Rf lo W' v' (L++[x])∧(u.alloc (Obj.cells #[.float .f64 x] 27)).grownBy W' v.ownBlock∧(v'.ownBlock=v.ownBlock∨v'.ownBlock=some (u.heap.size+1)):=by
 obtain ⟨v',W',h1,h2,h3,h4⟩:=append_flts (u.alloc (Obj.cells #[.float .f64 x] 27)) lo v L [x] (some ⟨u.heap.size,0,none⟩) 1 1 23 (hR.alloc _) rfl
  (fun _=>⟨u.heap.size,0,rfl,fun i hi=>by
   obtain rfl:i=0:=by simp at hi;omega
   unfold World.cell?;simp only [heap_alloc_new];rfl⟩) (by simp) (by omega) (by simp;omega)
 rw [World.size_alloc] at h4;exact ⟨v',W',h1,h2,h3,h4⟩
theorem rf_own17 {w:World}{g lo:Nat}{L:List Nat}(h:OwnF w g L) (hlo:lo≤g) (hL:L.length≤2000):Rf lo w (.slice (some ⟨g,0,none⟩) L.length L.length) L:=by
 refine ⟨by simp,.inr ⟨g,L.length,(L.map Fw10).toArray,rfl,hlo,h,Nat.le_refl _,by unfold maxLen;omega,by simp,?_⟩⟩
 rw [Nat.mul_one];exact List.take_of_length_le (by simp)
theorem lt_of_cell17 {u:World}{p:Addr}{v:Value}(h:u.cell? p=some v):p.block<u.heap.size:=by
 unfold World.cell? at h
 rcases Nat.lt_or_ge p.block u.heap.size with q|q
 · exact q
 · rw [Array.getElem?_eq_none q] at h;cases h
theorem seven17:(FloatKind.f64.format.order w7 w7==some .eq)=true:=by decide +kernel
theorem he_nil17 (lo hi:Nat) (z er:Int) (w:World) (hT:Tab w)
 (HP:Hid (∀ u,Below w.heap.size w u→Calls Tryz.prog 10 #[.float .f64 lo,.float .f64 hi,.int .i64 z] u fun r w'=>r=.returned (.tuple #[.slice none 0 0,.int .i64 er])∧Below u.heap.size u w'))
 (HD:Hid (∀ u,Below w.heap.size w u→Calls Tryz.prog 18 #[.float .f64 lo,.float .f64 hi,.int .i64 z] u fun r w'=>r=.returned (.tuple #[.slice none 0 0,.int .i64 er])∧Below u.heap.size u w')) :
 Calls Tryz.prog 4 #[.float .f64 lo,.float .f64 hi,.int .i64 z] w fun r w'=>r=.returned (.bool true)∧Below w.heap.size w w':=by
 have C:=hid (awake17 w hT);have d0:(er != er)=false:=by simp
 have s7:=seven17;clear hT;go_enter Tryz.func4,Tryz.ntmps4
 go_wp2_with fail
 refine C.out.mono ?_;rintro r u1 ⟨rfl,hb⟩;have B1:=qsd hb;clear hb C;have C:=hid (HP.out u1 B1.out)
 go_wp2_with fail
 refine C.out.mono ?_;rintro r u2 ⟨rfl,hb⟩;have B2:=qsd (B1.out.trans (hb.mono B1.out.size));clear hb C B1;have C:=hid (HP.out u2 B2.out)
 go_wp2_with fail
 refine C.out.mono ?_;rintro r u3 ⟨rfl,hb⟩;have B3:=qsd (B2.out.trans (hb.mono B2.out.size));clear hb C B2;have C:=hid (HD.out u3 B3.out)
 go_wp2_with fail
 refine C.out.mono ?_;rintro r u4 ⟨rfl,hb⟩;have B4:=qsd (B3.out.trans (hb.mono B3.out.size));clear hb C B3 HP HD;have C:=hid (floats17 [] none none 0 0 0 u4 rfl (by decide) (Fs.nil _ _ _) (Fs.nil _ _ _))
 go_wp2_with fail
 refine C.out.mono ?_;rintro r u5 ⟨rfl,hb⟩;have B5:=qsd (B4.out.trans (hb.mono B4.out.size));clear hb C B4;have C:=hid (floats17 [] none none 0 0 0 u5 rfl (by decide) (Fs.nil _ _ _) (Fs.nil _ _ _))
 go_wp2_with fail
 refine C.out.mono ?_;rintro r u6 ⟨rfl,hb⟩;have B6:=qsd (B5.out.trans (hb.mono B5.out.size));clear hb C B5;go_wp2
 go_loopg [16] 0 (fun gk iv wr=>iv=.int .i64 0∧wr=u6)
 case atStart=>exact ⟨by first | rfl | simp,rfl⟩
 case round =>
  obtain ⟨rfl,rfl⟩:=hrel;obtain ⟨vc,Wc,hrun,hRc,hgc,hoc⟩:=app17 wr w.heap.size (.slice none 0 0) [] w7 (Rf.nil _ _) (by simp) B6.out.size
  have bc:Below w.heap.size w Wc:=(B6.out.trans ((below_alloc wr _).mono B6.out.size)).grown hgc (by have:=B6.out.size;simp;omega) (fun k e=>by simp [Value.ownBlock] at e)
  obtain ⟨vd,Wd,hrun2,hRd,hgd,hod⟩:=app17 Wc w.heap.size (.slice none 0 0) [] w8 (Rf.nil _ _) (by simp) bc.size
  have bd:Below w.heap.size w Wd:=(bc.trans ((below_alloc Wc _).mono bc.size)).grown hgd (by have:=bc.size;simp;omega) (fun k e=>by simp [Value.ownBlock] at e)
  have hRc2:Rf w.heap.size Wd vc [w7]:=(hRc.alloc _).grown hgd (fun b _ e=>by simp [Value.ownBlock] at e)
  obtain ⟨gc,kc,rfl,_,_,hkc,_,hcc⟩:=hRc2.shape (by simp)
  obtain ⟨gd,kd,rfl,_,_,hkd,_,_⟩:=hRd.shape (by simp)
  have x7:Wd.cell? ⟨gc,0,none⟩=some (.float .f64 w7):=hcc 0 (by simp)
  have HR:=(qsd (ai hrun hrun2));have C:=hid (floats17 [] (some ⟨gd,0,none⟩) none 0 kd 0 Wd rfl (by decide) (Fs.nil _ _ _) (Fs.nil _ _ _))
  have BD:=qsd bd;have hk0:0≤kd:=Nat.zero_le _;clear hrun hRc hgc bc hrun2 hRd hgd bd hRc2 hkc hcc hkd hoc hod
  go_upto_region 14 with (at_builtin;refine wpList_append_flt rfl _ _ rfl _ _ rfl rfl _ _ HR.out.1 ?_)
  go_wp2_with (at_builtin;refine wpList_append_flt rfl _ _ rfl _ _ rfl rfl _ _ HR.out.2 ?_)
  refine C.out.mono ?_;rintro r u9 ⟨rfl,hb⟩;have x7':u9.cell? ⟨gc,0,none⟩=some (.float .f64 w7):=(hb.cell (p:=⟨gc,0,none⟩) (lt_of_cell17 x7)).trans x7;have BE:=qsd (BD.out.trans (hb.mono BD.out.size));clear hb C x7 BD HR;go_wp2;refine bodyPost_ret (v:=.bool true) (by simp [results,Tryz.results4,go_sem]) rfl ?_
  exact ⟨rfl,BE.out⟩
theorem he_full17 (lo hi p:Nat) (w:World) (hT:Tab w) (hl:lo<18446744073709551616) (fl:finW lo) (hh:hi<18446744073709551616) (fh:finW hi) (h1:1≤p) (h2:p<1024) (hE:Edg (edL lo hi p)) :
 Calls Tryz.prog 4 #[.float .f64 lo,.float .f64 hi,.int .i64 (p:Nat)] w fun r w'=>r=.returned (.bool true)∧Below w.heap.size w w':=by
 have hW:=edL_W64 hl fl hh fh h1 (by omega)
 have C:=hid (awake17 w hT);have s7:=seven17;have hlen:=edL_len lo hi p
 have HP:Hid (∀ u,Below w.heap.size w u→Calls Tryz.prog 10 #[.float .f64 lo,.float .f64 hi,.int .i64 (p:Nat)] u fun r w'=>(∃ gl,r=.returned (.tuple #[.slice (some ⟨gl,0,none⟩) (p+1) (p+1),.int .i64 0])∧OwnF w' gl (edL lo hi p)∧u.heap.size≤gl)∧Below u.heap.size u w'):=fun u hu=>(Edges17 lo hi p u (hT.belows hu) hl fl hh fh h1 h2 hW).mono fun r w' h=>⟨by
  rcases h.1 with ⟨_,q⟩|⟨q,_⟩
  · exact q
  · exact absurd hE q,h.2⟩
 have HD:Hid (∀ u,Calls Tryz.prog 18 #[.float .f64 lo,.float .f64 hi,.int .i64 (p:Nat)] u fun r w'=>(∃ g c,r=.returned (.tuple #[.slice (some ⟨g,0,none⟩) (p+1) c,.int .i64 0])∧u.heap.size≤g∧Fs w'.heap.size w' (some ⟨g,0,none⟩) (edL lo hi p))∧Below u.heap.size u w'):=fun u=>(rEdges17 lo hi p u hl fl hh fh h1 h2 hW).mono fun r w' h=>⟨by
  rcases h.1 with ⟨_,q⟩|⟨q,_⟩
  · exact q
  · exact absurd hE q,h.2⟩
 obtain ⟨L,hL⟩:∃ L,L=edL lo hi p:=⟨_,rfl⟩;rw [←hL] at HP HD hlen;obtain ⟨n,hn⟩:∃ n,n=p+1:=⟨_,rfl⟩;rw [←hn] at HP HD hlen;have hnb:n≤1024:=by omega
 have hn1:1≤n:=by omega
 have HLN:=qsd hlen;clear hT hl fl hh fh hE hW hL hlen hn h1 h2;go_enter Tryz.func4,Tryz.ntmps4
 go_wp2_with fail
 refine C.out.mono ?_;rintro r u1 ⟨rfl,hb⟩;have B1:=qsd hb;clear hb C;have C:=hid (HP.out u1 B1.out)
 go_wp2_with fail
 refine C.out.mono ?_;rintro r u2 ⟨⟨ga,rfl,hA,hga⟩,hb⟩;have B2:Aside (Below w.heap.size w u2∧OwnF u2 ga L∧w.heap.size≤ga):=⟨B1.out.trans (hb.mono B1.out.size),hA,Nat.le_trans B1.out.size hga⟩;clear hb C hA hga B1;have C:=hid (HP.out u2 B2.out.1)
 go_wp2_with fail
 refine C.out.mono ?_;rintro r u3 ⟨⟨gb,rfl,hB,hgb⟩,hb⟩;have B3:Aside (Below w.heap.size w u3∧OwnF u3 ga L∧w.heap.size≤ga∧OwnF u3 gb L∧w.heap.size≤gb∧ga≠gb):=⟨B2.out.1.trans (hb.mono B2.out.1.size),B2.out.2.1.below hb B2.out.2.1.lt,B2.out.2.2,hB,Nat.le_trans B2.out.1.size hgb,by have:=B2.out.2.1.lt;omega⟩
 clear hb C hB hgb B2 HP;have C:=hid (HD.out u3)
 go_wp2_with fail
 refine C.out.mono ?_;rintro r u4 ⟨⟨gw,cw,rfl,hgw,hFw⟩,hb⟩;have B4:Aside (Below w.heap.size w u4∧OwnF u4 ga L∧w.heap.size≤ga∧OwnF u4 gb L∧w.heap.size≤gb∧ga≠gb∧Fs u4.heap.size u4 (some ⟨gw,0,none⟩) L∧gw≠ga∧gw≠gb):=⟨B3.out.1.trans (hb.mono B3.out.1.size),B3.out.2.1.below hb B3.out.2.1.lt,B3.out.2.2.1,B3.out.2.2.2.1.below hb B3.out.2.2.2.1.lt,B3.out.2.2.2.2.1,B3.out.2.2.2.2.2,hFw,by have:=B3.out.2.1.lt;omega,by have:=B3.out.2.2.2.1.lt;omega⟩
 clear hb C hgw hFw B3 HD
 have hfs:∀ {u:World} {g:Nat},OwnF u g L→Fs u.heap.size u (some ⟨g,0,none⟩) L:=fun {u g} h=>by
  have:=h.fs h.lt n;rw [List.take_of_length_le (by rw [HLN.out];exact Nat.le_refl _)] at this
  exact this
 have HFS:=qsd (fun (u:World) (g:Nat) (h:OwnF u g L)=>hfs h)
 clear hfs;have C:=hid (floats17 L (some ⟨ga,0,none⟩) (some ⟨gw,0,none⟩) n n cw u4 HLN.out.symm (by omega) (HFS.out u4 ga B4.out.2.1) B4.out.2.2.2.2.2.2.1)
 go_wp2_with fail
 refine C.out.mono ?_;rintro r u5 ⟨rfl,hb⟩;have B5:Aside (Below w.heap.size w u5∧OwnF u5 ga L∧w.heap.size≤ga∧OwnF u5 gb L∧w.heap.size≤gb∧ga≠gb∧Fs u5.heap.size u5 (some ⟨gw,0,none⟩) L∧gw≠ga∧gw≠gb):=⟨B4.out.1.trans (hb.mono B4.out.1.size),B4.out.2.1.below hb B4.out.2.1.lt,B4.out.2.2.1,B4.out.2.2.2.1.below hb B4.out.2.2.2.1.lt,B4.out.2.2.2.2.1,B4.out.2.2.2.2.2.1,(B4.out.2.2.2.2.2.2.1.below hb).mono hb.size,B4.out.2.2.2.2.2.2.2⟩;clear hb C B4;have C:=hid (floats17 L (some ⟨gb,0,none⟩) (some ⟨gw,0,none⟩) n n cw u5 HLN.out.symm (by omega) (HFS.out u5 gb B5.out.2.2.2.1) B5.out.2.2.2.2.2.2.1)
 go_wp2_with fail
 refine C.out.mono ?_;rintro r u6 ⟨rfl,hb⟩;have B6:Aside (Below w.heap.size w u6∧OwnF u6 ga L∧w.heap.size≤ga∧OwnF u6 gb L∧w.heap.size≤gb∧ga≠gb∧Fs u6.heap.size u6 (some ⟨gw,0,none⟩) L∧gw≠ga∧gw≠gb):=⟨B5.out.1.trans (hb.mono B5.out.1.size),B5.out.2.1.below hb B5.out.2.1.lt,B5.out.2.2.1,B5.out.2.2.2.1.below hb B5.out.2.2.2.1.lt,B5.out.2.2.2.2.1,B5.out.2.2.2.2.2.1,(B5.out.2.2.2.2.2.2.1.below hb).mono hb.size,B5.out.2.2.2.2.2.2.2⟩;clear hb C B5;go_wp2
 go_loopg [16] n (fun gk iv wr=>∃ k:Nat,gk+k=n∧iv=.int .i64 (k:Nat)∧Aside (OwnF wr ga (List.replicate k w7++L.drop k)∧But ga u6 wr))
 case atStart=>exact ⟨0,by omega,by first | rfl | simp,by simpa using B6.out.2.1,But.refl _ _⟩
 case round =>
  obtain ⟨k,hgk,rfl,HA⟩:=hrel
  by_cases hk:k<n
  · have hdk:decide ((k:Int)<(n:Int))=true:=by simp;omega
    have bk:(k:Int)<(n:Int):=by omega
    have bk0:(0:Int)≤(k:Int):=by omega
    obtain ⟨k1,hk1⟩:∃ x,x=k+1:=⟨_,rfl⟩;have wk:IntKind.i64.wrap ((k:Int)+1)=(k1:Int):=wrapY (by omega) (by omega)
    have hll:(List.replicate k w7++L.drop k).length=n:=by simp [HLN.out];omega
    have x1:=HA.out.1.cell k (by omega)
    have x2:=HA.out.1.frozen k;obtain ⟨o5,ho5⟩:∃ q,q=(List.replicate k w7++L.drop k).getD k 0:=⟨_,rfl⟩;rw [←ho5] at x1
    have HN:Aside (OwnF (wr.setCell ⟨ga,k,none⟩ (.float .f64 w7)) ga (List.replicate k1 w7++L.drop k1)∧But ga u6 (wr.setCell ⟨ga,k,none⟩ (.float .f64 w7))):=by
     have hs:=HA.out.1.set k w7;rw [List.set_append_right _ _ (by simp),List.length_replicate,Nat.sub_self,List.drop_eq_getElem_cons (by rw [HLN.out];exact hk),List.set_cons_zero] at hs
     refine ⟨?_,HA.out.2.set k _⟩;rw [hk1,List.replicate_succ',List.append_assoc];exact hs
    have HK:=qsd hk1;clear hll ho5 HA hk1;go_wp2
    go_roundg (n-k1)
    case measure=>have:=HK.out;omega
    case rel=>exact ⟨k1,by have:=HK.out;omega,by first | rfl | simp,HN.out⟩
  · obtain rfl:k=n:=by omega
    have hdk:decide ((k:Int)<(k:Int))=false:=by simp
    have hO:=HA.out.1;rw [List.drop_of_length_le (by rw [HLN.out];exact Nat.le_refl _),List.append_nil] at hO
    have hbw:Below w.heap.size w wr:=But.below B6.out.1 HA.out.2 B6.out.1.size B6.out.2.2.1
    have hBo:OwnF wr gb L:=by
     have:=B6.out.2.2.2.1;unfold OwnF at this ⊢;rw [HA.out.2.block gb (Array.getElem?_eq_some_iff.1 this).1 (Ne.symm B6.out.2.2.2.2.2.1)];exact this
    have hFw:Fs wr.heap.size wr (some ⟨gw,0,none⟩) L:=B6.out.2.2.2.2.2.2.1.re17 HA.out.2.size (fun hl=>HA.out.2.block gw hl B6.out.2.2.2.2.2.2.2.1)
    have hRa:=rf_own17 (lo:=w.heap.size) hO B6.out.2.2.1 (by simp;omega)
    have hRb:=rf_own17 (lo:=w.heap.size) hBo B6.out.2.2.2.2.1 (by rw [HLN.out];omega)
    rw [List.length_replicate] at hRa;rw [HLN.out] at hRb;obtain ⟨vc,Wc,hrun,hRc,hgc,hoc⟩:=app17 wr w.heap.size _ _ w7 hRa (by simp;omega) hbw.size
    have bc0:=hbw.trans ((below_alloc wr (Obj.cells #[.float .f64 w7] 27)).mono hbw.size);have bc:Below w.heap.size w Wc:=bc0.grown hgc bc0.size (fun q e=>(hRa.lt q e).1)
    have hRb2:Rf w.heap.size Wc (.slice (some ⟨gb,0,none⟩) k k) L:=(hRb.alloc _).grown hgc (fun b hb e=>by
     simp [Value.ownBlock] at hb e;exact B6.out.2.2.2.2.2.1 (e.trans hb.symm))
    obtain ⟨vd,Wd,hrun2,hRd,hgd,hod⟩:=app17 Wc w.heap.size _ _ w8 hRb2 (by rw [HLN.out];omega) bc.size
    have bd0:=bc.trans ((below_alloc Wc (Obj.cells #[.float .f64 w8] 27)).mono bc.size);have bd:Below w.heap.size w Wd:=bd0.grown hgd bd0.size (fun q e=>(hRb2.lt q e).1)
    have hgbl:=hBo.lt;have hgwl:=Fs.lt17 hFw (by intro e;rw [e] at HLN;have:=HLN.out;simp at this;omega)
    have hRc2:Rf w.heap.size Wd vc (List.replicate k w7++[w7]):=(hRc.alloc _).grown hgd (fun b hb e=>by
     simp [Value.ownBlock] at e;subst e
     rcases hoc with q|q
     · rw [q] at hb
       simp [Value.ownBlock] at hb;exact B6.out.2.2.2.2.2.1 hb
     · rw [q] at hb
       simp at hb
       omega)
    have hsc:wr.heap.size+1≤Wc.heap.size:=by have:=hgc.size;simp at this;exact this
    have hFw2:Fs Wd.heap.size Wd (some ⟨gw,0,none⟩) L:=by
     have f1:Fs Wc.heap.size Wc (some ⟨gw,0,none⟩) L:=hFw.re17 (by omega) (fun hl=>by
      rw [hgc.block gw (by simp;omega) (by simp [Value.ownBlock];exact fun e=>B6.out.2.2.2.2.2.2.2.1 e)]
      exact (below_alloc wr (Obj.cells #[.float .f64 w7] 27)).block gw hl)
     refine f1.re17 (by have:=hgd.size;simp at this;omega) (fun hl=>?_)
     rw [hgd.block gw (by simp;omega) (by simp [Value.ownBlock];exact fun e=>B6.out.2.2.2.2.2.2.2.2 e)]
     exact (below_alloc Wc (Obj.cells #[.float .f64 w8] 27)).block gw hl
    obtain ⟨gc,kc,rfl,_,_,hkc,_,hcc⟩:=hRc2.shape (by simp)
    obtain ⟨gd,kd,rfl,_,hgdl,hkd,_,hcd⟩:=hRd.shape (by simp)
    rw [List.length_append,List.length_replicate,List.length_singleton] at hkc hrun;rw [List.length_append,HLN.out,List.length_singleton] at hkd hrun2
    have x7:Wd.cell? ⟨gc,k,none⟩=some (.float .f64 w7):=by
     have:=hcc k (by simp)
     rw [List.getD_eq_getElem?_getD,List.getElem?_append_right (by simp),List.length_replicate,Nat.sub_self] at this
     exact this
    have hFd:Fs Wd.heap.size Wd (some ⟨gd,0,none⟩) L:=fun _=>⟨gd,0,hgdl,rfl,fun i hi=>by
     have:=hcd i (by simp;omega)
     rw [List.getD_eq_getElem?_getD,List.getElem?_append_left hi,←List.getD_eq_getElem?_getD] at this
     rw [Nat.zero_add];exact this⟩
    have C:=hid (floats17 L (some ⟨gd,0,none⟩) (some ⟨gw,0,none⟩) k kd cw Wd HLN.out.symm (by omega) hFd hFw2)
    have HR:=(qsd (ai hrun hrun2));have BD:=qsd bd;obtain ⟨k2,hk2⟩:∃ z,z=k+1:=⟨_,rfl⟩;rw [←hk2] at HR hkc hkd;have hk3:k≤kd:=by omega
    have hk4:k<k2:=by omega
    have hk5:(k:Int)<(k2:Int):=by omega
    have hk6:(k:Int)≤(k2:Int):=by omega
    have hk7:k≤k2:=by omega
    clear hrun hRc hgc bc bc0 hrun2 hRd hgd bd bd0 hRc2 hcc hcd hoc hod hO hbw hBo hFw hRa hRb hRb2 hFw2 hFd hgdl hgbl hgwl hsc HA hk2
    go_upto_region 14 with (at_builtin;refine wpList_append_flt rfl _ _ rfl _ _ rfl rfl _ _ HR.out.1 ?_)
    go_wp2_with (at_builtin;refine wpList_append_flt rfl _ _ rfl _ _ rfl rfl _ _ HR.out.2 ?_)
    refine C.out.mono ?_;rintro r u9 ⟨rfl,hb⟩;have x7':u9.cell? ⟨gc,k,none⟩=some (.float .f64 w7):=(hb.cell (p:=⟨gc,k,none⟩) (lt_of_cell17 x7)).trans x7;have BE:=qsd (BD.out.trans (hb.mono BD.out.size));clear hb C x7 BD HR;go_wp2;refine bodyPost_ret (v:=.bool true) (by simp [results,Tryz.results4,go_sem]) rfl ?_
    exact ⟨rfl,BE.out⟩
theorem rofE17 {x:Nat}(hx:x<18446744073709551616) (w:World) :
 Calls Tryz.prog 30 #[.float .f64 x] w fun r w'=>(∃ b a n c e,r=.returned (.tuple #[.agg #[.bool b,.slice a n c,.int .i64 e],.int .i64 (if finW x then 0 else 30)]))∧Below w.heap.size w w':=by
 by_cases fx:finW x
 · rw [if_pos fx]
   refine (rof12 x hx fx w).mono fun r w' h=>⟨?_,h.2⟩
   obtain ⟨v,rfl,hN⟩:=h.1;have Fx:Fm (oW x):=by rw [g_oW];exact g_fm (by omega) (by omega) (bd_fv17 hx fx 2098 rfl)
   obtain ⟨a,c,rfl,_⟩:=Lo.shape Fx hN;exact ⟨_,_,_,_,_,rfl⟩
 · rw [if_neg fx]
   refine (rof12_odd x hx fx w).mono fun r w' h=>⟨?_,h.2⟩
   obtain ⟨a,c,rfl,_⟩:=h.1;exact ⟨_,_,_,_,_,rfl⟩
theorem rEdgesOdd17 (lo hi:Nat) (z:Int) (w:World) (hl:lo<18446744073709551616) (hh:hi<18446744073709551616) (hf:¬ (finW lo∧finW hi)) (h1:1≤z) (h2:z<1024) :
 Calls Tryz.prog 18 #[.float .f64 lo,.float .f64 hi,.int .i64 z] w fun r w'=>r=.returned (.tuple #[.slice none 0 0,.int .i64 30])∧Below w.heap.size w w':=by
 have d1:decide (z<1)=false:=by simp;omega
 have d2:decide ((1024:Int)≤z)=false:=by simp;omega
 have CL:=hid (rofE17 hl w);have CH:=hid (fun u=>rofE17 hh u)
 obtain ⟨e1,he1⟩:∃ e:Int,e=if finW lo then 0 else 30:=⟨_,rfl⟩
 obtain ⟨e2,he2⟩:∃ e:Int,e=if finW hi then 0 else 30:=⟨_,rfl⟩
 rw [←he1] at CL;rw [←he2] at CH
 have HE:Aside ((e1=30∧(e2=0∨e2=30))∨(e1=0∧e2=30)):=by
  by_cases a:finW lo
  · rw [if_pos a] at he1
    rw [if_neg (fun b=>hf ⟨a,b⟩)] at he2
    exact .inr ⟨he1,he2⟩
  · rw [if_neg a] at he1
    refine .inl ⟨he1,?_⟩
    by_cases b:finW hi
    · rw [if_pos b] at he2;exact .inl he2
    · rw [if_neg b] at he2;exact .inr he2
 clear he1 he2 hl hh hf;go_enter Tryz.func18,Tryz.ntmps18
 go_wp2_with fail
 refine CL.out.mono ?_;rintro r v1 ⟨⟨b,a,n,c,e,rfl⟩,hb⟩;obtain ⟨V1,hV1⟩:∃ V,V=v1.alloc (Obj.cells #[.bool b,.slice a n c,.int .i64 e] 70):=⟨_,rfl⟩;have B1:Aside (Below w.heap.size w V1):=by rw [hV1];exact hb.trans ((below_alloc _ _).mono hb.size)
 have HV:=qsd hV1;clear CL hb hV1
 go_upto_region 4 with fail
 rw [←HV.out];clear HV;have C:=hid (CH.out V1)
 go_wp2_with fail
 refine C.out.mono ?_;rintro r v2 ⟨⟨b',a',n',c',e',rfl⟩,hb⟩;obtain ⟨V2,hV2⟩:∃ V,V=v2.alloc (Obj.cells #[.bool b',.slice a' n' c',.int .i64 e'] 70):=⟨_,rfl⟩
 have B2:Aside (Below w.heap.size w V2):=by
  rw [hV2];have q:=B1.out.trans (hb.mono B1.out.size);exact q.trans ((below_alloc _ _).mono q.size)
 have HV:=qsd hV2;clear C CH hb hV2 B1
 go_upto_region 5 with fail
 rw [←HV.out];clear HV
 rcases HE.out with ⟨rfl,rfl|rfl⟩|⟨rfl,rfl⟩ <;>
  (go_wp2
   refine bodyPost_ret (v:=.tuple #[.slice none 0 0,.int .i64 30]) (by simp [results,Tryz.results18,go_sem]) rfl ?_
   exact ⟨rfl,B2.out⟩)
theorem rEdgesArg17 (lo hi:Nat) (z:Int) (w:World) (h:z<1∨1024≤z) :
 Calls Tryz.prog 18 #[.float .f64 lo,.float .f64 hi,.int .i64 z] w fun r w'=>r=.returned (.tuple #[.slice none 0 0,.int .i64 1])∧w'=w:=by
 by_cases h1:z<1
 · have d1:decide (z<1)=true:=by simp;omega
   go_enter Tryz.func18,Tryz.ntmps18;go_wp2;refine bodyPost_ret (v:=.tuple #[.slice none 0 0,.int .i64 1]) (by simp [results,Tryz.results18,go_sem]) rfl ?_
   exact ⟨rfl,rfl⟩
 · have d1:decide (z<1)=false:=by simp;omega
   have d2:decide ((1024:Int)≤z)=true:=by simp;omega
   go_enter Tryz.func18,Tryz.ntmps18;go_wp2;refine bodyPost_ret (v:=.tuple #[.slice none 0 0,.int .i64 1]) (by simp [results,Tryz.results18,go_sem]) rfl ?_
   exact ⟨rfl,rfl⟩
theorem EdgesHigh17 (lo hi:Nat) (z:Int) (w:World) (hT:Tab w) (hl:lo<18446744073709551616) (fl:finW lo) (hh:hi<18446744073709551616) (fh:¬ finW hi) (h1:1≤z) (h2:z<1024) :
 Calls Tryz.prog 10 #[.float .f64 lo,.float .f64 hi,.int .i64 z] w fun r w'=>r=.returned (.tuple #[.slice none 0 0,.int .i64 30])∧Below w.heap.size w w':=by
 have d1:decide (z<1)=false:=by simp;omega
 have d2:decide ((1024:Int)≤z)=false:=by simp;omega
 have CL:=hid (of12 lo hl fl w hT);have CH:=hid (fun u=>ofNo17 hh fh u)
 have Fx:Fm (oW lo):=by rw [g_oW];exact g_fm (by omega) (by omega) (bd_fv17 hl fl 2098 rfl)
 have HFX:=qsd Fx;obtain ⟨ol,hol⟩:∃ o,o=oW lo:=⟨_,rfl⟩;rw [←hol] at CL HFX;clear hl fl hT hh fh Fx hol;go_enter Tryz.func10,Tryz.ntmps10
 go_wp2_with fail
 refine CL.out.mono ?_;rintro r v1 ⟨⟨s1,rfl,hN⟩,hb⟩;obtain ⟨al,cl,rfl,_⟩:=Lo.shape HFX.out hN;obtain ⟨V1,hV1⟩:∃ V,V=v1.alloc (dc17 ol al cl):=⟨_,rfl⟩;have B1:Aside (Below w.heap.size w V1):=by rw [hV1];exact hb.trans ((below_alloc _ _).mono hb.size)
 have HV:=qsd hV1;clear CL hb hV1 hN
 go_upto_region 6 with fail
 rw [←HV.out];clear HV;have C:=hid (CH.out V1)
 go_wp2_with fail
 refine C.out.mono ?_;rintro r v2 ⟨rfl,hb⟩
 have B2:Aside (Below w.heap.size w (v2.alloc (Obj.cells #[.bool false,.slice none 0 0,.int .i64 0] 70))):=by
  have q:=B1.out.trans (hb.mono B1.out.size);exact q.trans ((below_alloc _ _).mono q.size)
 clear C CH hb B1;go_wp2;refine bodyPost_ret (v:=.tuple #[.slice none 0 0,.int .i64 30]) (by simp [results,Tryz.results10,go_sem]) rfl ?_
 exact ⟨rfl,B2.out⟩
theorem walk2_HistEdges (lo hi:Nat) (z:Int) (w:World) (hT:Tab w) (hl:lo<18446744073709551616) (hh:hi<18446744073709551616) :
 Calls Tryz.prog 4 #[.float .f64 lo,.float .f64 hi,.int .i64 z] w fun r w'=>r=.returned (.bool true)∧Below w.heap.size w w':=by
 by_cases hz:z<1∨1024≤z
 · exact he_nil17 lo hi z 1 w hT (fun u _=>(EdgesArg17 lo hi z u hz).mono fun r w' h=>⟨h.1,by rw [h.2];exact Below.refl _ _⟩) (fun u _=>(rEdgesArg17 lo hi z u hz).mono fun r w' h=>⟨h.1,by rw [h.2];exact Below.refl _ _⟩)
 · by_cases hf:finW lo∧finW hi
   · obtain ⟨p,hp⟩:∃ p:Nat,z=(p:Int):=⟨z.toNat,by omega⟩
     subst hp;have hW:=edL_W64 (p:=p) hl hf.1 hh hf.2 (by omega) (by omega)
     by_cases hE:Edg (edL lo hi p)
     · exact he_full17 lo hi p w hT hl hf.1 hh hf.2 (by omega) (by omega) hE
     · refine he_nil17 lo hi p 170 w hT (fun u hu=>(Edges17 lo hi p u (hT.belows hu) hl hf.1 hh hf.2 (by omega) (by omega) hW).mono fun r w' h=>⟨?_,h.2⟩) (fun u _=>(rEdges17 lo hi p u hl hf.1 hh hf.2 (by omega) (by omega) hW).mono fun r w' h=>⟨?_,h.2⟩)
       · rcases h.1 with ⟨q,_⟩ | ⟨_,q⟩
         · exact absurd q hE
         · exact q
       · rcases h.1 with ⟨q,_⟩ | ⟨_,q⟩
         · exact absurd q hE
         · exact q
   · refine he_nil17 lo hi z 30 w hT (fun u hu=>?_) (fun u _=>rEdgesOdd17 lo hi z u hl hh hf (by omega) (by omega))
     by_cases fl:finW lo
     · exact EdgesHigh17 lo hi z u (hT.belows hu) hl fl hh (fun q=>hf ⟨fl,q⟩) (by omega) (by omega)
     · exact EdgesLow17 lo hi z u hl fl (by omega) (by omega)
end
end Go.Proofs.YtgfemeencgjneaaGreatDoor
