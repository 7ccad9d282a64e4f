import Derived.Test.YtblkpkgebigojaaGreatDoorFI8x
import Derived.Test.YtblkpkgebigojaaGreatDoorZ26x
import Derived.Test.YtblkpkgebigojaaGreatDoorZ5x
import Derived.Test.YtblkpkgebigojaaGreatDoorS9x
import Derived.Test.YtblkpkgebigojaaGreatDoorF2x
import Derived.Test.YtblkpkgebigojaaGreatDoorD32cx
set_option linter.unusedVariables false
set_option linter.unusedSimpArgs false
set_option maxHeartbeats 16000000
set_option maxRecDepth 20000
namespace Go.Proofs.YtblkpkgebigojaaGreatDoor
namespace J
end J
section
open Go.RowKit
theorem Zrx {w:World}{v:Value}{X:Nat}(h1:Al w v X) (ng:Bool) (e:Int):Calls Tryz.prog 209 #[.agg #[.bool ng,v,.int .i64 e]] w fun r w'=>r=.returned (.int .i64 (sgn ng X))∧Below w.heap.size w w':=by
 obtain ⟨a,l,c,xs,rfl,hA,rfl,hl⟩:=h1;exact Zhj hA ng e
theorem Zj3 {w:World}{v:Value}{X:Nat}(h1:Al w v X) (n:Bool) (e:Int) (be:-9223372036854775808≤e∧e≤9223372036854775807) (o:Option (Bool×Nat×Int)) (ho:mkS n X e=o) (s:Bool) (hs:o.isSome=s):Calls Tryz.prog 117 #[.agg #[.bool n,v,.int .i64 e]] w fun r w'=>(∃ p,r=.returned (.tuple #[.agg #[.bool (dN o),p,.int .i64 (dE o)],.bool s])∧Nt w.heap.size w' p (dX o))∧Below w.heap.size w w':=by
 obtain ⟨a,l,c,xs,rfl,hA,rfl,hl⟩:=h1;subst ho hs;exact Yw hA hl n e be.1 be.2
def MayA (lo:Nat) (w:World) (r:Ending) (o p:Option (Bool×Nat×Int)) (er:Int):Prop :=
 ∃ v,r=.returned (.tuple #[v,.int .i64 er])∧(er=0→∃ x y,R1 w v (dN o) x (dE o) (dN p) y (dE p)∧Nt lo w x (dX o)∧Nt lo w y (dX p))
theorem Zu1 {w:World}{g:Nat}{n m:Bool}{a b:Option Addr}{la ca lb cb X Y:Nat}{e f:Int}(hq:Rq w g n (.slice a la ca) e m (.slice b lb cb) f) (hN:Al w (.slice a la ca) X) (hD:Al w (.slice b lb cb) Y) (be:-9223372036854775808≤e∧e≤9223372036854775807) (bf:-9223372036854775808≤f∧f≤9223372036854775807)
 (o p:Option (Bool×Nat×Int)) (ho:mkS n X e=o) (hp:mkS m Y f=p) (er:Int) (her:errN X n e Y m f=er) :
 Calls Tryz.prog 165 #[.slice (some ⟨g,0,none⟩) 1 1] w fun r w'=>MayA w.heap.size w' r o p er∧Below w.heap.size w w':=by
 have S0:=(qsd (ai (Below.refl w.heap.size w) hq));have AA:=(qsd (ai hN (ai hD (ai be (ai bf (ai ho (ai hp her)))))));have LL:Aside ((ws (dX o)).length≤8192∧(ws (dX p)).length≤8192):=qsd ⟨by rw [←ho];exact Ze _ _ _,by rw [←hp];exact Ze _ _ _⟩
 obtain ⟨sg,hsg⟩:∃ x,sgn m Y=x:=⟨_,rfl⟩;have SG:=qsd hsg;clear hq hN hD be bf ho hp her hsg;have one:decide ((1:Int)<1)=false:=by decide
 go_enter Tryz.func165,Tryz.ntmps165;go_wp2
 go_loopg [4] 1 (fun gk i wr=>∃ k:Nat,gk+k=1∧i=.int .i64 (k:Nat)∧Aside (Below w.heap.size w wr∧(k=1→¬ sgn m Y<0)))
 case atStart=>exact ⟨0,by omega,by simp,qsd ⟨S0.out.1,fun h=>by cases h⟩⟩
 case round =>
  obtain ⟨k,hgk,rfl,HA⟩:=hrel
  by_cases hk:k<1
  · obtain rfl:k=0:=by omega
    obtain ⟨x0,x1,x2,x3,x4,x5⟩:=(S0.out.2.below HA.out.1).facts;have HC:=hid (Zrx (AA.out.2.1.below HA.out.1) m f);rw [SG.out] at HC
    go_wp2_with fail
    clear x0 x1 x2 x3 x4 x5;refine HC.out.mono ?_;rintro r u1 ⟨rfl,hb⟩;have HB:=qsd (HA.out.1.trans (hb.mono HA.out.1.size));clear HC hb HA
    by_cases hs:sg<0
    · have hs':decide (sg<0)=true:=decide_eq_true hs
      have HE:Aside (er=1):=qsd (by rw [←AA.out.2.2.2.2.2.2];unfold errN;rw [if_pos (by rw [SG.out];exact hs)])
      clear hs;go_wp2;exact bodyPost_ret (v:=.tuple #[.slice none 0 0,.int .i64 1]) (by simp [results,Tryz.results165,go_sem]) rfl ⟨⟨_,by rw [HE.out],fun h=>by rw [HE.out] at h;cases h⟩,HB.out⟩
    · have hs':decide (sg<0)=false:=decide_eq_false hs
      have HS:=qsd hs;clear hs
      go_wp2_with fail
      go_roundg 0
      case measure=>omega
      case rel=>exact ⟨1,by omega,by first | rfl | simp,qsd ⟨HB.out,fun _=>by rw [SG.out];exact HS.out⟩⟩
  · obtain rfl:k=1:=by omega
    have HS:=qsd (HA.out.2 rfl);have HB:=qsd HA.out.1;clear HA;go_wp2
    go_loopg [6,5] 1 (fun gk i v wr=>∃ (k:Nat) (v0:Value),gk+k=1∧i=.int .i64 (k:Nat)∧v=v0∧Aside (Below w.heap.size w wr∧(k=0→v0=.slice none 0 0)∧(k=1→o.isSome=true∧p.isSome=true∧∃ x y,R1 wr v0 (dN o) x (dE o) (dN p) y (dE p)∧Nt w.heap.size wr x (dX o)∧Nt w.heap.size wr y (dX p))))
    case atStart=>exact ⟨0,_,by omega,by simp,rfl,qsd ⟨HB.out,fun _=>rfl,fun h=>by cases h⟩⟩
    case round =>
     obtain ⟨j,v,hgj,rfl,hv,HA⟩:=hrel
     by_cases hj:j<1
     · obtain rfl:j=0:=by omega
       have hv0:=HA.out.2.1 rfl;subst hv0;subst hv;obtain ⟨s1,hs1⟩:∃ x,o.isSome=x:=⟨_,rfl⟩;obtain ⟨s2,hs2⟩:∃ x,p.isSome=x:=⟨_,rfl⟩;have SS:=(qsd (ai hs1 hs2));have S1:=(qsd (ai HA.out.1 (ai (S0.out.2.below HA.out.1) (ai (AA.out.1.below HA.out.1) (AA.out.2.1.below HA.out.1)))));clear hs1 hs2 HA;obtain ⟨x0,x1,x2,x3,x4,x5⟩:=S1.out.2.1.facts;have HC:=hid (Zj3 S1.out.2.2.1 n e AA.out.2.2.1 o AA.out.2.2.2.2.1 s1 SS.out.1)
       go_wp2_with fail
       clear x0 x1 x2 x3 x4 x5;refine HC.out.mono ?_;rintro r u1 ⟨⟨q,rfl,hN⟩,hb⟩;obtain ⟨q1,d1,rfl,-⟩:=hN.shape;obtain ⟨U1,hU1⟩:∃ U,U=u1.alloc (.cells #[.bool (dN o),.slice q1 (ws (dX o)).length d1,.int .i64 (dE o)] 62):=⟨_,rfl⟩
       have S2:Aside (Below w.heap.size w U1∧Rq U1 g n (.slice a la ca) e m (.slice b lb cb) f∧Al U1 (.slice b lb cb) Y∧Dk U1 u1.heap.size (dN o) (.slice q1 (ws (dX o)).length d1) (dE o)∧Nt w.heap.size U1 (.slice q1 (ws (dX o)).length d1) (dX o)):=by
        have b0:=S1.out.1;have b1:=b0.trans (hb.mono b0.size);have hA:Below u1.heap.size u1 U1:=by rw [hU1];exact Za _ _
        exact qsd ⟨b1.trans (hA.mono b1.size),(S1.out.2.1.below hb).below hA,(S1.out.2.2.2.below hb).below hA,by rw [hU1];exact Dk.new _ _ _ _,(hN.mono b0.size).below hA⟩
       clear HC hb hN S1;obtain ⟨x0,x1,x2,x3,x4,x5⟩:=S2.out.2.1.facts;have HC:=hid (Zj3 S2.out.2.2.1 m f AA.out.2.2.2.1 p AA.out.2.2.2.2.2.1 s2 SS.out.2)
       go_upto_region 11 with fail
       rw [←hU1];clear hU1
       go_wp2_with fail
       clear x0 x1 x2 x3 x4 x5;refine HC.out.mono ?_;rintro r u2 ⟨⟨q,rfl,hN⟩,hb⟩;obtain ⟨q2,d2,rfl,-⟩:=hN.shape;obtain ⟨U2,hU2⟩:∃ U,U=u2.alloc (.cells #[.bool (dN p),.slice q2 (ws (dX p)).length d2,.int .i64 (dE p)] 62):=⟨_,rfl⟩
       have S3:Aside (Below w.heap.size w U2∧Dk U2 u1.heap.size (dN o) (.slice q1 (ws (dX o)).length d1) (dE o)∧Nt w.heap.size U2 (.slice q1 (ws (dX o)).length d1) (dX o)∧Dk U2 u2.heap.size (dN p) (.slice q2 (ws (dX p)).length d2) (dE p)∧Nt w.heap.size U2 (.slice q2 (ws (dX p)).length d2) (dX p)):=by
        have b0:=S2.out.1;have b1:=b0.trans (hb.mono b0.size);have hA:Below u2.heap.size u2 U2:=by rw [hU2];exact Za _ _
        exact qsd ⟨b1.trans (hA.mono b1.size),(S2.out.2.2.2.1.below hb).below hA,(S2.out.2.2.2.2.below hb).below hA,by rw [hU2];exact Dk.new _ _ _ _,(hN.mono b0.size).below hA⟩
       clear HC hb hN S2
       by_cases hbad:s1=true∧s2=true
       · obtain ⟨rfl,rfl⟩:=hbad
         obtain ⟨x0,x1,x2,x3,x4,x5⟩:=S3.out.2.1.facts;obtain ⟨y0,y1,y2,y3,y4,y5⟩:=S3.out.2.2.2.1.facts;obtain ⟨v',w',r1,r2,r3⟩:=Znl U2 (dN o) q1 (ws (dX o)).length d1 (dE o) (dN p) q2 (ws (dX p)).length d2 (dE p);have HR:=qsd r1;have HN:=(qsd (ai r2 (ai (S3.out.1.trans (r3.mono S3.out.1.size)) (ai (S3.out.2.2.1.below r3) (S3.out.2.2.2.2.below r3)))));clear r1 r2 r3
         go_upto_region 14 with fail
         rw [←hU2];clear hU2
         go_wp2_with (at_builtin;refine Zbz rfl (.tmp 55) (.tmp 59) 187 rfl _ _ rfl rfl _ _ HR.out ?_)
         go_roundg 0
         case measure=>omega
         case rel=>exact ⟨1,_,by omega,by first | rfl | simp,rfl,qsd ⟨HN.out.2.1,(fun h=>by cases h),fun _=>⟨SS.out.1,SS.out.2,_,_,HN.out.1,HN.out.2.2.1,HN.out.2.2.2⟩⟩⟩
       · have HE:Aside (er=2):=qsd (by
          rw [←AA.out.2.2.2.2.2.2];unfold errN;rw [if_neg (by have:=HS.out;omega),AA.out.2.2.2.2.1,AA.out.2.2.2.2.2.1,SS.out.1,SS.out.2]
          rw [if_neg (by intro h;rw [Bool.and_eq_true] at h;exact hbad h)])
         have H5:=qsd S3.out.1;clear S3
         cases s1
         · go_upto_region 12 with fail
           rw [←hU2];clear hU2 hbad;go_wp2;exact bodyPost_ret (v:=.tuple #[.slice none 0 0,.int .i64 2]) (by simp [results,Tryz.results165,go_sem]) rfl ⟨⟨_,by rw [HE.out],fun h=>by rw [HE.out] at h;cases h⟩,H5.out⟩
         · cases s2
           · go_upto_region 12 with fail
             rw [←hU2];clear hU2 hbad;go_wp2;exact bodyPost_ret (v:=.tuple #[.slice none 0 0,.int .i64 2]) (by simp [results,Tryz.results165,go_sem]) rfl ⟨⟨_,by rw [HE.out],fun h=>by rw [HE.out] at h;cases h⟩,H5.out⟩
           · exact absurd ⟨rfl,rfl⟩ hbad
     · obtain rfl:j=1:=by omega
       obtain ⟨i1,i2,x,y,hR,hx,hy⟩:=HA.out.2.2 rfl;obtain ⟨gg,cap,rfl,hcap,hgg,c0,c1,c2,c3,c4,c5⟩:=hR.ex;subst hv;obtain ⟨q1,d1,rfl,-⟩:=hx.shape;obtain ⟨q2,d2,rfl,-⟩:=hy.shape;have HX:=(qsd (ai HA.out.1 (ai hR (ai hx (ai hy (ai i1 i2))))));clear HA hR hx hy hgg i1 i2;go_wp2
       go_loopg [11] 1 (fun gk i wq=>∃ (k:Nat),gk+k=1∧i=.int .i64 (k:Nat)∧wq=wr∧Aside (k=1→dX p≠0))
       case atStart=>exact ⟨0,by omega,by simp,rfl,qsd fun h=>by cases h⟩
       case round =>
        obtain ⟨i,hgi,rfl,rfl,HP⟩:=hrel
        by_cases hi:i<1
        · obtain rfl:i=0:=by omega
          by_cases h0:dX p=0
          · have r1:((((ws (dX p)).length:Nat):Int)==0)=true:=by rw [h0,ws0];rfl
            have r2:((ws (dX p)).length==0)=true:=by rw [h0,ws0];rfl
            have HE:Aside (er=21):=qsd (by
             rw [←AA.out.2.2.2.2.2.2];unfold errN;rw [if_neg (by have:=HS.out;omega),AA.out.2.2.2.2.1,AA.out.2.2.2.2.2.1,HX.out.2.2.2.2.1,HX.out.2.2.2.2.2,if_pos (by decide),if_pos h0])
            clear h0;go_wp2;exact bodyPost_ret (v:=.tuple #[.slice none 0 0,.int .i64 21]) (by simp [results,Tryz.results165,go_sem]) rfl ⟨⟨_,by rw [HE.out],fun h=>by rw [HE.out] at h;cases h⟩,HX.out.1⟩
          · have r1:((((ws (dX p)).length:Nat):Int)==0)=false:=Zq h0
            have r2:((ws (dX p)).length==0)=false:=beq_eq_false_iff_ne.2 (fun h=>h0 ((Zm _).1 h))
            have H0:=qsd h0;clear h0
            go_wp2_with fail
            go_roundg 0
            case measure=>omega
            case rel=>exact ⟨1,by omega,by first | rfl | simp,rfl,qsd fun _=>H0.out⟩
        · obtain rfl:i=1:=by omega
          have HE:Aside (er=0):=qsd (by
           rw [←AA.out.2.2.2.2.2.2];unfold errN;rw [if_neg (by have:=HS.out;omega),AA.out.2.2.2.2.1,AA.out.2.2.2.2.2.1,HX.out.2.2.2.2.1,HX.out.2.2.2.2.2,if_pos (by decide),if_neg (HP.out rfl)])
          go_wp2;exact bodyPost_ret (v:=.tuple #[.slice (some ⟨gg,0,none⟩) 1 cap,.int .i64 0]) (by simp [results,Tryz.results165,go_sem]) rfl ⟨⟨_,by rw [HE.out],fun _=>⟨_,_,HX.out.2.1,HX.out.2.2.1,HX.out.2.2.2.1⟩⟩,HX.out.1⟩
theorem Zep {w:World}{n m:Bool}{a b:Option Addr}{la ca lb cb X Y:Nat}{e f:Int}(dg ls:Int) (En:Nat) (sq:Bool) (mode:Int) (hm:mode<0∨4<mode) :
 Calls Tryz.prog 115 #[.agg #[.int .i64 dg,.int .i64 ls,.int .u64 (En:Nat)],.agg #[.bool n,.slice a la ca,.int .i64 e,.bool m,.slice b lb cb,.int .i64 f],.bool sq,.int .i64 mode] w fun r w'=>r=.returned (.tuple #[.int .u64 0,.bool false,.int .i64 1])∧Below w.heap.size w w':=by
 obtain ⟨W1,hW1⟩:∃ W,W=(w.alloc (.cells #[.int .i64 dg,.int .i64 ls,.int .u64 (En:Nat)] 108)).alloc (.cells #[.bool n,.slice a la ca,.int .i64 e,.bool m,.slice b lb cb,.int .i64 f] 98):=⟨_,rfl⟩;obtain ⟨hB,Z,QR⟩:=Yv w dg ls En n _ e m _ f W1 hW1;have S9:=qsd hB;clear hB Z QR;have hd:(mode<0)∨(¬ mode<0∧4<mode):=by omega
 clear hm;go_enter Tryz.func115,Tryz.ntmps115
 go_upto_region 1 with fail
 rw [←hW1];clear hW1
 rcases hd with hd|⟨hd,hd2⟩
 · have d1:=decide_eq_true hd
   clear hd;go_wp2;exact bodyPost_ret (v:=.tuple #[.int .u64 0,.bool false,.int .i64 1]) (by simp [results,Tryz.results115,go_sem]) rfl ⟨rfl,S9.out⟩
 · have d1:=decide_eq_false hd
   have d2:=decide_eq_true hd2;clear hd hd2;go_wp2;exact bodyPost_ret (v:=.tuple #[.int .u64 0,.bool false,.int .i64 1]) (by simp [results,Tryz.results115,go_sem]) rfl ⟨rfl,S9.out⟩
theorem Zf8 {w:World}{n m:Bool}{a b:Option Addr}{la ca lb cb X Y:Nat}{e f:Int}(dg ls:Int) (En:Nat) (sq:Bool) (mode:Int) (hm0:0≤mode) (hm4:mode≤4) (hN:Al w (.slice a la ca) X) (hD:Al w (.slice b lb cb) Y) (be:-9223372036854775808≤e∧e≤9223372036854775807) (bf:-9223372036854775808≤f∧f≤9223372036854775807)
 (o p:Option (Bool×Nat×Int)) (ho:mkS n X e=o) (hp:mkS m Y f=p) (er:Int) (her:errN X n e Y m f=er) (hne:er≠0) :
 Calls Tryz.prog 115 #[.agg #[.int .i64 dg,.int .i64 ls,.int .u64 (En:Nat)],.agg #[.bool n,.slice a la ca,.int .i64 e,.bool m,.slice b lb cb,.int .i64 f],.bool sq,.int .i64 mode] w fun r w'=>r=.returned (.tuple #[.int .u64 0,.bool false,.int .i64 er])∧Below w.heap.size w w':=by
 obtain ⟨W1,hW1⟩:∃ W,W=(w.alloc (.cells #[.int .i64 dg,.int .i64 ls,.int .u64 (En:Nat)] 108)).alloc (.cells #[.bool n,.slice a la ca,.int .i64 e,.bool m,.slice b lb cb,.int .i64 f] 98):=⟨_,rfl⟩;obtain ⟨hB,Z,QR⟩:=Yv w dg ls En n _ e m _ f W1 hW1;obtain ⟨L1,hL1⟩:∃ W,W=W1.alloc (.cells #[.bool n,.slice a la ca,.int .i64 e,.bool m,.slice b lb cb,.int .i64 f] 98):=⟨_,rfl⟩;have hB2:Below W1.heap.size W1 L1:=by rw [hL1];exact Za _ _
 have bel:=hB.trans (hB2.mono hB.size);have LQ:Rq L1 W1.heap.size n (.slice a la ca) e m (.slice b lb cb) f:=by rw [hL1];exact Rq.new _ _ _ _ _ _ _
 have HC:=hid (Zu1 LQ (hN.below bel) (hD.below bel) be bf o p ho hp er her);have LL:Aside ((ws (dX o)).length≤8192∧(ws (dX p)).length≤8192):=qsd ⟨by rw [←ho];exact Ze _ _ _,by rw [←hp];exact Ze _ _ _⟩
 obtain ⟨x0,x1,x2,x3,x4,x5⟩:=QR.facts;have S0:=(qsd (ai bel (Z.below hB2)));have d1:decide (mode<0)=false:=decide_eq_false (by omega)
 have d2:decide (4<mode)=false:=decide_eq_false (by omega)
 clear hB hB2 bel LQ Z QR hN hD be bf ho hp her hm0 hm4;go_enter Tryz.func115,Tryz.ntmps115
 go_upto_region 1 with fail
 rw [←hW1];clear hW1
 go_wp2_with fail
 rw [←hL1];clear hL1 x0 x1 x2 x3 x4 x5;refine HC.out.mono ?_;rintro r u1 ⟨⟨v,rfl,hR⟩,hb⟩;have S9:=qsd (S0.out.1.trans (hb.mono S0.out.1.size));have hne':(er != 0)=true:=by simpa using hne
 have hne2:(er==0)=false:=by simpa using hne
 clear hb hR HC S0 LL;go_wp2;exact bodyPost_ret (v:=.tuple #[.int .u64 0,.bool false,.int .i64 er]) (by simp [results,Tryz.results115,go_sem]) rfl ⟨rfl,S9.out⟩
theorem Zim {w:World}{n m:Bool}{a b:Option Addr}{la ca lb cb X Y:Nat}{e f:Int}(dg ls:Int) (En:Nat) (sq:Bool) (mode:Int) (hm0:0≤mode) (hm4:mode≤4) (hN:Al w (.slice a la ca) X) (hD:Al w (.slice b lb cb) Y) (be:-9223372036854775808≤e∧e≤9223372036854775807) (bf:-9223372036854775808≤f∧f≤9223372036854775807)
 (o p:Option (Bool×Nat×Int)) (ho:mkS n X e=o) (hp:mkS m Y f=p) (er:Int) (her:errN X n e Y m f=er) (h0:er=0) (hsq:sq=false∨dN o=false) (K:Nat)
 (HNb:Hid (∀ (u:World) (x y:Option Addr) (lx cx ly cy:Nat),Below w.heap.size w u→Al u (.slice x lx cx) (dX o)→Al u (.slice y ly cy) (dX p)→Calls Tryz.prog 166 #[.agg #[.int .i64 dg,.int .i64 ls,.int .u64 (En:Nat)],.agg #[.bool (dN o),.slice x lx cx,.int .i64 (dE o),.bool (dN p),.slice y ly cy,.int .i64 (dE p)],.bool sq,.int .i64 mode] u fun r w'=>r=.returned (.int .u64 (K:Nat))∧Below u.heap.size u w')) :
 Calls Tryz.prog 115 #[.agg #[.int .i64 dg,.int .i64 ls,.int .u64 (En:Nat)],.agg #[.bool n,.slice a la ca,.int .i64 e,.bool m,.slice b lb cb,.int .i64 f],.bool sq,.int .i64 mode] w fun r w'=>r=.returned (.tuple #[.int .u64 (K:Nat),.bool (dN o),.int .i64 0])∧Below w.heap.size w w':=by
 obtain ⟨W1,hW1⟩:∃ W,W=(w.alloc (.cells #[.int .i64 dg,.int .i64 ls,.int .u64 (En:Nat)] 108)).alloc (.cells #[.bool n,.slice a la ca,.int .i64 e,.bool m,.slice b lb cb,.int .i64 f] 98):=⟨_,rfl⟩;obtain ⟨hB,Z,QR⟩:=Yv w dg ls En n _ e m _ f W1 hW1;obtain ⟨L1,hL1⟩:∃ W,W=W1.alloc (.cells #[.bool n,.slice a la ca,.int .i64 e,.bool m,.slice b lb cb,.int .i64 f] 98):=⟨_,rfl⟩;have hB2:Below W1.heap.size W1 L1:=by rw [hL1];exact Za _ _
 have bel:=hB.trans (hB2.mono hB.size);have LQ:Rq L1 W1.heap.size n (.slice a la ca) e m (.slice b lb cb) f:=by rw [hL1];exact Rq.new _ _ _ _ _ _ _
 have HC:=hid (Zu1 LQ (hN.below bel) (hD.below bel) be bf o p ho hp er her);have LL:Aside ((ws (dX o)).length≤8192∧(ws (dX p)).length≤8192):=qsd ⟨by rw [←ho];exact Ze _ _ _,by rw [←hp];exact Ze _ _ _⟩
 obtain ⟨x0,x1,x2,x3,x4,x5⟩:=QR.facts;have S0:=(qsd (ai bel (Z.below hB2)));have d1:decide (mode<0)=false:=decide_eq_false (by omega)
 have d2:decide (4<mode)=false:=decide_eq_false (by omega)
 clear hB hB2 bel LQ Z QR hN hD be bf ho hp her hm0 hm4;go_enter Tryz.func115,Tryz.ntmps115
 go_upto_region 1 with fail
 rw [←hW1];clear hW1
 go_wp2_with fail
 rw [←hL1];clear hL1 x0 x1 x2 x3 x4 x5;refine HC.out.mono ?_;rintro r u1 ⟨⟨v,rfl,hR⟩,hb⟩;obtain ⟨x,y,hR1,hx,hy⟩:=hR h0;subst h0;obtain ⟨gg,cap,rfl,hcap,hgg,c0,c1,c2,c3,c4,c5⟩:=hR1.ex;obtain ⟨q1,e1,rfl,-⟩:=hx.shape;obtain ⟨q2,e2,rfl,-⟩:=hy.shape;have S1:=(qsd (ai (S0.out.1.trans (hb.mono S0.out.1.size)) (ai (S0.out.2.below hb) (ai (hx.al' (Nat.le_trans LL.out.1 (by decide))) (ai (hy.al' (Nat.le_trans LL.out.2 (by decide))) (ai hR1 hgg))))))
 clear hb hR HC S0 LL hx hy hR1 hgg;obtain ⟨ng,hng⟩:∃ z,dN o=z:=⟨_,rfl⟩;obtain ⟨z0,z1,z2⟩:=S1.out.2.1.facts;have T1:=hid (HNb.out u1 q1 q2 _ e1 _ e2 S1.out.1 S1.out.2.2.1 S1.out.2.2.2.1);have dr:Below u1.heap.size u1 u1.drew:=(Below.refl _ _).drew;have T2:=hid (HNb.out u1.drew q1 q2 _ e1 _ e2 S1.out.1.drew (S1.out.2.2.1.below dr) (S1.out.2.2.2.1.below dr));have CC:=(qsd (ai c0 (ai c1 (ai c2 (ai c3 (ai c4 (ai c5 (ai z0 (ai z1 z2)))))))));rw [hng] at c0 T1 T2 hsq;have NG:=qsd hng;clear dr HNb hng
 rcases hsq with rfl|rfl
 · go_upto_region 8 with fail
   go_region_held3 (fun w'=>w'.cell? ⟨gg,0,none⟩=some (.bool ng)∧w'.cell? ⟨gg,1,none⟩=some (.slice q1 (ws (dX o)).length e1)∧w'.cell? ⟨gg,2,none⟩=some (.int .i64 (dE o))∧w'.cell? ⟨gg,3,none⟩=some (.bool (dN p))∧w'.cell? ⟨gg,4,none⟩=some (.slice q2 (ws (dX p)).length e2)∧w'.cell? ⟨gg,5,none⟩=some (.int .i64 (dE p))∧w'.cell? ⟨w.heap.size,0,none⟩=some (.int .i64 dg)∧w'.cell? ⟨w.heap.size,1,none⟩=some (.int .i64 ls)∧w'.cell? ⟨w.heap.size,2,none⟩=some (.int .u64 (En:Nat))) (go_keep) (first
    | (go_at_call 166
       first | with_reducible refine T1.out.mono ?_ | with_reducible refine T2.out.mono ?_
       rintro r v1 ⟨rfl,hb⟩;have hw:Below u1.heap.size u1 v1:=by first | exact hb | exact ((Below.refl _ u1).drew).trans (hb.mono (Nat.le_refl _))
       have hcg:∀ i,v1.cell? ⟨gg,i,none⟩=u1.cell? ⟨gg,i,none⟩:=fun i=>hw.cell (p:=⟨gg,i,none⟩) S1.out.2.2.2.2.2
       have k0:v1.cell? ⟨gg,0,none⟩=some (.bool ng):=by rw [hcg,CC.out.1,NG.out]
       have k1:=(hcg 1).trans CC.out.2.1;have k2:=(hcg 2).trans CC.out.2.2.1;have k3:=(hcg 3).trans CC.out.2.2.2.1;have k4:=(hcg 4).trans CC.out.2.2.2.2.1;have k5:=(hcg 5).trans CC.out.2.2.2.2.2.1;obtain ⟨j0,j1,j2⟩:=(S1.out.2.1.below hw).facts;have S9:=qsd (S1.out.1.trans (hw.mono S1.out.1.size));clear hb hw hcg)
    | fail)
   all_goals (
    go_wp2;exact bodyPost_ret (v:=.tuple #[.int .u64 (K:Nat),.bool ng,.int .i64 0]) (by simp [results,Tryz.results115,go_sem]) rfl ⟨by rw [NG.out],S9.out⟩)
 · cases sq
   · go_upto_region 8 with fail
     go_region_held3 (fun w'=>w'.cell? ⟨gg,0,none⟩=some (.bool false)∧w'.cell? ⟨gg,1,none⟩=some (.slice q1 (ws (dX o)).length e1)∧w'.cell? ⟨gg,2,none⟩=some (.int .i64 (dE o))∧w'.cell? ⟨gg,3,none⟩=some (.bool (dN p))∧w'.cell? ⟨gg,4,none⟩=some (.slice q2 (ws (dX p)).length e2)∧w'.cell? ⟨gg,5,none⟩=some (.int .i64 (dE p))∧w'.cell? ⟨w.heap.size,0,none⟩=some (.int .i64 dg)∧w'.cell? ⟨w.heap.size,1,none⟩=some (.int .i64 ls)∧w'.cell? ⟨w.heap.size,2,none⟩=some (.int .u64 (En:Nat))) (go_keep) (first
      | (go_at_call 166
         first | with_reducible refine T1.out.mono ?_ | with_reducible refine T2.out.mono ?_
         rintro r v1 ⟨rfl,hb⟩;have hw:Below u1.heap.size u1 v1:=by first | exact hb | exact ((Below.refl _ u1).drew).trans (hb.mono (Nat.le_refl _))
         have hcg:∀ i,v1.cell? ⟨gg,i,none⟩=u1.cell? ⟨gg,i,none⟩:=fun i=>hw.cell (p:=⟨gg,i,none⟩) S1.out.2.2.2.2.2
         have k0:v1.cell? ⟨gg,0,none⟩=some (.bool false):=by rw [hcg,CC.out.1,NG.out]
         have k1:=(hcg 1).trans CC.out.2.1;have k2:=(hcg 2).trans CC.out.2.2.1;have k3:=(hcg 3).trans CC.out.2.2.2.1;have k4:=(hcg 4).trans CC.out.2.2.2.2.1;have k5:=(hcg 5).trans CC.out.2.2.2.2.2.1;obtain ⟨j0,j1,j2⟩:=(S1.out.2.1.below hw).facts;have S9:=qsd (S1.out.1.trans (hw.mono S1.out.1.size));clear hb hw hcg)
      | fail)
     all_goals (
      go_wp2;exact bodyPost_ret (v:=.tuple #[.int .u64 (K:Nat),.bool false,.int .i64 0]) (by simp [results,Tryz.results115,go_sem]) rfl ⟨by rw [NG.out],S9.out⟩)
   · go_upto_region 8 with fail
     go_region_held3 (fun w'=>w'.cell? ⟨gg,0,none⟩=some (.bool false)∧w'.cell? ⟨gg,1,none⟩=some (.slice q1 (ws (dX o)).length e1)∧w'.cell? ⟨gg,2,none⟩=some (.int .i64 (dE o))∧w'.cell? ⟨gg,3,none⟩=some (.bool (dN p))∧w'.cell? ⟨gg,4,none⟩=some (.slice q2 (ws (dX p)).length e2)∧w'.cell? ⟨gg,5,none⟩=some (.int .i64 (dE p))∧w'.cell? ⟨w.heap.size,0,none⟩=some (.int .i64 dg)∧w'.cell? ⟨w.heap.size,1,none⟩=some (.int .i64 ls)∧w'.cell? ⟨w.heap.size,2,none⟩=some (.int .u64 (En:Nat))) (go_keep) (first
      | (go_at_call 166
         first | with_reducible refine T1.out.mono ?_ | with_reducible refine T2.out.mono ?_
         rintro r v1 ⟨rfl,hb⟩;have hw:Below u1.heap.size u1 v1:=by first | exact hb | exact ((Below.refl _ u1).drew).trans (hb.mono (Nat.le_refl _))
         have hcg:∀ i,v1.cell? ⟨gg,i,none⟩=u1.cell? ⟨gg,i,none⟩:=fun i=>hw.cell (p:=⟨gg,i,none⟩) S1.out.2.2.2.2.2
         have k0:v1.cell? ⟨gg,0,none⟩=some (.bool false):=by rw [hcg,CC.out.1,NG.out]
         have k1:=(hcg 1).trans CC.out.2.1;have k2:=(hcg 2).trans CC.out.2.2.1;have k3:=(hcg 3).trans CC.out.2.2.2.1;have k4:=(hcg 4).trans CC.out.2.2.2.2.1;have k5:=(hcg 5).trans CC.out.2.2.2.2.2.1;obtain ⟨j0,j1,j2⟩:=(S1.out.2.1.below hw).facts;have S9:=qsd (S1.out.1.trans (hw.mono S1.out.1.size));clear hb hw hcg)
      | fail)
     all_goals (
      go_wp2;exact bodyPost_ret (v:=.tuple #[.int .u64 (K:Nat),.bool false,.int .i64 0]) (by simp [results,Tryz.results115,go_sem]) rfl ⟨by rw [NG.out],S9.out⟩)
theorem Ze2 {w:World}{n m:Bool}{a b:Option Addr}{la ca lb cb:Nat}{e f:Int}(mode:Int) (k:Nat) (ng:Bool) (er:Int) (hk:k<9223372036854775808) (z:Nat) (hz:k+(if ng then 9223372036854775808 else 0)=z)
 (HR:Hid (∀ u:World,Below w.heap.size w u→Calls Tryz.prog 115 #[.agg #[.int .i64 53,.int .i64 (-1074),.int .u64 9218868437227405312],.agg #[.bool n,.slice a la ca,.int .i64 e,.bool m,.slice b lb cb,.int .i64 f],.bool false,.int .i64 mode] u fun r w'=>r=.returned (.tuple #[.int .u64 (k:Nat),.bool ng,.int .i64 er])∧Below u.heap.size u w')) :
 Calls Tryz.prog 79 #[.agg #[.bool n,.slice a la ca,.int .i64 e,.bool m,.slice b lb cb,.int .i64 f],.int .i64 mode] w fun r w'=>r=.returned (.tuple #[.float .f64 z,.int .i64 er])∧Below w.heap.size w w':=by
 obtain ⟨W1,hW1⟩:∃ W,W=w.alloc (.cells #[.bool n,.slice a la ca,.int .i64 e,.bool m,.slice b lb cb,.int .i64 f] 98):=⟨_,rfl⟩;have hB:Below w.heap.size w W1:=by rw [hW1];exact Za _ _
 have QR0:Rq W1 w.heap.size n (.slice a la ca) e m (.slice b lb cb) f:=by rw [hW1];exact Rq.new _ _ _ _ _ _ _
 obtain ⟨x0,x1,x2,x3,x4,x5⟩:=QR0.facts;have S0:=(qsd (ai hB QR0));have HWd:Hid (∀ u:World,Calls Tryz.prog 116 #[.int .u64 (k:Nat),.bool ng,.int .i64 er] u fun r w'=>r=.returned (.tuple #[.float .f64 z,.int .i64 er])∧w'=u):=hid fun u=>by have h:=Zhx k hk ng er u;rw [hz] at h;exact h
 clear hB QR0 hk hz;go_enter Tryz.func79,Tryz.ntmps79
 go_upto_region 1 with fail
 rw [←hW1];clear hW1;have T1:=hid (Zap W1);have T2:=hid (Zap W1.drew)
 go_region_held3 (fun w'=>w'.cell? ⟨w.heap.size,0,none⟩=some (.bool n)∧w'.cell? ⟨w.heap.size,1,none⟩=some (.slice a la ca)∧w'.cell? ⟨w.heap.size,2,none⟩=some (.int .i64 e)∧w'.cell? ⟨w.heap.size,3,none⟩=some (.bool m)∧w'.cell? ⟨w.heap.size,4,none⟩=some (.slice b lb cb)∧w'.cell? ⟨w.heap.size,5,none⟩=some (.int .i64 f)) (go_keep) (first
  | (go_at_call 91
     first | with_reducible refine T1.out.mono ?_ | with_reducible refine T2.out.mono ?_
     rintro r v1 ⟨rfl,hb⟩;have hw:Below W1.heap.size W1 v1:=by first | exact hb | exact ((Below.refl _ W1).drew).trans (hb.mono (Nat.le_refl _))
     obtain ⟨m0,m1,m2,m3,m4,m5⟩:=(S0.out.2.below hw).facts;have T3:=hid (HR.out v1 (S0.out.1.trans (hw.mono S0.out.1.size)));have S4:=(qsd (ai (S0.out.1.trans (hw.mono S0.out.1.size)) (S0.out.2.below hw)));clear hb hw)
  | (go_at_call 115
     with_reducible refine T3.out.mono ?_
     rintro r v2 ⟨rfl,hb⟩;obtain ⟨k0,k1,k2,k3,k4,k5⟩:=(S4.out.2.below hb).facts;have S5:=qsd (S4.out.1.trans (hb.mono S4.out.1.size));clear hb))
 all_goals (
  go_wp2_with fail
  refine (HWd.out _).mono ?_;rintro r v3 ⟨rfl,rfl⟩;go_wp2;exact bodyPost_ret (v:=.tuple #[.float .f64 z,.int .i64 er]) (by simp [results,Tryz.results79,go_sem]) rfl ⟨rfl,S5.out⟩)
theorem Zf9 {v:Nat→Nat}{top n S:Nat}(G:Grid v top) (hn:n≠0) (hS:0<S):LiesG v top n 0 true 0 0 S :=
 ⟨by have:=G.one;omega,hS,fun _=>by rw [G.zero,Nat.zero_pow (by omega),Nat.zero_mul],(fun h=>by cases h),(fun h=>by cases h),(fun h=>by cases h)⟩
theorem Zry (e f:Int) (u n:Nat):Yn 0 e f u n=0:=by unfold Yn;rw [Nat.zero_mul]
theorem Ztv {Y:Nat}(h:Y≠0) (e f:Int) (u n:Nat):0<Yo Y e f u n:=by unfold Yo;exact Nat.mul_pos (by omega) (Nat.two_pow_pos _)
theorem Zmj {X:Nat}{n:Bool}{e:Int}{Y:Nat}{m:Bool}{f:Int}(h:errN X n e Y m f=0):(mkS n X e).isSome=true∧(mkS m Y f).isSome=true∧dX (mkS m Y f)≠0:=by
 unfold errN at h
 split at h
 · cases h
 · split at h
   · rename_i h2
     rw [Bool.and_eq_true] at h2
     split at h
     · cases h
     · rename_i h3;exact ⟨h2.1,h2.2,h3⟩
   · cases h
theorem docQuot {w:World}{n m:Bool}{a b:Option Addr}{la ca lb cb X Y:Nat}{e f:Int}(mode:Int) (hN:Al w (.slice a la ca) X) (hD:Al w (.slice b lb cb) Y) (be:-9223372036854775808≤e∧e≤9223372036854775807) (bf:-9223372036854775808≤f∧f≤9223372036854775807) :
 Calls Tryz.prog 79 #[.agg #[.bool n,.slice a la ca,.int .i64 e,.bool m,.slice b lb cb,.int .i64 f],.int .i64 mode] w fun r w'=>r=.returned (.tuple #[.float .f64 (quoR rndS ⟨n,.slice a la ca,X,e,m,.slice b lb cb,Y,f⟩ mode).1,.int .i64 (quoR rndS ⟨n,.slice a la ca,X,e,m,.slice b lb cb,Y,f⟩ mode).2])∧Below w.heap.size w w':=by
 by_cases hm:mode<0∨4<mode
 · have e1:quoR rndS ⟨n,.slice a la ca,X,e,m,.slice b lb cb,Y,f⟩ mode=(0,1):=by unfold quoR;rw [if_pos hm]
   rw [e1];exact Ze2 mode 0 false 1 (by omega) 0 rfl (hid fun u hu=>Zep (X:=X) (Y:=Y) _ _ _ _ mode hm)
 · have hm0:0≤mode:=by omega
   have hm4:mode≤4:=by omega
   have el:=Zc6 ⟨n,.slice a la ca,X,e,m,.slice b lb cb,Y,f⟩
   by_cases h0:errN X n e Y m f=0
   · obtain ⟨s1,s2,hY⟩:=Zmj h0
     have F1:=Zbl s1;have F2:=Zbl s2;have ez:errL (oneI ⟨n,.slice a la ca,X,e,m,.slice b lb cb,Y,f⟩) 1=0:=el.trans h0
     obtain ⟨K,t,mm,L,hq⟩:∃ K t mm,LiesG vK 9218868437227405312 1 K t mm (Yn (dX (mkS n X e)) (dE (mkS n X e)) (dE (mkS m Y f)) 1074 1) (Yo (dX (mkS m Y f)) (dE (mkS n X e)) (dE (mkS m Y f)) 1074 1)∧rndS (quoZ (dN (mkS n X e)) (dX (mkS n X e)) (dE (mkS n X e)) (dX (mkS m Y f)) (dE (mkS m Y f))) mode=((if t then K else if outS mode K mm (dN (mkS n X e)) then K+1 else K)+(if (dN (mkS n X e)) then 9223372036854775808 else 0),0):=by
      rcases F1.odd with h|⟨h1,h2,h3⟩
      · obtain ⟨K,t,mm,L,hq⟩:=Zsi (dN (mkS n X e)) (dX (mkS n X e)) (dE (mkS n X e)) (dX (mkS m Y f)) (dE (mkS m Y f)) h hY F1.size F2.size
        exact ⟨K,t,mm,L,by have q:=hq mode hm0 hm4;rw [q];rfl⟩
      · refine ⟨0,true,0,?_,?_⟩
        · rw [h1,Zry];exact Zf9 Zaj (by omega) (Ztv hY _ _ _ _)
        · rw [h1,Zbw _ _ _ _ hY F2.size]
          unfold rndS;rw [if_neg (by omega)]
          simp [h2]
     have hfin:=L.fin
     have e1:quoR rndS ⟨n,.slice a la ca,X,e,m,.slice b lb cb,Y,f⟩ mode=((if t then K else if outS mode K mm (dN (mkS n X e)) then K+1 else K)+(if dN (mkS n X e) then 9223372036854775808 else 0),0):=by
      unfold quoR;simp only;rw [if_neg hm,if_pos ez];exact hq
     rw [e1];refine Ze2 mode _ (dN (mkS n X e)) 0 (by split;omega;split <;> omega) _ rfl (hid fun u hu=>?_)
     refine Zim _ _ _ _ mode hm0 hm4 (hN.below hu) (hD.below hu) be bf _ _ rfl rfl _ h0 rfl (.inl rfl) _ (hid fun x p q lx cx ly cy hx A1 A2=>?_)
     exact nearbyG Zqj A1 A2 ⟨F1.down,F1.up⟩ ⟨F2.down,F2.up⟩ F2.size (.inl rfl) L false rfl mode hm0 hm4
   · have ez:errL (oneI ⟨n,.slice a la ca,X,e,m,.slice b lb cb,Y,f⟩) 1=errN X n e Y m f:=el
     have e1:quoR rndS ⟨n,.slice a la ca,X,e,m,.slice b lb cb,Y,f⟩ mode=(0,errN X n e Y m f):=by unfold quoR;rw [if_neg hm,if_neg (by rw [ez];exact h0),ez]
     rw [e1];exact Ze2 mode 0 false _ (by omega) 0 rfl (hid fun u hu=>Zf8 _ _ _ _ mode hm0 hm4 (hN.below hu) (hD.below hu) be bf _ _ rfl rfl _ rfl h0)
end
section
open Go Go.RowKit J
theorem Zdf (w:World) (a b:Option Addr) (ca cb:Nat) (o p q:Option (Bool×Nat×Int)) (F:Fm q)
 (HC:Hid (∀ u:World,Below w.heap.size w u→Calls Tryz.prog 80 #[.agg #[.bool (dN o),.slice a (ws (dX o)).length ca,.int .i64 (dE o)],.agg #[.bool (dN p),.slice b (ws (dX p)).length cb,.int .i64 (dE p)]] u fun r w'=>(∃ v,r=.returned (.tuple #[.agg #[.bool (dN q),v,.int .i64 (dE q)],.int .i64 0])∧Nt u.heap.size w' v (dX q))∧Below u.heap.size u w')) :
 Calls Tryz.prog 48 #[.agg #[.bool (dN o),.slice a (ws (dX o)).length ca,.int .i64 (dE o)],.agg #[.bool (dN p),.slice b (ws (dX p)).length cb,.int .i64 (dE p)]] w fun r w'=>DVal 0 w' r q∧Below w.heap.size w w':=by
 obtain ⟨W,hW⟩:∃ W,W=((w.alloc (Obj.cells #[.bool (dN o),.slice a (ws (dX o)).length ca,.int .i64 (dE o)] 62)).alloc (Obj.cells #[.bool (dN p),.slice b (ws (dX p)).length cb,.int .i64 (dE p)] 62)).alloc (Obj.cells #[.bool false,.slice none 0 0,.int .i64 0] 62):=⟨_,rfl⟩
 have H0:Aside (Dk W w.heap.size (dN o) (.slice a (ws (dX o)).length ca) (dE o)∧Dk W (w.heap.size+1) (dN p) (.slice b (ws (dX p)).length cb) (dE p)∧Lo W (w.heap.size+2) o00∧Below w.heap.size w W):=by
  subst hW;have z1:=Dk.new (w.alloc (Obj.cells #[.bool (dN o),.slice a (ws (dX o)).length ca,.int .i64 (dE o)] 62)) (dN p) (.slice b (ws (dX p)).length cb) (dE p);have z2:=Lo.zero ((w.alloc (Obj.cells #[.bool (dN o),.slice a (ws (dX o)).length ca,.int .i64 (dE o)] 62)).alloc (Obj.cells #[.bool (dN p),.slice b (ws (dX p)).length cb,.int .i64 (dE p)] 62));rw [World.size_alloc] at z1;rw [World.size_alloc,World.size_alloc] at z2;exact ⟨((Dk.new _ _ _ _).below (Za _ _)).below (Za _ _),z1.below (Za _ _),z2,((Za _ _).trans ((Za _ _).mono (by simp))).trans ((Za _ _).mono (by simp;omega))⟩
 have HW:=qsd hW;have HC1:=hid (HC.out W H0.out.2.2.2);have FF:=qsd F;clear hW HC F;go_enter Tryz.func48,Tryz.ntmps48
 go_upto_region 1 with fail
 rw [←HW.out];clear HW;obtain ⟨x0,x1,x2,xf0,xf1,xf2⟩:=H0.out.1.facts;obtain ⟨y0,y1,y2,yf0,yf1,yf2⟩:=H0.out.2.1.facts
 go_wp2_with fail
 refine HC1.out.mono ?_;rintro r u ⟨⟨v,rfl,hN⟩,hb⟩;obtain ⟨a1,c1,rfl,hN0⟩:=Lo.shape FF.out hN;obtain ⟨U,hU⟩:∃ U,U=u.alloc (Obj.cells #[.bool (dN q),.slice a1 (ws (dX q)).length c1,.int .i64 (dE q)] 62):=⟨_,rfl⟩
 have H1:Aside (Lo U (w.heap.size+2) o00∧Dk U u.heap.size (dN q) (.slice a1 (ws (dX q)).length c1) (dE q)∧Nt 0 U (.slice a1 (ws (dX q)).length c1) (dX q)∧Below w.heap.size w U):=by
  rw [hU];have b0:=H0.out.2.2.2;exact ⟨(H0.out.2.2.1.below hb).below (Za _ _),Dk.new _ _ _ _,hN0.below (Za _ _),(b0.trans (hb.mono b0.size)).trans ((Za _ _).mono (Nat.le_trans b0.size hb.size))⟩
 obtain ⟨gq,hgq⟩:∃ g,g=u.heap.size:=⟨_,rfl⟩;rw [←hgq] at H1;have HU:=(qsd (ai hU hgq));clear hU hN hN0 hb HC1 H0 x0 x1 x2 xf0 xf1 xf2 y0 y1 y2 yf0 yf1 yf2 hgq
 go_upto_region 2 with fail
 rw [←HU.out.1,←HU.out.2];clear HU;obtain ⟨x0,x1,x2,xf0,xf1,xf2⟩:=H1.out.2.1.facts;obtain ⟨p4,q4,D4,M4⟩:=H1.out.1;obtain ⟨y0,y1,y2,yf0,yf1,yf2⟩:=D4.facts;clear D4 M4;go_wp2;exact Za2 Tryz.results48 rfl H1.out.1 H1.out.2.2.2 (by omega) H1.out.2.2.1
theorem Zeq (w:World) (a b:Option Addr) (ca cb:Nat) (o p q:Option (Bool×Nat×Int)) (F:Fm q)
 (HC:Hid (∀ u:World,Below w.heap.size w u→Calls Tryz.prog 93 #[.agg #[.bool (dN o),.slice a (ws (dX o)).length ca,.int .i64 (dE o)],.agg #[.bool (dN p),.slice b (ws (dX p)).length cb,.int .i64 (dE p)]] u fun r w'=>(∃ v,r=.returned (.tuple #[.agg #[.bool (dN q),v,.int .i64 (dE q)],.int .i64 0])∧Nt u.heap.size w' v (dX q))∧Below u.heap.size u w')) :
 Calls Tryz.prog 56 #[.agg #[.bool (dN o),.slice a (ws (dX o)).length ca,.int .i64 (dE o)],.agg #[.bool (dN p),.slice b (ws (dX p)).length cb,.int .i64 (dE p)]] w fun r w'=>DVal 0 w' r q∧Below w.heap.size w w':=by
 obtain ⟨W,hW⟩:∃ W,W=((w.alloc (Obj.cells #[.bool (dN o),.slice a (ws (dX o)).length ca,.int .i64 (dE o)] 62)).alloc (Obj.cells #[.bool (dN p),.slice b (ws (dX p)).length cb,.int .i64 (dE p)] 62)).alloc (Obj.cells #[.bool false,.slice none 0 0,.int .i64 0] 62):=⟨_,rfl⟩
 have H0:Aside (Dk W w.heap.size (dN o) (.slice a (ws (dX o)).length ca) (dE o)∧Dk W (w.heap.size+1) (dN p) (.slice b (ws (dX p)).length cb) (dE p)∧Lo W (w.heap.size+2) o00∧Below w.heap.size w W):=by
  subst hW;have z1:=Dk.new (w.alloc (Obj.cells #[.bool (dN o),.slice a (ws (dX o)).length ca,.int .i64 (dE o)] 62)) (dN p) (.slice b (ws (dX p)).length cb) (dE p);have z2:=Lo.zero ((w.alloc (Obj.cells #[.bool (dN o),.slice a (ws (dX o)).length ca,.int .i64 (dE o)] 62)).alloc (Obj.cells #[.bool (dN p),.slice b (ws (dX p)).length cb,.int .i64 (dE p)] 62));rw [World.size_alloc] at z1;rw [World.size_alloc,World.size_alloc] at z2;exact ⟨((Dk.new _ _ _ _).below (Za _ _)).below (Za _ _),z1.below (Za _ _),z2,((Za _ _).trans ((Za _ _).mono (by simp))).trans ((Za _ _).mono (by simp;omega))⟩
 have HW:=qsd hW;have HC1:=hid (HC.out W H0.out.2.2.2);have FF:=qsd F;clear hW HC F;go_enter Tryz.func56,Tryz.ntmps56
 go_upto_region 1 with fail
 rw [←HW.out];clear HW;obtain ⟨x0,x1,x2,xf0,xf1,xf2⟩:=H0.out.1.facts;obtain ⟨y0,y1,y2,yf0,yf1,yf2⟩:=H0.out.2.1.facts
 go_wp2_with fail
 refine HC1.out.mono ?_;rintro r u ⟨⟨v,rfl,hN⟩,hb⟩;obtain ⟨a1,c1,rfl,hN0⟩:=Lo.shape FF.out hN;obtain ⟨U,hU⟩:∃ U,U=u.alloc (Obj.cells #[.bool (dN q),.slice a1 (ws (dX q)).length c1,.int .i64 (dE q)] 62):=⟨_,rfl⟩
 have H1:Aside (Lo U (w.heap.size+2) o00∧Dk U u.heap.size (dN q) (.slice a1 (ws (dX q)).length c1) (dE q)∧Nt 0 U (.slice a1 (ws (dX q)).length c1) (dX q)∧Below w.heap.size w U):=by
  rw [hU];have b0:=H0.out.2.2.2;exact ⟨(H0.out.2.2.1.below hb).below (Za _ _),Dk.new _ _ _ _,hN0.below (Za _ _),(b0.trans (hb.mono b0.size)).trans ((Za _ _).mono (Nat.le_trans b0.size hb.size))⟩
 obtain ⟨gq,hgq⟩:∃ g,g=u.heap.size:=⟨_,rfl⟩;rw [←hgq] at H1;have HU:=(qsd (ai hU hgq));clear hU hN hN0 hb HC1 H0 x0 x1 x2 xf0 xf1 xf2 y0 y1 y2 yf0 yf1 yf2 hgq
 go_upto_region 2 with fail
 rw [←HU.out.1,←HU.out.2];clear HU;obtain ⟨x0,x1,x2,xf0,xf1,xf2⟩:=H1.out.2.1.facts;obtain ⟨p4,q4,D4,M4⟩:=H1.out.1;obtain ⟨y0,y1,y2,yf0,yf1,yf2⟩:=D4.facts;clear D4 M4;go_wp2;exact Za2 Tryz.results56 rfl H1.out.1 H1.out.2.2.2 (by omega) H1.out.2.2.1
theorem Zdg (w:World) (a b:Option Addr) (ca cb:Nat) (o p q:Option (Bool×Nat×Int)) (F:Fm q)
 (HC:Hid (∀ u:World,Below w.heap.size w u→Calls Tryz.prog 81 #[.agg #[.bool (dN o),.slice a (ws (dX o)).length ca,.int .i64 (dE o)],.agg #[.bool (dN p),.slice b (ws (dX p)).length cb,.int .i64 (dE p)]] u fun r w'=>(∃ v,r=.returned (.tuple #[.agg #[.bool (dN q),v,.int .i64 (dE q)],.int .i64 0])∧Nt u.heap.size w' v (dX q))∧Below u.heap.size u w')) :
 Calls Tryz.prog 49 #[.agg #[.bool (dN o),.slice a (ws (dX o)).length ca,.int .i64 (dE o)],.agg #[.bool (dN p),.slice b (ws (dX p)).length cb,.int .i64 (dE p)]] w fun r w'=>DVal 0 w' r q∧Below w.heap.size w w':=by
 obtain ⟨W,hW⟩:∃ W,W=((w.alloc (Obj.cells #[.bool (dN o),.slice a (ws (dX o)).length ca,.int .i64 (dE o)] 62)).alloc (Obj.cells #[.bool (dN p),.slice b (ws (dX p)).length cb,.int .i64 (dE p)] 62)).alloc (Obj.cells #[.bool false,.slice none 0 0,.int .i64 0] 62):=⟨_,rfl⟩
 have H0:Aside (Dk W w.heap.size (dN o) (.slice a (ws (dX o)).length ca) (dE o)∧Dk W (w.heap.size+1) (dN p) (.slice b (ws (dX p)).length cb) (dE p)∧Lo W (w.heap.size+2) o00∧Below w.heap.size w W):=by
  subst hW;have z1:=Dk.new (w.alloc (Obj.cells #[.bool (dN o),.slice a (ws (dX o)).length ca,.int .i64 (dE o)] 62)) (dN p) (.slice b (ws (dX p)).length cb) (dE p);have z2:=Lo.zero ((w.alloc (Obj.cells #[.bool (dN o),.slice a (ws (dX o)).length ca,.int .i64 (dE o)] 62)).alloc (Obj.cells #[.bool (dN p),.slice b (ws (dX p)).length cb,.int .i64 (dE p)] 62));rw [World.size_alloc] at z1;rw [World.size_alloc,World.size_alloc] at z2;exact ⟨((Dk.new _ _ _ _).below (Za _ _)).below (Za _ _),z1.below (Za _ _),z2,((Za _ _).trans ((Za _ _).mono (by simp))).trans ((Za _ _).mono (by simp;omega))⟩
 have HW:=qsd hW;have HC1:=hid (HC.out W H0.out.2.2.2);have FF:=qsd F;clear hW HC F;go_enter Tryz.func49,Tryz.ntmps49
 go_upto_region 1 with fail
 rw [←HW.out];clear HW;obtain ⟨x0,x1,x2,xf0,xf1,xf2⟩:=H0.out.1.facts;obtain ⟨y0,y1,y2,yf0,yf1,yf2⟩:=H0.out.2.1.facts
 go_wp2_with fail
 refine HC1.out.mono ?_;rintro r u ⟨⟨v,rfl,hN⟩,hb⟩;obtain ⟨a1,c1,rfl,hN0⟩:=Lo.shape FF.out hN;obtain ⟨U,hU⟩:∃ U,U=u.alloc (Obj.cells #[.bool (dN q),.slice a1 (ws (dX q)).length c1,.int .i64 (dE q)] 62):=⟨_,rfl⟩
 have H1:Aside (Lo U (w.heap.size+2) o00∧Dk U u.heap.size (dN q) (.slice a1 (ws (dX q)).length c1) (dE q)∧Nt 0 U (.slice a1 (ws (dX q)).length c1) (dX q)∧Below w.heap.size w U):=by
  rw [hU];have b0:=H0.out.2.2.2;exact ⟨(H0.out.2.2.1.below hb).below (Za _ _),Dk.new _ _ _ _,hN0.below (Za _ _),(b0.trans (hb.mono b0.size)).trans ((Za _ _).mono (Nat.le_trans b0.size hb.size))⟩
 obtain ⟨gq,hgq⟩:∃ g,g=u.heap.size:=⟨_,rfl⟩;rw [←hgq] at H1;have HU:=(qsd (ai hU hgq));clear hU hN hN0 hb HC1 H0 x0 x1 x2 xf0 xf1 xf2 y0 y1 y2 yf0 yf1 yf2 hgq
 go_upto_region 2 with fail
 rw [←HU.out.1,←HU.out.2];clear HU;obtain ⟨x0,x1,x2,xf0,xf1,xf2⟩:=H1.out.2.1.facts;obtain ⟨p4,q4,D4,M4⟩:=H1.out.1;obtain ⟨y0,y1,y2,yf0,yf1,yf2⟩:=D4.facts;clear D4 M4;go_wp2;exact Za2 Tryz.results49 rfl H1.out.1 H1.out.2.2.2 (by omega) H1.out.2.2.1
theorem Ztw {U:World}{a b:Option Addr}{c d:Nat}{o p q:Option (Bool×Nat×Int)}(F:Fm o) (G:Fm p) (N1:Nt 0 U (.slice a (ws (dX o)).length c) (dX o)) (N2:Nt 0 U (.slice b (ws (dX p)).length d) (dX p)) (h:addD o (mkS (!dN p) (dX p) (dE p))=q) (H:Fm q) :
 Calls Tryz.prog 81 #[.agg #[.bool (dN o),.slice a (ws (dX o)).length c,.int .i64 (dE o)],.agg #[.bool (dN p),.slice b (ws (dX p)).length d,.int .i64 (dE p)]] U fun r w'=>(∃ v,r=.returned (.tuple #[.agg #[.bool (dN q),v,.int .i64 (dE q)],.int .i64 0])∧Nt U.heap.size w' v (dX q))∧Below U.heap.size U w':=by
 have:=Zkt (F.a12 N1) (G.a12 N2) F.two G.two (dN o) (dN p) (dE o) (dE p) F.rng.1 F.rng.2 G.rng.1 G.rng.2;rw [Zc,Zc,F.re,h] at this;unfold DAns at this;rw [H.er] at this;exact this
theorem Qn {w:World}{a b:Option Addr}{ca cb:Nat}{o p q:Option (Bool×Nat×Int)}(F:Fm o) (G:Fm p) (H:Fm q) (N1:Nt 0 w (.slice a (ws (dX o)).length ca) (dX o)) (N2:Nt 0 w (.slice b (ws (dX p)).length cb) (dX p)) (h:mulD o p=q) :
 Calls Tryz.prog 48 #[.agg #[.bool (dN o),.slice a (ws (dX o)).length ca,.int .i64 (dE o)],.agg #[.bool (dN p),.slice b (ws (dX p)).length cb,.int .i64 (dE p)]] w fun r w'=>DVal 0 w' r q∧Below w.heap.size w w' :=
 Zdf w a b ca cb o p q H (hid fun u hu=>Ztp F G (N1.below hu) (N2.below hu) h H)
theorem Zaa {w:World}{a b:Option Addr}{ca cb:Nat}{o p q:Option (Bool×Nat×Int)}(F:Fm o) (G:Fm p) (H:Fm q) (N1:Nt 0 w (.slice a (ws (dX o)).length ca) (dX o)) (N2:Nt 0 w (.slice b (ws (dX p)).length cb) (dX p)) (h:addD o p=q) :
 Calls Tryz.prog 56 #[.agg #[.bool (dN o),.slice a (ws (dX o)).length ca,.int .i64 (dE o)],.agg #[.bool (dN p),.slice b (ws (dX p)).length cb,.int .i64 (dE p)]] w fun r w'=>DVal 0 w' r q∧Below w.heap.size w w' :=
 Zeq w a b ca cb o p q H (hid fun u hu=>Ztq F G (N1.below hu) (N2.below hu) h H)
theorem Zc4 {w:World}{a b:Option Addr}{ca cb:Nat}{o p q:Option (Bool×Nat×Int)}(F:Fm o) (G:Fm p) (H:Fm q) (N1:Nt 0 w (.slice a (ws (dX o)).length ca) (dX o)) (N2:Nt 0 w (.slice b (ws (dX p)).length cb) (dX p)) (h:addD o (mkS (!dN p) (dX p) (dE p))=q) :
 Calls Tryz.prog 49 #[.agg #[.bool (dN o),.slice a (ws (dX o)).length ca,.int .i64 (dE o)],.agg #[.bool (dN p),.slice b (ws (dX p)).length cb,.int .i64 (dE p)]] w fun r w'=>DVal 0 w' r q∧Below w.heap.size w w' :=
 Zdg w a b ca cb o p q H (hid fun u hu=>Ztw F G (N1.below hu) (N2.below hu) h H)
theorem Nt.al14 {lo:Nat}{w:World}{v:Value}{o:Option (Bool×Nat×Int)}(h:Nt lo w v (dX o)) (F:Fm o):Al w v (dX o):=by
 have:=F.len;obtain ⟨a,c,rfl,hA⟩:=h.arg (by omega)
 exact ⟨a,_,c,_,rfl,hA,Zc _,by omega⟩
theorem Zrz {u:World}{a b:Option Addr}{ca cb:Nat}{V D:Option (Bool×Nat×Int)}(mode:Int) (FV:Fm V) (FD:Fm D) (n1:Nt 0 u (.slice a (ws (dX V)).length ca) (dX V)) (n2:Nt 0 u (.slice b (ws (dX D)).length cb) (dX D)) :
 Calls Tryz.prog 79 #[.agg #[.bool (dN V),.slice a (ws (dX V)).length ca,.int .i64 (dE V),.bool (dN D),.slice b (ws (dX D)).length cb,.int .i64 (dE D)],.int .i64 mode] u fun r w'=>r=.returned (.tuple #[.float .f64 (Qp V D mode).1,.int .i64 (Qp V D mode).2])∧Below u.heap.size u w' :=
 docQuot (w:=u) (n:=dN V) (m:=dN D) (X:=dX V) (Y:=dX D) (e:=dE V) (f:=dE D) mode (n1.al14 FV) (n2.al14 FD) FV.rng FD.rng
theorem Zuv {w:World}{a b:Option Addr}{ca cb:Nat}{V D:Option (Bool×Nat×Int)}(mode:Int) (FV:Fm V) (FD:Fm D) (N1:Nt 0 w (.slice a (ws (dX V)).length ca) (dX V)) (N2:Nt 0 w (.slice b (ws (dX D)).length cb) (dX D)) :
 Calls Tryz.prog 46 #[.agg #[.bool (dN V),.slice a (ws (dX V)).length ca,.int .i64 (dE V)],.agg #[.bool (dN D),.slice b (ws (dX D)).length cb,.int .i64 (dE D)],.int .i64 mode] w fun r w'=>r=.returned (.float .f64 (Qp V D mode).1)∧Below w.heap.size w w':=by
 obtain ⟨W,hW⟩:∃ W,W=(w.alloc (Obj.cells #[.bool (dN V),.slice a (ws (dX V)).length ca,.int .i64 (dE V)] 62)).alloc (Obj.cells #[.bool (dN D),.slice b (ws (dX D)).length cb,.int .i64 (dE D)] 62):=⟨_,rfl⟩
 have H0:Aside (Dk W w.heap.size (dN V) (.slice a (ws (dX V)).length ca) (dE V)∧Dk W (w.heap.size+1) (dN D) (.slice b (ws (dX D)).length cb) (dE D)∧Below w.heap.size w W):=by
  subst hW;have z1:=Dk.new (w.alloc (Obj.cells #[.bool (dN V),.slice a (ws (dX V)).length ca,.int .i64 (dE V)] 62)) (dN D) (.slice b (ws (dX D)).length cb) (dE D);rw [World.size_alloc] at z1;exact ⟨(Dk.new _ _ _ _).below (Za _ _),z1,(Za _ _).trans ((Za _ _).mono (by simp))⟩
 have HC:=hid (Zrz mode FV FD (N1.below H0.out.2.2) (N2.below H0.out.2.2));have HW:=qsd hW;obtain ⟨Q,hQ⟩:∃ Q,Q=Qp V D mode:=⟨_,rfl⟩;rw [←hQ] at HC ⊢;clear hW hQ FV FD N1 N2;go_enter Tryz.func46,Tryz.ntmps46
 go_upto_region 1 with fail
 rw [←HW.out];clear HW;obtain ⟨x0,x1,x2,xf0,xf1,xf2⟩:=H0.out.1.facts;obtain ⟨y0,y1,y2,yf0,yf1,yf2⟩:=H0.out.2.1.facts
 go_wp2_with fail
 refine HC.out.mono ?_;rintro r u ⟨rfl,hb⟩;have BE:=qsd (H0.out.2.2.trans (hb.mono H0.out.2.2.size));clear hb HC H0 x0 x1 x2 xf0 xf1 xf2 y0 y1 y2 yf0 yf1 yf2;go_wp2;exact bodyPost_ret (v:=.float .f64 Q.1) (by simp [results,Tryz.results46,go_sem]) rfl ⟨rfl,BE.out⟩
theorem Zg4 {x:Nat}(hx:x<18446744073709551616) (w:World):Calls Tryz.prog 54 #[.float .f64 x] w fun r w'=>(∃ c:Int,r=.returned (.int .i64 c)∧decide (2<c)=!decide (magW x<9218868437227405312))∧Below w.heap.size w w':=by
 have hm:magW x<9223372036854775808:=Nat.mod_lt _ (by decide)
 have e:B.bw (negW x) (magW x/4503599627370496) (magW x%4503599627370496)=x:=by
  have h1:magW x=x%9223372036854775808:=rfl;unfold B.bw
  by_cases h:9223372036854775808≤x
  · rw [show negW x=true from decide_eq_true h];simp only [Bool.toNat_true];omega
  · rw [show negW x=false from decide_eq_false h];simp only [Bool.toNat_false];omega
 have:=B.rClass_any (negW x) (magW x/4503599627370496) (magW x%4503599627370496) (by omega) (by omega) w
 rw [e] at this;refine this.mono ?_;rintro r w' ⟨rfl,hb⟩;refine ⟨⟨_,rfl,?_⟩,hb⟩;unfold B.cls
 by_cases q:magW x<9218868437227405312
 · rw [decide_eq_true q,if_neg (by omega)]
   split
   · split <;> rfl
   · rfl
 · rw [decide_eq_false q,if_pos (by omega)]
   split <;> rfl
theorem Zr0 (xs:List Nat) (k:Nat) (hk:k<xs.length):fiB (xs.take (k+1))=(fiB (xs.take k)&&decide (magW (xs.getD k 0)<9218868437227405312)):=by
 unfold fiB;rw [Ji xs k hk,List.all_append];simp
theorem Zr1 (xs:List Nat) (k:Nat) (h:fiB (xs.take k)=false):fiB xs=false:=by
 unfold fiB at h ⊢;rw [List.all_eq_false] at h ⊢;obtain ⟨x,hx,q⟩:=h;exact ⟨x,List.mem_of_mem_take hx,q⟩
theorem Zpa (xs:List Nat) (ao:Option Addr) (n cap:Nat) (w:World) (hF:Fs w.heap.size w ao xs) (hn:n=xs.length) (hb:n≤65536) (hW:W64 xs) :
 Calls Tryz.prog 78 #[.slice ao n cap] w fun r w'=>r=.returned (.bool (!fiB xs))∧Below w.heap.size w w':=by
 have HX:=(qsd (ai hn (ai hF hW)));obtain ⟨Z,hZ⟩:∃ Z,Z=!fiB xs:=⟨_,rfl⟩;rw [←hZ];have HZ:=qsd hZ;clear hn hF hW hZ;go_enter Tryz.func78,Tryz.ntmps78;go_wp2
 go_loopg [3] n (fun gk iv wr=>∃ k:Nat,gk+k=n∧iv=.int .i64 (k:Nat)∧Aside (fiB (xs.take k)=true∧Below w.heap.size w wr))
 case atStart=>exact ⟨0,by omega,by simp,by simp [fiB],Below.refl _ _⟩
 case round =>
  obtain ⟨k,hgk,rfl,HA⟩:=hrel
  by_cases hk:k<n
  · have hkx:k<xs.length:=by have:=HX.out.1;omega
    obtain ⟨b,off,rfl,hc⟩:=HX.out.2.1.at HA.out.2 k hkx;have ht:=Zr0 xs k hkx;have hx:=HX.out.2.2.get k;obtain ⟨x,hxx⟩:∃ x,x=xs.getD k 0:=⟨_,rfl⟩;rw [←hxx] at hc ht hx;have D:=hid (Zg4 hx wr);have HT:=qsd ht;have hkb:k<4611686018427387904:=by omega
    clear ht hx hxx hkx
    go_wp2_with fail
    refine D.out.mono ?_;rintro r v ⟨⟨c,rfl,hcl⟩,hv⟩;have HB:=qsd (HA.out.2.trans (hv.mono HA.out.2.size));have HF:=qsd HA.out.1;have HC:=qsd hcl;clear D hv HA
    by_cases h3:2<c
    · have d3:decide ((2:Int)<c)=true:=decide_eq_true h3
      have hz:Z=true:=by
       have h1:=HC.out;rw [d3] at h1;have h2:=HT.out;have h4:decide (magW x<9218868437227405312)=false:=by cases h5:decide (magW x<9218868437227405312) with | false=>rfl | true=>rw [h5] at h1;cases h1
       rw [h4,Bool.and_false] at h2;rw [HZ.out,Zr1 xs _ h2];rfl
      subst hz;clear h3 hcl;go_wp2;exact bodyPost_ret (v:=.bool true) (by simp [results,Tryz.results78,go_sem]) rfl ⟨rfl,HB.out⟩
    · have d3:decide ((2:Int)<c)=false:=decide_eq_false h3
      have HK:Aside (fiB (xs.take (k+1))=true):=by
       have h1:=HC.out;rw [d3] at h1;have h4:decide (magW x<9218868437227405312)=true:=by cases h5:decide (magW x<9218868437227405312) with | true=>rfl | false=>rw [h5] at h1;cases h1
       refine qsd ?_;rw [HT.out,HF.out,h4];rfl
      clear h3 hcl;go_wp2
      go_roundg (gk-1)
      case measure=>omega
      case rel=>exact ⟨k+1,by omega,by first | rfl | simp,HK.out,HB.out⟩
  · obtain rfl:k=n:=by omega
    have hd:¬ k<k:=by omega
    have hz:Z=false:=by
     have h1:=HA.out.1;rw [List.take_of_length_le (by have:=HX.out.1;omega)] at h1
     rw [HZ.out,h1];rfl
    subst hz;go_wp2;exact bodyPost_ret (v:=.bool false) (by simp [results,Tryz.results78,go_sem]) rfl ⟨rfl,HA.out.2⟩
theorem Zin (xs ys:List Nat) (a b:Option Addr) (n m c d:Nat) (mode:Int) (least:Nat) (w:World) (hn:n=xs.length) (hm:m=ys.length) (hll:least≤2)
 (hF:Fs w.heap.size w a xs) (hG:Fs w.heap.size w b ys) (hW:W64 xs) (hV:W64 ys) :
 Calls Tryz.prog 41 #[.slice a n c,.slice b m d,.int .i64 mode,.int .i64 (least:Nat)] w fun r w'=>r=.returned (.int .i64 (amE xs ys [] mode least))∧Below w.heap.size w w':=by
 obtain ⟨E,hE⟩:∃ E,E=amE xs ys [] mode least:=⟨_,rfl⟩;rw [←hE];unfold amE at hE;rw [←hn,←hm] at hE
 by_cases h1:mode<0∨4<mode
 · rw [if_pos h1] at hE
   subst hE;clear hn hm hF hG hW hV
   rcases Int.lt_or_le mode 0 with q|q
   · have h2:decide (mode<0)=true:=decide_eq_true q
     go_enter Tryz.func41,Tryz.ntmps41;go_wp2;exact bodyPost_ret (v:=.int .i64 1) (by simp [results,Tryz.results41,go_sem]) rfl ⟨rfl,Below.refl _ _⟩
   · have h2:decide (mode<0)=false:=decide_eq_false (by omega)
     have h3:decide (4<mode)=true:=decide_eq_true (by omega)
     go_enter Tryz.func41,Tryz.ntmps41;go_wp2;exact bodyPost_ret (v:=.int .i64 1) (by simp [results,Tryz.results41,go_sem]) rfl ⟨rfl,Below.refl _ _⟩
 rw [if_neg h1] at hE;have m0:decide (mode<0)=false:=decide_eq_false (by omega)
 have m4:decide (4<mode)=false:=decide_eq_false (by omega)
 by_cases h2:65536<n∨65536<m
 · rw [if_pos h2] at hE
   subst hE;clear hn hm hF hG hW hV
   rcases Nat.lt_or_ge 65536 n with q|q
   · have h3:decide ((65536:Int)<(n:Int))=true:=decide_eq_true (by omega)
     go_enter Tryz.func41,Tryz.ntmps41;go_wp2;exact bodyPost_ret (v:=.int .i64 2) (by simp [results,Tryz.results41,go_sem]) rfl ⟨rfl,Below.refl _ _⟩
   · have h3:decide ((65536:Int)<(n:Int))=false:=decide_eq_false (by omega)
     have h4:decide ((65536:Int)<(m:Int))=true:=decide_eq_true (by omega)
     go_enter Tryz.func41,Tryz.ntmps41;go_wp2;exact bodyPost_ret (v:=.int .i64 2) (by simp [results,Tryz.results41,go_sem]) rfl ⟨rfl,Below.refl _ _⟩
 rw [if_neg h2] at hE;have n6:decide ((65536:Int)<(n:Int))=false:=decide_eq_false (by omega)
 have n7:decide ((65536:Int)<(m:Int))=false:=decide_eq_false (by omega)
 by_cases h3:n=m
 · rw [if_neg (by simpa using h3)] at hE
   have C1:Hid (∀ u:World,Below w.heap.size w u→Calls Tryz.prog 78 #[.slice a n c] u fun r w'=>r=.returned (.bool (!fiB xs))∧Below u.heap.size u w'):=fun u hu=>Zpa xs a n c u ((hF.below hu).mono hu.size) hn (by omega) hW
   have C2:Hid (∀ u:World,Below w.heap.size w u→Calls Tryz.prog 78 #[.slice b m d] u fun r w'=>r=.returned (.bool (!fiB ys))∧Below u.heap.size u w'):=fun u hu=>Zpa ys b m d u ((hG.below hu).mono hu.size) hm (by omega) hV
   clear hn hm hF hG hW hV;subst h3;have hz:=qsd hE;clear hE h1 h2;have hlt:decide ((n:Int)<(least:Int))=decide (n<least):=by simp
   have fe:fiB []=true:=rfl;have D1:=hid (C1.out w (Below.refl _ _));clear C1;go_enter Tryz.func41,Tryz.ntmps41
   go_wp2_with fail
   refine D1.out.mono ?_;rintro r u ⟨rfl,hb⟩;have HB:=qsd hb;have D2:=hid (C2.out u hb);clear hb D1 C2
   go_wp2_with fail
   refine D2.out.mono ?_;rintro r u2 ⟨rfl,hb⟩;have HB2:=qsd (HB.out.trans (hb.mono HB.out.size));clear hb D2 HB
   cases f1:fiB xs with
   | false =>
     have hE:=hz.out;rw [f1,Bool.false_and,Bool.false_and,if_pos rfl] at hE;subst hE;clear hz f1 fe;go_wp2;exact bodyPost_ret (v:=.int .i64 30) (by simp [results,Tryz.results41,go_sem]) rfl ⟨rfl,HB2.out⟩
   | true =>
   cases f2:fiB ys with
   | false =>
     have hE:=hz.out;rw [f1,f2,Bool.true_and,Bool.false_and,if_pos rfl] at hE;subst hE;clear hz f1 f2 fe;go_wp2;exact bodyPost_ret (v:=.int .i64 30) (by simp [results,Tryz.results41,go_sem]) rfl ⟨rfl,HB2.out⟩
   | true =>
     have hE:=hz.out;rw [f1,f2,fe,Bool.true_and,Bool.true_and,if_neg (by decide)] at hE
     clear hz f1 f2 fe
     by_cases hq:n<least
     · rw [if_pos hq] at hE
       subst hE;rw [decide_eq_true hq] at hlt;go_wp2;exact bodyPost_ret (v:=.int .i64 3) (by simp [results,Tryz.results41,go_sem]) rfl ⟨rfl,HB2.out⟩
     · rw [if_neg hq] at hE
       subst hE;rw [decide_eq_false hq] at hlt;go_wp2;exact bodyPost_ret (v:=.int .i64 0) (by simp [results,Tryz.results41,go_sem]) rfl ⟨rfl,HB2.out⟩
 · rw [if_pos h3] at hE
   subst hE;have h4:((n:Int)==(m:Int))=false:=by simp;omega
   clear hn hm hF hG hW hV;go_enter Tryz.func41,Tryz.ntmps41;go_wp2;exact bodyPost_ret (v:=.int .i64 4) (by simp [results,Tryz.results41,go_sem]) rfl ⟨rfl,Below.refl _ _⟩
theorem Lo.but19 {v v':World}{g g' T:Nat}{o:Option (Bool×Nat×Int)}{L:List Value}(h:Lo v g o) (hb:But g' v v') (hB:Bl v g' T L) (hT:T≠147) (hg:g≠g'):Lo v' g o:=by
 obtain ⟨a,c,hD,hN⟩:=h;exact ⟨a,c,by unfold Dk;rw [hb.block _ hD.lt hg];exact hD,hN.off hb (hN.notin hT hB)⟩
def Sm (v:World) (g n:Nat) (oX oY oXX oXY oYY:Option (Bool×Nat×Int)):Prop:=∃ a1 c1 a2 c2 a3 c3 a4 c4 a5 c5,Bl v g 70 [.int .i64 (n:Nat),.bool (dN oX),.slice a1 (ws (dX oX)).length c1,.int .i64 (dE oX),.bool (dN oY),.slice a2 (ws (dX oY)).length c2,.int .i64 (dE oY),.bool (dN oXX),.slice a3 (ws (dX oXX)).length c3,.int .i64 (dE oXX),.bool (dN oXY),.slice a4 (ws (dX oXY)).length c4,.int .i64 (dE oXY),.bool (dN oYY),.slice a5 (ws (dX oYY)).length c5,.int .i64 (dE oYY)]∧Nt 0 v (.slice a1 (ws (dX oX)).length c1) (dX oX)∧Nt 0 v (.slice a2 (ws (dX oY)).length c2) (dX oY)∧Nt 0 v (.slice a3 (ws (dX oXX)).length c3) (dX oXX)∧Nt 0 v (.slice a4 (ws (dX oXY)).length c4) (dX oXY)∧Nt 0 v (.slice a5 (ws (dX oYY)).length c5) (dX oYY)
theorem Sm.lt {v:World}{g n:Nat}{oX oY oXX oXY oYY:Option (Bool×Nat×Int)}(h:Sm v g n oX oY oXX oXY oYY):g<v.heap.size:=by
 obtain ⟨a1,c1,a2,c2,a3,c3,a4,c4,a5,c5,hB,_⟩:=h;exact hB.lt
theorem Sm.below {v u:World}{g n:Nat}{oX oY oXX oXY oYY:Option (Bool×Nat×Int)}(h:Sm v g n oX oY oXX oXY oYY) (hb:Below v.heap.size v u):Sm u g n oX oY oXX oXY oYY:=by
 obtain ⟨a1,c1,a2,c2,a3,c3,a4,c4,a5,c5,hB,n1,n2,n3,n4,n5⟩:=h;exact ⟨a1,c1,a2,c2,a3,c3,a4,c4,a5,c5,hB.below hb hB.lt,n1.below hb,n2.below hb,n3.below hb,n4.below hb,n5.below hb⟩
theorem Sm.set0 {v:World}{g n:Nat}{oX oY oXX oXY oYY o:Option (Bool×Nat×Int)}{a:Option Addr}{c:Nat}(h:Sm v g n oX oY oXX oXY oYY) (hN:Nt 0 v (.slice a (ws (dX o)).length c) (dX o)):Sm (((v.setCell ⟨g,1,none⟩ (.bool (dN o))).setCell ⟨g,2,none⟩ (.slice a (ws (dX o)).length c)).setCell ⟨g,3,none⟩ (.int .i64 (dE o))) g n o oY oXX oXY oYY∧But g v (((v.setCell ⟨g,1,none⟩ (.bool (dN o))).setCell ⟨g,2,none⟩ (.slice a (ws (dX o)).length c)).setCell ⟨g,3,none⟩ (.int .i64 (dE o))):=by
 obtain ⟨a1,c1,a2,c2,a3,c3,a4,c4,a5,c5,hB,n1,n2,n3,n4,n5⟩:=h;have hbt:But g v (((v.setCell ⟨g,1,none⟩ (.bool (dN o))).setCell ⟨g,2,none⟩ (.slice a (ws (dX o)).length c)).setCell ⟨g,3,none⟩ (.int .i64 (dE o))):=(((But.refl g v).set 1 _).set 2 _).set 3 _;refine ⟨⟨a,c,a2,c2,a3,c3,a4,c4,a5,c5,((hB.set 1 _).set 2 _).set 3 _,hN.off hbt (hN.notin (by decide) hB),n2.off hbt (n2.notin (by decide) hB),n3.off hbt (n3.notin (by decide) hB),n4.off hbt (n4.notin (by decide) hB),n5.off hbt (n5.notin (by decide) hB)⟩,hbt⟩
theorem Sm.set1 {v:World}{g n:Nat}{oX oY oXX oXY oYY o:Option (Bool×Nat×Int)}{a:Option Addr}{c:Nat}(h:Sm v g n oX oY oXX oXY oYY) (hN:Nt 0 v (.slice a (ws (dX o)).length c) (dX o)):Sm (((v.setCell ⟨g,4,none⟩ (.bool (dN o))).setCell ⟨g,5,none⟩ (.slice a (ws (dX o)).length c)).setCell ⟨g,6,none⟩ (.int .i64 (dE o))) g n oX o oXX oXY oYY∧But g v (((v.setCell ⟨g,4,none⟩ (.bool (dN o))).setCell ⟨g,5,none⟩ (.slice a (ws (dX o)).length c)).setCell ⟨g,6,none⟩ (.int .i64 (dE o))):=by
 obtain ⟨a1,c1,a2,c2,a3,c3,a4,c4,a5,c5,hB,n1,n2,n3,n4,n5⟩:=h;have hbt:But g v (((v.setCell ⟨g,4,none⟩ (.bool (dN o))).setCell ⟨g,5,none⟩ (.slice a (ws (dX o)).length c)).setCell ⟨g,6,none⟩ (.int .i64 (dE o))):=(((But.refl g v).set 4 _).set 5 _).set 6 _;refine ⟨⟨a1,c1,a,c,a3,c3,a4,c4,a5,c5,((hB.set 4 _).set 5 _).set 6 _,n1.off hbt (n1.notin (by decide) hB),hN.off hbt (hN.notin (by decide) hB),n3.off hbt (n3.notin (by decide) hB),n4.off hbt (n4.notin (by decide) hB),n5.off hbt (n5.notin (by decide) hB)⟩,hbt⟩
theorem Sm.set2 {v:World}{g n:Nat}{oX oY oXX oXY oYY o:Option (Bool×Nat×Int)}{a:Option Addr}{c:Nat}(h:Sm v g n oX oY oXX oXY oYY) (hN:Nt 0 v (.slice a (ws (dX o)).length c) (dX o)):Sm (((v.setCell ⟨g,7,none⟩ (.bool (dN o))).setCell ⟨g,8,none⟩ (.slice a (ws (dX o)).length c)).setCell ⟨g,9,none⟩ (.int .i64 (dE o))) g n oX oY o oXY oYY∧But g v (((v.setCell ⟨g,7,none⟩ (.bool (dN o))).setCell ⟨g,8,none⟩ (.slice a (ws (dX o)).length c)).setCell ⟨g,9,none⟩ (.int .i64 (dE o))):=by
 obtain ⟨a1,c1,a2,c2,a3,c3,a4,c4,a5,c5,hB,n1,n2,n3,n4,n5⟩:=h;have hbt:But g v (((v.setCell ⟨g,7,none⟩ (.bool (dN o))).setCell ⟨g,8,none⟩ (.slice a (ws (dX o)).length c)).setCell ⟨g,9,none⟩ (.int .i64 (dE o))):=(((But.refl g v).set 7 _).set 8 _).set 9 _;refine ⟨⟨a1,c1,a2,c2,a,c,a4,c4,a5,c5,((hB.set 7 _).set 8 _).set 9 _,n1.off hbt (n1.notin (by decide) hB),n2.off hbt (n2.notin (by decide) hB),hN.off hbt (hN.notin (by decide) hB),n4.off hbt (n4.notin (by decide) hB),n5.off hbt (n5.notin (by decide) hB)⟩,hbt⟩
theorem Sm.set3 {v:World}{g n:Nat}{oX oY oXX oXY oYY o:Option (Bool×Nat×Int)}{a:Option Addr}{c:Nat}(h:Sm v g n oX oY oXX oXY oYY) (hN:Nt 0 v (.slice a (ws (dX o)).length c) (dX o)):Sm (((v.setCell ⟨g,10,none⟩ (.bool (dN o))).setCell ⟨g,11,none⟩ (.slice a (ws (dX o)).length c)).setCell ⟨g,12,none⟩ (.int .i64 (dE o))) g n oX oY oXX o oYY∧But g v (((v.setCell ⟨g,10,none⟩ (.bool (dN o))).setCell ⟨g,11,none⟩ (.slice a (ws (dX o)).length c)).setCell ⟨g,12,none⟩ (.int .i64 (dE o))):=by
 obtain ⟨a1,c1,a2,c2,a3,c3,a4,c4,a5,c5,hB,n1,n2,n3,n4,n5⟩:=h;have hbt:But g v (((v.setCell ⟨g,10,none⟩ (.bool (dN o))).setCell ⟨g,11,none⟩ (.slice a (ws (dX o)).length c)).setCell ⟨g,12,none⟩ (.int .i64 (dE o))):=(((But.refl g v).set 10 _).set 11 _).set 12 _;refine ⟨⟨a1,c1,a2,c2,a3,c3,a,c,a5,c5,((hB.set 10 _).set 11 _).set 12 _,n1.off hbt (n1.notin (by decide) hB),n2.off hbt (n2.notin (by decide) hB),n3.off hbt (n3.notin (by decide) hB),hN.off hbt (hN.notin (by decide) hB),n5.off hbt (n5.notin (by decide) hB)⟩,hbt⟩
theorem Sm.set4 {v:World}{g n:Nat}{oX oY oXX oXY oYY o:Option (Bool×Nat×Int)}{a:Option Addr}{c:Nat}(h:Sm v g n oX oY oXX oXY oYY) (hN:Nt 0 v (.slice a (ws (dX o)).length c) (dX o)):Sm (((v.setCell ⟨g,13,none⟩ (.bool (dN o))).setCell ⟨g,14,none⟩ (.slice a (ws (dX o)).length c)).setCell ⟨g,15,none⟩ (.int .i64 (dE o))) g n oX oY oXX oXY o∧But g v (((v.setCell ⟨g,13,none⟩ (.bool (dN o))).setCell ⟨g,14,none⟩ (.slice a (ws (dX o)).length c)).setCell ⟨g,15,none⟩ (.int .i64 (dE o))):=by
 obtain ⟨a1,c1,a2,c2,a3,c3,a4,c4,a5,c5,hB,n1,n2,n3,n4,n5⟩:=h;have hbt:But g v (((v.setCell ⟨g,13,none⟩ (.bool (dN o))).setCell ⟨g,14,none⟩ (.slice a (ws (dX o)).length c)).setCell ⟨g,15,none⟩ (.int .i64 (dE o))):=(((But.refl g v).set 13 _).set 14 _).set 15 _;refine ⟨⟨a1,c1,a2,c2,a3,c3,a4,c4,a,c,((hB.set 13 _).set 14 _).set 15 _,n1.off hbt (n1.notin (by decide) hB),n2.off hbt (n2.notin (by decide) hB),n3.off hbt (n3.notin (by decide) hB),n4.off hbt (n4.notin (by decide) hB),hN.off hbt (hN.notin (by decide) hB)⟩,hbt⟩
structure Q19 (w v:World) (g4 gS g7 g9 n:Nat) (oX oY oXX oXY oYY oa ob:Option (Bool×Nat×Int)):Prop where
 m:Sm v gS n oX oY oXX oXY oYY
 a:Lo v g7 oa
 b:Lo v g9 ob
 z:Bl v g4 70 [.int .i64 0,.bool false,.slice none 0 0,.int .i64 0,.bool false,.slice none 0 0,.int .i64 0,.bool false,.slice none 0 0,.int .i64 0,.bool false,.slice none 0 0,.int .i64 0,.bool false,.slice none 0 0,.int .i64 0]
 bel:Below w.heap.size w v
 ord:w.heap.size≤g4∧g4<gS∧gS<g7∧g7<g9
theorem Q19.below {w v u:World}{g4 gS g7 g9 n:Nat}{oX oY oXX oXY oYY oa ob:Option (Bool×Nat×Int)}(h:Q19 w v g4 gS g7 g9 n oX oY oXX oXY oYY oa ob) (hb:Below v.heap.size v u):Q19 w u g4 gS g7 g9 n oX oY oXX oXY oYY oa ob :=
 ⟨h.m.below hb,h.a.below hb,h.b.below hb,h.z.below hb h.z.lt,h.bel.trans (hb.mono h.bel.size),h.ord⟩
structure P19 (w v:World) (g4 gS n:Nat) (oX oY oXX oXY oYY:Option (Bool×Nat×Int)):Prop where
 m:Sm v gS n oX oY oXX oXY oYY
 z:Bl v g4 70 [.int .i64 0,.bool false,.slice none 0 0,.int .i64 0,.bool false,.slice none 0 0,.int .i64 0,.bool false,.slice none 0 0,.int .i64 0,.bool false,.slice none 0 0,.int .i64 0,.bool false,.slice none 0 0,.int .i64 0]
 bel:Below w.heap.size w v
 ord:w.heap.size≤g4∧g4<gS
theorem P19.below {w v u:World}{g4 gS n:Nat}{oX oY oXX oXY oYY:Option (Bool×Nat×Int)}(h:P19 w v g4 gS n oX oY oXX oXY oYY) (hb:Below v.heap.size v u):P19 w u g4 gS n oX oY oXX oXY oYY :=
 ⟨h.m.below hb,h.z.below hb h.z.lt,h.bel.trans (hb.mono h.bel.size),h.ord⟩
theorem Q19.set0 {w v:World}{g4 gS g7 g9 n:Nat}{oX oY oXX oXY oYY oa ob o:Option (Bool×Nat×Int)}{a:Option Addr}{c:Nat}(h:Q19 w v g4 gS g7 g9 n oX oY oXX oXY oYY oa ob) (hN:Nt 0 v (.slice a (ws (dX o)).length c) (dX o)):Q19 w (((v.setCell ⟨gS,1,none⟩ (.bool (dN o))).setCell ⟨gS,2,none⟩ (.slice a (ws (dX o)).length c)).setCell ⟨gS,3,none⟩ (.int .i64 (dE o))) g4 gS g7 g9 n o oY oXX oXY oYY oa ob:=by
 obtain ⟨hm,hbt⟩:=h.m.set0 hN;obtain ⟨o0,o1,o2,o3⟩:=h.ord;have hm0:=h.m;obtain ⟨a1,c1,a2,c2,a3,c3,a4,c4,a5,c5,hB,_⟩:=hm0;exact ⟨hm,h.a.but19 hbt hB (by decide) (by omega),h.b.but19 hbt hB (by decide) (by omega),h.z.but hbt (by omega),But.below h.bel hbt h.bel.size (by omega),h.ord⟩
theorem Q19.set1 {w v:World}{g4 gS g7 g9 n:Nat}{oX oY oXX oXY oYY oa ob o:Option (Bool×Nat×Int)}{a:Option Addr}{c:Nat}(h:Q19 w v g4 gS g7 g9 n oX oY oXX oXY oYY oa ob) (hN:Nt 0 v (.slice a (ws (dX o)).length c) (dX o)):Q19 w (((v.setCell ⟨gS,4,none⟩ (.bool (dN o))).setCell ⟨gS,5,none⟩ (.slice a (ws (dX o)).length c)).setCell ⟨gS,6,none⟩ (.int .i64 (dE o))) g4 gS g7 g9 n oX o oXX oXY oYY oa ob:=by
 obtain ⟨hm,hbt⟩:=h.m.set1 hN;obtain ⟨o0,o1,o2,o3⟩:=h.ord;have hm0:=h.m;obtain ⟨a1,c1,a2,c2,a3,c3,a4,c4,a5,c5,hB,_⟩:=hm0;exact ⟨hm,h.a.but19 hbt hB (by decide) (by omega),h.b.but19 hbt hB (by decide) (by omega),h.z.but hbt (by omega),But.below h.bel hbt h.bel.size (by omega),h.ord⟩
theorem Q19.set2 {w v:World}{g4 gS g7 g9 n:Nat}{oX oY oXX oXY oYY oa ob o:Option (Bool×Nat×Int)}{a:Option Addr}{c:Nat}(h:Q19 w v g4 gS g7 g9 n oX oY oXX oXY oYY oa ob) (hN:Nt 0 v (.slice a (ws (dX o)).length c) (dX o)):Q19 w (((v.setCell ⟨gS,7,none⟩ (.bool (dN o))).setCell ⟨gS,8,none⟩ (.slice a (ws (dX o)).length c)).setCell ⟨gS,9,none⟩ (.int .i64 (dE o))) g4 gS g7 g9 n oX oY o oXY oYY oa ob:=by
 obtain ⟨hm,hbt⟩:=h.m.set2 hN;obtain ⟨o0,o1,o2,o3⟩:=h.ord;have hm0:=h.m;obtain ⟨a1,c1,a2,c2,a3,c3,a4,c4,a5,c5,hB,_⟩:=hm0;exact ⟨hm,h.a.but19 hbt hB (by decide) (by omega),h.b.but19 hbt hB (by decide) (by omega),h.z.but hbt (by omega),But.below h.bel hbt h.bel.size (by omega),h.ord⟩
theorem Q19.set3 {w v:World}{g4 gS g7 g9 n:Nat}{oX oY oXX oXY oYY oa ob o:Option (Bool×Nat×Int)}{a:Option Addr}{c:Nat}(h:Q19 w v g4 gS g7 g9 n oX oY oXX oXY oYY oa ob) (hN:Nt 0 v (.slice a (ws (dX o)).length c) (dX o)):Q19 w (((v.setCell ⟨gS,10,none⟩ (.bool (dN o))).setCell ⟨gS,11,none⟩ (.slice a (ws (dX o)).length c)).setCell ⟨gS,12,none⟩ (.int .i64 (dE o))) g4 gS g7 g9 n oX oY oXX o oYY oa ob:=by
 obtain ⟨hm,hbt⟩:=h.m.set3 hN;obtain ⟨o0,o1,o2,o3⟩:=h.ord;have hm0:=h.m;obtain ⟨a1,c1,a2,c2,a3,c3,a4,c4,a5,c5,hB,_⟩:=hm0;exact ⟨hm,h.a.but19 hbt hB (by decide) (by omega),h.b.but19 hbt hB (by decide) (by omega),h.z.but hbt (by omega),But.below h.bel hbt h.bel.size (by omega),h.ord⟩
theorem Q19.set4 {w v:World}{g4 gS g7 g9 n:Nat}{oX oY oXX oXY oYY oa ob o:Option (Bool×Nat×Int)}{a:Option Addr}{c:Nat}(h:Q19 w v g4 gS g7 g9 n oX oY oXX oXY oYY oa ob) (hN:Nt 0 v (.slice a (ws (dX o)).length c) (dX o)):Q19 w (((v.setCell ⟨gS,13,none⟩ (.bool (dN o))).setCell ⟨gS,14,none⟩ (.slice a (ws (dX o)).length c)).setCell ⟨gS,15,none⟩ (.int .i64 (dE o))) g4 gS g7 g9 n oX oY oXX oXY o oa ob:=by
 obtain ⟨hm,hbt⟩:=h.m.set4 hN;obtain ⟨o0,o1,o2,o3⟩:=h.ord;have hm0:=h.m;obtain ⟨a1,c1,a2,c2,a3,c3,a4,c4,a5,c5,hB,_⟩:=hm0;exact ⟨hm,h.a.but19 hbt hB (by decide) (by omega),h.b.but19 hbt hB (by decide) (by omega),h.z.but hbt (by omega),But.below h.bel hbt h.bel.size (by omega),h.ord⟩
section
variable {α : Type}
end
theorem Ze3:∀ xs:List Nat,pS xs xs=zS (fun x=>fvW x*fvW x) xs
 | []=>rfl
 | x::xs=>by
   show fvW x*fvW x+pS xs xs=fvW x*fvW x+zS _ xs
   rw [Ze3 xs]
section
variable {xs ys : List Nat} (hl : xs.length = ys.length)
include hl
end
end
end Go.Proofs.YtblkpkgebigojaaGreatDoor
