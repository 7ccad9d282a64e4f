import Derived.Test.YtblkpkgebigojaaGreatDoorFI8x
import Derived.Test.YtblkpkgebigojaaGreatDoorZ26x
import Derived.Test.YtblkpkgebigojaaGreatDoorZ5x
import Derived.Test.YtblkpkgebigojaaGreatDoorS10x
import Derived.Test.YtblkpkgebigojaaGreatDoorF2x
import Derived.Test.YtblkpkgebigojaaGreatDoorD32cx
set_option linter.unusedVariables false
set_option linter.unusedSimpArgs false
set_option maxHeartbeats 16000000
set_option maxRecDepth 20000
namespace Go.Proofs.YtblkpkgebigojaaGreatDoor
namespace J
end J
section
open Go.RowKit
theorem R9 {w:World}{v:Value}{X:Nat}(h1:Al w v X) (ng:Bool) (e:Int):Calls Tryz.prog 209 #[.agg #[.bool ng,v,.int .i64 e]] w fun r w'=>r=.returned (.int .i64 (qN ng X))/\Below w.heap.size w w':=by
 obtain ⟨a,l,c,xs,rfl,hA,rfl,hl⟩:=h1;exact EZ hA ng e
theorem Ii {w:World}{v:Value}{X:Nat}(h1:Al w v X) (n:Bool) (e:Int) (be:-9223372036854775808<=e/\e<=9223372036854775807) (o:Option (Bool×Nat×Int)) (ho:mkS n X e=o) (s:Bool) (hs:o.isSome=s):Calls Tryz.prog 117 #[.agg #[.bool n,v,.int .i64 e]] w fun r w'=>(∃ p,r=.returned (.tuple #[.agg #[.bool (dN o),p,.int .i64 (dE o)],.bool s])/\Nt w.heap.size w' p (dX o))/\Below w.heap.size w w':=by
 obtain ⟨a,l,c,xs,rfl,hA,rfl,hl⟩:=h1;subst ho hs;exact lD hA hl n e be.1 be.2
def MayA (lo:Nat) (w:World) (r:Ending) (o p:Option (Bool×Nat×Int)) (er:Int):Prop :=
 ∃ v,r=.returned (.tuple #[v,.int .i64 er])/\(er=0->∃ x y,R1 w v (dN o) x (dE o) (dN p) y (dE p)/\Nt lo w x (dX o)/\Nt lo w y (dX p))
theorem YM {w:World}{g:Nat}{n m:Bool}{a b:Option Addr}{la ca lb cb X Y:Nat}{e f:Int}(hq:Rq w g n (.slice a la ca) e m (.slice b lb cb) f) (hN:Al w (.slice a la ca) X) (hD:Al w (.slice b lb cb) Y) (be:-9223372036854775808<=e/\e<=9223372036854775807) (bf:-9223372036854775808<=f/\f<=9223372036854775807)
 (o p:Option (Bool×Nat×Int)) (ho:mkS n X e=o) (hp:mkS m Y f=p) (er:Int) (her:mO X n e Y m f=er) :
 Calls Tryz.prog 165 #[.slice (some ⟨g,0,none⟩) 1 1] w fun r w'=>MayA w.heap.size w' r o p er/\Below w.heap.size w w':=by
 have S0:=(bB (ak w.heap.size w) hq);have AA:=(rZ hN hD be bf ho hp her);have LL:Aside ((ws (dX o)).length<=8192/\(ws (dX p)).length<=8192):=ay ⟨by rw [<-ho];exact aS _ _ _,by rw [<-hp];exact aS _ _ _⟩;obtain ⟨sg,hsg⟩:∃ x,qN m Y=x:=⟨_,rfl⟩;have SG:=ay hsg;clear hq hN hD be bf ho hp her hsg;have one:decide ((1:Int)<1)=false:=aO
 go_enter Tryz.func165,Tryz.ntmps165;go_wp2
 go_loopg [4] 1 (fun gk i wr=>∃ k:Nat,gk+k=1/\i=.int .i64 (k:Nat)/\Aside (Below w.heap.size w wr/\(k=1->¬ qN m Y<0)))
 case atStart=>exact ⟨0,ae,aW,ay ⟨S0.o.1,fun h=>by cases h⟩⟩
 case round =>
  obtain ⟨k,wD,rfl,HA⟩:=hrel
  by_cases hk:k<1
  · obtain rfl:k=0:=ae
    obtain ⟨x0,x1,x2,x3,x4,x5⟩:=(S0.o.2.below HA.o.1).facts;have HC:=hid (R9 (AA.o.2.1.below HA.o.1) m f);rw [SG.o] at HC;go_wp2_with fail;clear x0 x1 x2 x3 x4 x5;refine HC.o.mono ?_;rintro r u1 ⟨rfl,hb⟩;have HB:=ay (HA.o.1.trans (hb.mono HA.o.1.size));clear HC hb HA
    by_cases hs:sg<0
    · have hs':decide (sg<0)=true:=decide_eq_true hs;have HE:Aside (er=1):=ay (by rw [<-AA.o.r6];unfold mO;rw [if_pos (by rw [SG.o];exact hs)]);clear hs;go_wp2;exact aI (v:=.tuple #[.slice none 0 0,.int .i64 1]) (by simp [results,Tryz.results165,go_sem]) rfl ⟨⟨_,by rw [HE.o],fun h=>by rw [HE.o] at h;cases h⟩,HB.o⟩
    · have hs':decide (sg<0)=false:=decide_eq_false hs;have HS:=ay hs;clear hs;go_wp2_with fail;go_roundg 0
      case measure=>omega
      case rel=>exact ⟨1,ae,by first | rfl | simp,ay ⟨HB.o,fun _=>by rw [SG.o];exact HS.o⟩⟩
  · obtain rfl:k=1:=ae
    have HS:=ay (HA.o.2 rfl);have HB:=ay HA.o.1;clear HA;go_wp2
    go_loopg [6,5] 1 (fun gk i v wr=>∃ (k:Nat) (v0:Value),gk+k=1/\i=.int .i64 (k:Nat)/\v=v0/\Aside (Below w.heap.size w wr/\(k=0->v0=.slice none 0 0)/\(k=1->o.isSome=true/\p.isSome=true/\∃ x y,R1 wr v0 (dN o) x (dE o) (dN p) y (dE p)/\Nt w.heap.size wr x (dX o)/\Nt w.heap.size wr y (dX p))))
    case atStart=>exact ⟨0,_,ae,aW,rfl,ay ⟨HB.o,fun _=>rfl,fun h=>by cases h⟩⟩
    case round =>
     obtain ⟨j,v,hgj,rfl,hv,HA⟩:=hrel
     by_cases hj:j<1
     · obtain rfl:j=0:=ae
       have hv0:=HA.o.2.1 rfl;subst hv0;subst hv;obtain ⟨s1,hs1⟩:∃ x,o.isSome=x:=⟨_,rfl⟩;obtain ⟨s2,hs2⟩:∃ x,p.isSome=x:=⟨_,rfl⟩;have SS:=(bB hs1 hs2);have S1:=(jK HA.o.1 (S0.o.2.below HA.o.1) (AA.o.1.below HA.o.1) (AA.o.2.1.below HA.o.1));clear hs1 hs2 HA;obtain ⟨x0,x1,x2,x3,x4,x5⟩:=S1.o.2.1.facts;have HC:=hid (Ii S1.o.r2.1 n e AA.o.r2.1 o AA.o.r4.1 s1 SS.o.1);go_wp2_with fail;clear x0 x1 x2 x3 x4 x5;refine HC.o.mono ?_;rintro r u1 ⟨⟨q,rfl,hN⟩,hb⟩;obtain ⟨q1,d1,rfl,-⟩:=hN.shape;obtain ⟨U1,bq⟩:=ah (u1.alloc (.cells #[.bool (dN o),.slice q1 (ws (dX o)).length d1,.int .i64 (dE o)] 62))
       have S2:Aside (Below w.heap.size w U1/\Rq U1 g n (.slice a la ca) e m (.slice b lb cb) f/\Al U1 (.slice b lb cb) Y/\Dk U1 u1.heap.size (dN o) (.slice q1 (ws (dX o)).length d1) (dE o)/\Nt w.heap.size U1 (.slice q1 (ws (dX o)).length d1) (dX o)):=by
        have b0:=S1.o.1;have b1:=b0.trans (hb.mono b0.size);have hA:Below u1.heap.size u1 U1:=by rw [bq];exact af _ _
        exact ay ⟨b1.trans (hA.mono b1.size),(S1.o.2.1.below hb).below hA,(S1.o.r3.below hb).below hA,by rw [bq];exact Dk.new _ _ _ _,(hN.mono b0.size).below hA⟩
       clear HC hb hN S1;obtain ⟨x0,x1,x2,x3,x4,x5⟩:=S2.o.2.1.facts;have HC:=hid (Ii S2.o.r2.1 m f AA.o.r3.1 p AA.o.r5.1 s2 SS.o.2)
       go_upto_region 11 with fail
       rw [<-bq];clear bq;go_wp2_with fail;clear x0 x1 x2 x3 x4 x5;refine HC.o.mono ?_;rintro r u2 ⟨⟨q,rfl,hN⟩,hb⟩;obtain ⟨q2,d2,rfl,-⟩:=hN.shape;obtain ⟨U2,dR⟩:=ah (u2.alloc (.cells #[.bool (dN p),.slice q2 (ws (dX p)).length d2,.int .i64 (dE p)] 62))
       have S3:Aside (Below w.heap.size w U2/\Dk U2 u1.heap.size (dN o) (.slice q1 (ws (dX o)).length d1) (dE o)/\Nt w.heap.size U2 (.slice q1 (ws (dX o)).length d1) (dX o)/\Dk U2 u2.heap.size (dN p) (.slice q2 (ws (dX p)).length d2) (dE p)/\Nt w.heap.size U2 (.slice q2 (ws (dX p)).length d2) (dX p)):=by
        have b0:=S2.o.1;have b1:=b0.trans (hb.mono b0.size);have hA:Below u2.heap.size u2 U2:=by rw [dR];exact af _ _
        exact ay ⟨b1.trans (hA.mono b1.size),(S2.o.r3.1.below hb).below hA,(S2.o.r4.below hb).below hA,by rw [dR];exact Dk.new _ _ _ _,(hN.mono b0.size).below hA⟩
       clear HC hb hN S2
       by_cases hbad:s1=true/\s2=true
       · obtain ⟨rfl,rfl⟩:=hbad;obtain ⟨x0,x1,x2,x3,x4,x5⟩:=S3.o.2.1.facts;obtain ⟨y0,y1,y2,y3,y4,y5⟩:=S3.o.r3.1.facts;obtain ⟨v',w',r1,r2,r3⟩:=Pf U2 (dN o) q1 (ws (dX o)).length d1 (dE o) (dN p) q2 (ws (dX p)).length d2 (dE p);have HR:=ay r1;have HN:=(jK r2 (S3.o.1.trans (r3.mono S3.o.1.size)) (S3.o.r2.1.below r3) (S3.o.r4.below r3));clear r1 r2 r3
         go_upto_region 14 with fail
         rw [<-dR];clear dR
         go_wp2_with (at_builtin;refine tY rfl (.tmp 55) (.tmp 59) 187 rfl _ _ rfl rfl _ _ HR.o ?_)
         go_roundg 0
         case measure=>omega
         case rel=>exact ⟨1,_,ae,by first | rfl | simp,rfl,ay ⟨HN.o.2.1,(fun h=>by cases h),fun _=>⟨SS.o.1,SS.o.2,_,_,HN.o.1,HN.o.r2.1,HN.o.r3⟩⟩⟩
       · have HE:Aside (er=2):=ay (by
          rw [<-AA.o.r6];unfold mO;rw [if_neg (by have:=HS.o;omega),AA.o.r4.1,AA.o.r5.1,SS.o.1,SS.o.2]
          rw [if_neg (by intro h;rw [xu] at h;exact hbad h)])
         have H5:=ay S3.o.1;clear S3
         cases s1
         · go_upto_region 12 with fail
           rw [<-dR];clear dR hbad;go_wp2;exact aI (v:=.tuple #[.slice none 0 0,.int .i64 2]) (by simp [results,Tryz.results165,go_sem]) rfl ⟨⟨_,by rw [HE.o],fun h=>by rw [HE.o] at h;cases h⟩,H5.o⟩
         · cases s2
           · go_upto_region 12 with fail
             rw [<-dR];clear dR hbad;go_wp2;exact aI (v:=.tuple #[.slice none 0 0,.int .i64 2]) (by simp [results,Tryz.results165,go_sem]) rfl ⟨⟨_,by rw [HE.o],fun h=>by rw [HE.o] at h;cases h⟩,H5.o⟩
           · exact absurd ⟨rfl,rfl⟩ hbad
     · obtain rfl:j=1:=ae
       obtain ⟨i1,i2,x,y,hR,hx,hy⟩:=HA.o.r2 rfl;obtain ⟨gg,cap,rfl,hcap,hgg,c0,c1,c2,c3,c4,c5⟩:=hR.ex;subst hv;obtain ⟨q1,d1,rfl,-⟩:=hx.shape;obtain ⟨q2,d2,rfl,-⟩:=hy.shape;have HX:=(jE HA.o.1 hR hx hy i1 i2);clear HA hR hx hy hgg i1 i2;go_wp2
       go_loopg [11] 1 (fun gk i wq=>∃ (k:Nat),gk+k=1/\i=.int .i64 (k:Nat)/\wq=wr/\Aside (k=1->dX p≠0))
       case atStart=>exact ⟨0,ae,aW,rfl,ay fun h=>by cases h⟩
       case round =>
        obtain ⟨i,hgi,rfl,rfl,HP⟩:=hrel
        by_cases hi:i<1
        · obtain rfl:i=0:=ae
          by_cases h0:dX p=0
          · have r1:((((ws (dX p)).length:Nat):Int)==0)=true:=by rw [h0,ws0];rfl
            have r2:((ws (dX p)).length==0)=true:=by rw [h0,ws0];rfl
            have HE:Aside (er=21):=ay (by
             rw [<-AA.o.r6];unfold mO
             rw [if_neg (by have:=HS.o;omega),AA.o.r4.1,AA.o.r5.1,HX.o.r4.1,HX.o.r5,if_pos aO,if_pos h0])
            clear h0;go_wp2;exact aI (v:=.tuple #[.slice none 0 0,.int .i64 21]) (by simp [results,Tryz.results165,go_sem]) rfl ⟨⟨_,by rw [HE.o],fun h=>by rw [HE.o] at h;cases h⟩,HX.o.1⟩
          · have r1:((((ws (dX p)).length:Nat):Int)==0)=false:=dG h0;have r2:((ws (dX p)).length==0)=false:=beq_eq_false_iff_ne.2 (fun h=>h0 ((bZ _).1 h));have H0:=ay h0;clear h0;go_wp2_with fail;go_roundg 0
            case measure=>omega
            case rel=>exact ⟨1,ae,by first | rfl | simp,rfl,ay fun _=>H0.o⟩
        · obtain rfl:i=1:=ae
          have HE:Aside (er=0):=ay (by
           rw [<-AA.o.r6];unfold mO
           rw [if_neg (by have:=HS.o;omega),AA.o.r4.1,AA.o.r5.1,HX.o.r4.1,HX.o.r5,if_pos aO,if_neg (HP.o rfl)])
          go_wp2;exact aI (v:=.tuple #[.slice (some ⟨gg,0,none⟩) 1 cap,.int .i64 0]) (by simp [results,Tryz.results165,go_sem]) rfl ⟨⟨_,by rw [HE.o],fun _=>⟨_,_,HX.o.2.1,HX.o.r2.1,HX.o.r3.1⟩⟩,HX.o.1⟩
theorem zX {w:World}{n m:Bool}{a b:Option Addr}{la ca lb cb X Y:Nat}{e f:Int}(dg ls:Int) (En:Nat) (sq:Bool) (mode:Int) (hm:mode<0\/4<mode) :
 Calls Tryz.prog 115 #[.agg #[.int .i64 dg,.int .i64 ls,.int .u64 (En:Nat)],.agg #[.bool n,.slice a la ca,.int .i64 e,.bool m,.slice b lb cb,.int .i64 f],.bool sq,.int .i64 mode] w fun r w'=>r=.returned (.tuple #[.int .u64 0,.bool false,.int .i64 1])/\Below w.heap.size w w':=by
 obtain ⟨W1,hW1⟩:=ah ((w.alloc (.cells #[.int .i64 dg,.int .i64 ls,.int .u64 (En:Nat)] 108)).alloc (.cells #[.bool n,.slice a la ca,.int .i64 e,.bool m,.slice b lb cb,.int .i64 f] 98));obtain ⟨hB,Z,QR⟩:=lK w dg ls En n _ e m _ f W1 hW1;have S9:=ay hB;clear hB Z QR;have hd:(mode<0)\/(¬ mode<0/\4<mode):=ae
 clear hm;go_enter Tryz.func115,Tryz.ntmps115
 go_upto_region 1 with fail
 rw [<-hW1];clear hW1;rcases hd with hd|⟨hd,hd2⟩
 · have d1:=decide_eq_true hd;clear hd;go_wp2;exact aI (v:=.tuple #[.int .u64 0,.bool false,.int .i64 1]) (by simp [results,Tryz.results115,go_sem]) rfl ⟨rfl,S9.o⟩
 · have d1:=decide_eq_false hd;have d2:=decide_eq_true hd2;clear hd hd2;go_wp2;exact aI (v:=.tuple #[.int .u64 0,.bool false,.int .i64 1]) (by simp [results,Tryz.results115,go_sem]) rfl ⟨rfl,S9.o⟩
theorem Dh {w:World}{n m:Bool}{a b:Option Addr}{la ca lb cb X Y:Nat}{e f:Int}(dg ls:Int) (En:Nat) (sq:Bool) (mode:Int) (hm0:0<=mode) (tV:mode<=4) (hN:Al w (.slice a la ca) X) (hD:Al w (.slice b lb cb) Y) (be:-9223372036854775808<=e/\e<=9223372036854775807) (bf:-9223372036854775808<=f/\f<=9223372036854775807)
 (o p:Option (Bool×Nat×Int)) (ho:mkS n X e=o) (hp:mkS m Y f=p) (er:Int) (her:mO X n e Y m f=er) (hne:er≠0) :
 Calls Tryz.prog 115 #[.agg #[.int .i64 dg,.int .i64 ls,.int .u64 (En:Nat)],.agg #[.bool n,.slice a la ca,.int .i64 e,.bool m,.slice b lb cb,.int .i64 f],.bool sq,.int .i64 mode] w fun r w'=>r=.returned (.tuple #[.int .u64 0,.bool false,.int .i64 er])/\Below w.heap.size w w':=by
 obtain ⟨W1,hW1⟩:=ah ((w.alloc (.cells #[.int .i64 dg,.int .i64 ls,.int .u64 (En:Nat)] 108)).alloc (.cells #[.bool n,.slice a la ca,.int .i64 e,.bool m,.slice b lb cb,.int .i64 f] 98));obtain ⟨hB,Z,QR⟩:=lK w dg ls En n _ e m _ f W1 hW1;obtain ⟨L1,hL1⟩:=ah (W1.alloc (.cells #[.bool n,.slice a la ca,.int .i64 e,.bool m,.slice b lb cb,.int .i64 f] 98));have hB2:Below W1.heap.size W1 L1:=by rw [hL1];exact af _ _
 have aF:=hB.trans (hB2.mono hB.size);have LQ:Rq L1 W1.heap.size n (.slice a la ca) e m (.slice b lb cb) f:=by rw [hL1];exact Rq.new _ _ _ _ _ _ _
 have HC:=hid (YM LQ (hN.below aF) (hD.below aF) be bf o p ho hp er her);have LL:Aside ((ws (dX o)).length<=8192/\(ws (dX p)).length<=8192):=ay ⟨by rw [<-ho];exact aS _ _ _,by rw [<-hp];exact aS _ _ _⟩;obtain ⟨x0,x1,x2,x3,x4,x5⟩:=QR.facts;have S0:=(bB aF (Z.below hB2));have d1:decide (mode<0)=false:=decide_eq_false ae;have d2:decide (4<mode)=false:=decide_eq_false ae;clear hB hB2 aF LQ Z QR hN hD be bf ho hp her hm0 tV;go_enter Tryz.func115,Tryz.ntmps115
 go_upto_region 1 with fail
 rw [<-hW1];clear hW1;go_wp2_with fail;rw [<-hL1];clear hL1 x0 x1 x2 x3 x4 x5;refine HC.o.mono ?_;rintro r u1 ⟨⟨v,rfl,hR⟩,hb⟩;have S9:=ay (S0.o.1.trans (hb.mono S0.o.1.size));have hne':(er != 0)=true:=by simpa using hne
 have hne2:(er==0)=false:=by simpa using hne
 clear hb hR HC S0 LL;go_wp2;exact aI (v:=.tuple #[.int .u64 0,.bool false,.int .i64 er]) (by simp [results,Tryz.results115,go_sem]) rfl ⟨rfl,S9.o⟩
theorem FT {w:World}{n m:Bool}{a b:Option Addr}{la ca lb cb X Y:Nat}{e f:Int}(dg ls:Int) (En:Nat) (sq:Bool) (mode:Int) (hm0:0<=mode) (tV:mode<=4) (hN:Al w (.slice a la ca) X) (hD:Al w (.slice b lb cb) Y) (be:-9223372036854775808<=e/\e<=9223372036854775807) (bf:-9223372036854775808<=f/\f<=9223372036854775807)
 (o p:Option (Bool×Nat×Int)) (ho:mkS n X e=o) (hp:mkS m Y f=p) (er:Int) (her:mO X n e Y m f=er) (h0:er=0) (Tx:sq=false\/dN o=false) (K:Nat)
 (HNb:Hid (∀ (u:World) (x y:Option Addr) (lx cx ly cy:Nat),Below w.heap.size w u->Al u (.slice x lx cx) (dX o)->Al u (.slice y ly cy) (dX p)->Calls Tryz.prog 166 #[.agg #[.int .i64 dg,.int .i64 ls,.int .u64 (En:Nat)],.agg #[.bool (dN o),.slice x lx cx,.int .i64 (dE o),.bool (dN p),.slice y ly cy,.int .i64 (dE p)],.bool sq,.int .i64 mode] u fun r w'=>r=.returned (.int .u64 (K:Nat))/\Below u.heap.size u w')) :
 Calls Tryz.prog 115 #[.agg #[.int .i64 dg,.int .i64 ls,.int .u64 (En:Nat)],.agg #[.bool n,.slice a la ca,.int .i64 e,.bool m,.slice b lb cb,.int .i64 f],.bool sq,.int .i64 mode] w fun r w'=>r=.returned (.tuple #[.int .u64 (K:Nat),.bool (dN o),.int .i64 0])/\Below w.heap.size w w':=by
 obtain ⟨W1,hW1⟩:=ah ((w.alloc (.cells #[.int .i64 dg,.int .i64 ls,.int .u64 (En:Nat)] 108)).alloc (.cells #[.bool n,.slice a la ca,.int .i64 e,.bool m,.slice b lb cb,.int .i64 f] 98));obtain ⟨hB,Z,QR⟩:=lK w dg ls En n _ e m _ f W1 hW1;obtain ⟨L1,hL1⟩:=ah (W1.alloc (.cells #[.bool n,.slice a la ca,.int .i64 e,.bool m,.slice b lb cb,.int .i64 f] 98));have hB2:Below W1.heap.size W1 L1:=by rw [hL1];exact af _ _
 have aF:=hB.trans (hB2.mono hB.size);have LQ:Rq L1 W1.heap.size n (.slice a la ca) e m (.slice b lb cb) f:=by rw [hL1];exact Rq.new _ _ _ _ _ _ _
 have HC:=hid (YM LQ (hN.below aF) (hD.below aF) be bf o p ho hp er her);have LL:Aside ((ws (dX o)).length<=8192/\(ws (dX p)).length<=8192):=ay ⟨by rw [<-ho];exact aS _ _ _,by rw [<-hp];exact aS _ _ _⟩;obtain ⟨x0,x1,x2,x3,x4,x5⟩:=QR.facts;have S0:=(bB aF (Z.below hB2));have d1:decide (mode<0)=false:=decide_eq_false ae;have d2:decide (4<mode)=false:=decide_eq_false ae;clear hB hB2 aF LQ Z QR hN hD be bf ho hp her hm0 tV;go_enter Tryz.func115,Tryz.ntmps115
 go_upto_region 1 with fail
 rw [<-hW1];clear hW1;go_wp2_with fail;rw [<-hL1];clear hL1 x0 x1 x2 x3 x4 x5;refine HC.o.mono ?_;rintro r u1 ⟨⟨v,rfl,hR⟩,hb⟩;obtain ⟨x,y,Ba,hx,hy⟩:=hR h0;subst h0;obtain ⟨gg,cap,rfl,hcap,hgg,c0,c1,c2,c3,c4,c5⟩:=Ba.ex;obtain ⟨q1,e1,rfl,-⟩:=hx.shape;obtain ⟨q2,e2,rfl,-⟩:=hy.shape;have S1:=(jE (S0.o.1.trans (hb.mono S0.o.1.size)) (S0.o.2.below hb) (hx.al' (dD LL.o.1 aO)) (hy.al' (dD LL.o.2 aO)) Ba hgg);clear hb hR HC S0 LL hx hy Ba hgg;obtain ⟨ng,Ql⟩:∃ z,dN o=z:=⟨_,rfl⟩;obtain ⟨z0,z1,z2⟩:=S1.o.2.1.facts;have T1:=hid (HNb.o u1 q1 q2 _ e1 _ e2 S1.o.1 S1.o.r2.1 S1.o.r3.1);have dr:Below u1.heap.size u1 u1.drew:=(ak _ _).drew;have T2:=hid (HNb.o u1.drew q1 q2 _ e1 _ e2 S1.o.1.drew (S1.o.r2.1.below dr) (S1.o.r3.1.below dr));have CC:=(Af c0 c1 c2 c3 c4 c5 z0 z1 z2);rw [Ql] at c0 T1 T2 Tx;have NG:=ay Ql;clear dr HNb Ql;rcases Tx with rfl|rfl
 · go_upto_region 8 with fail
   go_region_held3 (fun w'=>w'.cell? ⟨gg,0,none⟩=some (.bool ng)/\w'.cell? ⟨gg,1,none⟩=some (.slice q1 (ws (dX o)).length e1)/\w'.cell? ⟨gg,2,none⟩=some (.int .i64 (dE o))/\w'.cell? ⟨gg,3,none⟩=some (.bool (dN p))/\w'.cell? ⟨gg,4,none⟩=some (.slice q2 (ws (dX p)).length e2)/\w'.cell? ⟨gg,5,none⟩=some (.int .i64 (dE p))/\w'.cell? ⟨w.heap.size,0,none⟩=some (.int .i64 dg)/\w'.cell? ⟨w.heap.size,1,none⟩=some (.int .i64 ls)/\w'.cell? ⟨w.heap.size,2,none⟩=some (.int .u64 (En:Nat))) (go_keep) (first
    | (go_at_call 166
       first | with_reducible refine T1.o.mono ?_ | with_reducible refine T2.o.mono ?_
       rintro r v1 ⟨rfl,hb⟩;have hw:Below u1.heap.size u1 v1:=by first | exact hb | exact ((ak _ u1).drew).trans (hb.mono (aH _))
       have hcg:∀ i,v1.cell? ⟨gg,i,none⟩=u1.cell? ⟨gg,i,none⟩:=fun i=>hw.cell (p:=⟨gg,i,none⟩) S1.o.r5;have k0:v1.cell? ⟨gg,0,none⟩=some (.bool ng):=by rw [hcg,CC.o.1,NG.o]
       have k1:=(hcg 1).trans CC.o.2.1;have k2:=(hcg 2).trans CC.o.r2.1;have k3:=(hcg 3).trans CC.o.r3.1;have k4:=(hcg 4).trans CC.o.r4.1;have k5:=(hcg 5).trans CC.o.r5.1;obtain ⟨j0,j1,j2⟩:=(S1.o.2.1.below hw).facts;have S9:=ay (S1.o.1.trans (hw.mono S1.o.1.size))
       clear hb hw hcg)
    | fail)
   all_goals (
    go_wp2
    exact aI (v:=.tuple #[.int .u64 (K:Nat),.bool ng,.int .i64 0]) (by simp [results,Tryz.results115,go_sem]) rfl ⟨by rw [NG.o],S9.o⟩)
 · cases sq
   · go_upto_region 8 with fail
     go_region_held3 (fun w'=>w'.cell? ⟨gg,0,none⟩=some (.bool false)/\w'.cell? ⟨gg,1,none⟩=some (.slice q1 (ws (dX o)).length e1)/\w'.cell? ⟨gg,2,none⟩=some (.int .i64 (dE o))/\w'.cell? ⟨gg,3,none⟩=some (.bool (dN p))/\w'.cell? ⟨gg,4,none⟩=some (.slice q2 (ws (dX p)).length e2)/\w'.cell? ⟨gg,5,none⟩=some (.int .i64 (dE p))/\w'.cell? ⟨w.heap.size,0,none⟩=some (.int .i64 dg)/\w'.cell? ⟨w.heap.size,1,none⟩=some (.int .i64 ls)/\w'.cell? ⟨w.heap.size,2,none⟩=some (.int .u64 (En:Nat))) (go_keep) (first
      | (go_at_call 166
         first | with_reducible refine T1.o.mono ?_ | with_reducible refine T2.o.mono ?_
         rintro r v1 ⟨rfl,hb⟩;have hw:Below u1.heap.size u1 v1:=by first | exact hb | exact ((ak _ u1).drew).trans (hb.mono (aH _))
         have hcg:∀ i,v1.cell? ⟨gg,i,none⟩=u1.cell? ⟨gg,i,none⟩:=fun i=>hw.cell (p:=⟨gg,i,none⟩) S1.o.r5;have k0:v1.cell? ⟨gg,0,none⟩=some (.bool false):=by rw [hcg,CC.o.1,NG.o]
         have k1:=(hcg 1).trans CC.o.2.1;have k2:=(hcg 2).trans CC.o.r2.1;have k3:=(hcg 3).trans CC.o.r3.1;have k4:=(hcg 4).trans CC.o.r4.1;have k5:=(hcg 5).trans CC.o.r5.1;obtain ⟨j0,j1,j2⟩:=(S1.o.2.1.below hw).facts;have S9:=ay (S1.o.1.trans (hw.mono S1.o.1.size))
         clear hb hw hcg)
      | fail)
     all_goals (
      go_wp2
      exact aI (v:=.tuple #[.int .u64 (K:Nat),.bool false,.int .i64 0]) (by simp [results,Tryz.results115,go_sem]) rfl ⟨by rw [NG.o],S9.o⟩)
   · go_upto_region 8 with fail
     go_region_held3 (fun w'=>w'.cell? ⟨gg,0,none⟩=some (.bool false)/\w'.cell? ⟨gg,1,none⟩=some (.slice q1 (ws (dX o)).length e1)/\w'.cell? ⟨gg,2,none⟩=some (.int .i64 (dE o))/\w'.cell? ⟨gg,3,none⟩=some (.bool (dN p))/\w'.cell? ⟨gg,4,none⟩=some (.slice q2 (ws (dX p)).length e2)/\w'.cell? ⟨gg,5,none⟩=some (.int .i64 (dE p))/\w'.cell? ⟨w.heap.size,0,none⟩=some (.int .i64 dg)/\w'.cell? ⟨w.heap.size,1,none⟩=some (.int .i64 ls)/\w'.cell? ⟨w.heap.size,2,none⟩=some (.int .u64 (En:Nat))) (go_keep) (first
      | (go_at_call 166
         first | with_reducible refine T1.o.mono ?_ | with_reducible refine T2.o.mono ?_
         rintro r v1 ⟨rfl,hb⟩;have hw:Below u1.heap.size u1 v1:=by first | exact hb | exact ((ak _ u1).drew).trans (hb.mono (aH _))
         have hcg:∀ i,v1.cell? ⟨gg,i,none⟩=u1.cell? ⟨gg,i,none⟩:=fun i=>hw.cell (p:=⟨gg,i,none⟩) S1.o.r5;have k0:v1.cell? ⟨gg,0,none⟩=some (.bool false):=by rw [hcg,CC.o.1,NG.o]
         have k1:=(hcg 1).trans CC.o.2.1;have k2:=(hcg 2).trans CC.o.r2.1;have k3:=(hcg 3).trans CC.o.r3.1;have k4:=(hcg 4).trans CC.o.r4.1;have k5:=(hcg 5).trans CC.o.r5.1;obtain ⟨j0,j1,j2⟩:=(S1.o.2.1.below hw).facts;have S9:=ay (S1.o.1.trans (hw.mono S1.o.1.size))
         clear hb hw hcg)
      | fail)
     all_goals (
      go_wp2
      exact aI (v:=.tuple #[.int .u64 (K:Nat),.bool false,.int .i64 0]) (by simp [results,Tryz.results115,go_sem]) rfl ⟨by rw [NG.o],S9.o⟩)
theorem zY {w:World}{n m:Bool}{a b:Option Addr}{la ca lb cb:Nat}{e f:Int}(mode:Int) (k:Nat) (ng:Bool) (er:Int) (hk:k<9223372036854775808) (z:Nat) (hz:k+(if ng then 9223372036854775808 else 0)=z)
 (HR:Hid (∀ u:World,Below w.heap.size w u->Calls Tryz.prog 115 #[.agg #[.int .i64 53,.int .i64 (-1074),.int .u64 9218868437227405312],.agg #[.bool n,.slice a la ca,.int .i64 e,.bool m,.slice b lb cb,.int .i64 f],.bool false,.int .i64 mode] u fun r w'=>r=.returned (.tuple #[.int .u64 (k:Nat),.bool ng,.int .i64 er])/\Below u.heap.size u w')) :
 Calls Tryz.prog 79 #[.agg #[.bool n,.slice a la ca,.int .i64 e,.bool m,.slice b lb cb,.int .i64 f],.int .i64 mode] w fun r w'=>r=.returned (.tuple #[.float .f64 z,.int .i64 er])/\Below w.heap.size w w':=by
 obtain ⟨W1,hW1⟩:=ah (w.alloc (.cells #[.bool n,.slice a la ca,.int .i64 e,.bool m,.slice b lb cb,.int .i64 f] 98));have hB:Below w.heap.size w W1:=by rw [hW1];exact af _ _
 have R5:Rq W1 w.heap.size n (.slice a la ca) e m (.slice b lb cb) f:=by rw [hW1];exact Rq.new _ _ _ _ _ _ _
 obtain ⟨x0,x1,x2,x3,x4,x5⟩:=R5.facts;have S0:=(bB hB R5);have HWd:Hid (∀ u:World,Calls Tryz.prog 116 #[.int .u64 (k:Nat),.bool ng,.int .i64 er] u fun r w'=>r=.returned (.tuple #[.float .f64 z,.int .i64 er])/\w'=u):=hid fun u=>by have h:=FO k hk ng er u;rw [hz] at h;exact h
 clear hB R5 hk hz;go_enter Tryz.func79,Tryz.ntmps79
 go_upto_region 1 with fail
 rw [<-hW1];clear hW1;have T1:=hid (qA W1);have T2:=hid (qA W1.drew)
 go_region_held3 (fun w'=>w'.cell? ⟨w.heap.size,0,none⟩=some (.bool n)/\w'.cell? ⟨w.heap.size,1,none⟩=some (.slice a la ca)/\w'.cell? ⟨w.heap.size,2,none⟩=some (.int .i64 e)/\w'.cell? ⟨w.heap.size,3,none⟩=some (.bool m)/\w'.cell? ⟨w.heap.size,4,none⟩=some (.slice b lb cb)/\w'.cell? ⟨w.heap.size,5,none⟩=some (.int .i64 f)) (go_keep) (first
  | (go_at_call 91
     first | with_reducible refine T1.o.mono ?_ | with_reducible refine T2.o.mono ?_
     rintro r v1 ⟨rfl,hb⟩;have hw:Below W1.heap.size W1 v1:=by first | exact hb | exact ((ak _ W1).drew).trans (hb.mono (aH _))
     obtain ⟨m0,m1,m2,m3,m4,m5⟩:=(S0.o.2.below hw).facts;have T3:=hid (HR.o v1 (S0.o.1.trans (hw.mono S0.o.1.size)));have S4:=(bB (S0.o.1.trans (hw.mono S0.o.1.size)) (S0.o.2.below hw))
     clear hb hw)
  | (go_at_call 115
     with_reducible refine T3.o.mono ?_
     rintro r v2 ⟨rfl,hb⟩;obtain ⟨k0,k1,k2,k3,k4,k5⟩:=(S4.o.2.below hb).facts;have S5:=ay (S4.o.1.trans (hb.mono S4.o.1.size))
     clear hb))
 all_goals (
  go_wp2_with fail;refine (HWd.o _).mono ?_;rintro r v3 ⟨rfl,rfl⟩;go_wp2
  exact aI (v:=.tuple #[.float .f64 z,.int .i64 er]) (by simp [results,Tryz.results79,go_sem]) rfl ⟨rfl,S5.o⟩)
theorem Di {v:Nat->Nat}{top n S:Nat}(G:Ow v top) (hn:n≠0) (hS:0<S):iP v top n 0 true 0 0 S :=
 ⟨by have:=G.one;omega,hS,fun _=>by rw [G.zero,Nat.zero_pow ae,dZ],(fun h=>by cases h),(fun h=>by cases h),(fun h=>by cases h)⟩
theorem Sa (e f:Int) (u n:Nat):kK 0 e f u n=0:=by unfold kK;rw [dZ]
theorem Vv {Y:Nat}(h:Y≠0) (e f:Int) (u n:Nat):0<kL Y e f u n:=by unfold kL;exact jm ae (bK _)
theorem Ld {X:Nat}{n:Bool}{e:Int}{Y:Nat}{m:Bool}{f:Int}(h:mO X n e Y m f=0):(mkS n X e).isSome=true/\(mkS m Y f).isSome=true/\dX (mkS m Y f)≠0:=by
 unfold mO at h
 split at h
 · cases h
 · split at h
   · rename_i h2;rw [xu] at h2
     split at h
     · cases h
     · rename_i h3;exact ⟨h2.1,h2.2,h3⟩
   · cases h
theorem Sb {w:World}{n m:Bool}{a b:Option Addr}{la ca lb cb X Y:Nat}{e f:Int}(mode:Int) (hN:Al w (.slice a la ca) X) (hD:Al w (.slice b lb cb) Y) (be:-9223372036854775808<=e/\e<=9223372036854775807) (bf:-9223372036854775808<=f/\f<=9223372036854775807) :
 Calls Tryz.prog 79 #[.agg #[.bool n,.slice a la ca,.int .i64 e,.bool m,.slice b lb cb,.int .i64 f],.int .i64 mode] w fun r w'=>r=.returned (.tuple #[.float .f64 (oH jJ ⟨n,.slice a la ca,X,e,m,.slice b lb cb,Y,f⟩ mode).1,.int .i64 (oH jJ ⟨n,.slice a la ca,X,e,m,.slice b lb cb,Y,f⟩ mode).2])/\Below w.heap.size w w':=by
 by_cases hm:mode<0\/4<mode
 · have e1:oH jJ ⟨n,.slice a la ca,X,e,m,.slice b lb cb,Y,f⟩ mode=(0,1):=by unfold oH;rw [if_pos hm]
   rw [e1];exact zY mode 0 false 1 ae 0 rfl (hid fun u hu=>zX (X:=X) (Y:=Y) _ _ _ _ mode hm)
 · have hm0:0<=mode:=ae
   have tV:mode<=4:=ae
   have el:=vW ⟨n,.slice a la ca,X,e,m,.slice b lb cb,Y,f⟩
   by_cases h0:mO X n e Y m f=0
   · obtain ⟨s1,s2,hY⟩:=Ld h0;have F1:=rP s1;have F2:=rP s2;have ez:jZ (KG ⟨n,.slice a la ca,X,e,m,.slice b lb cb,Y,f⟩) 1=0:=el.trans h0
     obtain ⟨K,t,mm,L,hq⟩:∃ K t mm,iP vK 9218868437227405312 1 K t mm (kK (dX (mkS n X e)) (dE (mkS n X e)) (dE (mkS m Y f)) 1074 1) (kL (dX (mkS m Y f)) (dE (mkS n X e)) (dE (mkS m Y f)) 1074 1)/\jJ (kY (dN (mkS n X e)) (dX (mkS n X e)) (dE (mkS n X e)) (dX (mkS m Y f)) (dE (mkS m Y f))) mode=((if t then K else if kG mode K mm (dN (mkS n X e)) then K+1 else K)+(if (dN (mkS n X e)) then 9223372036854775808 else 0),0):=by
      rcases F1.odd with h|⟨h1,h2,h3⟩
      · obtain ⟨K,t,mm,L,hq⟩:=Tp (dN (mkS n X e)) (dX (mkS n X e)) (dE (mkS n X e)) (dX (mkS m Y f)) (dE (mkS m Y f)) h hY F1.size F2.size;exact ⟨K,t,mm,L,by have q:=hq mode hm0 tV;rw [q];rfl⟩
      · refine ⟨0,true,0,?_,?_⟩
        · rw [h1,Sa];exact Di pQ ae (Vv hY _ _ _ _)
        · rw [h1,tH _ _ _ _ hY F2.size];unfold jJ;rw [if_neg ae];simp [h2]
     have hfin:=L.fin
     have e1:oH jJ ⟨n,.slice a la ca,X,e,m,.slice b lb cb,Y,f⟩ mode=((if t then K else if kG mode K mm (dN (mkS n X e)) then K+1 else K)+(if dN (mkS n X e) then 9223372036854775808 else 0),0):=by
      unfold oH;simp only;rw [if_neg hm,if_pos ez];exact hq
     rw [e1];refine zY mode _ (dN (mkS n X e)) 0 (by split;omega;split <;> omega) _ rfl (hid fun u hu=>?_);refine FT _ _ _ _ mode hm0 tV (hN.below hu) (hD.below hu) be bf _ _ rfl rfl _ h0 rfl (.inl rfl) _ (hid fun x p q lx cx ly cy hx A1 A2=>?_);exact R8 R7 A1 A2 ⟨F1.down,F1.up⟩ ⟨F2.down,F2.up⟩ F2.size (.inl rfl) L false rfl mode hm0 tV
   · have ez:jZ (KG ⟨n,.slice a la ca,X,e,m,.slice b lb cb,Y,f⟩) 1=mO X n e Y m f:=el;have e1:oH jJ ⟨n,.slice a la ca,X,e,m,.slice b lb cb,Y,f⟩ mode=(0,mO X n e Y m f):=by unfold oH;rw [if_neg hm,if_neg (by rw [ez];exact h0),ez]
     rw [e1];exact zY mode 0 false _ ae 0 rfl (hid fun u hu=>Dh _ _ _ _ mode hm0 tV (hN.below hu) (hD.below hu) be bf _ _ rfl rfl _ rfl h0)
end
section
open Go Go.RowKit J
theorem wW (w:World) (a b:Option Addr) (ca cb:Nat) (o p q:Option (Bool×Nat×Int)) (F:Fm q)
 (HC:Hid (∀ u:World,Below w.heap.size w u->Calls Tryz.prog 80 #[.agg #[.bool (dN o),.slice a (ws (dX o)).length ca,.int .i64 (dE o)],.agg #[.bool (dN p),.slice b (ws (dX p)).length cb,.int .i64 (dE p)]] u fun r w'=>(∃ v,r=.returned (.tuple #[.agg #[.bool (dN q),v,.int .i64 (dE q)],.int .i64 0])/\Nt u.heap.size w' v (dX q))/\Below u.heap.size u w')) :
 Calls Tryz.prog 48 #[.agg #[.bool (dN o),.slice a (ws (dX o)).length ca,.int .i64 (dE o)],.agg #[.bool (dN p),.slice b (ws (dX p)).length cb,.int .i64 (dE p)]] w fun r w'=>dP 0 w' r q/\Below w.heap.size w w':=by
 obtain ⟨W,hW⟩:=ah (((w.alloc (Obj.cells #[.bool (dN o),.slice a (ws (dX o)).length ca,.int .i64 (dE o)] 62)).alloc (Obj.cells #[.bool (dN p),.slice b (ws (dX p)).length cb,.int .i64 (dE p)] 62)).alloc (Obj.cells #[.bool false,.slice none 0 0,.int .i64 0] 62))
 have H0:Aside (Dk W w.heap.size (dN o) (.slice a (ws (dX o)).length ca) (dE o)/\Dk W (w.heap.size+1) (dN p) (.slice b (ws (dX p)).length cb) (dE p)/\Lo W (w.heap.size+2) qO/\Below w.heap.size w W):=by
  subst hW;have z1:=Dk.new (w.alloc (Obj.cells #[.bool (dN o),.slice a (ws (dX o)).length ca,.int .i64 (dE o)] 62)) (dN p) (.slice b (ws (dX p)).length cb) (dE p);have z2:=Lo.zero ((w.alloc (Obj.cells #[.bool (dN o),.slice a (ws (dX o)).length ca,.int .i64 (dE o)] 62)).alloc (Obj.cells #[.bool (dN p),.slice b (ws (dX p)).length cb,.int .i64 (dE p)] 62));rw [iH] at z1;rw [iH,iH] at z2;exact ⟨((Dk.new _ _ _ _).below (af _ _)).below (af _ _),z1.below (af _ _),z2,((af _ _).trans ((af _ _).mono aW)).trans ((af _ _).mono (by simp;omega))⟩
 have HW:=ay hW;have zF:=hid (HC.o W H0.o.r3);have FF:=ay F;clear hW HC F;go_enter Tryz.func48,Tryz.ntmps48
 go_upto_region 1 with fail
 rw [<-HW.o];clear HW;obtain ⟨x0,x1,x2,dA,dB,dC⟩:=H0.o.1.facts;obtain ⟨y0,y1,y2,dw,cZ,df⟩:=H0.o.2.1.facts;go_wp2_with fail;refine zF.o.mono ?_;rintro r u ⟨⟨v,rfl,hN⟩,hb⟩;obtain ⟨a1,c1,rfl,hN0⟩:=Lo.shape FF.o hN;obtain ⟨U,hU⟩:=ah (u.alloc (Obj.cells #[.bool (dN q),.slice a1 (ws (dX q)).length c1,.int .i64 (dE q)] 62))
 have H1:Aside (Lo U (w.heap.size+2) qO/\Dk U u.heap.size (dN q) (.slice a1 (ws (dX q)).length c1) (dE q)/\Nt 0 U (.slice a1 (ws (dX q)).length c1) (dX q)/\Below w.heap.size w U):=by
  rw [hU];have b0:=H0.o.r3;exact ⟨(H0.o.r2.1.below hb).below (af _ _),Dk.new _ _ _ _,hN0.below (af _ _),(b0.trans (hb.mono b0.size)).trans ((af _ _).mono (dD b0.size hb.size))⟩
 obtain ⟨gq,qM⟩:=ah (u.heap.size);rw [<-qM] at H1;have HU:=(bB hU qM);clear hU hN hN0 hb zF H0 x0 x1 x2 dA dB dC y0 y1 y2 dw cZ df qM
 go_upto_region 2 with fail
 rw [<-HU.o.1,<-HU.o.2];clear HU;obtain ⟨x0,x1,x2,dA,dB,dC⟩:=H1.o.2.1.facts;obtain ⟨p4,q4,D4,M4⟩:=H1.o.1;obtain ⟨y0,y1,y2,dw,cZ,df⟩:=D4.facts;clear D4 M4;go_wp2;exact o8 Tryz.results48 rfl H1.o.1 H1.o.r3 ae H1.o.r2.1
theorem zZ (w:World) (a b:Option Addr) (ca cb:Nat) (o p q:Option (Bool×Nat×Int)) (F:Fm q)
 (HC:Hid (∀ u:World,Below w.heap.size w u->Calls Tryz.prog 93 #[.agg #[.bool (dN o),.slice a (ws (dX o)).length ca,.int .i64 (dE o)],.agg #[.bool (dN p),.slice b (ws (dX p)).length cb,.int .i64 (dE p)]] u fun r w'=>(∃ v,r=.returned (.tuple #[.agg #[.bool (dN q),v,.int .i64 (dE q)],.int .i64 0])/\Nt u.heap.size w' v (dX q))/\Below u.heap.size u w')) :
 Calls Tryz.prog 56 #[.agg #[.bool (dN o),.slice a (ws (dX o)).length ca,.int .i64 (dE o)],.agg #[.bool (dN p),.slice b (ws (dX p)).length cb,.int .i64 (dE p)]] w fun r w'=>dP 0 w' r q/\Below w.heap.size w w':=by
 obtain ⟨W,hW⟩:=ah (((w.alloc (Obj.cells #[.bool (dN o),.slice a (ws (dX o)).length ca,.int .i64 (dE o)] 62)).alloc (Obj.cells #[.bool (dN p),.slice b (ws (dX p)).length cb,.int .i64 (dE p)] 62)).alloc (Obj.cells #[.bool false,.slice none 0 0,.int .i64 0] 62))
 have H0:Aside (Dk W w.heap.size (dN o) (.slice a (ws (dX o)).length ca) (dE o)/\Dk W (w.heap.size+1) (dN p) (.slice b (ws (dX p)).length cb) (dE p)/\Lo W (w.heap.size+2) qO/\Below w.heap.size w W):=by
  subst hW;have z1:=Dk.new (w.alloc (Obj.cells #[.bool (dN o),.slice a (ws (dX o)).length ca,.int .i64 (dE o)] 62)) (dN p) (.slice b (ws (dX p)).length cb) (dE p);have z2:=Lo.zero ((w.alloc (Obj.cells #[.bool (dN o),.slice a (ws (dX o)).length ca,.int .i64 (dE o)] 62)).alloc (Obj.cells #[.bool (dN p),.slice b (ws (dX p)).length cb,.int .i64 (dE p)] 62));rw [iH] at z1;rw [iH,iH] at z2;exact ⟨((Dk.new _ _ _ _).below (af _ _)).below (af _ _),z1.below (af _ _),z2,((af _ _).trans ((af _ _).mono aW)).trans ((af _ _).mono (by simp;omega))⟩
 have HW:=ay hW;have zF:=hid (HC.o W H0.o.r3);have FF:=ay F;clear hW HC F;go_enter Tryz.func56,Tryz.ntmps56
 go_upto_region 1 with fail
 rw [<-HW.o];clear HW;obtain ⟨x0,x1,x2,dA,dB,dC⟩:=H0.o.1.facts;obtain ⟨y0,y1,y2,dw,cZ,df⟩:=H0.o.2.1.facts;go_wp2_with fail;refine zF.o.mono ?_;rintro r u ⟨⟨v,rfl,hN⟩,hb⟩;obtain ⟨a1,c1,rfl,hN0⟩:=Lo.shape FF.o hN;obtain ⟨U,hU⟩:=ah (u.alloc (Obj.cells #[.bool (dN q),.slice a1 (ws (dX q)).length c1,.int .i64 (dE q)] 62))
 have H1:Aside (Lo U (w.heap.size+2) qO/\Dk U u.heap.size (dN q) (.slice a1 (ws (dX q)).length c1) (dE q)/\Nt 0 U (.slice a1 (ws (dX q)).length c1) (dX q)/\Below w.heap.size w U):=by
  rw [hU];have b0:=H0.o.r3;exact ⟨(H0.o.r2.1.below hb).below (af _ _),Dk.new _ _ _ _,hN0.below (af _ _),(b0.trans (hb.mono b0.size)).trans ((af _ _).mono (dD b0.size hb.size))⟩
 obtain ⟨gq,qM⟩:=ah (u.heap.size);rw [<-qM] at H1;have HU:=(bB hU qM);clear hU hN hN0 hb zF H0 x0 x1 x2 dA dB dC y0 y1 y2 dw cZ df qM
 go_upto_region 2 with fail
 rw [<-HU.o.1,<-HU.o.2];clear HU;obtain ⟨x0,x1,x2,dA,dB,dC⟩:=H1.o.2.1.facts;obtain ⟨p4,q4,D4,M4⟩:=H1.o.1;obtain ⟨y0,y1,y2,dw,cZ,df⟩:=D4.facts;clear D4 M4;go_wp2;exact o8 Tryz.results56 rfl H1.o.1 H1.o.r3 ae H1.o.r2.1
theorem wX (w:World) (a b:Option Addr) (ca cb:Nat) (o p q:Option (Bool×Nat×Int)) (F:Fm q)
 (HC:Hid (∀ u:World,Below w.heap.size w u->Calls Tryz.prog 81 #[.agg #[.bool (dN o),.slice a (ws (dX o)).length ca,.int .i64 (dE o)],.agg #[.bool (dN p),.slice b (ws (dX p)).length cb,.int .i64 (dE p)]] u fun r w'=>(∃ v,r=.returned (.tuple #[.agg #[.bool (dN q),v,.int .i64 (dE q)],.int .i64 0])/\Nt u.heap.size w' v (dX q))/\Below u.heap.size u w')) :
 Calls Tryz.prog 49 #[.agg #[.bool (dN o),.slice a (ws (dX o)).length ca,.int .i64 (dE o)],.agg #[.bool (dN p),.slice b (ws (dX p)).length cb,.int .i64 (dE p)]] w fun r w'=>dP 0 w' r q/\Below w.heap.size w w':=by
 obtain ⟨W,hW⟩:=ah (((w.alloc (Obj.cells #[.bool (dN o),.slice a (ws (dX o)).length ca,.int .i64 (dE o)] 62)).alloc (Obj.cells #[.bool (dN p),.slice b (ws (dX p)).length cb,.int .i64 (dE p)] 62)).alloc (Obj.cells #[.bool false,.slice none 0 0,.int .i64 0] 62))
 have H0:Aside (Dk W w.heap.size (dN o) (.slice a (ws (dX o)).length ca) (dE o)/\Dk W (w.heap.size+1) (dN p) (.slice b (ws (dX p)).length cb) (dE p)/\Lo W (w.heap.size+2) qO/\Below w.heap.size w W):=by
  subst hW;have z1:=Dk.new (w.alloc (Obj.cells #[.bool (dN o),.slice a (ws (dX o)).length ca,.int .i64 (dE o)] 62)) (dN p) (.slice b (ws (dX p)).length cb) (dE p);have z2:=Lo.zero ((w.alloc (Obj.cells #[.bool (dN o),.slice a (ws (dX o)).length ca,.int .i64 (dE o)] 62)).alloc (Obj.cells #[.bool (dN p),.slice b (ws (dX p)).length cb,.int .i64 (dE p)] 62));rw [iH] at z1;rw [iH,iH] at z2;exact ⟨((Dk.new _ _ _ _).below (af _ _)).below (af _ _),z1.below (af _ _),z2,((af _ _).trans ((af _ _).mono aW)).trans ((af _ _).mono (by simp;omega))⟩
 have HW:=ay hW;have zF:=hid (HC.o W H0.o.r3);have FF:=ay F;clear hW HC F;go_enter Tryz.func49,Tryz.ntmps49
 go_upto_region 1 with fail
 rw [<-HW.o];clear HW;obtain ⟨x0,x1,x2,dA,dB,dC⟩:=H0.o.1.facts;obtain ⟨y0,y1,y2,dw,cZ,df⟩:=H0.o.2.1.facts;go_wp2_with fail;refine zF.o.mono ?_;rintro r u ⟨⟨v,rfl,hN⟩,hb⟩;obtain ⟨a1,c1,rfl,hN0⟩:=Lo.shape FF.o hN;obtain ⟨U,hU⟩:=ah (u.alloc (Obj.cells #[.bool (dN q),.slice a1 (ws (dX q)).length c1,.int .i64 (dE q)] 62))
 have H1:Aside (Lo U (w.heap.size+2) qO/\Dk U u.heap.size (dN q) (.slice a1 (ws (dX q)).length c1) (dE q)/\Nt 0 U (.slice a1 (ws (dX q)).length c1) (dX q)/\Below w.heap.size w U):=by
  rw [hU];have b0:=H0.o.r3;exact ⟨(H0.o.r2.1.below hb).below (af _ _),Dk.new _ _ _ _,hN0.below (af _ _),(b0.trans (hb.mono b0.size)).trans ((af _ _).mono (dD b0.size hb.size))⟩
 obtain ⟨gq,qM⟩:=ah (u.heap.size);rw [<-qM] at H1;have HU:=(bB hU qM);clear hU hN hN0 hb zF H0 x0 x1 x2 dA dB dC y0 y1 y2 dw cZ df qM
 go_upto_region 2 with fail
 rw [<-HU.o.1,<-HU.o.2];clear HU;obtain ⟨x0,x1,x2,dA,dB,dC⟩:=H1.o.2.1.facts;obtain ⟨p4,q4,D4,M4⟩:=H1.o.1;obtain ⟨y0,y1,y2,dw,cZ,df⟩:=D4.facts;clear D4 M4;go_wp2;exact o8 Tryz.results49 rfl H1.o.1 H1.o.r3 ae H1.o.r2.1
theorem Vw {U:World}{a b:Option Addr}{c d:Nat}{o p q:Option (Bool×Nat×Int)}(F:Fm o) (G:Fm p) (N1:Nt 0 U (.slice a (ws (dX o)).length c) (dX o)) (N2:Nt 0 U (.slice b (ws (dX p)).length d) (dX p)) (h:fQ o (mkS (!dN p) (dX p) (dE p))=q) (H:Fm q) :
 Calls Tryz.prog 81 #[.agg #[.bool (dN o),.slice a (ws (dX o)).length c,.int .i64 (dE o)],.agg #[.bool (dN p),.slice b (ws (dX p)).length d,.int .i64 (dE p)]] U fun r w'=>(∃ v,r=.returned (.tuple #[.agg #[.bool (dN q),v,.int .i64 (dE q)],.int .i64 0])/\Nt U.heap.size w' v (dX q))/\Below U.heap.size U w':=by
 have:=Kg (F.a12 N1) (G.a12 N2) F.two G.two (dN o) (dN p) (dE o) (dE p) F.pM.1 F.pM.2 G.pM.1 G.pM.2;rw [ax,ax,F.re,h] at this;unfold di at this;rw [H.er] at this;exact this
theorem eG {w:World}{a b:Option Addr}{ca cb:Nat}{o p q:Option (Bool×Nat×Int)}(F:Fm o) (G:Fm p) (H:Fm q) (N1:Nt 0 w (.slice a (ws (dX o)).length ca) (dX o)) (N2:Nt 0 w (.slice b (ws (dX p)).length cb) (dX p)) (h:eY o p=q) :
 Calls Tryz.prog 48 #[.agg #[.bool (dN o),.slice a (ws (dX o)).length ca,.int .i64 (dE o)],.agg #[.bool (dN p),.slice b (ws (dX p)).length cb,.int .i64 (dE p)]] w fun r w'=>dP 0 w' r q/\Below w.heap.size w w' :=
 wW w a b ca cb o p q H (hid fun u hu=>UO F G (N1.below hu) (N2.below hu) h H)
theorem qL {w:World}{a b:Option Addr}{ca cb:Nat}{o p q:Option (Bool×Nat×Int)}(F:Fm o) (G:Fm p) (H:Fm q) (N1:Nt 0 w (.slice a (ws (dX o)).length ca) (dX o)) (N2:Nt 0 w (.slice b (ws (dX p)).length cb) (dX p)) (h:fQ o p=q) :
 Calls Tryz.prog 56 #[.agg #[.bool (dN o),.slice a (ws (dX o)).length ca,.int .i64 (dE o)],.agg #[.bool (dN p),.slice b (ws (dX p)).length cb,.int .i64 (dE p)]] w fun r w'=>dP 0 w' r q/\Below w.heap.size w w' :=
 zZ w a b ca cb o p q H (hid fun u hu=>UQ F G (N1.below hu) (N2.below hu) h H)
theorem lN {w:World}{a b:Option Addr}{ca cb:Nat}{o p q:Option (Bool×Nat×Int)}(F:Fm o) (G:Fm p) (H:Fm q) (N1:Nt 0 w (.slice a (ws (dX o)).length ca) (dX o)) (N2:Nt 0 w (.slice b (ws (dX p)).length cb) (dX p)) (h:fQ o (mkS (!dN p) (dX p) (dE p))=q) :
 Calls Tryz.prog 49 #[.agg #[.bool (dN o),.slice a (ws (dX o)).length ca,.int .i64 (dE o)],.agg #[.bool (dN p),.slice b (ws (dX p)).length cb,.int .i64 (dE p)]] w fun r w'=>dP 0 w' r q/\Below w.heap.size w w' :=
 wX w a b ca cb o p q H (hid fun u hu=>Vw F G (N1.below hu) (N2.below hu) h H)
theorem Nt.YN {lo:Nat}{w:World}{v:Value}{o:Option (Bool×Nat×Int)}(h:Nt lo w v (dX o)) (F:Fm o):Al w v (dX o):=by
 have:=F.len;obtain ⟨a,c,rfl,hA⟩:=h.arg ae;exact ⟨a,_,c,_,rfl,hA,ax _,ae⟩
theorem Sc {u:World}{a b:Option Addr}{ca cb:Nat}{V D:Option (Bool×Nat×Int)}(mode:Int) (FV:Fm V) (FD:Fm D) (n1:Nt 0 u (.slice a (ws (dX V)).length ca) (dX V)) (n2:Nt 0 u (.slice b (ws (dX D)).length cb) (dX D)) :
 Calls Tryz.prog 79 #[.agg #[.bool (dN V),.slice a (ws (dX V)).length ca,.int .i64 (dE V),.bool (dN D),.slice b (ws (dX D)).length cb,.int .i64 (dE D)],.int .i64 mode] u fun r w'=>r=.returned (.tuple #[.float .f64 (iC V D mode).1,.int .i64 (iC V D mode).2])/\Below u.heap.size u w' :=
 Sb (w:=u) (n:=dN V) (m:=dN D) (X:=dX V) (Y:=dX D) (e:=dE V) (f:=dE D) mode (n1.YN FV) (n2.YN FD) FV.pM FD.pM
theorem Ij {w:World}{a b:Option Addr}{ca cb:Nat}{V D:Option (Bool×Nat×Int)}(mode:Int) (FV:Fm V) (FD:Fm D) (N1:Nt 0 w (.slice a (ws (dX V)).length ca) (dX V)) (N2:Nt 0 w (.slice b (ws (dX D)).length cb) (dX D)) :
 Calls Tryz.prog 46 #[.agg #[.bool (dN V),.slice a (ws (dX V)).length ca,.int .i64 (dE V)],.agg #[.bool (dN D),.slice b (ws (dX D)).length cb,.int .i64 (dE D)],.int .i64 mode] w fun r w'=>r=.returned (.float .f64 (iC V D mode).1)/\Below w.heap.size w w':=by
 obtain ⟨W,hW⟩:=ah ((w.alloc (Obj.cells #[.bool (dN V),.slice a (ws (dX V)).length ca,.int .i64 (dE V)] 62)).alloc (Obj.cells #[.bool (dN D),.slice b (ws (dX D)).length cb,.int .i64 (dE D)] 62))
 have H0:Aside (Dk W w.heap.size (dN V) (.slice a (ws (dX V)).length ca) (dE V)/\Dk W (w.heap.size+1) (dN D) (.slice b (ws (dX D)).length cb) (dE D)/\Below w.heap.size w W):=by
  subst hW;have z1:=Dk.new (w.alloc (Obj.cells #[.bool (dN V),.slice a (ws (dX V)).length ca,.int .i64 (dE V)] 62)) (dN D) (.slice b (ws (dX D)).length cb) (dE D);rw [iH] at z1;exact ⟨(Dk.new _ _ _ _).below (af _ _),z1,(af _ _).trans ((af _ _).mono aW)⟩
 have HC:=hid (Sc mode FV FD (N1.below H0.o.r2) (N2.below H0.o.r2));have HW:=ay hW;obtain ⟨Q,hQ⟩:=ah (iC V D mode);rw [<-hQ] at HC |-;clear hW hQ FV FD N1 N2;go_enter Tryz.func46,Tryz.ntmps46
 go_upto_region 1 with fail
 rw [<-HW.o];clear HW;obtain ⟨x0,x1,x2,dA,dB,dC⟩:=H0.o.1.facts;obtain ⟨y0,y1,y2,dw,cZ,df⟩:=H0.o.2.1.facts;go_wp2_with fail;refine HC.o.mono ?_;rintro r u ⟨rfl,hb⟩;have BE:=ay (H0.o.r2.trans (hb.mono H0.o.r2.size));clear hb HC H0 x0 x1 x2 dA dB dC y0 y1 y2 dw cZ df;go_wp2;exact aI (v:=.float .f64 Q.1) (by simp [results,Tryz.results46,go_sem]) rfl ⟨rfl,BE.o⟩
theorem Ph {x:Nat}(hx:x<18446744073709551616) (w:World):Calls Tryz.prog 54 #[.float .f64 x] w fun r w'=>(∃ c:Int,r=.returned (.int .i64 c)/\decide (2<c)=!decide (eu x<9218868437227405312))/\Below w.heap.size w w':=by
 have hm:eu x<9223372036854775808:=jl _ aO
 have e:B.bw (iO x) (eu x/4503599627370496) (eu x%4503599627370496)=x:=by
  have h1:eu x=x%9223372036854775808:=rfl;unfold B.bw
  by_cases h:9223372036854775808<=x
  · rw [show iO x=true from decide_eq_true h];simp only [jc];omega
  · rw [show iO x=false from decide_eq_false h];simp only [jd];omega
 have:=B.EF (iO x) (eu x/4503599627370496) (eu x%4503599627370496) ae ae w;rw [e] at this;refine this.mono ?_;rintro r w' ⟨rfl,hb⟩;refine ⟨⟨_,rfl,?_⟩,hb⟩;unfold B.cls
 by_cases q:eu x<9218868437227405312
 · rw [decide_eq_true q,if_neg ae]
   split
   · split <;> rfl
   · rfl
 · rw [decide_eq_false q,if_pos ae]
   split <;> rfl
theorem Sd (xs:List Nat) (k:Nat) (hk:k<xs.length):oI (xs.take (k+1))=(oI (xs.take k)&&decide (eu (xs.getD k 0)<9218868437227405312)):=by
 unfold oI;rw [nJ xs k hk,List.all_append];simp
theorem Sg (xs:List Nat) (k:Nat) (h:oI (xs.take k)=false):oI xs=false:=by
 unfold oI at h |-;rw [List.all_eq_false] at h |-;obtain ⟨x,hx,q⟩:=h;exact ⟨x,kr hx,q⟩
theorem Pj (xs:List Nat) (ao:Option Addr) (n cap:Nat) (w:World) (hF:Fs w.heap.size w ao xs) (hn:n=xs.length) (hb:n<=65536) (hW:iZ xs) :
 Calls Tryz.prog 78 #[.slice ao n cap] w fun r w'=>r=.returned (.bool (!oI xs))/\Below w.heap.size w w':=by
 have HX:=(fB hn hF hW);obtain ⟨Z,hZ⟩:=ah (!oI xs);rw [<-hZ];have HZ:=ay hZ;clear hn hF hW hZ;go_enter Tryz.func78,Tryz.ntmps78;go_wp2
 go_loopg [3] n (fun gk iv wr=>∃ k:Nat,gk+k=n/\iv=.int .i64 (k:Nat)/\Aside (oI (xs.take k)=true/\Below w.heap.size w wr))
 case atStart=>exact ⟨0,ae,aW,by simp [oI],ak _ _⟩
 case round =>
  obtain ⟨k,wD,rfl,HA⟩:=hrel
  by_cases hk:k<n
  · have hkx:k<xs.length:=by have:=HX.o.1;omega
    obtain ⟨b,off,rfl,hc⟩:=HX.o.2.1.at HA.o.2 k hkx;have ht:=Sd xs k hkx;have hx:=HX.o.r2.get k;obtain ⟨x,fH⟩:=ah (xs.getD k 0);rw [<-fH] at hc ht hx;have D:=hid (Ph hx wr);have HT:=ay ht;have hkb:k<4611686018427387904:=ae
    clear ht hx fH hkx;go_wp2_with fail;refine D.o.mono ?_;rintro r v ⟨⟨c,rfl,hcl⟩,hv⟩;have HB:=ay (HA.o.2.trans (hv.mono HA.o.2.size));have HF:=ay HA.o.1;have HC:=ay hcl;clear D hv HA
    by_cases h3:2<c
    · have d3:decide ((2:Int)<c)=true:=decide_eq_true h3
      have hz:Z=true:=by
       have h1:=HC.o;rw [d3] at h1;have h2:=HT.o;have h4:decide (eu x<9218868437227405312)=false:=by cases h5:decide (eu x<9218868437227405312) with | false=>rfl | true=>rw [h5] at h1;cases h1
       rw [h4,Bool.and_false] at h2;rw [HZ.o,Sg xs _ h2];rfl
      subst hz;clear h3 hcl;go_wp2;exact aI (v:=.bool true) (by simp [results,Tryz.results78,go_sem]) rfl ⟨rfl,HB.o⟩
    · have d3:decide ((2:Int)<c)=false:=decide_eq_false h3
      have HK:Aside (oI (xs.take (k+1))=true):=by
       have h1:=HC.o;rw [d3] at h1;have h4:decide (eu x<9218868437227405312)=true:=by cases h5:decide (eu x<9218868437227405312) with | true=>rfl | false=>rw [h5] at h1;cases h1
       refine ay ?_;rw [HT.o,HF.o,h4];rfl
      clear h3 hcl;go_wp2;go_roundg (gk-1)
      case measure=>omega
      case rel=>exact ⟨k+1,ae,by first | rfl | simp,HK.o,HB.o⟩
  · obtain rfl:k=n:=ae
    have hd:¬ k<k:=ae
    have hz:Z=false:=by
     have h1:=HA.o.1;rw [eF (by have:=HX.o.1;omega)] at h1;rw [HZ.o,h1];rfl
    subst hz;go_wp2;exact aI (v:=.bool false) (by simp [results,Tryz.results78,go_sem]) rfl ⟨rfl,HA.o.2⟩
theorem FU (xs ys:List Nat) (a b:Option Addr) (n m c d:Nat) (mode:Int) (least:Nat) (w:World) (hn:n=xs.length) (hm:m=ys.length) (hll:least<=2)
 (hF:Fs w.heap.size w a xs) (hG:Fs w.heap.size w b ys) (hW:iZ xs) (hV:iZ ys) :
 Calls Tryz.prog 41 #[.slice a n c,.slice b m d,.int .i64 mode,.int .i64 (least:Nat)] w fun r w'=>r=.returned (.int .i64 (rU xs ys [] mode least))/\Below w.heap.size w w':=by
 obtain ⟨E,hE⟩:=ah (rU xs ys [] mode least);rw [<-hE];unfold rU at hE;rw [<-hn,<-hm] at hE
 by_cases h1:mode<0\/4<mode
 · rw [if_pos h1] at hE;subst hE;clear hn hm hF hG hW hV;rcases Int.lt_or_le mode 0 with q|q
   · have h2:decide (mode<0)=true:=decide_eq_true q;go_enter Tryz.func41,Tryz.ntmps41;go_wp2;exact aI (v:=.int .i64 1) (by simp [results,Tryz.results41,go_sem]) rfl ⟨rfl,ak _ _⟩
   · have h2:decide (mode<0)=false:=decide_eq_false ae;have h3:decide (4<mode)=true:=decide_eq_true ae;go_enter Tryz.func41,Tryz.ntmps41;go_wp2;exact aI (v:=.int .i64 1) (by simp [results,Tryz.results41,go_sem]) rfl ⟨rfl,ak _ _⟩
 rw [if_neg h1] at hE;have m0:decide (mode<0)=false:=decide_eq_false ae;have m4:decide (4<mode)=false:=decide_eq_false ae
 by_cases h2:65536<n\/65536<m
 · rw [if_pos h2] at hE;subst hE;clear hn hm hF hG hW hV;rcases mH 65536 n with q|q
   · have h3:decide ((65536:Int)<(n:Int))=true:=decide_eq_true ae;go_enter Tryz.func41,Tryz.ntmps41;go_wp2;exact aI (v:=.int .i64 2) (by simp [results,Tryz.results41,go_sem]) rfl ⟨rfl,ak _ _⟩
   · have h3:decide ((65536:Int)<(n:Int))=false:=decide_eq_false ae;have h4:decide ((65536:Int)<(m:Int))=true:=decide_eq_true ae;go_enter Tryz.func41,Tryz.ntmps41;go_wp2;exact aI (v:=.int .i64 2) (by simp [results,Tryz.results41,go_sem]) rfl ⟨rfl,ak _ _⟩
 rw [if_neg h2] at hE;have n6:decide ((65536:Int)<(n:Int))=false:=decide_eq_false ae;have n7:decide ((65536:Int)<(m:Int))=false:=decide_eq_false ae
 by_cases h3:n=m
 · rw [if_neg (by simpa using h3)] at hE;have C1:Hid (∀ u:World,Below w.heap.size w u->Calls Tryz.prog 78 #[.slice a n c] u fun r w'=>r=.returned (.bool (!oI xs))/\Below u.heap.size u w'):=fun u hu=>Pj xs a n c u ((hF.below hu).mono hu.size) hn ae hW;have C2:Hid (∀ u:World,Below w.heap.size w u->Calls Tryz.prog 78 #[.slice b m d] u fun r w'=>r=.returned (.bool (!oI ys))/\Below u.heap.size u w'):=fun u hu=>Pj ys b m d u ((hG.below hu).mono hu.size) hm ae hV;clear hn hm hF hG hW hV;subst h3;have hz:=ay hE;clear hE h1 h2;have hlt:decide ((n:Int)<(least:Int))=decide (n<least):=by simp
   have fe:oI []=true:=rfl;have D1:=hid (C1.o w (ak _ _));clear C1;go_enter Tryz.func41,Tryz.ntmps41;go_wp2_with fail;refine D1.o.mono ?_;rintro r u ⟨rfl,hb⟩;have HB:=ay hb;have D2:=hid (C2.o u hb);clear hb D1 C2;go_wp2_with fail;refine D2.o.mono ?_;rintro r u2 ⟨rfl,hb⟩;have HB2:=ay (HB.o.trans (hb.mono HB.o.size));clear hb D2 HB
   cases f1:oI xs with
   | false =>
     have hE:=hz.o;rw [f1,xC,xC,if_pos rfl] at hE;subst hE;clear hz f1 fe;go_wp2;exact aI (v:=.int .i64 30) (by simp [results,Tryz.results41,go_sem]) rfl ⟨rfl,HB2.o⟩
   | true =>
   cases f2:oI ys with
   | false =>
     have hE:=hz.o;rw [f1,f2,xD,xC,if_pos rfl] at hE;subst hE;clear hz f1 f2 fe;go_wp2;exact aI (v:=.int .i64 30) (by simp [results,Tryz.results41,go_sem]) rfl ⟨rfl,HB2.o⟩
   | true =>
     have hE:=hz.o;rw [f1,f2,fe,xD,xD,if_neg aO] at hE;clear hz f1 f2 fe
     by_cases hq:n<least
     · rw [if_pos hq] at hE;subst hE;rw [decide_eq_true hq] at hlt;go_wp2;exact aI (v:=.int .i64 3) (by simp [results,Tryz.results41,go_sem]) rfl ⟨rfl,HB2.o⟩
     · rw [if_neg hq] at hE;subst hE;rw [decide_eq_false hq] at hlt;go_wp2;exact aI (v:=.int .i64 0) (by simp [results,Tryz.results41,go_sem]) rfl ⟨rfl,HB2.o⟩
 · rw [if_pos h3] at hE;subst hE;have h4:((n:Int)==(m:Int))=false:=by simp;omega
   clear hn hm hF hG hW hV;go_enter Tryz.func41,Tryz.ntmps41;go_wp2;exact aI (v:=.int .i64 4) (by simp [results,Tryz.results41,go_sem]) rfl ⟨rfl,ak _ _⟩
theorem Lo.lT {v v':World}{g g' T:Nat}{o:Option (Bool×Nat×Int)}{L:List Value}(h:Lo v g o) (hb:But g' v v') (hB:Bl v g' T L) (hT:T≠147) (hg:g≠g'):Lo v' g o:=by
 obtain ⟨a,c,hD,hN⟩:=h;exact ⟨a,c,by unfold Dk;rw [hb.block _ hD.lt hg];exact hD,hN.off hb (hN.bU hT hB)⟩
def Sm (v:World) (g n:Nat) (oX oY aL aK aM:Option (Bool×Nat×Int)):Prop:=∃ a1 c1 a2 c2 a3 c3 a4 c4 a5 c5,Bl v g 70 [.int .i64 (n:Nat),.bool (dN oX),.slice a1 (ws (dX oX)).length c1,.int .i64 (dE oX),.bool (dN oY),.slice a2 (ws (dX oY)).length c2,.int .i64 (dE oY),.bool (dN aL),.slice a3 (ws (dX aL)).length c3,.int .i64 (dE aL),.bool (dN aK),.slice a4 (ws (dX aK)).length c4,.int .i64 (dE aK),.bool (dN aM),.slice a5 (ws (dX aM)).length c5,.int .i64 (dE aM)]/\Nt 0 v (.slice a1 (ws (dX oX)).length c1) (dX oX)/\Nt 0 v (.slice a2 (ws (dX oY)).length c2) (dX oY)/\Nt 0 v (.slice a3 (ws (dX aL)).length c3) (dX aL)/\Nt 0 v (.slice a4 (ws (dX aK)).length c4) (dX aK)/\Nt 0 v (.slice a5 (ws (dX aM)).length c5) (dX aM)
theorem Sm.lt {v:World}{g n:Nat}{oX oY aL aK aM:Option (Bool×Nat×Int)}(h:Sm v g n oX oY aL aK aM):g<v.heap.size:=by
 obtain ⟨a1,c1,a2,c2,a3,c3,a4,c4,a5,c5,hB,_⟩:=h;exact hB.lt
theorem Sm.below {v u:World}{g n:Nat}{oX oY aL aK aM:Option (Bool×Nat×Int)}(h:Sm v g n oX oY aL aK aM) (hb:Below v.heap.size v u):Sm u g n oX oY aL aK aM:=by
 obtain ⟨a1,c1,a2,c2,a3,c3,a4,c4,a5,c5,hB,n1,n2,n3,n4,n5⟩:=h;exact ⟨a1,c1,a2,c2,a3,c3,a4,c4,a5,c5,hB.below hb hB.lt,n1.below hb,n2.below hb,n3.below hb,n4.below hb,n5.below hb⟩
theorem Sm.set0 {v:World}{g n:Nat}{oX oY aL aK aM o:Option (Bool×Nat×Int)}{a:Option Addr}{c:Nat}(h:Sm v g n oX oY aL aK aM) (hN:Nt 0 v (.slice a (ws (dX o)).length c) (dX o)):Sm (((v.setCell ⟨g,1,none⟩ (.bool (dN o))).setCell ⟨g,2,none⟩ (.slice a (ws (dX o)).length c)).setCell ⟨g,3,none⟩ (.int .i64 (dE o))) g n o oY aL aK aM/\But g v (((v.setCell ⟨g,1,none⟩ (.bool (dN o))).setCell ⟨g,2,none⟩ (.slice a (ws (dX o)).length c)).setCell ⟨g,3,none⟩ (.int .i64 (dE o))):=by
 obtain ⟨a1,c1,a2,c2,a3,c3,a4,c4,a5,c5,hB,n1,n2,n3,n4,n5⟩:=h;have hbt:But g v (((v.setCell ⟨g,1,none⟩ (.bool (dN o))).setCell ⟨g,2,none⟩ (.slice a (ws (dX o)).length c)).setCell ⟨g,3,none⟩ (.int .i64 (dE o))):=(((But.refl g v).set 1 _).set 2 _).set 3 _;refine ⟨⟨a,c,a2,c2,a3,c3,a4,c4,a5,c5,((hB.set 1 _).set 2 _).set 3 _,hN.off hbt (hN.bU aO hB),n2.off hbt (n2.bU aO hB),n3.off hbt (n3.bU aO hB),n4.off hbt (n4.bU aO hB),n5.off hbt (n5.bU aO hB)⟩,hbt⟩
theorem Sm.set1 {v:World}{g n:Nat}{oX oY aL aK aM o:Option (Bool×Nat×Int)}{a:Option Addr}{c:Nat}(h:Sm v g n oX oY aL aK aM) (hN:Nt 0 v (.slice a (ws (dX o)).length c) (dX o)):Sm (((v.setCell ⟨g,4,none⟩ (.bool (dN o))).setCell ⟨g,5,none⟩ (.slice a (ws (dX o)).length c)).setCell ⟨g,6,none⟩ (.int .i64 (dE o))) g n oX o aL aK aM/\But g v (((v.setCell ⟨g,4,none⟩ (.bool (dN o))).setCell ⟨g,5,none⟩ (.slice a (ws (dX o)).length c)).setCell ⟨g,6,none⟩ (.int .i64 (dE o))):=by
 obtain ⟨a1,c1,a2,c2,a3,c3,a4,c4,a5,c5,hB,n1,n2,n3,n4,n5⟩:=h;have hbt:But g v (((v.setCell ⟨g,4,none⟩ (.bool (dN o))).setCell ⟨g,5,none⟩ (.slice a (ws (dX o)).length c)).setCell ⟨g,6,none⟩ (.int .i64 (dE o))):=(((But.refl g v).set 4 _).set 5 _).set 6 _;refine ⟨⟨a1,c1,a,c,a3,c3,a4,c4,a5,c5,((hB.set 4 _).set 5 _).set 6 _,n1.off hbt (n1.bU aO hB),hN.off hbt (hN.bU aO hB),n3.off hbt (n3.bU aO hB),n4.off hbt (n4.bU aO hB),n5.off hbt (n5.bU aO hB)⟩,hbt⟩
theorem Sm.set2 {v:World}{g n:Nat}{oX oY aL aK aM o:Option (Bool×Nat×Int)}{a:Option Addr}{c:Nat}(h:Sm v g n oX oY aL aK aM) (hN:Nt 0 v (.slice a (ws (dX o)).length c) (dX o)):Sm (((v.setCell ⟨g,7,none⟩ (.bool (dN o))).setCell ⟨g,8,none⟩ (.slice a (ws (dX o)).length c)).setCell ⟨g,9,none⟩ (.int .i64 (dE o))) g n oX oY o aK aM/\But g v (((v.setCell ⟨g,7,none⟩ (.bool (dN o))).setCell ⟨g,8,none⟩ (.slice a (ws (dX o)).length c)).setCell ⟨g,9,none⟩ (.int .i64 (dE o))):=by
 obtain ⟨a1,c1,a2,c2,a3,c3,a4,c4,a5,c5,hB,n1,n2,n3,n4,n5⟩:=h;have hbt:But g v (((v.setCell ⟨g,7,none⟩ (.bool (dN o))).setCell ⟨g,8,none⟩ (.slice a (ws (dX o)).length c)).setCell ⟨g,9,none⟩ (.int .i64 (dE o))):=(((But.refl g v).set 7 _).set 8 _).set 9 _;refine ⟨⟨a1,c1,a2,c2,a,c,a4,c4,a5,c5,((hB.set 7 _).set 8 _).set 9 _,n1.off hbt (n1.bU aO hB),n2.off hbt (n2.bU aO hB),hN.off hbt (hN.bU aO hB),n4.off hbt (n4.bU aO hB),n5.off hbt (n5.bU aO hB)⟩,hbt⟩
theorem Sm.Vx {v:World}{g n:Nat}{oX oY aL aK aM o:Option (Bool×Nat×Int)}{a:Option Addr}{c:Nat}(h:Sm v g n oX oY aL aK aM) (hN:Nt 0 v (.slice a (ws (dX o)).length c) (dX o)):Sm (((v.setCell ⟨g,10,none⟩ (.bool (dN o))).setCell ⟨g,11,none⟩ (.slice a (ws (dX o)).length c)).setCell ⟨g,12,none⟩ (.int .i64 (dE o))) g n oX oY aL o aM/\But g v (((v.setCell ⟨g,10,none⟩ (.bool (dN o))).setCell ⟨g,11,none⟩ (.slice a (ws (dX o)).length c)).setCell ⟨g,12,none⟩ (.int .i64 (dE o))):=by
 obtain ⟨a1,c1,a2,c2,a3,c3,a4,c4,a5,c5,hB,n1,n2,n3,n4,n5⟩:=h;have hbt:But g v (((v.setCell ⟨g,10,none⟩ (.bool (dN o))).setCell ⟨g,11,none⟩ (.slice a (ws (dX o)).length c)).setCell ⟨g,12,none⟩ (.int .i64 (dE o))):=(((But.refl g v).set 10 _).set 11 _).set 12 _;refine ⟨⟨a1,c1,a2,c2,a3,c3,a,c,a5,c5,((hB.set 10 _).set 11 _).set 12 _,n1.off hbt (n1.bU aO hB),n2.off hbt (n2.bU aO hB),n3.off hbt (n3.bU aO hB),hN.off hbt (hN.bU aO hB),n5.off hbt (n5.bU aO hB)⟩,hbt⟩
theorem Sm.Vy {v:World}{g n:Nat}{oX oY aL aK aM o:Option (Bool×Nat×Int)}{a:Option Addr}{c:Nat}(h:Sm v g n oX oY aL aK aM) (hN:Nt 0 v (.slice a (ws (dX o)).length c) (dX o)):Sm (((v.setCell ⟨g,13,none⟩ (.bool (dN o))).setCell ⟨g,14,none⟩ (.slice a (ws (dX o)).length c)).setCell ⟨g,15,none⟩ (.int .i64 (dE o))) g n oX oY aL aK o/\But g v (((v.setCell ⟨g,13,none⟩ (.bool (dN o))).setCell ⟨g,14,none⟩ (.slice a (ws (dX o)).length c)).setCell ⟨g,15,none⟩ (.int .i64 (dE o))):=by
 obtain ⟨a1,c1,a2,c2,a3,c3,a4,c4,a5,c5,hB,n1,n2,n3,n4,n5⟩:=h;have hbt:But g v (((v.setCell ⟨g,13,none⟩ (.bool (dN o))).setCell ⟨g,14,none⟩ (.slice a (ws (dX o)).length c)).setCell ⟨g,15,none⟩ (.int .i64 (dE o))):=(((But.refl g v).set 13 _).set 14 _).set 15 _;refine ⟨⟨a1,c1,a2,c2,a3,c3,a4,c4,a,c,((hB.set 13 _).set 14 _).set 15 _,n1.off hbt (n1.bU aO hB),n2.off hbt (n2.bU aO hB),n3.off hbt (n3.bU aO hB),n4.off hbt (n4.bU aO hB),hN.off hbt (hN.bU aO hB)⟩,hbt⟩
structure rX (w v:World) (g4 gS g7 g9 n:Nat) (oX oY aL aK aM oa ob:Option (Bool×Nat×Int)):Prop where
 m:Sm v gS n oX oY aL aK aM
 a:Lo v g7 oa
 b:Lo v g9 ob
 z:Bl v g4 70 [.int .i64 0,.bool false,.slice none 0 0,.int .i64 0,.bool false,.slice none 0 0,.int .i64 0,.bool false,.slice none 0 0,.int .i64 0,.bool false,.slice none 0 0,.int .i64 0,.bool false,.slice none 0 0,.int .i64 0]
 aF:Below w.heap.size w v
 ord:w.heap.size<=g4/\g4<gS/\gS<g7/\g7<g9
theorem rX.below {w v u:World}{g4 gS g7 g9 n:Nat}{oX oY aL aK aM oa ob:Option (Bool×Nat×Int)}(h:rX w v g4 gS g7 g9 n oX oY aL aK aM oa ob) (hb:Below v.heap.size v u):rX w u g4 gS g7 g9 n oX oY aL aK aM oa ob :=
 ⟨h.m.below hb,h.a.below hb,h.b.below hb,h.z.below hb h.z.lt,h.aF.trans (hb.mono h.aF.size),h.ord⟩
structure Vz (w v:World) (g4 gS n:Nat) (oX oY aL aK aM:Option (Bool×Nat×Int)):Prop where
 m:Sm v gS n oX oY aL aK aM
 z:Bl v g4 70 [.int .i64 0,.bool false,.slice none 0 0,.int .i64 0,.bool false,.slice none 0 0,.int .i64 0,.bool false,.slice none 0 0,.int .i64 0,.bool false,.slice none 0 0,.int .i64 0,.bool false,.slice none 0 0,.int .i64 0]
 aF:Below w.heap.size w v
 ord:w.heap.size<=g4/\g4<gS
theorem Vz.below {w v u:World}{g4 gS n:Nat}{oX oY aL aK aM:Option (Bool×Nat×Int)}(h:Vz w v g4 gS n oX oY aL aK aM) (hb:Below v.heap.size v u):Vz w u g4 gS n oX oY aL aK aM :=
 ⟨h.m.below hb,h.z.below hb h.z.lt,h.aF.trans (hb.mono h.aF.size),h.ord⟩
theorem rX.set0 {w v:World}{g4 gS g7 g9 n:Nat}{oX oY aL aK aM oa ob o:Option (Bool×Nat×Int)}{a:Option Addr}{c:Nat}(h:rX w v g4 gS g7 g9 n oX oY aL aK aM oa ob) (hN:Nt 0 v (.slice a (ws (dX o)).length c) (dX o)):rX w (((v.setCell ⟨gS,1,none⟩ (.bool (dN o))).setCell ⟨gS,2,none⟩ (.slice a (ws (dX o)).length c)).setCell ⟨gS,3,none⟩ (.int .i64 (dE o))) g4 gS g7 g9 n o oY aL aK aM oa ob:=by
 obtain ⟨hm,hbt⟩:=h.m.set0 hN;obtain ⟨o0,o1,o2,o3⟩:=h.ord;have hm0:=h.m;obtain ⟨a1,c1,a2,c2,a3,c3,a4,c4,a5,c5,hB,_⟩:=hm0;exact ⟨hm,h.a.lT hbt hB aO ae,h.b.lT hbt hB aO ae,h.z.but hbt ae,But.below h.aF hbt h.aF.size ae,h.ord⟩
theorem rX.set1 {w v:World}{g4 gS g7 g9 n:Nat}{oX oY aL aK aM oa ob o:Option (Bool×Nat×Int)}{a:Option Addr}{c:Nat}(h:rX w v g4 gS g7 g9 n oX oY aL aK aM oa ob) (hN:Nt 0 v (.slice a (ws (dX o)).length c) (dX o)):rX w (((v.setCell ⟨gS,4,none⟩ (.bool (dN o))).setCell ⟨gS,5,none⟩ (.slice a (ws (dX o)).length c)).setCell ⟨gS,6,none⟩ (.int .i64 (dE o))) g4 gS g7 g9 n oX o aL aK aM oa ob:=by
 obtain ⟨hm,hbt⟩:=h.m.set1 hN;obtain ⟨o0,o1,o2,o3⟩:=h.ord;have hm0:=h.m;obtain ⟨a1,c1,a2,c2,a3,c3,a4,c4,a5,c5,hB,_⟩:=hm0;exact ⟨hm,h.a.lT hbt hB aO ae,h.b.lT hbt hB aO ae,h.z.but hbt ae,But.below h.aF hbt h.aF.size ae,h.ord⟩
theorem rX.set2 {w v:World}{g4 gS g7 g9 n:Nat}{oX oY aL aK aM oa ob o:Option (Bool×Nat×Int)}{a:Option Addr}{c:Nat}(h:rX w v g4 gS g7 g9 n oX oY aL aK aM oa ob) (hN:Nt 0 v (.slice a (ws (dX o)).length c) (dX o)):rX w (((v.setCell ⟨gS,7,none⟩ (.bool (dN o))).setCell ⟨gS,8,none⟩ (.slice a (ws (dX o)).length c)).setCell ⟨gS,9,none⟩ (.int .i64 (dE o))) g4 gS g7 g9 n oX oY o aK aM oa ob:=by
 obtain ⟨hm,hbt⟩:=h.m.set2 hN;obtain ⟨o0,o1,o2,o3⟩:=h.ord;have hm0:=h.m;obtain ⟨a1,c1,a2,c2,a3,c3,a4,c4,a5,c5,hB,_⟩:=hm0;exact ⟨hm,h.a.lT hbt hB aO ae,h.b.lT hbt hB aO ae,h.z.but hbt ae,But.below h.aF hbt h.aF.size ae,h.ord⟩
theorem rX.Vx {w v:World}{g4 gS g7 g9 n:Nat}{oX oY aL aK aM oa ob o:Option (Bool×Nat×Int)}{a:Option Addr}{c:Nat}(h:rX w v g4 gS g7 g9 n oX oY aL aK aM oa ob) (hN:Nt 0 v (.slice a (ws (dX o)).length c) (dX o)):rX w (((v.setCell ⟨gS,10,none⟩ (.bool (dN o))).setCell ⟨gS,11,none⟩ (.slice a (ws (dX o)).length c)).setCell ⟨gS,12,none⟩ (.int .i64 (dE o))) g4 gS g7 g9 n oX oY aL o aM oa ob:=by
 obtain ⟨hm,hbt⟩:=h.m.Vx hN;obtain ⟨o0,o1,o2,o3⟩:=h.ord;have hm0:=h.m;obtain ⟨a1,c1,a2,c2,a3,c3,a4,c4,a5,c5,hB,_⟩:=hm0;exact ⟨hm,h.a.lT hbt hB aO ae,h.b.lT hbt hB aO ae,h.z.but hbt ae,But.below h.aF hbt h.aF.size ae,h.ord⟩
theorem rX.Vy {w v:World}{g4 gS g7 g9 n:Nat}{oX oY aL aK aM oa ob o:Option (Bool×Nat×Int)}{a:Option Addr}{c:Nat}(h:rX w v g4 gS g7 g9 n oX oY aL aK aM oa ob) (hN:Nt 0 v (.slice a (ws (dX o)).length c) (dX o)):rX w (((v.setCell ⟨gS,13,none⟩ (.bool (dN o))).setCell ⟨gS,14,none⟩ (.slice a (ws (dX o)).length c)).setCell ⟨gS,15,none⟩ (.int .i64 (dE o))) g4 gS g7 g9 n oX oY aL aK o oa ob:=by
 obtain ⟨hm,hbt⟩:=h.m.Vy hN;obtain ⟨o0,o1,o2,o3⟩:=h.ord;have hm0:=h.m;obtain ⟨a1,c1,a2,c2,a3,c3,a4,c4,a5,c5,hB,_⟩:=hm0;exact ⟨hm,h.a.lT hbt hB aO ae,h.b.lT hbt hB aO ae,h.z.but hbt ae,But.below h.aF hbt h.aF.size ae,h.ord⟩
section
variable {α : Type}
end
theorem Aa:∀ xs:List Nat,pS xs xs=zS (fun x=>dm x*dm x) xs
 | []=>rfl
 | x::xs=>by
   show dm x*dm x+pS xs xs=dm x*dm x+zS _ xs;rw [Aa xs]
section
variable {xs ys : List Nat} (hl : xs.length = ys.length)
include hl
end
end
end Go.Proofs.YtblkpkgebigojaaGreatDoor
