import Derived.Test.YtfmfhehbdfhnbaaGreatDoorZ41x
import Derived.Test.YtfmfhehbdfhnbaaGreatDoorW17x
import Derived.Test.YtfmfhehbdfhnbaaGreatDoorM1x
import Derived.Deep.LoopGhost
import Derived.Deep.RegionHeld3
import Derived.Test.YtfmfhehbdfhnbaaGreatDoorMO7ox
import Derived.Test.YtfmfhehbdfhnbaaGreatDoorD32ex
import Derived.Test.YtfmfhehbdfhnbaaGreatDoorMO2x
import Derived.Test.YtfmfhehbdfhnbaaGreatDoorD31x
import Derived.Deep.Cut
set_option linter.unusedVariables false
set_option linter.unusedSimpArgs false
set_option maxHeartbeats 16000000
set_option maxRecDepth 20000
namespace Go.Proofs.YtfmfhehbdfhnbaaGreatDoor
namespace J
end J
section
open Go Go.RowKit J
open Go.Proofs.YtfmfhehbdfhnbaaGreatDoor.B (cO aI)
attribute [local go_sem] cO aI
def cS (xs ys:List Nat):Int:=(xs.length:Int)*tS (fun i=>fX xs i*fX ys i) xs.length-sX xs*sX ys
noncomputable def pG (rd:Option (Bool×Nat×Int)->Option (Bool×Nat×Int)->Int->Nat×Int) (xs:List Nat) (less mode pa pb:Int):Nat×Int :=
 if pE mode&&lsB less then
  if Ps.fG pa pb xs=0 then
   if PZ pa pb xs then (9221120237041090560,0)
   else if ((Ps.fin xs).length:Int)<=less then (0,3)
   else rd (gV 2148 (cS (Ps.fin xs) (Ps.fin xs))) (gV 0 (((Ps.fin xs).length:Int)*(((Ps.fin xs).length:Int)-less))) mode
  else (0,Ps.fG pa pb xs)
 else (0,1)
theorem mR {xs ys:List Nat}(hx:nN xs) (fx:∀ x ∈ xs,iY x) (hy:nN ys) (fy:∀ x ∈ ys,iY x) (hl:xs.length<=65536) (he:xs.length=ys.length):Bd 4229 (cS xs ys):=by
 have bP:=yU (f:=fX xs) (g:=fX ys) (n:=xs.length) (fun i hi=>jo hx fx i hi) (fun i hi=>jo hy fy i af) hl xs.length (aC _);have b1:=jq hx fx hl xs.length (aC _);have b2:=jq hy fy af ys.length (aC _);exact Bd.sub (m:=4228) (((Bd.nat (k:=16) (n:=xs.length) af).mul bP).mono au) ((b1.mul b2).mono au)
theorem xw {n:Nat}{less:Int}(hn:n<=1099511627776) (h0:0<=less) (h1:less<=1):Bd 82 ((n:Int)*((n:Int)-less)) :=
 (Bd.mul (a:=41) (b:=41) (Bd.nat af) (by unfold Bd;omega))
theorem FN (xs:List Nat) (a:Option Addr) (n c:Nat) (less mode pa pb:Int) (w:World) (hn:n=xs.length) (hF:Fs w.heap.size w a xs) (hW:nN xs) (hT:dJ w) (hl:n<=35184372088832) (z:Nat×Int) (hz:pG pF xs less mode pa pb=z) :
 Calls Tryz.prog 43 #[.slice a n c,.int .i64 less,.int .i64 mode,.agg #[.int .i64 pa,.int .i64 pb],.func (.func 27) #[] #[]] w fun r w'=>r=.returned (.tuple #[.float .f64 z.1,.int .i64 z.2])/\Below w.heap.size w w':=by
 obtain ⟨X,E⟩:=z;simp only;obtain ⟨W,mI⟩:=ah (w.alloc (Obj.cells #[.int .i64 pa,.int .i64 pb] 44))
 have B0:Aside (Bl W w.heap.size 44 [.int .i64 pa,.int .i64 pb]/\Below w.heap.size w W):=by
  rw [mI];exact ⟨Bl.new _ 44 [_,_],aK _ _⟩
 have kg:=ak mI;clear mI;unfold pG at hz
 cases hm:pE mode with
 | false =>
   rw [hm,nJ,if_neg au] at hz;obtain ⟨rfl,rfl⟩:=fu hz;clear hz hn hF hW hT;go_enter Tryz.func43,Tryz.ntmps43
   go_upto_region 1 with fail
   rw [<-kg.o];clear kg;have C:=hid (iH mode W);rw [hm] at C;go_wp2_with fail;refine C.o.mono ?_;rintro r v ⟨rfl,hv⟩;rw [hv];clear hv v C;go_wp2;exact aF (v:=.tuple #[.float .f64 0,.int .i64 1]) (by simp [results,Tryz.results43,go_sem]) rfl ⟨rfl,B0.o.2⟩
 | true =>
 cases hs:lsB less with
 | false =>
   rw [hm,hs,qJ,if_neg au] at hz;obtain ⟨rfl,rfl⟩:=fu hz;clear hz hn hF hW hT;go_enter Tryz.func43,Tryz.ntmps43
   go_upto_region 1 with fail
   rw [<-kg.o];clear kg;have C:=hid (iH mode W);rw [hm] at C;go_wp2_with fail;refine C.o.mono ?_;rintro r v ⟨rfl,hv⟩;rw [hv];clear hv v C;have C:=hid (mQ less W);rw [hs] at C;go_wp2_with fail;refine C.o.mono ?_;rintro r v ⟨rfl,hv⟩;rw [hv];clear hv v C;go_wp2;exact aF (v:=.tuple #[.float .f64 0,.int .i64 1]) (by simp [results,Tryz.results43,go_sem]) rfl ⟨rfl,B0.o.2⟩
 | true =>
   rw [hm,hs,qJ,if_pos rfl] at hz;have HS:=hid (OY xs a n c pa pb W hn hl ((hF.below B0.o.2).mono B0.o.2.size) hW);have HX:=iI hn hF hW hT (Hy hm) (Dh hs);have HZ:=ak hz;obtain ⟨es,hes⟩:∃ e,Ps.fG pa pb xs=e:=⟨_,rfl⟩;rw [hes] at HS;have qC:=ak hes;have p0:=B0.o.1.cell 0 _ rfl;have p1:=B0.o.1.cell 1 _ rfl;clear hz hn hF hW hT hl hes;go_enter Tryz.func43,Tryz.ntmps43
   go_upto_region 1 with fail
   rw [<-kg.o];clear kg;have C:=hid (iH mode W);rw [hm] at C;go_wp2_with fail;refine C.o.mono ?_;rintro r v ⟨rfl,hv⟩;rw [hv];clear hv v C;have C:=hid (mQ less W);rw [hs] at C;go_wp2_with fail;refine C.o.mono ?_;rintro r v ⟨rfl,hv⟩;rw [hv];clear hv v C;go_wp2_with fail;refine HS.o.mono ?_;rintro r v ⟨hr,hb⟩;have B1:=(aJ (B0.o.1.below hb B0.o.1.lt) (B0.o.2.trans (hb.mono B0.o.2.size)));clear hb HS p0 p1 B0;rcases hr with ⟨he,a',c',rfl⟩|⟨he,a',c',rfl,hF'⟩
   · have h1:(es==0)=false:=by simp [he]
     have hz:=HZ.o;rw [if_neg (by rw [qC.o];exact he),qC.o] at hz;obtain ⟨rfl,rfl⟩:=fu hz;have BE:Aside (Below w.heap.size w (v.alloc (Obj.cells #[.int .i64 0,.int .i64 0,.int .i64 0,.int .i64 0,.int .i64 0,.int .i64 0] 106))):=B1.o.2.trans ((aK _ _).mono B1.o.2.size);clear hz HZ qC B1 he;go_wp2;exact aF (v:=.tuple #[.float .f64 0,.int .i64 es]) (by simp [results,Tryz.results43,go_sem]) rfl ⟨rfl,BE.o⟩
   · subst he;have HV:=hid (fun u:World=>yV qC.o u);have hz:=HZ.o;rw [if_pos qC.o] at hz;obtain ⟨s5,hs5⟩:∃ s:Int,(Ps.cn 5 xs:Nat)=s:=⟨_,rfl⟩;obtain ⟨s3,hs3⟩:∃ s:Int,(Ps.cn 3 xs:Nat)=s:=⟨_,rfl⟩;obtain ⟨s4,hs4⟩:∃ s:Int,(Ps.cn 4 xs:Nat)=s:=⟨_,rfl⟩;obtain ⟨s1,hs1⟩:∃ s:Int,(Ps.cn 1 xs:Nat)=s:=⟨_,rfl⟩;obtain ⟨s2,hs2⟩:∃ s:Int,(Ps.cn 2 xs:Nat)=s:=⟨_,rfl⟩;obtain ⟨sl,hsl⟩:∃ s:Int,(xs.length:Nat)=s:=⟨_,rfl⟩;rw [hs5,hs3,hs4,hs1,hs2,hsl] at HV |-;clear hs5 hs3 hs4 hs1 hs2 hsl;obtain ⟨fl,hfl⟩:∃ f,Ps.fin xs=f:=⟨_,rfl⟩;rw [hfl] at hF' hz |-
     have PF:Aside (nN fl/\(∀ x ∈ fl,iY x)/\fl.length<=65536/\rA fl=0):=by
      rw [<-hfl];exact ⟨H8 HX.o.r2.1,tN HX.o.r2.1,tO qC.o,Dj HX.o.r2.1 qC.o⟩
     obtain ⟨m,xI⟩:∃ m,fl.length=m:=⟨_,rfl⟩;obtain ⟨U,hU⟩:=ah (v.alloc (Obj.cells #[.int .i64 s5,.int .i64 s3,.int .i64 s4,.int .i64 s1,.int .i64 s2,.int .i64 sl] 106));obtain ⟨gs,hgs⟩:=ah (v.heap.size)
     have B2:Aside (Bl U gs 106 [.int .i64 s5,.int .i64 s3,.int .i64 s4,.int .i64 s1,.int .i64 s2,.int .i64 sl]/\Bl U w.heap.size 44 [.int .i64 pa,.int .i64 pb]/\Below w.heap.size w U/\Fs U.heap.size U a' fl):=by
      rw [hU,hgs];exact ⟨Bl.new _ 106 [_,_,_,_,_,_],B1.o.1.alloc _,B1.o.2.trans ((aK _ _).mono B1.o.2.size),(hF'.below (aK _ _)).mono aO⟩
     rw [xI] at hz |-;have Dl:=ak xI;have HU:=(aJ hU hgs);obtain ⟨cr,hcr⟩:∃ b,PZ pa pb xs=b:=⟨_,rfl⟩;rw [hcr] at HV hz;clear hU hgs hF' B1 hfl qC HZ xI hcr
     go_upto_region 6 with fail
     rw [<-HU.o.1,<-HU.o.2];clear HU;have q0:=B2.o.1.cell 0 _ rfl;have q1:=B2.o.1.cell 1 _ rfl;have q2:=B2.o.1.cell 2 _ rfl;have q3:=B2.o.1.cell 3 _ rfl;have q4:=B2.o.1.cell 4 _ rfl;have q5:=B2.o.1.cell 5 _ rfl;have p0:=B2.o.2.1.cell 0 _ rfl;have p1:=B2.o.2.1.cell 1 _ rfl;go_wp2_with fail;refine (HV.o _).mono ?_;rintro r u ⟨⟨x,rfl⟩,hb⟩;have B3:=(aJ (B2.o.r2.1.trans (hb.mono B2.o.r2.1.size)) ((B2.o.r3.below hb).mono hb.size));clear hb HV q0 q1 q2 q3 q4 q5 p0 p1 B2
     cases cr with
     | true =>
       rw [if_pos rfl] at hz;obtain ⟨rfl,rfl⟩:=fu hz;clear hz PF Dl;go_wp2;exact aF (v:=.tuple #[.float .f64 9221120237041090560,.int .i64 0]) (by simp [results,Tryz.results43,go_sem]) rfl ⟨rfl,B3.o.1⟩
     | false =>
       rw [if_neg au] at hz;have HZ:=ak hz;have HE:=hid (rC fl a' m c' u Dl.o.symm B3.o.2 PF.o.1 (HX.o.r3.1.belows B3.o.1) (by have:=PF.o.r2.1;have:=Dl.o;omega));rw [PF.o.r3] at HE;clear hz;go_wp2_with fail;refine HE.o.mono ?_;rintro r u2 ⟨hr,hb⟩;rcases hr with ⟨hr,_⟩|⟨_,v2,rfl,hR⟩
       · exact absurd rfl hr
       obtain ⟨gA,p1,q1,rfl,hD,hN⟩:=hR;obtain ⟨oS,xx⟩:=ah (gV 1074 (sX fl));rw [<-xx] at hN |-;obtain ⟨V,hV⟩:=ah (u2.alloc (Obj.cells #[.slice (some ⟨gA,0,none⟩) m m,.bool (dN oS),.slice p1 (ws (dX oS)).length q1,.int .i64 (dE oS)] 74));obtain ⟨g7,qz⟩:=ah (u2.heap.size)
       have B4:Aside (Bl V g7 74 [.slice (some ⟨gA,0,none⟩) m m,.bool (dN oS),.slice p1 (ws (dX oS)).length q1,.int .i64 (dE oS)]/\Below w.heap.size w V/\Dr V gA m m (fun i=>gV 1074 (fX fl i))/\Nt 0 V (.slice p1 (ws (dX oS)).length q1) (dX oS)):=by
        rw [hV,qz];have b3:=B3.o.1.trans (hb.mono B3.o.1.size);exact ⟨Bl.new _ 74 [_,_,_,_],b3.trans ((aK _ _).mono b3.size),hD.below (aK _ _),hN.below (aK _ _)⟩
       have HV:=(aJ hV qz);have AV:=ak xx;clear hV qz hb hD hN HE B3 xx
       go_upto_region 10 with fail
       rw [<-HV.o.1,<-HV.o.2];clear HV;have s0:=B4.o.1.cell 0 _ rfl
       by_cases hle:(m:Int)<=less
       · have VZ:decide ((m:Int)<=less)=true:=decide_eq_true hle;have hz:=HZ.o;rw [if_pos hle] at hz;obtain ⟨rfl,rfl⟩:=fu hz;clear hz HZ;go_wp2;exact aF (v:=.tuple #[.float .f64 0,.int .i64 3]) (by simp [results,Tryz.results43,go_sem]) rfl ⟨rfl,B4.o.2.1⟩
       · have VZ:decide ((m:Int)<=less)=false:=decide_eq_false hle;have hz:=HZ.o;rw [if_neg hle] at hz;have m6:m<=65536:=by have:=PF.o.r2.1;have:=Dl.o;omega
         have yX:0<=less/\less<=1:=by have:=HX.o.r5;omega
         obtain ⟨oV,H9⟩:=ah (gV 2148 (cS fl fl));obtain ⟨oD,vH⟩:=ah (gV 0 ((m:Int)*((m:Int)-less)));rw [<-H9,<-vH] at hz;have FV:Fm oV:=by rw [H9];exact dB au au (mR PF.o.1 PF.o.2.1 PF.o.1 PF.o.2.1 PF.o.r2.1 rfl)
         have FD:Fm oD:=by rw [vH];exact dB au au (xw af yX.1 yX.2)
         have Ur:Hid (∀ u:World,Below V.heap.size V u->Calls Tryz.prog 50 #[.agg #[.slice (some ⟨gA,0,none⟩) m m,.bool (dN oS),.slice p1 (ws (dX oS)).length q1,.int .i64 (dE oS)],.agg #[.slice (some ⟨gA,0,none⟩) m m,.bool (dN oS),.slice p1 (ws (dX oS)).length q1,.int .i64 (dE oS)]] u fun r w'=>bC 0 w' r oV/\Below u.heap.size u w'):=fun u hu=>by
          have hR:Rr u (.agg #[.slice (some ⟨gA,0,none⟩) m m,.bool (dN oS),.slice p1 (ws (dX oS)).length q1,.int .i64 (dE oS)]) m (fun i=>gV 1074 (fX fl i)) (gV 1074 (sX fl)):=by
           rw [AV.o];exact ⟨gA,p1,q1,rfl,B4.o.r2.1.below hu,by have:=B4.o.r3.below hu;rw [AV.o] at this;exact this⟩
          have:=mO (f:=fX fl) (g:=fX fl) (S:=sX fl) (T:=sX fl) m6 (HX.o.r3.1.belows (B4.o.2.1.trans (hu.mono B4.o.2.1.size))) (fun i hi=>jo PF.o.1 PF.o.2.1 i (by rw [Dl.o];exact hi)) (fun i hi=>jo PF.o.1 PF.o.2.1 i (by rw [Dl.o];exact hi)) (jq PF.o.1 PF.o.2.1 PF.o.r2.1 _ (aC _)) (jq PF.o.1 PF.o.2.1 PF.o.r2.1 _ (aC _)) hR hR;rw [H9];unfold cS;rw [Dl.o];exact this
         have qj:Hid (∀ u:World,dJ u->Calls Tryz.prog 28 #[.int .i64 (m:Nat),.int .i64 less] u fun r w'=>bC 0 w' r oD/\Below u.heap.size u w'):=fun u hu=>by
          rw [vH];exact rM m less u hu af yX.1 yX.2 af
         have HR:Hid (∀ (u:World) (a b:Option Addr) (ca cb:Nat),dJ u->Nt 0 u (.slice a (ws (dX oV)).length ca) (dX oV)->Nt 0 u (.slice b (ws (dX oD)).length cb) (dX oD)->Calls Tryz.prog 27 #[.agg #[.bool (dN oV),.slice a (ws (dX oV)).length ca,.int .i64 (dE oV),.bool (dN oD),.slice b (ws (dX oD)).length cb,.int .i64 (dE oD)],.int .i64 mode] u fun r w'=>r=.returned (.tuple #[.float .f64 X,.int .i64 E])/\Below u.heap.size u w'):=fun u a b ca cb qi n1 n2=>by
          have:=FL mode FV FD n1 n2 qi;rw [hz] at this;exact this
         have FF:=(aJ FV FD);have HT:=ak HX.o.r3.1;have hdr:=(aD V.heap.size V).drew;have BD:=(aJ (B4.o.1.below hdr B4.o.1.lt) (B4.o.2.1.trans (hdr.mono B4.o.2.1.size)));have C1:=hid (Ur.o V.drew hdr);clear hz HZ H9 vH FV FD hdr Dl m6 yX PF HX Ur;have kS:Aside (V.drew.cell? ⟨g7,0,none⟩=some (.slice (some ⟨gA,0,none⟩) m m)/\V.drew.cell? ⟨g7,1,none⟩=some (.bool (dN oS))/\V.drew.cell? ⟨g7,2,none⟩=some (.slice p1 (ws (dX oS)).length q1)/\V.drew.cell? ⟨g7,3,none⟩=some (.int .i64 (dE oS))):=⟨BD.o.1.cell 0 _ rfl,BD.o.1.cell 1 _ rfl,BD.o.1.cell 2 _ rfl,BD.o.1.cell 3 _ rfl⟩;go_wp2_with fail;clear s0 B4
         go_region_held3 (fun w'=>w'.cell? ⟨g7,0,none⟩=some (.slice (some ⟨gA,0,none⟩) m m)/\w'.cell? ⟨g7,1,none⟩=some (.bool (dN oS))/\w'.cell? ⟨g7,2,none⟩=some (.slice p1 (ws (dX oS)).length q1)/\w'.cell? ⟨g7,3,none⟩=some (.int .i64 (dE oS))) (with_reducible exact kS.o) (first
          | (go_at_call 50
             with_reducible refine C1.o.mono ?_
             rintro r u3 ⟨hd,hb⟩;obtain ⟨a3,c3,rfl,dF⟩:=hd.aG;have BD:=aZ (BD.o.1.below hb BD.o.1.lt) (BD.o.2.trans (hb.mono BD.o.2.size)) dF;have kS:=ak (jr hb kS.o);have C2:=hid (qj.o u3 (HT.o.belows BD.o.2.1))
             clear hb hd dF C1)
          | (go_at_call 28
             with_reducible refine C2.o.mono ?_
             rintro r u4 ⟨hd,hb⟩;obtain ⟨a4,c4,rfl,fw⟩:=hd.aG;have BE:=aZ (BD.o.2.1.trans (hb.mono BD.o.2.1.size)) (BD.o.r2.below hb) fw;have kS:=ak (jr hb kS.o);have C3:=hid (HR.o u4 a3 a4 c3 c4 (HT.o.belows BE.o.1) BE.o.2.1 BE.o.r2)
             clear hb hd fw C2)
          | (go_at_call 27
             with_reducible refine C3.o.mono ?_
             rintro r u5 ⟨rfl,hb⟩;have BF:=ak (BE.o.1.trans (hb.mono BE.o.1.size));have kS:=ak (jr hb kS.o)
             clear hb C3))
         go_wp2;exact aF (v:=.tuple #[.float .f64 X,.int .i64 E]) (by simp [results,Tryz.results43,go_sem]) rfl ⟨rfl,BF.o⟩
theorem Ia (xs:List Nat) (a:Option Addr) (n c:Nat) (less mode pa pb:Int) (w:World) (hn:n=xs.length) (hF:Fs w.heap.size w a xs) (hW:nN xs) (hT:dJ w) (hl:n<=35184372088832) (z:Nat×Int) (hz:pG pF xs less mode pa pb=z) :
 Calls Tryz.prog 16 #[.slice a n c,.int .i64 less,.int .i64 mode,.agg #[.int .i64 pa,.int .i64 pb]] w fun r w'=>r=.returned (.tuple #[.float .f64 z.1,.int .i64 z.2])/\Below w.heap.size w w':=by
 obtain ⟨W,mI⟩:=ah (w.alloc (Obj.cells #[.int .i64 pa,.int .i64 pb] 44))
 have B0:Aside (Bl W w.heap.size 44 [.int .i64 pa,.int .i64 pb]/\Below w.heap.size w W):=by
  rw [mI];exact ⟨Bl.new _ 44 [_,_],aK _ _⟩
 have C:=hid (FN xs a n c less mode pa pb W hn ((hF.below B0.o.2).mono B0.o.2.size) hW (hT.belows B0.o.2) hl z hz);have kg:=ak mI;obtain ⟨X,E⟩:=z;clear mI hn hF hW hT hl hz;simp only at C |-;go_enter Tryz.func16,Tryz.ntmps16
 go_upto_region 1 with fail
 rw [<-kg.o];clear kg;have p0:=B0.o.1.cell 0 _ rfl;have p1:=B0.o.1.cell 1 _ rfl;go_wp2_with fail;refine C.o.mono ?_;rintro r v ⟨rfl,hb⟩;have B1:=ak (B0.o.2.trans (hb.mono B0.o.2.size));clear hb C p0 p1;go_wp2;exact aF (v:=.tuple #[.float .f64 X,.int .i64 E]) (by simp [results,Tryz.results16,go_sem]) rfl ⟨rfl,B1.o⟩
end
section
open Go Go.RowKit J
theorem Dk.bt14 {w w':World}{g g':Nat}{n:Bool}{v:Value}{e:Int}(h:Dk w g n v e) (hb:But g' w w') (hg:g≠g'):w'.cell? ⟨g,0,none⟩=some (.bool n)/\w'.cell? ⟨g,1,none⟩=some v/\w'.cell? ⟨g,2,none⟩=some (.int .i64 e):=by
 have:Dk w' g n v e:=by unfold Dk;rw [hb.block g h.lt hg];exact h
 exact ⟨this.facts.1,this.facts.2.1,this.facts.2.2.1⟩
theorem Yq (oV:Option (Bool×Nat×Int)) (a:Option Addr) (c n:Nat) (less:Int) (w:World) (hn:n<=1099511627776) (h0:0<=less) (h1:less<=1) (hN:Nt 0 w (.slice a (ws (dX oV)).length c) (dX oV)) :
 Calls Tryz.prog 34 #[.agg #[.bool (dN oV),.slice a (ws (dX oV)).length c,.int .i64 (dE oV)],.int .i64 (n:Nat),.int .i64 less] w fun r w'=>(∃ b d,r=.returned (.agg #[.bool (dN oV),.slice a (ws (dX oV)).length c,.int .i64 (dE oV),.bool (dN (gV 0 ((n:Int)*((n:Int)-less)))),.slice b (ws (dX (gV 0 ((n:Int)*((n:Int)-less))))).length d,.int .i64 (dE (gV 0 ((n:Int)*((n:Int)-less))))])/\Nt 0 w' (.slice a (ws (dX oV)).length c) (dX oV)/\Nt 0 w' (.slice b (ws (dX (gV 0 ((n:Int)*((n:Int)-less))))).length d) (dX (gV 0 ((n:Int)*((n:Int)-less)))))/\Below w.heap.size w w':=by
 have b1:Bd 41 (n:Int):=Bd.nat af;have b2:Bd 41 ((n:Int)-less):=by unfold Bd;omega
 obtain ⟨oA,hA⟩:=ah (gV 0 (n:Int));obtain ⟨oB,hB⟩:=ah (gV 0 ((n:Int)-less));obtain ⟨oD,hD⟩:=ah (gV 0 ((n:Int)*((n:Int)-less)));have FA:Fm oA:=by rw [hA];exact dB au au b1
 have FB:Fm oB:=by rw [hB];exact dB au au b2
 have FD:Fm oD:=by rw [hD];exact dB au au (b1.mul b2)
 have E:dK oA oB=oD:=by rw [hA,hB,hD];exact mH au au au au b1 b2
 rw [<-hD];have HI1:Hid (∀ u:World,Calls Tryz.prog 22 #[.int .i64 (n:Nat)] u fun r w'=>bC 0 w' r oA/\Below u.heap.size u w'):=fun u=>by rw [hA];exact xe n u af af
 have HI2:Hid (∀ u:World,Calls Tryz.prog 22 #[.int .i64 ((n:Int)-less)] u fun r w'=>bC 0 w' r oB/\Below u.heap.size u w'):=fun u=>by rw [hB];exact xe _ u af af
 have FF:=(gK FA FB FD E);have hwr:IntKind.i64.wrap ((n:Int)-less)=(n:Int)-less:=by rw [zx];omega
 obtain ⟨W,mI⟩:=ah ((w.alloc (Obj.cells #[.bool (dN oV),.slice a (ws (dX oV)).length c,.int .i64 (dE oV)] 25)).alloc (Obj.cells #[.bool false,.slice none 0 0,.int .i64 0,.bool false,.slice none 0 0,.int .i64 0] 58))
 have H0:Aside (Dk W w.heap.size (dN oV) (.slice a (ws (dX oV)).length c) (dE oV)/\Bl W (w.heap.size+1) 58 [.bool false,.slice none 0 0,.int .i64 0,.bool false,.slice none 0 0,.int .i64 0]/\Below w.heap.size w W/\Nt 0 W (.slice a (ws (dX oV)).length c) (dX oV)):=by
  have hbW:Below w.heap.size w W:=by rw [mI];exact (ae _ _).trans ((ae _ _).mono aO)
  refine ⟨?_,?_,hbW,hN.below hbW⟩
  · rw [mI];exact (Dk.new _ _ _ _).below (ae _ _)
  · have z:=Bl.new (w.alloc (Obj.cells #[.bool (dN oV),.slice a (ws (dX oV)).length c,.int .i64 (dE oV)] 25)) 58 [.bool false,.slice none 0 0,.int .i64 0,.bool false,.slice none 0 0,.int .i64 0];rw [dL] at z;rw [mI];exact z
 have kg:=ak mI;clear mI hN hA hB hD FA FB FD E b1 b2 hn h0 h1;go_enter Tryz.func34,Tryz.ntmps34
 go_upto_region 1 with fail
 rw [<-kg.o];clear kg;have hdr:=(aD W.heap.size W).drew;have kS:Aside (W.drew.cell? ⟨w.heap.size,0,none⟩=some (.bool (dN oV))/\W.drew.cell? ⟨w.heap.size,1,none⟩=some (.slice a (ws (dX oV)).length c)/\W.drew.cell? ⟨w.heap.size,2,none⟩=some (.int .i64 (dE oV))):=⟨(H0.o.1.below hdr).facts.1,(H0.o.1.below hdr).facts.2.1,(H0.o.1.below hdr).facts.2.2.1⟩;have BD:=(gK (H0.o.2.1.below hdr H0.o.2.1.lt) (H0.o.r2.1.trans (hdr.mono H0.o.r2.1.size)) (H0.o.1.below hdr) (H0.o.r3.below hdr));have C1:=hid (HI1.o W.drew);clear hdr H0
 go_region_held3 (fun w'=>w'.cell? ⟨w.heap.size,0,none⟩=some (.bool (dN oV))/\w'.cell? ⟨w.heap.size,1,none⟩=some (.slice a (ws (dX oV)).length c)/\w'.cell? ⟨w.heap.size,2,none⟩=some (.int .i64 (dE oV))) (first | with_reducible exact kS.o | with_reducible exact kT.o) (first
  | (go_at_call 22
     with_reducible refine C1.o.mono ?_
     rintro r u1 ⟨hd,hb⟩;obtain ⟨a1,c1,rfl,hN⟩:=hd.aG;have BD:=eu (BD.o.1.below hb BD.o.1.lt) (BD.o.2.1.trans (hb.mono BD.o.2.1.size)) (BD.o.r2.1.below hb) (BD.o.r3.below hb) hN;have kS:=ak (vG hb kS.o);have C2:=hid (HI2.o u1)
     clear hb hd hN C1)
  | (go_at_call 22
     with_reducible refine C2.o.mono ?_
     rintro r u2 ⟨hd,hb⟩;obtain ⟨a2,c2,rfl,hN⟩:=hd.aG;have BD:=iI (BD.o.1.below hb BD.o.1.lt) (BD.o.2.1.trans (hb.mono BD.o.2.1.size)) (BD.o.r2.1.below hb) (BD.o.r3.1.below hb) (BD.o.r4.below hb) hN;have kS:=ak (vG hb kS.o);have C3:=hid (OC FF.o.1 FF.o.2.1 FF.o.r2.1 BD.o.r4.1 BD.o.r5 FF.o.r3)
     clear hb hd hN C2)
  | (go_at_call 69
     with_reducible refine C3.o.mono ?_
     rintro r u3 ⟨hd,hb⟩;obtain ⟨a3,c3,rfl,hN⟩:=hd.aG;have BD:=eu (BD.o.1.below hb BD.o.1.lt) (BD.o.2.1.trans (hb.mono BD.o.2.1.size)) (BD.o.r2.1.below hb) (BD.o.r3.1.below hb) hN;have kS:=ak (vG hb kS.o);have HQ:=ak (((((((But.refl (w.heap.size+1) u3).set 0 (.bool (dN oV))).set 1 (.slice a (ws (dX oV)).length c)).set 2 (.int .i64 (dE oV))).set 3 (.bool (dN oD))).set 4 (.slice a3 (ws (dX oD)).length c3)).set 5 (.int .i64 (dE oD)));have kT:=ak (BD.o.r2.1.bt14 HQ.o af);have r0:=BD.o.1.frozen 0;have r1:=BD.o.1.frozen 1;have r2:=BD.o.1.frozen 2;have r3:=BD.o.1.frozen 3;have r4:=BD.o.1.frozen 4;have r5:=BD.o.1.frozen 5;have k0:=BD.o.1.cell 0 _ rfl;have k1:=BD.o.1.cell 1 _ rfl;have k2:=BD.o.1.cell 2 _ rfl;have k3:=BD.o.1.cell 3 _ rfl;have k4:=BD.o.1.cell 4 _ rfl;have k5:=BD.o.1.cell 5 _ rfl
     clear hb hd hN C3))
 go_wp2;have qq:=(((((BD.o.1.set 0 (.bool (dN oV))).set 1 (.slice a (ws (dX oV)).length c)).set 2 (.int .i64 (dE oV))).set 3 (.bool (dN oD))).set 4 (.slice a3 (ws (dX oD)).length c3)).set 5 (.int .i64 (dE oD));have g0:=qq.cell 0 _ rfl;have g1:=qq.cell 1 _ rfl;have g2:=qq.cell 2 _ rfl;have g3:=qq.cell 3 _ rfl;have g4:=qq.cell 4 _ rfl;have g5:=qq.cell 5 _ rfl;have aH:=HQ.o;refine aF (v:=.agg #[.bool (dN oV),.slice a (ws (dX oV)).length c,.int .i64 (dE oV),.bool (dN oD),.slice a3 (ws (dX oD)).length c3,.int .i64 (dE oD)]) (by simp [results,Tryz.results34,go_sem,g0,g1,g2,g3,g4,g5]) rfl ⟨⟨_,_,rfl,?_,?_⟩,?_⟩
 · exact BD.o.r3.1.off aH (BD.o.r3.1.jA au BD.o.1)
 · exact BD.o.r4.off aH (BD.o.r4.jA au BD.o.1)
 · exact But.below BD.o.2.1 aH BD.o.2.1.size af
theorem di {P:Program}{ops:Array Oper}{Q:Exit->Act->World->Prop}{md:Region.Mode}{S:World->Prop}{stop i j:Nat}{oi oj:Oper}{fuel:Nat}{listed:Array Bool}{a:Act}{w:World}(hr:Region.ready md ops listed=[i,j]) (ei:ops[i]?=some oi) (ej:ops[j]?=some oj)
 (hi:∀ K':Act->World->Prop,Shut (∀ b u,(i<stop->S u)->fe P md ops Q S stop fuel (listed.setIfInBounds i true) b u->K' b u)->if Region.wanted oi (yielded ops a.tmps)=true then Oper.wp P oi a w K' Q else K' (a.put oi.dst undef) w)
 (hj:∀ K':Act->World->Prop,Shut (∀ b u,(j<stop->S u)->fe P md ops Q S stop fuel (listed.setIfInBounds j true) b u->K' b u)->if Region.wanted oj (yielded ops a.tmps)=true then Oper.wp P oj a w K' Q else K' (a.put oj.dst undef) w) :
 fe P md ops Q S stop (fuel+1) listed a w :=
 ⟨fun h0=>(by rw [hr] at h0;cases h0),fun q hq=>by
  rw [hr] at hq;simp only [List.mem_cons,List.not_mem_nil,or_false] at hq;rcases hq with rfl|rfl
  · exact wpOp_step ei (fun K' hK=>hi K' (fun b u h1 h2=>hK b u ⟨h1,h2⟩))
  · exact wpOp_step ej (fun K' hK=>hj K' (fun b u h1 h2=>hK b u ⟨h1,h2⟩))⟩
theorem qa {P:Program}{ops:Array Oper}{Q:Exit->Act->World->Prop}{md:Region.Mode}{S:World->Prop}{stop i j k:Nat}{oi oj ok:Oper}{fuel:Nat}{listed:Array Bool}{a:Act}{w:World}(hr:Region.ready md ops listed=[i,j,k]) (ei:ops[i]?=some oi) (ej:ops[j]?=some oj) (ek:ops[k]?=some ok)
 (hi:∀ K':Act->World->Prop,Shut (∀ b u,(i<stop->S u)->fe P md ops Q S stop fuel (listed.setIfInBounds i true) b u->K' b u)->if Region.wanted oi (yielded ops a.tmps)=true then Oper.wp P oi a w K' Q else K' (a.put oi.dst undef) w)
 (hj:∀ K':Act->World->Prop,Shut (∀ b u,(j<stop->S u)->fe P md ops Q S stop fuel (listed.setIfInBounds j true) b u->K' b u)->if Region.wanted oj (yielded ops a.tmps)=true then Oper.wp P oj a w K' Q else K' (a.put oj.dst undef) w)
 (hk:∀ K':Act->World->Prop,Shut (∀ b u,(k<stop->S u)->fe P md ops Q S stop fuel (listed.setIfInBounds k true) b u->K' b u)->if Region.wanted ok (yielded ops a.tmps)=true then Oper.wp P ok a w K' Q else K' (a.put ok.dst undef) w) :
 fe P md ops Q S stop (fuel+1) listed a w :=
 ⟨fun h0=>(by rw [hr] at h0;cases h0),fun q hq=>by
  rw [hr] at hq;simp only [List.mem_cons,List.not_mem_nil,or_false] at hq;rcases hq with rfl|rfl|rfl
  · exact wpOp_step ei (fun K' hK=>hi K' (fun b u h1 h2=>hK b u ⟨h1,h2⟩))
  · exact wpOp_step ej (fun K' hK=>hj K' (fun b u h1 h2=>hK b u ⟨h1,h2⟩))
  · exact wpOp_step ek (fun K' hK=>hk K' (fun b u h1 h2=>hK b u ⟨h1,h2⟩))⟩
theorem Ib {o1 o2:Option (Bool×Nat×Int)}(r1:mkS (dN o1) (dX o1) (dE o1)=o1) (h:(iF o1 (mkS (!dN o2) (dX o2) (dE o2))).isSome=true):mkS (dN (iF o1 (mkS (!dN o2) (dX o2) (dE o2)))) (dX (iF o1 (mkS (!dN o2) (dX o2) (dE o2)))) (dE (iF o1 (mkS (!dN o2) (dX o2) (dE o2))))=iF o1 (mkS (!dN o2) (dX o2) (dE o2)):=by
 cases h1:o1 with
 | none=>rw [h1] at h;cases h
 | some x =>
   cases h2:mkS (!dN o2) (dX o2) (dE o2) with
   | none=>rw [h1,h2] at h;cases h
   | some y =>
     obtain ⟨n,X,e⟩:=x;obtain ⟨m,Y,f⟩:=y
     have F1:sN n X e:=by
      have:=jl (n:=dN o1) (X:=dX o1) (e:=dE o1) (by rw [r1,h1];rfl);rw [r1,h1] at this;exact this
     have F2:sN m Y f:=bM h2
     cases h3:iF (some (n,X,e)) (some (m,Y,f)) with
     | none=>rw [h1,h2,h3] at h;cases h
     | some z =>
       obtain ⟨n',Z,g⟩:=z;exact kX (Cr F1 F2 h3)
noncomputable def rO (n:Int) (o:Option (Bool×Nat×Int)) (less mode:Int):Nat×Int :=
 if pE mode&&lsB less&&(decide (1<=n)&&decide (n<=1099511627776)) then
  if o.isSome then (if n<=less then (0,3) else pF o (gV 0 (n*(n-less))) mode) else (0,2)
 else (0,1)
theorem Ic {n:Nat}{less:Int}(hn:n<=1099511627776) (h0:0<=less) (h1:less<=1):Bd 82 ((n:Int)*((n:Int)-less)) :=
 (Bd.mul (a:=41) (b:=41) (Bd.nat af) (by unfold Bd;omega))
theorem Su {u:World}{a b:Option Addr}{ca cb:Nat}{V D:Option (Bool×Nat×Int)}(mode:Int) (hV:V.isSome=true) (rV:mkS (dN V) (dX V) (dE V)=V) (FD:Fm D) (n1:Nt 0 u (.slice a (ws (dX V)).length ca) (dX V)) (n2:Nt 0 u (.slice b (ws (dX D)).length cb) (dX D)) (hT:dJ u) :
 Calls Tryz.prog 27 #[.agg #[.bool (dN V),.slice a (ws (dX V)).length ca,.int .i64 (dE V),.bool (dN D),.slice b (ws (dX D)).length cb,.int .i64 (dE D)],.int .i64 mode] u fun r w'=>r=.returned (.tuple #[.float .f64 (pF V D mode).1,.int .i64 (pF V D mode).2])/\Below u.heap.size u w':=by
 obtain ⟨l1,r1,r2⟩:=ky hV rV;exact Ou (w:=u) (n:=dN V) (m:=dN D) (X:=dX V) (Y:=dX D) (e:=dE V) (f:=dE D) mode ⟨n1.av af,n2.av (dP FD.len au),⟨r1,r2⟩,FD.p9⟩ hT
theorem Sv (w:World) (n:Int) (ns np:Bool) (as' ap:Option Addr) (ls cs lp cp:Nat) (es ep less mode:Int) (oV:Option (Bool×Nat×Int)) (hT:dJ w) (rV:oV.isSome=true->mkS (dN oV) (dX oV) (dE oV)=oV)
 (HD:Hid (∀ u:World,Below w.heap.size w u->Calls Tryz.prog 26 #[.int .i64 n,.agg #[.bool np,.slice ap lp cp,.int .i64 ep],.agg #[.bool ns,.slice as' ls cs,.int .i64 es],.agg #[.bool ns,.slice as' ls cs,.int .i64 es]] u fun r w'=>iA w' r oV (l9 oV)/\Below u.heap.size u w')) (z:Nat×Int) (hz:rO n oV less mode=z) :
 Calls Tryz.prog 7 #[.int .i64 n,.agg #[.bool ns,.slice as' ls cs,.int .i64 es],.agg #[.bool np,.slice ap lp cp,.int .i64 ep],.int .i64 less,.int .i64 mode] w fun r w'=>r=.returned (.tuple #[.float .f64 z.1,.int .i64 z.2])/\Below w.heap.size w w':=by
 obtain ⟨X,E⟩:=z;simp only;obtain ⟨W,mI⟩:=ah ((w.alloc (Obj.cells #[.bool ns,.slice as' ls cs,.int .i64 es] 25)).alloc (Obj.cells #[.bool np,.slice ap lp cp,.int .i64 ep] 25))
 have B0:Aside (Dk W w.heap.size ns (.slice as' ls cs) es/\Dk W (w.heap.size+1) np (.slice ap lp cp) ep/\Below w.heap.size w W):=by
  have z1:=Dk.new (w.alloc (Obj.cells #[.bool ns,.slice as' ls cs,.int .i64 es] 25)) np (.slice ap lp cp) ep;rw [dL] at z1;rw [mI];exact ⟨(Dk.new _ _ _ _).below (ae _ _),z1,(ae _ _).trans ((ae _ _).mono aO)⟩
 have kg:=ak mI;have HT:=ak hT;have HRV:=ak rV;clear mI hT rV;have C:=hid (iH mode W);have D:=hid (mQ less W);unfold rO at hz
 cases hm:pE mode with
 | false =>
   rw [hm,nJ,nJ,if_neg au] at hz;rw [hm] at C;obtain ⟨rfl,rfl⟩:=fu hz;clear hz HD;go_enter Tryz.func7,Tryz.ntmps7
   go_upto_region 1 with fail
   rw [<-kg.o];clear kg;go_wp2_with fail;refine C.o.mono ?_;rintro r v ⟨rfl,hv⟩;rw [hv];clear hv v C;go_wp2;exact aF (v:=.tuple #[.float .f64 0,.int .i64 1]) (by simp [results,Tryz.results7,go_sem]) rfl ⟨rfl,B0.o.r2⟩
 | true =>
 rw [hm] at C hz
 cases hs:lsB less with
 | false =>
   rw [hs,qJ,nJ,if_neg au] at hz;rw [hs] at D;obtain ⟨rfl,rfl⟩:=fu hz;clear hz HD;go_enter Tryz.func7,Tryz.ntmps7
   go_upto_region 1 with fail
   rw [<-kg.o];clear kg;go_wp2_with fail;refine C.o.mono ?_;rintro r v ⟨rfl,hv⟩;rw [hv];clear hv v C;go_wp2_with fail;refine D.o.mono ?_;rintro r v ⟨rfl,hv⟩;rw [hv];clear hv v D;go_wp2;exact aF (v:=.tuple #[.float .f64 0,.int .i64 1]) (by simp [results,Tryz.results7,go_sem]) rfl ⟨rfl,B0.o.r2⟩
 | true =>
 rw [hs] at D hz;rw [yj,qJ] at hz
 by_cases h1:1<=n
 case neg =>
  rw [decide_eq_false h1,nJ,if_neg au] at hz;have d1:decide (n<1)=true:=decide_eq_true af;obtain ⟨rfl,rfl⟩:=fu hz;clear hz HD;go_enter Tryz.func7,Tryz.ntmps7
  go_upto_region 1 with fail
  rw [<-kg.o];clear kg;go_wp2_with fail;refine C.o.mono ?_;rintro r v ⟨rfl,hv⟩;rw [hv];clear hv v C;go_wp2_with fail;refine D.o.mono ?_;rintro r v ⟨rfl,hv⟩;rw [hv];clear hv v D;go_wp2;exact aF (v:=.tuple #[.float .f64 0,.int .i64 1]) (by simp [results,Tryz.results7,go_sem]) rfl ⟨rfl,B0.o.r2⟩
 case pos =>
 have d1:decide (n<1)=false:=decide_eq_false af
 by_cases h2:n<=1099511627776
 case neg =>
  rw [decide_eq_true h1,decide_eq_false h2,Bi,if_neg au] at hz;have d2:decide (1099511627776<n)=true:=decide_eq_true af;obtain ⟨rfl,rfl⟩:=fu hz;clear hz HD;go_enter Tryz.func7,Tryz.ntmps7
  go_upto_region 1 with fail
  rw [<-kg.o];clear kg;go_wp2_with fail;refine C.o.mono ?_;rintro r v ⟨rfl,hv⟩;rw [hv];clear hv v C;go_wp2_with fail;refine D.o.mono ?_;rintro r v ⟨rfl,hv⟩;rw [hv];clear hv v D;go_wp2;exact aF (v:=.tuple #[.float .f64 0,.int .i64 1]) (by simp [results,Tryz.results7,go_sem]) rfl ⟨rfl,B0.o.r2⟩
 case pos =>
  have d2:decide (1099511627776<n)=false:=decide_eq_false af;rw [decide_eq_true h1,decide_eq_true h2,yj,if_pos rfl] at hz;have yX:0<=less/\less<=1:=by have:=Dh hs;omega
  obtain ⟨N,rfl⟩:∃ N:Nat,n=(N:Int):=⟨n.toNat,af⟩;have C3:=hid (HD.o W B0.o.r2);have HZ:=ak hz;have HL:=(aZ yX h1 h2);clear hz HD hs hm yX h1 h2;go_enter Tryz.func7,Tryz.ntmps7
  go_upto_region 1 with fail
  rw [<-kg.o];clear kg;go_wp2_with fail;refine C.o.mono ?_;rintro r v ⟨rfl,hv⟩;rw [hv];clear hv v C;go_wp2_with fail;refine D.o.mono ?_;rintro r v ⟨rfl,hv⟩;rw [hv];clear hv v D;obtain ⟨x0,x1,x2,bE,bF,bG⟩:=B0.o.1.facts;obtain ⟨y0,y1,y2,bN,bO,bU⟩:=B0.o.2.1.facts;go_wp2_with fail;refine C3.o.mono ?_;rintro r u ⟨hd,hb⟩;obtain ⟨p1,q1,rfl,hN⟩:=hd.aG;obtain ⟨U,hU⟩:=ah (u.alloc (Obj.cells #[.bool (dN oV),.slice p1 (ws (dX oV)).length q1,.int .i64 (dE oV)] 25));obtain ⟨g12,nz⟩:=ah (u.heap.size)
  have B1:Aside (Dk U g12 (dN oV) (.slice p1 (ws (dX oV)).length q1) (dE oV)/\Nt 0 U (.slice p1 (ws (dX oV)).length q1) (dX oV)/\Below w.heap.size w U):=by
   rw [hU,nz];have b:=B0.o.r2.trans (hb.mono B0.o.r2.size);exact ⟨Dk.new _ _ _ _,hN.below (ae _ _),b.trans ((ae _ _).mono b.size)⟩
  have HU:=(aJ hU nz);clear hU nz hN hd hb C3 x0 x1 x2 bE bF bG y0 y1 y2 bN bO bU B0;have hz:=HZ.o
  cases hso:oV.isSome with
  | false =>
    rw [hso,if_neg au] at hz;rw [mK hso];obtain ⟨rfl,rfl⟩:=fu hz;clear hz HZ hso
    go_upto_region 4 with fail
    rw [<-HU.o.1];clear HU;go_wp2;exact aF (v:=.tuple #[.float .f64 0,.int .i64 2]) (by simp [results,Tryz.results7,go_sem]) rfl ⟨rfl,B1.o.r2⟩
  | true =>
    rw [hso,if_pos rfl] at hz;rw [mJ hso];have HSO:=ak hso
    go_upto_region 4 with fail
    rw [<-HU.o.1,<-HU.o.2];clear HU hso
    by_cases hle:(N:Int)<=less
    · have VZ:decide ((N:Int)<=less)=true:=decide_eq_true hle;rw [if_pos hle] at hz;obtain ⟨rfl,rfl⟩:=fu hz;clear hz HZ;go_wp2;exact aF (v:=.tuple #[.float .f64 0,.int .i64 3]) (by simp [results,Tryz.results7,go_sem]) rfl ⟨rfl,B1.o.r2⟩
    · have VZ:decide ((N:Int)<=less)=false:=decide_eq_false hle;rw [if_neg hle] at hz;obtain ⟨oD,vH⟩:=ah (gV 0 ((N:Int)*((N:Int)-less)));rw [<-vH] at hz;have qP:N<=1099511627776:=by have:=HL.o.r2;omega
      have FD:Fm oD:=by rw [vH];exact dB au au (Ic qP HL.o.1.1 HL.o.1.2)
      have qj:Hid (∀ u:World,dJ u->Calls Tryz.prog 28 #[.int .i64 (N:Nat),.int .i64 less] u fun r w'=>bC 0 w' r oD/\Below u.heap.size u w'):=fun u hu=>by
       rw [vH];exact rM N less u hu qP HL.o.1.1 HL.o.1.2 af
      have HR:Hid (∀ (u:World) (b:Option Addr) (cb:Nat),dJ u->Nt 0 u (.slice p1 (ws (dX oV)).length q1) (dX oV)->Nt 0 u (.slice b (ws (dX oD)).length cb) (dX oD)->Calls Tryz.prog 27 #[.agg #[.bool (dN oV),.slice p1 (ws (dX oV)).length q1,.int .i64 (dE oV),.bool (dN oD),.slice b (ws (dX oD)).length cb,.int .i64 (dE oD)],.int .i64 mode] u fun r w'=>r=.returned (.tuple #[.float .f64 X,.int .i64 E])/\Below u.heap.size u w'):=fun u b cb qi n1 n2=>by
       have:=Su mode HSO.o (HRV.o HSO.o) FD n1 n2 qi;rw [hz] at this;exact this
      have hdr:=(aD U.heap.size U).drew;have BD:=aJ (B1.o.2.1.below hdr) (B1.o.r2.trans (hdr.mono B1.o.r2.size));have kS:Aside (U.drew.cell? ⟨g12,0,none⟩=some (.bool (dN oV))/\U.drew.cell? ⟨g12,1,none⟩=some (.slice p1 (ws (dX oV)).length q1)/\U.drew.cell? ⟨g12,2,none⟩=some (.int .i64 (dE oV))):=⟨(B1.o.1.below hdr).facts.1,(B1.o.1.below hdr).facts.2.1,(B1.o.1.below hdr).facts.2.2.1⟩;have C1:=hid (qj.o U.drew (HT.o.belows BD.o.2));clear hz HZ vH FD hdr qP hle HSO HRV HL B1;go_wp2_with fail
      go_region_held3 (fun w'=>w'.cell? ⟨g12,0,none⟩=some (.bool (dN oV))/\w'.cell? ⟨g12,1,none⟩=some (.slice p1 (ws (dX oV)).length q1)/\w'.cell? ⟨g12,2,none⟩=some (.int .i64 (dE oV))) (with_reducible exact kS.o) (first
       | (go_at_call 28
          with_reducible refine C1.o.mono ?_
          rintro r u4 ⟨hd,hb⟩;obtain ⟨a4,c4,rfl,fw⟩:=hd.aG;have BG:=aZ (BD.o.1.below hb) (BD.o.2.trans (hb.mono BD.o.2.size)) fw;have kS:=ak (vG hb kS.o);have C3:=hid (HR.o u4 a4 c4 (HT.o.belows BG.o.2.1) BG.o.1 BG.o.r2)
          clear hb hd fw C1)
       | (go_at_call 27
          with_reducible refine C3.o.mono ?_
          rintro r u5 ⟨rfl,hb⟩;have BF:=ak (BG.o.2.1.trans (hb.mono BG.o.2.1.size));have kS:=ak (vG hb kS.o)
          clear hb C3))
      go_wp2;exact aF (v:=.tuple #[.float .f64 X,.int .i64 E]) (by simp [results,Tryz.results7,go_sem]) rfl ⟨rfl,BF.o⟩
theorem Yr {w:World}{as' ap:Option Addr}{ls cs lp cp:Nat}{xs ys:List Nat}(n:Int) (ns np:Bool) (es ep less mode:Int) (h1:Arg w as' ls cs xs) (h2:Arg w ap lp cp ys) (hT:dJ w) (hn:-9223372036854775808<=n/\n<=9223372036854775807) (b1:-9223372036854775808<=es/\es<=9223372036854775807) (b2:-9223372036854775808<=ep/\ep<=9223372036854775807)
 (z:Nat×Int) (hz:rO n (rD (dK (gV 0 n) (mkS np (val ys) ep)) (dK (mkS ns (val xs) es) (mkS ns (val xs) es))) less mode=z) :
 Calls Tryz.prog 7 #[.int .i64 n,.agg #[.bool ns,.slice as' ls cs,.int .i64 es],.agg #[.bool np,.slice ap lp cp,.int .i64 ep],.int .i64 less,.int .i64 mode] w fun r w'=>r=.returned (.tuple #[.float .f64 z.1,.int .i64 z.2])/\Below w.heap.size w w':=by
 refine Sv w n ns np as' ap ls cs lp cp es ep less mode _ hT (fun h=>?_) (hid fun u hu=>rG n np ns ns ep es es (h2.below hu) (h1.below hu) (h1.below hu) (hT.belows hu) hn b2 b1 b1) z hz;unfold rD at h |-
 split at h
 · rename_i q;rw [if_pos q];rw [nT] at q;exact Ib (rF q.1) h
 · cases h
structure jd (w u:World) (ns np:Bool) (as' ap:Option Addr) (ls cs lp cp:Nat) (es ep:Int):Prop where
 s:Dk u w.heap.size ns (.slice as' ls cs) es
 p:Dk u (w.heap.size+1) np (.slice ap lp cp) ep
 b:Below w.heap.size w u
theorem jd.below {w u v:World}{ns np:Bool}{as' ap:Option Addr}{ls cs lp cp:Nat}{es ep:Int}(h:jd w u ns np as' ap ls cs lp cp es ep) (hb:Below u.heap.size u v):jd w v ns np as' ap ls cs lp cp es ep :=
 ⟨h.s.below hb,h.p.below hb,h.b.trans (hb.mono h.b.size)⟩
theorem jd.other {w u:World}{g:Nat}{q:Option (Bool×Nat×Int)}{ns np:Bool}{as' ap:Option Addr}{ls cs lp cp:Nat}{es ep:Int}(h:jd w u ns np as' ap ls cs lp cp es ep) (hL:Lo u g q) (hg:w.heap.size+1<g) (x y z:Value):jd w (cZ u g x y z) ns np as' ap ls cs lp cp es ep :=
 ⟨h.s.other g af _ _ _,h.p.other g af _ _ _,dY h.b h.b.size af _ _ _⟩
theorem jd.new (w:World) (ns np:Bool) (as' ap:Option Addr) (ls cs lp cp:Nat) (es ep:Int):jd w ((w.alloc (Obj.cells #[.bool ns,.slice as' ls cs,.int .i64 es] 25)).alloc (Obj.cells #[.bool np,.slice ap lp cp,.int .i64 ep] 25)) ns np as' ap ls cs lp cp es ep:=by
 have z1:=Dk.new (w.alloc (Obj.cells #[.bool ns,.slice as' ls cs,.int .i64 es] 25)) np (.slice ap lp cp) ep;rw [dL] at z1;exact ⟨(Dk.new _ _ _ _).below (ae _ _),z1,(ae _ _).trans ((ae _ _).mono aO)⟩
theorem Sw (w:World) (n less mode:Int) (ns np:Bool) (as' ap:Option Addr) (ls cs lp cp:Nat) (es ep:Int) (h:(pE mode&&lsB less&&(decide (1<=n)&&decide (n<=1099511627776)))=false) :
 Calls Tryz.prog 9 #[.int .i64 n,.agg #[.bool ns,.slice as' ls cs,.int .i64 es],.agg #[.bool np,.slice ap lp cp,.int .i64 ep],.int .i64 less,.int .i64 mode] w fun r w'=>r=.returned (.tuple #[.float .f64 0,.int .i64 1])/\Below w.heap.size w w':=by
 have H0:=ak (jd.new w ns np as' ap ls cs lp cp es ep);obtain ⟨W,hW⟩:=ah ((w.alloc (Obj.cells #[.bool ns,.slice as' ls cs,.int .i64 es] 25)).alloc (Obj.cells #[.bool np,.slice ap lp cp,.int .i64 ep] 25));rw [<-hW] at H0;have HW:=ak hW;clear hW;have C:=hid (o5 mode W);have D:=hid (tL less W)
 cases hm:pE mode with
 | false =>
   rw [hm] at C;clear h;go_enter Tryz.func9,Tryz.ntmps9
   go_upto_region 1 with fail
   rw [<-HW.o];clear HW;go_wp2_with fail;refine C.o.mono ?_;rintro r v ⟨rfl,hv⟩;rw [hv];clear hv v C;go_wp2_with fail;refine D.o.mono ?_;rintro r v ⟨rfl,hv⟩;rw [hv];clear hv v D;go_wp2;exact aF (v:=.tuple #[.float .f64 0,.int .i64 1]) (by simp [results,Tryz.results9,go_sem]) rfl ⟨rfl,H0.o.b⟩
 | true =>
 rw [hm] at C
 by_cases h1:1<=n
 case neg =>
  have d1:decide (n<1)=true:=decide_eq_true af;clear h;go_enter Tryz.func9,Tryz.ntmps9
  go_upto_region 1 with fail
  rw [<-HW.o];clear HW;go_wp2_with fail;refine C.o.mono ?_;rintro r v ⟨rfl,hv⟩;rw [hv];clear hv v C;go_wp2_with fail;refine D.o.mono ?_;rintro r v ⟨rfl,hv⟩;rw [hv];clear hv v D;go_wp2;exact aF (v:=.tuple #[.float .f64 0,.int .i64 1]) (by simp [results,Tryz.results9,go_sem]) rfl ⟨rfl,H0.o.b⟩
 case pos =>
 have d1:decide (n<1)=false:=decide_eq_false af
 by_cases h2:n<=1099511627776
 case neg =>
  have d2:decide (1099511627776<n)=true:=decide_eq_true af;clear h;go_enter Tryz.func9,Tryz.ntmps9
  go_upto_region 1 with fail
  rw [<-HW.o];clear HW;go_wp2_with fail;refine C.o.mono ?_;rintro r v ⟨rfl,hv⟩;rw [hv];clear hv v C;go_wp2_with fail;refine D.o.mono ?_;rintro r v ⟨rfl,hv⟩;rw [hv];clear hv v D;go_wp2;exact aF (v:=.tuple #[.float .f64 0,.int .i64 1]) (by simp [results,Tryz.results9,go_sem]) rfl ⟨rfl,H0.o.b⟩
 case pos =>
 have d2:decide (1099511627776<n)=false:=decide_eq_false af
 cases hs:lsB less with
 | true=>rw [hm,hs,decide_eq_true h1,decide_eq_true h2] at h;cases h
 | false =>
   rw [hs] at D;clear h;go_enter Tryz.func9,Tryz.ntmps9
   go_upto_region 1 with fail
   rw [<-HW.o];clear HW;go_wp2_with fail;refine C.o.mono ?_;rintro r v ⟨rfl,hv⟩;rw [hv];clear hv v C;go_wp2_with fail;refine D.o.mono ?_;rintro r v ⟨rfl,hv⟩;rw [hv];clear hv v D;go_wp2;exact aF (v:=.tuple #[.float .f64 0,.int .i64 1]) (by simp [results,Tryz.results9,go_sem]) rfl ⟨rfl,H0.o.b⟩
theorem Sy (w:World) (n less mode:Int) (ns np:Bool) (as' ap:Option Addr) (ls cs lp cp:Nat) (es ep:Int) (oI o1 o2:Option (Bool×Nat×Int)) (e1 e2:Int)
 (HI:Hid (∀ u:World,Below w.heap.size w u->Calls Tryz.prog 22 #[.int .i64 n] u fun r w'=>bC 0 w' r oI/\Below u.heap.size u w'))
 (nO:Hid (∀ (u:World) (a:Option Addr) (c:Nat),Below w.heap.size w u->Nt 0 u (.slice a (ws (dX oI)).length c) (dX oI)->Calls Tryz.prog 31 #[.agg #[.bool (dN oI),.slice a (ws (dX oI)).length c,.int .i64 (dE oI)],.agg #[.bool np,.slice ap lp cp,.int .i64 ep]] u fun r w'=>iA w' r o1 e1/\Below u.heap.size u w'))
 (uD:Hid (∀ u:World,Below w.heap.size w u->Calls Tryz.prog 31 #[.agg #[.bool ns,.slice as' ls cs,.int .i64 es],.agg #[.bool ns,.slice as' ls cs,.int .i64 es]] u fun r w'=>iA w' r o2 e2/\Below u.heap.size u w')) (hm:pE mode=true) (hs:lsB less=true) (h1:1<=n) (h2:n<=1099511627776) (x1:(e1==0)=false) :
 Calls Tryz.prog 9 #[.int .i64 n,.agg #[.bool ns,.slice as' ls cs,.int .i64 es],.agg #[.bool np,.slice ap lp cp,.int .i64 ep],.int .i64 less,.int .i64 mode] w fun r w'=>r=.returned (.tuple #[.float .f64 0,.int .i64 2])/\Below w.heap.size w w':=by
 have H0:=ak (jd.new w ns np as' ap ls cs lp cp es ep);obtain ⟨W,hW⟩:=ah ((w.alloc (Obj.cells #[.bool ns,.slice as' ls cs,.int .i64 es] 25)).alloc (Obj.cells #[.bool np,.slice ap lp cp,.int .i64 ep] 25));rw [<-hW] at H0;have HW:=ak hW;clear hW;have C:=hid (o5 mode W);have D:=hid (tL less W);rw [hm] at C;rw [hs] at D;have d1:decide (n<1)=false:=decide_eq_false af;have d2:decide (1099511627776<n)=false:=decide_eq_false af;clear hm hs h1 h2;go_enter Tryz.func9,Tryz.ntmps9
 go_upto_region 1 with fail
 rw [<-HW.o];clear HW;go_wp2_with fail;refine C.o.mono ?_;rintro r v ⟨rfl,hv⟩;rw [hv];clear hv v C;go_wp2_with fail;refine D.o.mono ?_;rintro r v ⟨rfl,hv⟩;rw [hv];clear hv v D
 go_upto_region 5 with fail
 clear d1 d2
 go_cut [14,15] from 38 to 44 (fun q e wx=>∃ gq:Nat,q=.pointer (some ⟨gq,0,none⟩)/\e=.int .i64 e1/\Aside (Lo wx gq o1/\jd w wx ns np as' ap ls cs lp cp es ep/\w.heap.size+1<gq))
 case first =>
  have hdr:=(aD W.heap.size W).drew;have BB:=ak (H0.o.below hdr);have BZ:=aJ (H0.o.below (jU W)) (jV W);have k0:=BB.o.p.facts;have kS:=aZ k0.1 k0.2.1 k0.2.2.1;have h3l:=H0.o.p.lt;clear hdr k0
  go_region_held3 (fun w'=>w'.cell? ⟨w.heap.size+1,0,none⟩=some (.bool np)/\w'.cell? ⟨w.heap.size+1,1,none⟩=some (.slice ap lp cp)/\w'.cell? ⟨w.heap.size+1,2,none⟩=some (.int .i64 ep)) (first | with_reducible exact kS.o | with_reducible exact ⟨BZ.o.1.p.facts.1,BZ.o.1.p.facts.2.1,BZ.o.1.p.facts.2.2.1⟩ | with_reducible exact ⟨kZ.o.facts.1,kZ.o.facts.2.1,kZ.o.facts.2.2.1⟩ | with_reducible exact kT.o | with_reducible exact ⟨kM.o.facts.1,kM.o.facts.2.1,kM.o.facts.2.2.1⟩ | with_reducible exact ⟨kN.o.facts.1,kN.o.facts.2.1,kN.o.facts.2.2.1⟩) (first
   | (go_at_call 22
      with_reducible refine (HI.o _ BB.o.b).mono ?_
      rintro r u1 ⟨hd,hb⟩;obtain ⟨a3,c3,rfl,dF⟩:=hd.aG;have BC:=aJ (BB.o.below hb) dF;have kS:=aZ BC.o.1.p.facts.1 BC.o.1.p.facts.2.1 BC.o.1.p.facts.2.2.1;have kZ:=ak (BC.o.1.p.below (ae u1 (Obj.cells #[.bool false,.slice none 0 0,.int .i64 0] 25)));have xh:=BC.o.1.p.lt
      clear hb hd dF)
   | (go_at_call 22
      with_reducible refine (HI.o _ BZ.o.1.b).mono ?_
      rintro r u1 ⟨hd,hb⟩;obtain ⟨a3,c3,rfl,dF⟩:=hd.aG;have BC:=aJ (BZ.o.1.below hb) dF;have ZB:=ak (BZ.o.2.below hb);have kS:=aZ BC.o.1.p.facts.1 BC.o.1.p.facts.2.1 BC.o.1.p.facts.2.2.1
      clear hb hd dF)
   | (go_at_call 31
      with_reducible refine (nO.o _ a3 c3 BC.o.1.b BC.o.2).mono ?_
      rintro r u2 ⟨hd,hb⟩;obtain ⟨a4,c4,rfl,fw⟩:=hd.aG;have BE:=aJ (BC.o.1.below hb) fw;have kS:=aZ BE.o.1.p.facts.1 BE.o.1.p.facts.2.1 BE.o.1.p.facts.2.2.1;have kZ:=ak (BE.o.1.p.below (ae u2 (Obj.cells #[.bool false,.slice none 0 0,.int .i64 0] 25)));have kM:=ak (BE.o.1.p.below (ae u2 (Obj.cells #[.bool (dN o1),.slice a4 (ws (dX o1)).length c4,.int .i64 (dE o1)] 25)));have kN:=ak ((BE.o.1.p.below (ae u2 (Obj.cells #[.bool false,.slice none 0 0,.int .i64 0] 25))).other u2.heap.size (by have:=BE.o.1.p.lt;omega) (.bool (dN o1)) (.slice a4 (ws (dX o1)).length c4) (.int .i64 (dE o1)))
      try have ZB:=ak (ZB.o.below hb)
      try have kT:=ak (show _ from (ai (BE.o.1.p.other _ (show w.heap.size+1≠W.heap.size by omega) (.bool (dN o1)) (.slice a4 (ws (dX o1)).length c4) (.int .i64 (dE o1))).facts.1 (ai (BE.o.1.p.other _ (show w.heap.size+1≠W.heap.size by omega) (.bool (dN o1)) (.slice a4 (ws (dX o1)).length c4) (.int .i64 (dE o1))).facts.2.1 (BE.o.1.p.other _ (show w.heap.size+1≠W.heap.size by omega) (.bool (dN o1)) (.slice a4 (ws (dX o1)).length c4) (.int .i64 (dE o1))).facts.2.2.1)))
      try (obtain ⟨zp,zq,DZ,MZ⟩:=ZB.o;obtain ⟨z0,z1,z2,eF,eG,eO⟩:=DZ.facts;clear DZ MZ)
      clear hb hd fw)
   | (go_at_call 31
      with_reducible refine (nO.o _ a3 c3 (BC.o.1.below (ae u1 (Obj.cells #[.bool false,.slice none 0 0,.int .i64 0] 25))).b (BC.o.2.below (ae u1 (Obj.cells #[.bool false,.slice none 0 0,.int .i64 0] 25)))).mono ?_
      rintro r u2 ⟨hd,hb⟩;obtain ⟨a4,c4,rfl,fw⟩:=hd.aG;have BE:=aJ ((BC.o.1.below (ae u1 (Obj.cells #[.bool false,.slice none 0 0,.int .i64 0] 25))).below hb) fw;have ZC:=ak ((Lo.zero u1).below hb);have kS:=aZ BE.o.1.p.facts.1 BE.o.1.p.facts.2.1 BE.o.1.p.facts.2.2.1;have kT:=aZ (BE.o.1.p.other _ (show w.heap.size+1≠u1.heap.size by omega) (.bool (dN o1)) (.slice a4 (ws (dX o1)).length c4) (.int .i64 (dE o1))).facts.1 (BE.o.1.p.other _ (show w.heap.size+1≠u1.heap.size by omega) (.bool (dN o1)) (.slice a4 (ws (dX o1)).length c4) (.int .i64 (dE o1))).facts.2.1 (BE.o.1.p.other _ (show w.heap.size+1≠u1.heap.size by omega) (.bool (dN o1)) (.slice a4 (ws (dX o1)).length c4) (.int .i64 (dE o1))).facts.2.2.1;obtain ⟨zp,zq,DZ,MZ⟩:=ZC.o;obtain ⟨z0,z1,z2,eF,eG,eO⟩:=DZ.facts
      clear hb hd fw DZ MZ))
  all_goals
   go_wp2_with fail
   go_meet
   case rel =>
    first
     | exact ⟨u2.heap.size,rfl,rfl,Lo.new BE.o.2,BE.o.1.below (ae _ _),BE.o.1.p.lt⟩
     | exact ⟨u2.heap.size,rfl,rfl,(Lo.zero u2).set (BE.o.2.below (ae _ _)),(BE.o.1.below (ae _ _)).other (Lo.zero u2) BE.o.1.p.lt _ _ _,BE.o.1.p.lt⟩
     | exact ⟨W.heap.size,rfl,rfl,ZB.o.set BE.o.2,BE.o.1.other ZB.o h3l _ _ _,h3l⟩
     | exact ⟨u1.heap.size,rfl,rfl,ZC.o.set BE.o.2,BE.o.1.other ZC.o xh _ _ _,xh⟩
 obtain ⟨gq,rfl,rfl,K1⟩:=hcut;obtain ⟨U,hU⟩:=ah wc;rw [<-hU] at K1 |-;clear hU H0;obtain ⟨x0,x1,x2,bE,bF,bG⟩:=K1.o.2.1.s.facts;have C:=hid (uD.o U K1.o.2.1.b);go_wp2_with fail;refine C.o.mono ?_;rintro r u3 ⟨hd,hb⟩;obtain ⟨a5,c5,rfl,nM⟩:=hd.aG;obtain ⟨V,hV⟩:=ah (u3.alloc (Obj.cells #[.bool (dN o2),.slice a5 (ws (dX o2)).length c5,.int .i64 (dE o2)] 25));obtain ⟨gr,hgr⟩:=ah (u3.heap.size)
 have K2:Aside (Lo V gq o1/\jd w V ns np as' ap ls cs lp cp es ep/\Lo V gr o2):=by
  rw [hV,hgr];exact ⟨(K1.o.1.below hb).below (ae _ _),(K1.o.2.1.below hb).below (ae _ _),Lo.new nM⟩
 have HV:=(aJ hV hgr);clear hV hgr hb hd nM C x0 x1 x2 bE bF bG K1
 go_upto_region 7 with fail
 rw [<-HV.o.1,<-HV.o.2];clear HV;go_wp2;exact aF (v:=.tuple #[.float .f64 0,.int .i64 2]) (by simp [results,Tryz.results9,go_sem]) rfl ⟨rfl,K2.o.2.1.b⟩
theorem Sz (w:World) (n less mode:Int) (ns np:Bool) (as' ap:Option Addr) (ls cs lp cp:Nat) (es ep:Int) (oI o1 o2:Option (Bool×Nat×Int)) (e1 e2:Int)
 (HI:Hid (∀ u:World,Below w.heap.size w u->Calls Tryz.prog 22 #[.int .i64 n] u fun r w'=>bC 0 w' r oI/\Below u.heap.size u w'))
 (nO:Hid (∀ (u:World) (a:Option Addr) (c:Nat),Below w.heap.size w u->Nt 0 u (.slice a (ws (dX oI)).length c) (dX oI)->Calls Tryz.prog 31 #[.agg #[.bool (dN oI),.slice a (ws (dX oI)).length c,.int .i64 (dE oI)],.agg #[.bool np,.slice ap lp cp,.int .i64 ep]] u fun r w'=>iA w' r o1 e1/\Below u.heap.size u w'))
 (uD:Hid (∀ u:World,Below w.heap.size w u->Calls Tryz.prog 31 #[.agg #[.bool ns,.slice as' ls cs,.int .i64 es],.agg #[.bool ns,.slice as' ls cs,.int .i64 es]] u fun r w'=>iA w' r o2 e2/\Below u.heap.size u w')) (hm:pE mode=true) (hs:lsB less=true) (h1:1<=n) (h2:n<=1099511627776) (x1:e1=0) (x2:(e2==0)=false) :
 Calls Tryz.prog 9 #[.int .i64 n,.agg #[.bool ns,.slice as' ls cs,.int .i64 es],.agg #[.bool np,.slice ap lp cp,.int .i64 ep],.int .i64 less,.int .i64 mode] w fun r w'=>r=.returned (.tuple #[.float .f64 0,.int .i64 2])/\Below w.heap.size w w':=by
 have H0:=ak (jd.new w ns np as' ap ls cs lp cp es ep);obtain ⟨W,hW⟩:=ah ((w.alloc (Obj.cells #[.bool ns,.slice as' ls cs,.int .i64 es] 25)).alloc (Obj.cells #[.bool np,.slice ap lp cp,.int .i64 ep] 25));rw [<-hW] at H0;have HW:=ak hW;clear hW;have C:=hid (o5 mode W);have D:=hid (tL less W);rw [hm] at C;rw [hs] at D;have d1:decide (n<1)=false:=decide_eq_false af;have d2:decide (1099511627776<n)=false:=decide_eq_false af;clear hm hs h1 h2;subst x1;go_enter Tryz.func9,Tryz.ntmps9
 go_upto_region 1 with fail
 rw [<-HW.o];clear HW;go_wp2_with fail;refine C.o.mono ?_;rintro r v ⟨rfl,hv⟩;rw [hv];clear hv v C;go_wp2_with fail;refine D.o.mono ?_;rintro r v ⟨rfl,hv⟩;rw [hv];clear hv v D
 go_upto_region 5 with fail
 clear d1 d2
 go_cut [14,15] from 38 to 44 (fun q e wx=>∃ gq:Nat,q=.pointer (some ⟨gq,0,none⟩)/\e=.int .i64 0/\Aside (Lo wx gq o1/\jd w wx ns np as' ap ls cs lp cp es ep/\w.heap.size+1<gq))
 case first =>
  have hdr:=(aD W.heap.size W).drew;have BB:=ak (H0.o.below hdr);have BZ:=aJ (H0.o.below (jU W)) (jV W);have k0:=BB.o.p.facts;have kS:=aZ k0.1 k0.2.1 k0.2.2.1;have h3l:=H0.o.p.lt;clear hdr k0
  go_region_held3 (fun w'=>w'.cell? ⟨w.heap.size+1,0,none⟩=some (.bool np)/\w'.cell? ⟨w.heap.size+1,1,none⟩=some (.slice ap lp cp)/\w'.cell? ⟨w.heap.size+1,2,none⟩=some (.int .i64 ep)) (first | with_reducible exact kS.o | with_reducible exact ⟨BZ.o.1.p.facts.1,BZ.o.1.p.facts.2.1,BZ.o.1.p.facts.2.2.1⟩ | with_reducible exact ⟨kZ.o.facts.1,kZ.o.facts.2.1,kZ.o.facts.2.2.1⟩ | with_reducible exact kT.o | with_reducible exact ⟨kM.o.facts.1,kM.o.facts.2.1,kM.o.facts.2.2.1⟩ | with_reducible exact ⟨kN.o.facts.1,kN.o.facts.2.1,kN.o.facts.2.2.1⟩) (first
   | (go_at_call 22
      with_reducible refine (HI.o _ BB.o.b).mono ?_
      rintro r u1 ⟨hd,hb⟩;obtain ⟨a3,c3,rfl,dF⟩:=hd.aG;have BC:=aJ (BB.o.below hb) dF;have kS:=aZ BC.o.1.p.facts.1 BC.o.1.p.facts.2.1 BC.o.1.p.facts.2.2.1;have kZ:=ak (BC.o.1.p.below (ae u1 (Obj.cells #[.bool false,.slice none 0 0,.int .i64 0] 25)));have xh:=BC.o.1.p.lt
      clear hb hd dF)
   | (go_at_call 22
      with_reducible refine (HI.o _ BZ.o.1.b).mono ?_
      rintro r u1 ⟨hd,hb⟩;obtain ⟨a3,c3,rfl,dF⟩:=hd.aG;have BC:=aJ (BZ.o.1.below hb) dF;have ZB:=ak (BZ.o.2.below hb);have kS:=aZ BC.o.1.p.facts.1 BC.o.1.p.facts.2.1 BC.o.1.p.facts.2.2.1
      clear hb hd dF)
   | (go_at_call 31
      with_reducible refine (nO.o _ a3 c3 BC.o.1.b BC.o.2).mono ?_
      rintro r u2 ⟨hd,hb⟩;obtain ⟨a4,c4,rfl,fw⟩:=hd.aG;have BE:=aJ (BC.o.1.below hb) fw;have kS:=aZ BE.o.1.p.facts.1 BE.o.1.p.facts.2.1 BE.o.1.p.facts.2.2.1;have kZ:=ak (BE.o.1.p.below (ae u2 (Obj.cells #[.bool false,.slice none 0 0,.int .i64 0] 25)));have kM:=ak (BE.o.1.p.below (ae u2 (Obj.cells #[.bool (dN o1),.slice a4 (ws (dX o1)).length c4,.int .i64 (dE o1)] 25)));have kN:=ak ((BE.o.1.p.below (ae u2 (Obj.cells #[.bool false,.slice none 0 0,.int .i64 0] 25))).other u2.heap.size (by have:=BE.o.1.p.lt;omega) (.bool (dN o1)) (.slice a4 (ws (dX o1)).length c4) (.int .i64 (dE o1)))
      try have ZB:=ak (ZB.o.below hb)
      try have kT:=ak (show _ from (ai (BE.o.1.p.other _ (show w.heap.size+1≠W.heap.size by omega) (.bool (dN o1)) (.slice a4 (ws (dX o1)).length c4) (.int .i64 (dE o1))).facts.1 (ai (BE.o.1.p.other _ (show w.heap.size+1≠W.heap.size by omega) (.bool (dN o1)) (.slice a4 (ws (dX o1)).length c4) (.int .i64 (dE o1))).facts.2.1 (BE.o.1.p.other _ (show w.heap.size+1≠W.heap.size by omega) (.bool (dN o1)) (.slice a4 (ws (dX o1)).length c4) (.int .i64 (dE o1))).facts.2.2.1)))
      try (obtain ⟨zp,zq,DZ,MZ⟩:=ZB.o;obtain ⟨z0,z1,z2,eF,eG,eO⟩:=DZ.facts;clear DZ MZ)
      clear hb hd fw)
   | (go_at_call 31
      with_reducible refine (nO.o _ a3 c3 (BC.o.1.below (ae u1 (Obj.cells #[.bool false,.slice none 0 0,.int .i64 0] 25))).b (BC.o.2.below (ae u1 (Obj.cells #[.bool false,.slice none 0 0,.int .i64 0] 25)))).mono ?_
      rintro r u2 ⟨hd,hb⟩;obtain ⟨a4,c4,rfl,fw⟩:=hd.aG;have BE:=aJ ((BC.o.1.below (ae u1 (Obj.cells #[.bool false,.slice none 0 0,.int .i64 0] 25))).below hb) fw;have ZC:=ak ((Lo.zero u1).below hb);have kS:=aZ BE.o.1.p.facts.1 BE.o.1.p.facts.2.1 BE.o.1.p.facts.2.2.1;have kT:=aZ (BE.o.1.p.other _ (show w.heap.size+1≠u1.heap.size by omega) (.bool (dN o1)) (.slice a4 (ws (dX o1)).length c4) (.int .i64 (dE o1))).facts.1 (BE.o.1.p.other _ (show w.heap.size+1≠u1.heap.size by omega) (.bool (dN o1)) (.slice a4 (ws (dX o1)).length c4) (.int .i64 (dE o1))).facts.2.1 (BE.o.1.p.other _ (show w.heap.size+1≠u1.heap.size by omega) (.bool (dN o1)) (.slice a4 (ws (dX o1)).length c4) (.int .i64 (dE o1))).facts.2.2.1;obtain ⟨zp,zq,DZ,MZ⟩:=ZC.o;obtain ⟨z0,z1,z2,eF,eG,eO⟩:=DZ.facts
      clear hb hd fw DZ MZ))
  all_goals
   go_wp2_with fail
   go_meet
   case rel =>
    first
     | exact ⟨u2.heap.size,rfl,rfl,Lo.new BE.o.2,BE.o.1.below (ae _ _),BE.o.1.p.lt⟩
     | exact ⟨u2.heap.size,rfl,rfl,(Lo.zero u2).set (BE.o.2.below (ae _ _)),(BE.o.1.below (ae _ _)).other (Lo.zero u2) BE.o.1.p.lt _ _ _,BE.o.1.p.lt⟩
     | exact ⟨W.heap.size,rfl,rfl,ZB.o.set BE.o.2,BE.o.1.other ZB.o h3l _ _ _,h3l⟩
     | exact ⟨u1.heap.size,rfl,rfl,ZC.o.set BE.o.2,BE.o.1.other ZC.o xh _ _ _,xh⟩
 obtain ⟨gq,rfl,rfl,K1⟩:=hcut;obtain ⟨U,hU⟩:=ah wc;rw [<-hU] at K1 |-;clear hU H0;obtain ⟨x0,x1,x2,bE,bF,bG⟩:=K1.o.2.1.s.facts;have C:=hid (uD.o U K1.o.2.1.b);go_wp2_with fail;refine C.o.mono ?_;rintro r u3 ⟨hd,hb⟩;obtain ⟨a5,c5,rfl,nM⟩:=hd.aG;obtain ⟨V,hV⟩:=ah (u3.alloc (Obj.cells #[.bool (dN o2),.slice a5 (ws (dX o2)).length c5,.int .i64 (dE o2)] 25));obtain ⟨gr,hgr⟩:=ah (u3.heap.size)
 have K2:Aside (Lo V gq o1/\jd w V ns np as' ap ls cs lp cp es ep/\Lo V gr o2):=by
  rw [hV,hgr];exact ⟨(K1.o.1.below hb).below (ae _ _),(K1.o.2.1.below hb).below (ae _ _),Lo.new nM⟩
 have HV:=(aJ hV hgr);clear hV hgr hb hd nM C x0 x1 x2 bE bF bG K1
 go_upto_region 7 with fail
 rw [<-HV.o.1,<-HV.o.2];clear HV;go_wp2;exact aF (v:=.tuple #[.float .f64 0,.int .i64 2]) (by simp [results,Tryz.results9,go_sem]) rfl ⟨rfl,K2.o.2.1.b⟩
theorem SA (w:World) (n less mode:Int) (ns np:Bool) (as' ap:Option Addr) (ls cs lp cp:Nat) (es ep:Int) (oI o1 o2 o3:Option (Bool×Nat×Int)) (e1 e2 e3:Int)
 (HI:Hid (∀ u:World,Below w.heap.size w u->Calls Tryz.prog 22 #[.int .i64 n] u fun r w'=>bC 0 w' r oI/\Below u.heap.size u w'))
 (nO:Hid (∀ (u:World) (a:Option Addr) (c:Nat),Below w.heap.size w u->Nt 0 u (.slice a (ws (dX oI)).length c) (dX oI)->Calls Tryz.prog 31 #[.agg #[.bool (dN oI),.slice a (ws (dX oI)).length c,.int .i64 (dE oI)],.agg #[.bool np,.slice ap lp cp,.int .i64 ep]] u fun r w'=>iA w' r o1 e1/\Below u.heap.size u w'))
 (uD:Hid (∀ u:World,Below w.heap.size w u->Calls Tryz.prog 31 #[.agg #[.bool ns,.slice as' ls cs,.int .i64 es],.agg #[.bool ns,.slice as' ls cs,.int .i64 es]] u fun r w'=>iA w' r o2 e2/\Below u.heap.size u w'))
 (HS:Hid (∀ (u:World) (a b:Option Addr) (c d:Nat),Below w.heap.size w u->Nt 0 u (.slice a (ws (dX o1)).length c) (dX o1)->Nt 0 u (.slice b (ws (dX o2)).length d) (dX o2)->Calls Tryz.prog 32 #[.agg #[.bool (dN o1),.slice a (ws (dX o1)).length c,.int .i64 (dE o1)],.agg #[.bool (dN o2),.slice b (ws (dX o2)).length d,.int .i64 (dE o2)]] u fun r w'=>iA w' r o3 e3/\Below u.heap.size u w')) (hm:pE mode=true) (hs:lsB less=true) (h1:1<=n) (h2:n<=1099511627776) (x1:e1=0) (x2:e2=0) (x3:(e3==0)=false) :
 Calls Tryz.prog 9 #[.int .i64 n,.agg #[.bool ns,.slice as' ls cs,.int .i64 es],.agg #[.bool np,.slice ap lp cp,.int .i64 ep],.int .i64 less,.int .i64 mode] w fun r w'=>r=.returned (.tuple #[.float .f64 0,.int .i64 2])/\Below w.heap.size w w':=by
 have H0:=ak (jd.new w ns np as' ap ls cs lp cp es ep);obtain ⟨W,hW⟩:=ah ((w.alloc (Obj.cells #[.bool ns,.slice as' ls cs,.int .i64 es] 25)).alloc (Obj.cells #[.bool np,.slice ap lp cp,.int .i64 ep] 25));rw [<-hW] at H0;have HW:=ak hW;clear hW;have C:=hid (o5 mode W);have D:=hid (tL less W);rw [hm] at C;rw [hs] at D;have d1:decide (n<1)=false:=decide_eq_false af;have d2:decide (1099511627776<n)=false:=decide_eq_false af;clear hm hs h1 h2;subst x1;subst x2;go_enter Tryz.func9,Tryz.ntmps9
 go_upto_region 1 with fail
 rw [<-HW.o];clear HW;go_wp2_with fail;refine C.o.mono ?_;rintro r v ⟨rfl,hv⟩;rw [hv];clear hv v C;go_wp2_with fail;refine D.o.mono ?_;rintro r v ⟨rfl,hv⟩;rw [hv];clear hv v D
 go_upto_region 5 with fail
 clear d1 d2
 go_cut [14,15] from 38 to 44 (fun q e wx=>∃ gq:Nat,q=.pointer (some ⟨gq,0,none⟩)/\e=.int .i64 0/\Aside (Lo wx gq o1/\jd w wx ns np as' ap ls cs lp cp es ep/\w.heap.size+1<gq))
 case first =>
  have hdr:=(aD W.heap.size W).drew;have BB:=ak (H0.o.below hdr);have BZ:=aJ (H0.o.below (jU W)) (jV W);have k0:=BB.o.p.facts;have kS:=aZ k0.1 k0.2.1 k0.2.2.1;have h3l:=H0.o.p.lt;clear hdr k0
  go_region_held3 (fun w'=>w'.cell? ⟨w.heap.size+1,0,none⟩=some (.bool np)/\w'.cell? ⟨w.heap.size+1,1,none⟩=some (.slice ap lp cp)/\w'.cell? ⟨w.heap.size+1,2,none⟩=some (.int .i64 ep)) (first | with_reducible exact kS.o | with_reducible exact ⟨BZ.o.1.p.facts.1,BZ.o.1.p.facts.2.1,BZ.o.1.p.facts.2.2.1⟩ | with_reducible exact ⟨kZ.o.facts.1,kZ.o.facts.2.1,kZ.o.facts.2.2.1⟩ | with_reducible exact kT.o | with_reducible exact ⟨kM.o.facts.1,kM.o.facts.2.1,kM.o.facts.2.2.1⟩ | with_reducible exact ⟨kN.o.facts.1,kN.o.facts.2.1,kN.o.facts.2.2.1⟩) (first
   | (go_at_call 22
      with_reducible refine (HI.o _ BB.o.b).mono ?_
      rintro r u1 ⟨hd,hb⟩;obtain ⟨a3,c3,rfl,dF⟩:=hd.aG;have BC:=aJ (BB.o.below hb) dF;have kS:=aZ BC.o.1.p.facts.1 BC.o.1.p.facts.2.1 BC.o.1.p.facts.2.2.1;have kZ:=ak (BC.o.1.p.below (ae u1 (Obj.cells #[.bool false,.slice none 0 0,.int .i64 0] 25)));have xh:=BC.o.1.p.lt
      clear hb hd dF)
   | (go_at_call 22
      with_reducible refine (HI.o _ BZ.o.1.b).mono ?_
      rintro r u1 ⟨hd,hb⟩;obtain ⟨a3,c3,rfl,dF⟩:=hd.aG;have BC:=aJ (BZ.o.1.below hb) dF;have ZB:=ak (BZ.o.2.below hb);have kS:=aZ BC.o.1.p.facts.1 BC.o.1.p.facts.2.1 BC.o.1.p.facts.2.2.1
      clear hb hd dF)
   | (go_at_call 31
      with_reducible refine (nO.o _ a3 c3 BC.o.1.b BC.o.2).mono ?_
      rintro r u2 ⟨hd,hb⟩;obtain ⟨a4,c4,rfl,fw⟩:=hd.aG;have BE:=aJ (BC.o.1.below hb) fw;have kS:=aZ BE.o.1.p.facts.1 BE.o.1.p.facts.2.1 BE.o.1.p.facts.2.2.1;have kZ:=ak (BE.o.1.p.below (ae u2 (Obj.cells #[.bool false,.slice none 0 0,.int .i64 0] 25)));have kM:=ak (BE.o.1.p.below (ae u2 (Obj.cells #[.bool (dN o1),.slice a4 (ws (dX o1)).length c4,.int .i64 (dE o1)] 25)));have kN:=ak ((BE.o.1.p.below (ae u2 (Obj.cells #[.bool false,.slice none 0 0,.int .i64 0] 25))).other u2.heap.size (by have:=BE.o.1.p.lt;omega) (.bool (dN o1)) (.slice a4 (ws (dX o1)).length c4) (.int .i64 (dE o1)))
      try have ZB:=ak (ZB.o.below hb)
      try have kT:=ak (show _ from (ai (BE.o.1.p.other _ (show w.heap.size+1≠W.heap.size by omega) (.bool (dN o1)) (.slice a4 (ws (dX o1)).length c4) (.int .i64 (dE o1))).facts.1 (ai (BE.o.1.p.other _ (show w.heap.size+1≠W.heap.size by omega) (.bool (dN o1)) (.slice a4 (ws (dX o1)).length c4) (.int .i64 (dE o1))).facts.2.1 (BE.o.1.p.other _ (show w.heap.size+1≠W.heap.size by omega) (.bool (dN o1)) (.slice a4 (ws (dX o1)).length c4) (.int .i64 (dE o1))).facts.2.2.1)))
      try (obtain ⟨zp,zq,DZ,MZ⟩:=ZB.o;obtain ⟨z0,z1,z2,eF,eG,eO⟩:=DZ.facts;clear DZ MZ)
      clear hb hd fw)
   | (go_at_call 31
      with_reducible refine (nO.o _ a3 c3 (BC.o.1.below (ae u1 (Obj.cells #[.bool false,.slice none 0 0,.int .i64 0] 25))).b (BC.o.2.below (ae u1 (Obj.cells #[.bool false,.slice none 0 0,.int .i64 0] 25)))).mono ?_
      rintro r u2 ⟨hd,hb⟩;obtain ⟨a4,c4,rfl,fw⟩:=hd.aG;have BE:=aJ ((BC.o.1.below (ae u1 (Obj.cells #[.bool false,.slice none 0 0,.int .i64 0] 25))).below hb) fw;have ZC:=ak ((Lo.zero u1).below hb);have kS:=aZ BE.o.1.p.facts.1 BE.o.1.p.facts.2.1 BE.o.1.p.facts.2.2.1;have kT:=aZ (BE.o.1.p.other _ (show w.heap.size+1≠u1.heap.size by omega) (.bool (dN o1)) (.slice a4 (ws (dX o1)).length c4) (.int .i64 (dE o1))).facts.1 (BE.o.1.p.other _ (show w.heap.size+1≠u1.heap.size by omega) (.bool (dN o1)) (.slice a4 (ws (dX o1)).length c4) (.int .i64 (dE o1))).facts.2.1 (BE.o.1.p.other _ (show w.heap.size+1≠u1.heap.size by omega) (.bool (dN o1)) (.slice a4 (ws (dX o1)).length c4) (.int .i64 (dE o1))).facts.2.2.1;obtain ⟨zp,zq,DZ,MZ⟩:=ZC.o;obtain ⟨z0,z1,z2,eF,eG,eO⟩:=DZ.facts
      clear hb hd fw DZ MZ))
  all_goals
   go_wp2_with fail
   go_meet
   case rel =>
    first
     | exact ⟨u2.heap.size,rfl,rfl,Lo.new BE.o.2,BE.o.1.below (ae _ _),BE.o.1.p.lt⟩
     | exact ⟨u2.heap.size,rfl,rfl,(Lo.zero u2).set (BE.o.2.below (ae _ _)),(BE.o.1.below (ae _ _)).other (Lo.zero u2) BE.o.1.p.lt _ _ _,BE.o.1.p.lt⟩
     | exact ⟨W.heap.size,rfl,rfl,ZB.o.set BE.o.2,BE.o.1.other ZB.o h3l _ _ _,h3l⟩
     | exact ⟨u1.heap.size,rfl,rfl,ZC.o.set BE.o.2,BE.o.1.other ZC.o xh _ _ _,xh⟩
 obtain ⟨gq,rfl,rfl,K1⟩:=hcut;obtain ⟨U,hU⟩:=ah wc;rw [<-hU] at K1 |-;clear hU H0;obtain ⟨x0,x1,x2,bE,bF,bG⟩:=K1.o.2.1.s.facts;have C:=hid (uD.o U K1.o.2.1.b);go_wp2_with fail;refine C.o.mono ?_;rintro r u3 ⟨hd,hb⟩;obtain ⟨a5,c5,rfl,nM⟩:=hd.aG;obtain ⟨V,hV⟩:=ah (u3.alloc (Obj.cells #[.bool (dN o2),.slice a5 (ws (dX o2)).length c5,.int .i64 (dE o2)] 25));obtain ⟨gr,hgr⟩:=ah (u3.heap.size)
 have K2:Aside (Lo V gq o1/\jd w V ns np as' ap ls cs lp cp es ep/\Lo V gr o2):=by
  rw [hV,hgr];exact ⟨(K1.o.1.below hb).below (ae _ _),(K1.o.2.1.below hb).below (ae _ _),Lo.new nM⟩
 have HV:=(aJ hV hgr);clear hV hgr hb hd nM C x0 x1 x2 bE bF bG K1
 go_upto_region 7 with fail
 rw [<-HV.o.1,<-HV.o.2];clear HV
 go_upto_region 9 with fail
 obtain ⟨p1,q1,D1,M1⟩:=K2.o.1;obtain ⟨p2,q2,D2,M2⟩:=K2.o.r2;obtain ⟨x0,x1,x2,bE,bF,bG⟩:=D1.facts;obtain ⟨y0,y1,y2,bN,bO,bU⟩:=D2.facts;have C:=hid (HS.o V p1 p2 q1 q2 K2.o.2.1.b M1 M2);clear D1 D2 M1 M2;go_wp2_with fail;refine C.o.mono ?_;rintro r u4 ⟨hd,hb⟩;obtain ⟨a6,c6,rfl,qP⟩:=hd.aG;obtain ⟨Y,hV⟩:=ah (u4.alloc (Obj.cells #[.bool (dN o3),.slice a6 (ws (dX o3)).length c6,.int .i64 (dE o3)] 25));obtain ⟨gv,hgr⟩:=ah (u4.heap.size)
 have K3:Aside (Below w.heap.size w Y/\Lo Y gv o3):=by
  rw [hV,hgr];exact ⟨((K2.o.2.1.below hb).below (ae _ _)).b,Lo.new qP⟩
 have HV:=(aJ hV hgr);clear hV hgr hb hd qP C x0 x1 x2 bE bF bG y0 y1 y2 bN bO bU K2
 go_upto_region 10 with fail
 rw [<-HV.o.1,<-HV.o.2];clear HV;go_wp2;exact aF (v:=.tuple #[.float .f64 0,.int .i64 2]) (by simp [results,Tryz.results9,go_sem]) rfl ⟨rfl,K3.o.1⟩
theorem SC (w:World) (n less mode:Int) (ns np:Bool) (as' ap:Option Addr) (ls cs lp cp:Nat) (es ep:Int) (oI o1 o2 o3:Option (Bool×Nat×Int)) (e1 e2 e3:Int)
 (HI:Hid (∀ u:World,Below w.heap.size w u->Calls Tryz.prog 22 #[.int .i64 n] u fun r w'=>bC 0 w' r oI/\Below u.heap.size u w'))
 (nO:Hid (∀ (u:World) (a:Option Addr) (c:Nat),Below w.heap.size w u->Nt 0 u (.slice a (ws (dX oI)).length c) (dX oI)->Calls Tryz.prog 31 #[.agg #[.bool (dN oI),.slice a (ws (dX oI)).length c,.int .i64 (dE oI)],.agg #[.bool np,.slice ap lp cp,.int .i64 ep]] u fun r w'=>iA w' r o1 e1/\Below u.heap.size u w'))
 (uD:Hid (∀ u:World,Below w.heap.size w u->Calls Tryz.prog 31 #[.agg #[.bool ns,.slice as' ls cs,.int .i64 es],.agg #[.bool ns,.slice as' ls cs,.int .i64 es]] u fun r w'=>iA w' r o2 e2/\Below u.heap.size u w'))
 (HS:Hid (∀ (u:World) (a b:Option Addr) (c d:Nat),Below w.heap.size w u->Nt 0 u (.slice a (ws (dX o1)).length c) (dX o1)->Nt 0 u (.slice b (ws (dX o2)).length d) (dX o2)->Calls Tryz.prog 32 #[.agg #[.bool (dN o1),.slice a (ws (dX o1)).length c,.int .i64 (dE o1)],.agg #[.bool (dN o2),.slice b (ws (dX o2)).length d,.int .i64 (dE o2)]] u fun r w'=>iA w' r o3 e3/\Below u.heap.size u w')) (hm:pE mode=true) (hs:lsB less=true) (h1:1<=n) (h2:n<=1099511627776) (x1:e1=0) (x2:e2=0) (x3:e3=0) (x4:n<=less) :
 Calls Tryz.prog 9 #[.int .i64 n,.agg #[.bool ns,.slice as' ls cs,.int .i64 es],.agg #[.bool np,.slice ap lp cp,.int .i64 ep],.int .i64 less,.int .i64 mode] w fun r w'=>r=.returned (.tuple #[.float .f64 0,.int .i64 3])/\Below w.heap.size w w':=by
 have H0:=ak (jd.new w ns np as' ap ls cs lp cp es ep);obtain ⟨W,hW⟩:=ah ((w.alloc (Obj.cells #[.bool ns,.slice as' ls cs,.int .i64 es] 25)).alloc (Obj.cells #[.bool np,.slice ap lp cp,.int .i64 ep] 25));rw [<-hW] at H0;have HW:=ak hW;clear hW;have C:=hid (o5 mode W);have D:=hid (tL less W);rw [hm] at C;rw [hs] at D;have d1:decide (n<1)=false:=decide_eq_false af;have d2:decide (1099511627776<n)=false:=decide_eq_false af;clear hm hs h1 h2;subst x1;subst x2;subst x3;have d4:decide (n<=less)=true:=decide_eq_true x4;clear x4;go_enter Tryz.func9,Tryz.ntmps9
 go_upto_region 1 with fail
 rw [<-HW.o];clear HW;go_wp2_with fail;refine C.o.mono ?_;rintro r v ⟨rfl,hv⟩;rw [hv];clear hv v C;go_wp2_with fail;refine D.o.mono ?_;rintro r v ⟨rfl,hv⟩;rw [hv];clear hv v D
 go_upto_region 5 with fail
 clear d1 d2
 go_cut [14,15] from 38 to 44 (fun q e wx=>∃ gq:Nat,q=.pointer (some ⟨gq,0,none⟩)/\e=.int .i64 0/\Aside (Lo wx gq o1/\jd w wx ns np as' ap ls cs lp cp es ep/\w.heap.size+1<gq))
 case first =>
  have hdr:=(aD W.heap.size W).drew;have BB:=ak (H0.o.below hdr);have BZ:=aJ (H0.o.below (jU W)) (jV W);have k0:=BB.o.p.facts;have kS:=aZ k0.1 k0.2.1 k0.2.2.1;have h3l:=H0.o.p.lt;clear hdr k0
  go_region_held3 (fun w'=>w'.cell? ⟨w.heap.size+1,0,none⟩=some (.bool np)/\w'.cell? ⟨w.heap.size+1,1,none⟩=some (.slice ap lp cp)/\w'.cell? ⟨w.heap.size+1,2,none⟩=some (.int .i64 ep)) (first | with_reducible exact kS.o | with_reducible exact ⟨BZ.o.1.p.facts.1,BZ.o.1.p.facts.2.1,BZ.o.1.p.facts.2.2.1⟩ | with_reducible exact ⟨kZ.o.facts.1,kZ.o.facts.2.1,kZ.o.facts.2.2.1⟩ | with_reducible exact kT.o | with_reducible exact ⟨kM.o.facts.1,kM.o.facts.2.1,kM.o.facts.2.2.1⟩ | with_reducible exact ⟨kN.o.facts.1,kN.o.facts.2.1,kN.o.facts.2.2.1⟩) (first
   | (go_at_call 22
      with_reducible refine (HI.o _ BB.o.b).mono ?_
      rintro r u1 ⟨hd,hb⟩;obtain ⟨a3,c3,rfl,dF⟩:=hd.aG;have BC:=aJ (BB.o.below hb) dF;have kS:=aZ BC.o.1.p.facts.1 BC.o.1.p.facts.2.1 BC.o.1.p.facts.2.2.1;have kZ:=ak (BC.o.1.p.below (ae u1 (Obj.cells #[.bool false,.slice none 0 0,.int .i64 0] 25)));have xh:=BC.o.1.p.lt
      clear hb hd dF)
   | (go_at_call 22
      with_reducible refine (HI.o _ BZ.o.1.b).mono ?_
      rintro r u1 ⟨hd,hb⟩;obtain ⟨a3,c3,rfl,dF⟩:=hd.aG;have BC:=aJ (BZ.o.1.below hb) dF;have ZB:=ak (BZ.o.2.below hb);have kS:=aZ BC.o.1.p.facts.1 BC.o.1.p.facts.2.1 BC.o.1.p.facts.2.2.1
      clear hb hd dF)
   | (go_at_call 31
      with_reducible refine (nO.o _ a3 c3 BC.o.1.b BC.o.2).mono ?_
      rintro r u2 ⟨hd,hb⟩;obtain ⟨a4,c4,rfl,fw⟩:=hd.aG;have BE:=aJ (BC.o.1.below hb) fw;have kS:=aZ BE.o.1.p.facts.1 BE.o.1.p.facts.2.1 BE.o.1.p.facts.2.2.1;have kZ:=ak (BE.o.1.p.below (ae u2 (Obj.cells #[.bool false,.slice none 0 0,.int .i64 0] 25)));have kM:=ak (BE.o.1.p.below (ae u2 (Obj.cells #[.bool (dN o1),.slice a4 (ws (dX o1)).length c4,.int .i64 (dE o1)] 25)));have kN:=ak ((BE.o.1.p.below (ae u2 (Obj.cells #[.bool false,.slice none 0 0,.int .i64 0] 25))).other u2.heap.size (by have:=BE.o.1.p.lt;omega) (.bool (dN o1)) (.slice a4 (ws (dX o1)).length c4) (.int .i64 (dE o1)))
      try have ZB:=ak (ZB.o.below hb)
      try have kT:=ak (show _ from (ai (BE.o.1.p.other _ (show w.heap.size+1≠W.heap.size by omega) (.bool (dN o1)) (.slice a4 (ws (dX o1)).length c4) (.int .i64 (dE o1))).facts.1 (ai (BE.o.1.p.other _ (show w.heap.size+1≠W.heap.size by omega) (.bool (dN o1)) (.slice a4 (ws (dX o1)).length c4) (.int .i64 (dE o1))).facts.2.1 (BE.o.1.p.other _ (show w.heap.size+1≠W.heap.size by omega) (.bool (dN o1)) (.slice a4 (ws (dX o1)).length c4) (.int .i64 (dE o1))).facts.2.2.1)))
      try (obtain ⟨zp,zq,DZ,MZ⟩:=ZB.o;obtain ⟨z0,z1,z2,eF,eG,eO⟩:=DZ.facts;clear DZ MZ)
      clear hb hd fw)
   | (go_at_call 31
      with_reducible refine (nO.o _ a3 c3 (BC.o.1.below (ae u1 (Obj.cells #[.bool false,.slice none 0 0,.int .i64 0] 25))).b (BC.o.2.below (ae u1 (Obj.cells #[.bool false,.slice none 0 0,.int .i64 0] 25)))).mono ?_
      rintro r u2 ⟨hd,hb⟩;obtain ⟨a4,c4,rfl,fw⟩:=hd.aG;have BE:=aJ ((BC.o.1.below (ae u1 (Obj.cells #[.bool false,.slice none 0 0,.int .i64 0] 25))).below hb) fw;have ZC:=ak ((Lo.zero u1).below hb);have kS:=aZ BE.o.1.p.facts.1 BE.o.1.p.facts.2.1 BE.o.1.p.facts.2.2.1;have kT:=aZ (BE.o.1.p.other _ (show w.heap.size+1≠u1.heap.size by omega) (.bool (dN o1)) (.slice a4 (ws (dX o1)).length c4) (.int .i64 (dE o1))).facts.1 (BE.o.1.p.other _ (show w.heap.size+1≠u1.heap.size by omega) (.bool (dN o1)) (.slice a4 (ws (dX o1)).length c4) (.int .i64 (dE o1))).facts.2.1 (BE.o.1.p.other _ (show w.heap.size+1≠u1.heap.size by omega) (.bool (dN o1)) (.slice a4 (ws (dX o1)).length c4) (.int .i64 (dE o1))).facts.2.2.1;obtain ⟨zp,zq,DZ,MZ⟩:=ZC.o;obtain ⟨z0,z1,z2,eF,eG,eO⟩:=DZ.facts
      clear hb hd fw DZ MZ))
  all_goals
   go_wp2_with fail
   go_meet
   case rel =>
    first
     | exact ⟨u2.heap.size,rfl,rfl,Lo.new BE.o.2,BE.o.1.below (ae _ _),BE.o.1.p.lt⟩
     | exact ⟨u2.heap.size,rfl,rfl,(Lo.zero u2).set (BE.o.2.below (ae _ _)),(BE.o.1.below (ae _ _)).other (Lo.zero u2) BE.o.1.p.lt _ _ _,BE.o.1.p.lt⟩
     | exact ⟨W.heap.size,rfl,rfl,ZB.o.set BE.o.2,BE.o.1.other ZB.o h3l _ _ _,h3l⟩
     | exact ⟨u1.heap.size,rfl,rfl,ZC.o.set BE.o.2,BE.o.1.other ZC.o xh _ _ _,xh⟩
 obtain ⟨gq,rfl,rfl,K1⟩:=hcut;obtain ⟨U,hU⟩:=ah wc;rw [<-hU] at K1 |-;clear hU H0;obtain ⟨x0,x1,x2,bE,bF,bG⟩:=K1.o.2.1.s.facts;have C:=hid (uD.o U K1.o.2.1.b);go_wp2_with fail;refine C.o.mono ?_;rintro r u3 ⟨hd,hb⟩;obtain ⟨a5,c5,rfl,nM⟩:=hd.aG;obtain ⟨V,hV⟩:=ah (u3.alloc (Obj.cells #[.bool (dN o2),.slice a5 (ws (dX o2)).length c5,.int .i64 (dE o2)] 25));obtain ⟨gr,hgr⟩:=ah (u3.heap.size)
 have K2:Aside (Lo V gq o1/\jd w V ns np as' ap ls cs lp cp es ep/\Lo V gr o2):=by
  rw [hV,hgr];exact ⟨(K1.o.1.below hb).below (ae _ _),(K1.o.2.1.below hb).below (ae _ _),Lo.new nM⟩
 have HV:=(aJ hV hgr);clear hV hgr hb hd nM C x0 x1 x2 bE bF bG K1
 go_upto_region 7 with fail
 rw [<-HV.o.1,<-HV.o.2];clear HV
 go_upto_region 9 with fail
 obtain ⟨p1,q1,D1,M1⟩:=K2.o.1;obtain ⟨p2,q2,D2,M2⟩:=K2.o.r2;obtain ⟨x0,x1,x2,bE,bF,bG⟩:=D1.facts;obtain ⟨y0,y1,y2,bN,bO,bU⟩:=D2.facts;have C:=hid (HS.o V p1 p2 q1 q2 K2.o.2.1.b M1 M2);clear D1 D2 M1 M2;go_wp2_with fail;refine C.o.mono ?_;rintro r u4 ⟨hd,hb⟩;obtain ⟨a6,c6,rfl,qP⟩:=hd.aG;obtain ⟨Y,hV⟩:=ah (u4.alloc (Obj.cells #[.bool (dN o3),.slice a6 (ws (dX o3)).length c6,.int .i64 (dE o3)] 25));obtain ⟨gv,hgr⟩:=ah (u4.heap.size)
 have K3:Aside (Below w.heap.size w Y/\Lo Y gv o3):=by
  rw [hV,hgr];exact ⟨((K2.o.2.1.below hb).below (ae _ _)).b,Lo.new qP⟩
 have HV:=(aJ hV hgr);clear hV hgr hb hd qP C x0 x1 x2 bE bF bG y0 y1 y2 bN bO bU K2
 go_upto_region 10 with fail
 rw [<-HV.o.1,<-HV.o.2];clear HV;go_wp2;exact aF (v:=.tuple #[.float .f64 0,.int .i64 3]) (by simp [results,Tryz.results9,go_sem]) rfl ⟨rfl,K3.o.1⟩
end
end Go.Proofs.YtfmfhehbdfhnbaaGreatDoor
