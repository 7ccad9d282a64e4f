import Derived.Test.YtfmfhehbdfhnbaaGreatDoorMDOkx
import Derived.Test.YtfmfhehbdfhnbaaGreatDoorMO11x
import Derived.Test.YtfmfhehbdfhnbaaGreatDoorMO18x
import Derived.Test.YtfmfhehbdfhnbaaGreatDoorM1x
import Derived.ProofKit
import Derived.OpenShut
import Derived.ChangeOld
import Derived.ChangeArms
import Derived.SizedLaws
import Derived.Laws.Cover2
import Derived.Deep.Cut
import Derived.Deep.RegionHeld3
set_option linter.unusedVariables false
set_option linter.unusedSimpArgs false
set_option maxHeartbeats 16000000
set_option maxRecDepth 20000
namespace Go.Proofs.YtfmfhehbdfhnbaaGreatDoor
namespace J
end J
section
open Go Go.RowKit J
theorem KZ {w:World}{g n:Nat}{xs:List Nat}(hn:n=xs.length) (h:Own w g (xs++[71,72])):Rd (g+1) w (some ⟨g,0,none⟩) xs:=by
 have h1:=Rd.fM h 0 n;rw [List.drop_zero,Bf af,ic af] at h1;exact h1
theorem xB {w:World}{g n:Nat}{xs:List Nat}(hn:n=xs.length) (hb:n<=35184372088832) (hx:Wf xs) (h:Own w g (xs++[71,72])):Arg w (some ⟨g,0,none⟩) n (n+2) xs :=
 ⟨hn,af,hb,hx,(KZ hn h).mono h.lt,fun e=>by cases e⟩
structure Dy (w u:World) (ns np:Bool) (as' ap:Option Addr) (ls cs lp cp:Nat) (es ep:Int) (g1 h1:Nat) (xs:List Nat):Prop where
 f:jd w u ns np as' ap ls cs lp cp es ep
 d:Dk u g1 ns (.slice (some ⟨h1,0,none⟩) ls (ls+2)) es
 o:Own u h1 (xs++[71,72])
 k:w.heap.size+1<g1/\w.heap.size+1<h1/\g1≠h1
structure TL (w u:World) (ns np:Bool) (as' ap:Option Addr) (ls cs lp cp:Nat) (es ep:Int) (g1 h1 g2 h2:Nat) (xs ys:List Nat):Prop where
 x:Dy w u ns np as' ap ls cs lp cp es ep g1 h1 xs
 d:Dk u g2 np (.slice (some ⟨h2,0,none⟩) lp (lp+2)) ep
 o:Own u h2 (ys++[71,72])
 k:w.heap.size+1<g2/\w.heap.size+1<h2/\g2≠h2/\g1<g2/\h1<g2/\h1<h2/\g1<h2
theorem Dy.below {w u v:World}{g1 h1:Nat}{xs:List Nat}{ns np:Bool}{as' ap:Option Addr}{ls cs lp cp:Nat}{es ep:Int}(h:Dy w u ns np as' ap ls cs lp cp es ep g1 h1 xs) (hb:Below u.heap.size u v):Dy w v ns np as' ap ls cs lp cp es ep g1 h1 xs :=
 ⟨h.f.below hb,h.d.below hb,h.o.below hb h.o.lt,h.k⟩
theorem Dy.other {w u:World}{g1 h1 g:Nat}{xs:List Nat}{ns np:Bool}{as' ap:Option Addr}{ls cs lp cp:Nat}{es ep:Int}(h:Dy w u ns np as' ap ls cs lp cp es ep g1 h1 xs) {q:Option (Bool×Nat×Int)}(hL:Lo u g q) (h1g:g1≠g) (h2g:h1≠g) (hg:w.heap.size+1<g) (x y z:Value):Dy w (cZ u g x y z) ns np as' ap ls cs lp cp es ep g1 h1 xs :=
 ⟨h.f.other hL hg _ _ _,h.d.other g h1g _ _ _,h.o.cZ g (Ne.symm h2g) _ _ _,h.k⟩
theorem TL.below {w u v:World}{g1 h1 g2 h2:Nat}{xs ys:List Nat}{ns np:Bool}{as' ap:Option Addr}{ls cs lp cp:Nat}{es ep:Int}(h:TL w u ns np as' ap ls cs lp cp es ep g1 h1 g2 h2 xs ys) (hb:Below u.heap.size u v):TL w v ns np as' ap ls cs lp cp es ep g1 h1 g2 h2 xs ys :=
 ⟨h.x.below hb,h.d.below hb,h.o.below hb h.o.lt,h.k⟩
theorem jd.but {w u v:World}{g:Nat}{ns np:Bool}{as' ap:Option Addr}{ls cs lp cp:Nat}{es ep:Int}(h:jd w u ns np as' ap ls cs lp cp es ep) (hb:But g u v) (hg:w.heap.size+1<g):jd w v ns np as' ap ls cs lp cp es ep :=
 ⟨by unfold Dk;rw [hb.block _ h.s.lt af];exact h.s,by unfold Dk;rw [hb.block _ h.p.lt af];exact h.p,But.below h.b hb h.b.size af⟩
theorem YL {u:World}{a:Option Addr}{n c:Nat}{xs:List Nat}(h:Arg u a n c xs) (hm:n<=1048576) :
 Calls Tryz.prog 6 #[.slice a n c] u fun r w'=>∃ g,r=.returned (.slice (some ⟨g,0,none⟩) n (n+2))/\u.heap.size<=g/\Own w' g (xs++[71,72])/\Below u.heap.size u w' :=
 (OZ xs a n c u.heap.size u h.len h.cap af h.rd (aC _)).mono fun r w' k=>⟨_,k.1,aC _,k.2.1,k.2.2⟩
theorem TM {u:World}{g:Nat}{q:Option (Bool×Nat×Int)}(hL:Lo u g q) (n:Bool) (v:Value) (e:Int):Dk (cZ u g (.bool n) v (.int .i64 e)) g n v e:=by
 obtain ⟨a,c,hD,-⟩:=hL;exact hD.set n v e
theorem xC (n:Int) (ns:Bool) (as':Option Addr) (ls cs:Nat) (es:Int) (xs:List Nat) (np:Bool) (ap:Option Addr) (lp cp:Nat) (ep:Int) (ys:List Nat) (less mode:Int) (w:World) (hT:dJ w) (hn:-9223372036854775808<=n/\n<=9223372036854775807) (w0:Oy w as' ls cs xs es) (w1:Oy w ap lp cp ys ep) (bA:ls<=1048576) (bB:lp<=1048576) :
 Calls Tryz.prog 3 #[.int .i64 n,.agg #[.bool ns,.slice as' ls cs,.int .i64 es],.agg #[.bool np,.slice ap lp cp,.int .i64 ep],.int .i64 less,.int .i64 mode] w fun r w'=>r=.returned (.bool true)/\Below w.heap.size w w':=by
 have A:=w0.came.arg af;have B:=w1.came.arg af;have a0:=w0.lo;have a1:=w0.hi;have b0:=w1.lo;have b1:=w1.hi;obtain ⟨⟨X,E⟩,hz⟩:∃ z,rO n (rD (dK (gV 0 n) (mkS np (val ys) ep)) (dK (mkS ns (val xs) es) (mkS ns (val xs) es))) less mode=z:=⟨_,rfl⟩;have HA:=hid (fun (u:World) (hb:Below w.heap.size w u)=>TE u (hT.belows hb));have HL1:=hid (fun (u:World) (hb:Below w.heap.size w u)=>YL (A.below hb) bA);have HL2:=hid (fun (u:World) (hb:Below w.heap.size w u)=>YL (B.below hb) bB);have HP:=hid (fun (u:World) (h1 h2:Nat) (hb:Below w.heap.size w u) (o1:Own u h1 (xs++[71,72])) (o2:Own u h2 (ys++[71,72]))=>Yr n ns np es ep less mode (xB A.len A.big A.wf o1) (xB B.len B.big B.wf o2) (hT.belows hb) hn ⟨a0,a1⟩ ⟨b0,b1⟩ (X,E) hz);have HR:=hid (fun (u:World) (hb:Below w.heap.size w u)=>Yt n ns np es ep less mode (A.below hb) (B.below hb) af af hn ⟨a0,a1⟩ ⟨b0,b1⟩ (X,E) hz);have HB1:=hid (fun (u:World) (g:Nat) (hb:Below w.heap.size w u) (hg:w.heap.size<=g) (o1:Own u g (xs++[71,72]))=>xy xs as' ls cs w.heap.size g u A.len A.cap af A.wf (A.rd.below hb) hg o1);have HB2:=hid (fun (u:World) (g:Nat) (hb:Below w.heap.size w u) (hg:w.heap.size<=g) (o1:Own u g (ys++[71,72]))=>xy ys ap lp cp w.heap.size g u B.len B.cap af B.wf (B.rd.below hb) hg o1);have HQ:=hid (fun (u:World)=>Hd X X u);clear hz a0 a1 b0 b1 A B w0 w1 hT hn bA bB;have H0:=ak (jd.new w ns np as' ap ls cs lp cp es ep);obtain ⟨W,hW⟩:=ah ((w.alloc (Obj.cells #[.bool ns,.slice as' ls cs,.int .i64 es] 25)).alloc (Obj.cells #[.bool np,.slice ap lp cp,.int .i64 ep] 25));rw [<-hW] at H0;have HW:=ak hW;clear hW;go_enter Tryz.func3,Tryz.ntmps3
 go_upto_region 1 with fail
 rw [<-HW.o];clear HW;go_wp2_with fail;refine (HA.o W H0.o.b).mono ?_;rintro r U0 ⟨rfl,hb⟩;have H0:=ak (H0.o.below hb);clear hb HA
 go_upto_region 2 with fail
 go_cut [12] from 22 to 29 (fun q wx=>∃ g1 h1:Nat,q=.pointer (some ⟨g1,0,none⟩)/\Aside (Dy w wx ns np as' ap ls cs lp cp es ep g1 h1 xs))
 case first =>
  have hdr:=(aD U0.heap.size U0).drew;have BB:=ak (H0.o.below hdr);have BZ:=aJ (H0.o.below (jU U0)) (jV U0);have kS:=aZ BB.o.s.facts.1 BB.o.s.facts.2.1 BB.o.s.facts.2.2.1;have L1:=H0.o.s.lt;have L2:=H0.o.p.lt;clear hdr
  go_region_held3 (fun w'=>w'.cell? ⟨w.heap.size,0,none⟩=some (.bool ns)/\w'.cell? ⟨w.heap.size,1,none⟩=some (.slice as' ls cs)/\w'.cell? ⟨w.heap.size,2,none⟩=some (.int .i64 es)) (first | with_reducible exact kS.o | with_reducible exact ⟨BZ.o.1.s.facts.1,BZ.o.1.s.facts.2.1,BZ.o.1.s.facts.2.2.1⟩ | with_reducible exact kZ.o | with_reducible exact kM.o | with_reducible exact kT.o) (first
   | (go_at_call 6
      with_reducible refine (HL1.o _ BB.o.b).mono ?_
      rintro r u1 ⟨h,rfl,hh,hO,hb⟩;have BC:=aJ (BB.o.below hb) hO;have kS:=aZ BC.o.1.s.facts.1 BC.o.1.s.facts.2.1 BC.o.1.s.facts.2.2.1;have kZ:=aZ (BC.o.1.s.below (ae u1 (Obj.cells #[.bool false,.slice none 0 0,.int .i64 0] 25))).facts.1 (BC.o.1.s.below (ae u1 (Obj.cells #[.bool false,.slice none 0 0,.int .i64 0] 25))).facts.2.1 (BC.o.1.s.below (ae u1 (Obj.cells #[.bool false,.slice none 0 0,.int .i64 0] 25))).facts.2.2.1;have kM:=aZ (BC.o.1.s.below (ae u1 (Obj.cells #[.bool ns,.slice (some ⟨h,0,none⟩) ls (ls+2),.int .i64 es] 25))).facts.1 (BC.o.1.s.below (ae u1 (Obj.cells #[.bool ns,.slice (some ⟨h,0,none⟩) ls (ls+2),.int .i64 es] 25))).facts.2.1 (BC.o.1.s.below (ae u1 (Obj.cells #[.bool ns,.slice (some ⟨h,0,none⟩) ls (ls+2),.int .i64 es] 25))).facts.2.2.1;have hs:=hb.size;simp only [World.size_drew] at hh hs
      clear hb hO)
   | (go_at_call 6
      with_reducible refine (HL1.o _ BZ.o.1.b).mono ?_
      rintro r u1 ⟨h,rfl,hh,hO,hb⟩;have BC:=aJ (BZ.o.1.below hb) hO;have ZB:=ak (BZ.o.2.below hb);have kS:=aZ BC.o.1.s.facts.1 BC.o.1.s.facts.2.1 BC.o.1.s.facts.2.2.1;have hs:=hb.size;simp only [World.size_drew,dL] at hh hs;have kT:=aZ (BC.o.1.s.other U0.heap.size (show w.heap.size≠U0.heap.size by omega) (.bool ns) (.slice (some ⟨h,0,none⟩) ls (ls+2)) (.int .i64 es)).facts.1 (BC.o.1.s.other U0.heap.size (show w.heap.size≠U0.heap.size by omega) (.bool ns) (.slice (some ⟨h,0,none⟩) ls (ls+2)) (.int .i64 es)).facts.2.1 (BC.o.1.s.other U0.heap.size (show w.heap.size≠U0.heap.size by omega) (.bool ns) (.slice (some ⟨h,0,none⟩) ls (ls+2)) (.int .i64 es)).facts.2.2.1;obtain ⟨zp,zq,DZ,MZ⟩:=ZB.o;obtain ⟨z0,z1,z2,eF,eG,eO⟩:=DZ.facts
      clear hb hO DZ MZ))
  all_goals
   go_wp2_with fail
   go_meet
   case rel =>
    have L3:=BC.o.2.lt
    first
     | exact ⟨u1.heap.size,h,rfl,BC.o.1.below (ae _ _),Dk.new _ _ _ _,BC.o.2.below (ae _ _) BC.o.2.lt,by refine ⟨?_,?_,?_⟩ <;> omega⟩
     | exact ⟨u1.heap.size,h,rfl,(BC.o.1.below (ae _ _)).other (Lo.zero u1) af _ _ _,TM (Lo.zero u1) _ _ _,(BC.o.2.below (ae _ _) BC.o.2.lt).cZ _ af _ _ _,by refine ⟨?_,?_,?_⟩ <;> omega⟩
     | exact ⟨U0.heap.size,h,rfl,BC.o.1.other ZB.o af _ _ _,TM ZB.o _ _ _,BC.o.2.cZ _ af _ _ _,by refine ⟨?_,?_,?_⟩ <;> omega⟩
 obtain ⟨g1,h1,rfl,K1⟩:=hcut;obtain ⟨U1,hU⟩:=ah wc;rw [<-hU] at K1 |-;clear hU H0 HL1
 go_upto_region 3 with fail
 go_cut [13] from 30 to 37 (fun q wx=>∃ g2 h2:Nat,q=.pointer (some ⟨g2,0,none⟩)/\Aside (TL w wx ns np as' ap ls cs lp cp es ep g1 h1 g2 h2 xs ys))
 case first =>
  have hdr:=(aD U1.heap.size U1).drew;have BB:=ak (K1.o.below hdr);have BZ:=aJ (K1.o.below (jU U1)) (jV U1);have kS:=aZ BB.o.f.p.facts.1 BB.o.f.p.facts.2.1 BB.o.f.p.facts.2.2.1;have L1:=K1.o.f.s.lt;have L2:=K1.o.f.p.lt;have L4:=K1.o.d.lt;have L5:=K1.o.o.lt;clear hdr
  go_region_held3 (fun w'=>w'.cell? ⟨w.heap.size+1,0,none⟩=some (.bool np)/\w'.cell? ⟨w.heap.size+1,1,none⟩=some (.slice ap lp cp)/\w'.cell? ⟨w.heap.size+1,2,none⟩=some (.int .i64 ep)) (first | with_reducible exact kS.o | with_reducible exact ⟨BZ.o.1.f.p.facts.1,BZ.o.1.f.p.facts.2.1,BZ.o.1.f.p.facts.2.2.1⟩ | with_reducible exact kZ.o | with_reducible exact kM.o | with_reducible exact kT.o) (first
   | (go_at_call 6
      with_reducible refine (HL2.o _ BB.o.f.b).mono ?_
      rintro r u1 ⟨h,rfl,hh,hO,hb⟩;have BC:=aJ (BB.o.below hb) hO;have kS:=aZ BC.o.1.f.p.facts.1 BC.o.1.f.p.facts.2.1 BC.o.1.f.p.facts.2.2.1;have kZ:=aZ (BC.o.1.f.p.below (ae u1 (Obj.cells #[.bool false,.slice none 0 0,.int .i64 0] 25))).facts.1 (BC.o.1.f.p.below (ae u1 (Obj.cells #[.bool false,.slice none 0 0,.int .i64 0] 25))).facts.2.1 (BC.o.1.f.p.below (ae u1 (Obj.cells #[.bool false,.slice none 0 0,.int .i64 0] 25))).facts.2.2.1;have kM:=aZ (BC.o.1.f.p.below (ae u1 (Obj.cells #[.bool np,.slice (some ⟨h,0,none⟩) lp (lp+2),.int .i64 ep] 25))).facts.1 (BC.o.1.f.p.below (ae u1 (Obj.cells #[.bool np,.slice (some ⟨h,0,none⟩) lp (lp+2),.int .i64 ep] 25))).facts.2.1 (BC.o.1.f.p.below (ae u1 (Obj.cells #[.bool np,.slice (some ⟨h,0,none⟩) lp (lp+2),.int .i64 ep] 25))).facts.2.2.1;have hs:=hb.size;simp only [World.size_drew] at hh hs
      clear hb hO)
   | (go_at_call 6
      with_reducible refine (HL2.o _ BZ.o.1.f.b).mono ?_
      rintro r u1 ⟨h,rfl,hh,hO,hb⟩;have BC:=aJ (BZ.o.1.below hb) hO;have ZB:=ak (BZ.o.2.below hb);have kS:=aZ BC.o.1.f.p.facts.1 BC.o.1.f.p.facts.2.1 BC.o.1.f.p.facts.2.2.1;have hs:=hb.size;simp only [World.size_drew,dL] at hh hs;have kT:=aZ (BC.o.1.f.p.other U1.heap.size (show w.heap.size+1≠U1.heap.size by omega) (.bool np) (.slice (some ⟨h,0,none⟩) lp (lp+2)) (.int .i64 ep)).facts.1 (BC.o.1.f.p.other U1.heap.size (show w.heap.size+1≠U1.heap.size by omega) (.bool np) (.slice (some ⟨h,0,none⟩) lp (lp+2)) (.int .i64 ep)).facts.2.1 (BC.o.1.f.p.other U1.heap.size (show w.heap.size+1≠U1.heap.size by omega) (.bool np) (.slice (some ⟨h,0,none⟩) lp (lp+2)) (.int .i64 ep)).facts.2.2.1;obtain ⟨zp,zq,DZ,MZ⟩:=ZB.o;obtain ⟨z0,z1,z2,eF,eG,eO⟩:=DZ.facts
      clear hb hO DZ MZ))
  all_goals
   go_wp2_with fail
   go_meet
   case rel =>
    have L3:=BC.o.2.lt
    first
     | exact ⟨u1.heap.size,h,rfl,BC.o.1.below (ae _ _),Dk.new _ _ _ _,BC.o.2.below (ae _ _) BC.o.2.lt,by refine ⟨?_,?_,?_,?_,?_,?_,?_⟩ <;> omega⟩
     | exact ⟨u1.heap.size,h,rfl,(BC.o.1.below (ae _ _)).other (Lo.zero u1) af af af _ _ _,TM (Lo.zero u1) _ _ _,(BC.o.2.below (ae _ _) BC.o.2.lt).cZ _ af _ _ _,by refine ⟨?_,?_,?_,?_,?_,?_,?_⟩ <;> omega⟩
     | exact ⟨U1.heap.size,h,rfl,BC.o.1.other ZB.o af af af _ _ _,TM ZB.o _ _ _,BC.o.2.cZ _ af _ _ _,by refine ⟨?_,?_,?_,?_,?_,?_,?_⟩ <;> omega⟩
 obtain ⟨g2,h2,rfl,K2⟩:=hcut;obtain ⟨U2,hU⟩:=ah wc;rw [<-hU] at K2 |-;clear hU K1 HL2;obtain ⟨x0,x1,x2,bE,bF,bG⟩:=K2.o.x.d.facts;obtain ⟨y0,y1,y2,bN,bO,bU⟩:=K2.o.d.facts;have C:=hid (HP.o U2 h1 h2 K2.o.x.f.b K2.o.x.o K2.o.o);clear HP;go_wp2_with fail;refine C.o.mono ?_;rintro r u3 ⟨rfl,hb⟩;have K3:=ak (K2.o.below hb);clear hb C K2 x0 x1 x2 bE bF bG y0 y1 y2 bN bO bU;obtain ⟨x0,x1,x2,bE,bF,bG⟩:=K3.o.x.d.facts;obtain ⟨y0,y1,y2,bN,bO,bU⟩:=K3.o.x.f.s.facts;have C:=hid (HB1.o u3 h1 K3.o.x.f.b (by have:=K3.o.x.k;omega) K3.o.x.o);clear HB1;go_wp2_with fail;refine C.o.mono ?_;rintro r u4 ⟨rfl,hb⟩
 have K4:Aside (jd w u4 ns np as' ap ls cs lp cp es ep/\Dk u4 g2 np (.slice (some ⟨h2,0,none⟩) lp (lp+2)) ep/\Own u4 h2 (ys++[71,72])/\w.heap.size+1<h2):=by
  have k1:=K3.o.k;have k2:=K3.o.x.k;exact ⟨K3.o.x.f.but hb k2.2.1,by unfold Dk;rw [hb.block _ K3.o.d.lt af];exact K3.o.d,K3.o.o.but hb af,k1.2.1⟩
 clear hb C K3 x0 x1 x2 bE bF bG y0 y1 y2 bN bO bU;obtain ⟨x0,x1,x2,bE,bF,bG⟩:=K4.o.2.1.facts;obtain ⟨y0,y1,y2,bN,bO,bU⟩:=K4.o.1.p.facts;have C:=hid (HB2.o u4 h2 K4.o.1.b (by have:=K4.o.r3;omega) K4.o.r2.1);clear HB2;go_wp2_with fail;refine C.o.mono ?_;rintro r u5 ⟨rfl,hb⟩;have K5:=ak (K4.o.1.but hb K4.o.r3);clear hb C K4 x0 x1 x2 bE bF bG y0 y1 y2 bN bO bU;obtain ⟨x0,x1,x2,bE,bF,bG⟩:=K5.o.s.facts;obtain ⟨y0,y1,y2,bN,bO,bU⟩:=K5.o.p.facts;have C:=hid (HR.o u5 K5.o.b);clear HR;go_wp2_with fail;refine C.o.mono ?_;rintro r u6 ⟨rfl,hb⟩;have K6:=ak (K5.o.below hb);clear hb C K5 x0 x1 x2 bE bF bG y0 y1 y2 bN bO bU;go_wp2_with fail;refine (HQ.o u6).mono ?_;rintro r u8 ⟨rfl,hq⟩;rw [hq,beq_self_eq_true];clear hq u8;go_wp2;go_ret;exact ⟨rfl,K6.o.b⟩
end
end Go.Proofs.YtfmfhehbdfhnbaaGreatDoor
