import Derived.Test.YtffeldkheibccaaGreatDoorZ9x
import Derived.Test.YtffeldkheibccaaGreatDoorD19x
import Derived.Test.YtffeldkheibccaaGreatDoorJ3x
import Derived.Deep.Cut
import Derived.Deep.RegionHeld3
import Derived.Deep.RegionWith
import Derived.Deep.CutRange
import Derived.Test.YtffeldkheibccaaGreatDoorW25x
import Derived.BigQuiet
import Derived.Test.YtffeldkheibccaaGreatDoorD15x
import Derived.Deep.RegionHeld
import Derived.Test.YtffeldkheibccaaGreatDoorD6x
import Derived.Deep.LoopGhost
import Derived.OwnWalk
import Derived.Maps.AppendAt
set_option linter.unusedVariables false
set_option linter.unusedSimpArgs false
set_option maxHeartbeats 16000000
set_option maxRecDepth 20000
namespace Go.Proofs.YtffeldkheibccaaGreatDoor
namespace J
end J
section
open Go.RowKit J
theorem calm17 {P:Program}{c:Code}{K:Act→World→Prop}{Q:Exit→Act→World→Prop}{a:Act}{w:World}(h:c.wp P (Exit.then K (fun _ _ _=>False)) a w):c.wp P (Exit.then K Q) a w :=
 wp_mono h (fun e a w h=>by cases e <;> first | exact h | exact False.elim h)
abbrev Zd17:Obj:=Obj.cells #[.bool false,.slice none 0 0,.int .i64 0] 115
abbrev dc17 (o:Option (Bool×Nat×Int)) (a:Option Addr) (c:Nat):Obj:=Obj.cells #[.bool (dN o),.slice a (ws (dX o)).length c,.int .i64 (dE o)] 115
theorem between_core17 (i parts rem:Nat) (ol oh ip iq q1 q2 q dn:Option (Bool×Nat×Int)) (Fip:Fm ip) (Fiq:Fm iq) (F1:Fm q1) (F2:Fm q2) (Fq:Fm q) (Fd:Fm dn) (al ah:Option Addr) (cl ch z:Nat) (ez:Int) (w:World) (hT:Tab w) (hrem:IntKind.i64.wrap ((parts:Int)-(i:Int))=(rem:Int))
 (Nl:Nt 0 w (.slice al (ws (dX ol)).length cl) (dX ol)) (Nh:Nt 0 w (.slice ah (ws (dX oh)).length ch) (dX oh))
 (HA1:Hid (∀ u:World,Tab u→Calls Tryz.prog 112 #[.int .i64 (rem:Nat)] u fun r w'=>(∃ v,r=.returned (.agg #[.bool (dN ip),v,.int .i64 (dE ip)])∧Nt u.heap.size w' v (dX ip))∧Below u.heap.size u w'))
 (HA2:Hid (∀ u:World,Tab u→Calls Tryz.prog 112 #[.int .i64 (i:Nat)] u fun r w'=>(∃ v,r=.returned (.agg #[.bool (dN iq),v,.int .i64 (dE iq)])∧Nt u.heap.size w' v (dX iq))∧Below u.heap.size u w'))
 (HA3:Hid (∀ u:World,Tab u→Calls Tryz.prog 112 #[.int .i64 (parts:Nat)] u fun r w'=>(∃ v,r=.returned (.agg #[.bool (dN dn),v,.int .i64 (dE dn)])∧Nt u.heap.size w' v (dX dn))∧Below u.heap.size u w'))
 (HM1:Hid (∀ (u:World) (a b:Option Addr) (c d:Nat),Tab u→Nt 0 u (.slice a (ws (dX ol)).length c) (dX ol)→Nt 0 u (.slice b (ws (dX ip)).length d) (dX ip)→Calls Tryz.prog 111 #[.agg #[.bool (dN ol),.slice a (ws (dX ol)).length c,.int .i64 (dE ol)],.agg #[.bool (dN ip),.slice b (ws (dX ip)).length d,.int .i64 (dE ip)]] u fun r w'=>(∃ v,r=.returned (.tuple #[.agg #[.bool (dN q1),v,.int .i64 (dE q1)],.int .i64 0])∧Nt u.heap.size w' v (dX q1))∧Below u.heap.size u w'))
 (HM2:Hid (∀ (u:World) (a b:Option Addr) (c d:Nat),Tab u→Nt 0 u (.slice a (ws (dX oh)).length c) (dX oh)→Nt 0 u (.slice b (ws (dX iq)).length d) (dX iq)→Calls Tryz.prog 111 #[.agg #[.bool (dN oh),.slice a (ws (dX oh)).length c,.int .i64 (dE oh)],.agg #[.bool (dN iq),.slice b (ws (dX iq)).length d,.int .i64 (dE iq)]] u fun r w'=>(∃ v,r=.returned (.tuple #[.agg #[.bool (dN q2),v,.int .i64 (dE q2)],.int .i64 0])∧Nt u.heap.size w' v (dX q2))∧Below u.heap.size u w'))
 (HADD:Hid (∀ (u:World) (a b:Option Addr) (c d:Nat),Tab u→Nt 0 u (.slice a (ws (dX q1)).length c) (dX q1)→Nt 0 u (.slice b (ws (dX q2)).length d) (dX q2)→Calls Tryz.prog 113 #[.agg #[.bool (dN q1),.slice a (ws (dX q1)).length c,.int .i64 (dE q1)],.agg #[.bool (dN q2),.slice b (ws (dX q2)).length d,.int .i64 (dE q2)]] u fun r w'=>(∃ v,r=.returned (.tuple #[.agg #[.bool (dN q),v,.int .i64 (dE q)],.int .i64 0])∧Nt u.heap.size w' v (dX q))∧Below u.heap.size u w'))
 (HQT:Hid (∀ (u:World) (a b:Option Addr) (c d:Nat),Tab u→Nt 0 u (.slice a (ws (dX q)).length c) (dX q)→Nt 0 u (.slice b (ws (dX dn)).length d) (dX dn)→Calls Tryz.prog 114 #[.agg #[.bool (dN q),.slice a (ws (dX q)).length c,.int .i64 (dE q),.bool (dN dn),.slice b (ws (dX dn)).length d,.int .i64 (dE dn)],.int .i64 0] u fun r w'=>r=.returned (.tuple #[.float .f64 z,.int .i64 ez])∧Below u.heap.size u w')) :
 Calls Tryz.prog 80 #[.agg #[.bool (dN ol),.slice al (ws (dX ol)).length cl,.int .i64 (dE ol)],.agg #[.bool (dN oh),.slice ah (ws (dX oh)).length ch,.int .i64 (dE oh)],.int .i64 (i:Nat),.int .i64 (parts:Nat)] w fun r w'=>r=.returned (.float .f64 z)∧Below w.heap.size w w':=by
 have FF:=(qsd (ai hT (ai Fip (ai Fiq (ai F1 (ai F2 (ai Fq Fd)))))));obtain ⟨V,hV⟩:∃ V,V=(w.alloc (dc17 ol al cl)).alloc (dc17 oh ah ch):=⟨_,rfl⟩;obtain ⟨gl,hgl⟩:∃ g,g=w.heap.size:=⟨_,rfl⟩;obtain ⟨gh,hgh⟩:∃ g,g=w.heap.size+1:=⟨_,rfl⟩
 have H1:Aside (Lo V gh oh∧Below w.heap.size w V∧Dk V gl (dN ol) (.slice al (ws (dX ol)).length cl) (dE ol)∧Nt 0 V (.slice al (ws (dX ol)).length cl) (dX ol)∧w.heap.size≤gh):=by
  rw [hV,hgl,hgh];have b1:=below_alloc w (dc17 ol al cl);have b2:=below_alloc (w.alloc (dc17 ol al cl)) (dc17 oh ah ch);have n:=Lo.new (w:=w.alloc (dc17 ol al cl)) (Nh.below b1);rw [World.size_alloc] at n;exact ⟨n,b1.trans (b2.mono b1.size),(Dk.new _ _ _ _).below b2,(Nl.below b1).below b2,by omega⟩
 have HW:=(qsd (ai hV (ai hgl hgh)));clear hV hgl hgh hT Fip Fiq F1 F2 Fq Fd Nl Nh;go_enter Tryz.func80,Tryz.ntmps80
 go_upto_region 1 with fail
 rw [←HW.out.1,←HW.out.2.2,←HW.out.2.1]
 go_cut [9,10] from 17 to 25 (fun pv ev wx=>∃ g7,pv=.pointer (some ⟨g7,0,none⟩)∧ev=.int .i64 0∧Aside (Lo wx g7 q1∧Lo wx gh oh∧Below w.heap.size w wx∧w.heap.size≤g7))
 case first =>
  have hdr:=(Below.refl V.heap.size V).drew;have BB:=qsd (ai (H1.out.1.below hdr) (ai (H1.out.2.1.trans (hdr.mono H1.out.2.1.size)) (ai (H1.out.2.2.1.below hdr) (H1.out.2.2.2.1.below hdr))));have HLE:=qsd H1.out.2.2.2.2;clear hdr H1;obtain ⟨p0,p1,p2,f0,f1,f2⟩:=BB.out.2.2.1.facts;have hlt0:gl<V.heap.size:=BB.out.2.2.1.lt;have q0:V.cell? ⟨gl,0,none⟩=some (.bool (dN ol)):=p0;have q1':V.cell? ⟨gl,1,none⟩=some (.slice al (ws (dX ol)).length cl):=p1;have q2':V.cell? ⟨gl,2,none⟩=some (.int .i64 (dE ol)):=p2;have hne0:gl≠V.heap.size:=by omega
  refine calm17 ?_
  go_region_with (first
   | (go_at_call 112
      first
      | (with_reducible refine (HA1.out _ (FF.out.1.belows BB.out.2.1)).mono ?_
         rintro r v ⟨⟨p,rfl,hN⟩,hb⟩;obtain ⟨a2,c2,rfl,hN0⟩:=Lo.shape FF.out.2.1 hN;have BB:=qsd (ai (BB.out.1.below hb) (ai (BB.out.2.1.trans (hb.mono BB.out.2.1.size)) (ai (BB.out.2.2.1.below hb) (BB.out.2.2.2.below hb))));have Q2:=qsd hN0;obtain ⟨p0,p1,p2,f0,f1,f2⟩:=BB.out.2.2.1.facts;have hlt:=BB.out.2.2.1.lt;have hne:=Nat.ne_of_lt hlt;clear hb hN hN0)
      | (have G7l:=qsd BB.out.1.lt
         have BB:=qsd (ai (BB.out.1.below (below_alloc _ Zd17)) (ai (BB.out.2.1.trans ((below_alloc _ Zd17).mono BB.out.2.1.size)) (ai (BB.out.2.2.1.below (below_alloc _ Zd17)) (BB.out.2.2.2.below (below_alloc _ Zd17)))));refine (HA1.out _ (FF.out.1.belows BB.out.2.1)).mono ?_;rintro r v ⟨⟨p,rfl,hN⟩,hb⟩;obtain ⟨a2,c2,rfl,hN0⟩:=Lo.shape FF.out.2.1 hN;have G7:=qsd ((Lo.zero _).below hb);have BB:=qsd (ai (BB.out.1.below hb) (ai (BB.out.2.1.trans (hb.mono BB.out.2.1.size)) (ai (BB.out.2.2.1.below hb) (BB.out.2.2.2.below hb))));have Q2:=qsd hN0;obtain ⟨p0,p1,p2,f0,f1,f2⟩:=BB.out.2.2.1.facts;have hlt:=BB.out.2.2.1.lt;have hne:=Nat.ne_of_lt hlt;clear hb hN hN0))
   | (go_at_call 111
      first
      | (with_reducible refine (HM1.out _ al a2 cl c2 (FF.out.1.belows BB.out.2.1) BB.out.2.2.2 Q2.out).mono ?_
         rintro r v ⟨⟨p,rfl,hN⟩,hb⟩;obtain ⟨a3,c3,rfl,hN0⟩:=Lo.shape FF.out.2.2.2.1 hN
         try (have G7:=qsd (G7.out.below hb);obtain ⟨e1,e2,D7,e3⟩:=G7.out;obtain ⟨y0,y1,y2,z0,z1,z2⟩:=D7.facts;try dsimp only [World.drew] at y0 y1 y2 z0 z1 z2;clear D7 e3)
         have BB:=qsd (ai (BB.out.1.below hb) (ai (BB.out.2.1.trans (hb.mono BB.out.2.1.size)) hN0));clear hb hN hN0 p0 p1 p2 f0 f1 f2)
      | (have G7l:=qsd BB.out.1.lt
         have BB:=qsd (ai (BB.out.1.below (below_alloc _ Zd17)) (ai (BB.out.2.1.trans ((below_alloc _ Zd17).mono BB.out.2.1.size)) (ai (BB.out.2.2.1.below (below_alloc _ Zd17)) (BB.out.2.2.2.below (below_alloc _ Zd17)))));have Q2:=qsd (Q2.out.below (below_alloc _ Zd17));refine (HM1.out _ al a2 cl c2 (FF.out.1.belows BB.out.2.1) BB.out.2.2.2 Q2.out).mono ?_;rintro r v ⟨⟨p,rfl,hN⟩,hb⟩;obtain ⟨a3,c3,rfl,hN0⟩:=Lo.shape FF.out.2.2.2.1 hN;have G7:=qsd ((Lo.zero _).below hb);obtain ⟨e1,e2,D7,e3⟩:=G7.out;obtain ⟨y0,y1,y2,z0,z1,z2⟩:=D7.facts
         try dsimp only [World.drew] at y0 y1 y2 z0 z1 z2
         clear D7 e3;have BB:=qsd (ai (BB.out.1.below hb) (ai (BB.out.2.1.trans (hb.mono BB.out.2.1.size)) hN0));clear hb hN hN0 p0 p1 p2 f0 f1 f2)))
  all_goals
   go_wp2_with fail
   go_meet
   case rel=>first
    | exact ⟨_,rfl,rfl,Lo.new BB.out.2.2,BB.out.1.below (below_alloc _ _),BB.out.2.1.trans ((below_alloc _ _).mono BB.out.2.1.size),BB.out.2.1.size⟩
    | exact ⟨_,rfl,rfl,G7.out.set BB.out.2.2,BB.out.1.other G7.out (Nat.ne_of_lt G7l.out) _ _ _,st3_bel12 BB.out.2.1 BB.out.2.1.size (Nat.le_trans HLE.out (Nat.le_of_lt G7l.out)) _ _ _,Nat.le_trans HLE.out (Nat.le_of_lt G7l.out)⟩
 clear H1;obtain ⟨g9,rfl,rfl,HA⟩:=hcut;obtain ⟨V2,hW⟩:∃ W,W=wc:=⟨_,rfl⟩;subst hW;obtain ⟨ah',ch',Dh,Nh⟩:=HA.out.2.1;have H1:Aside (Lo V2 g9 q1∧Below w.heap.size w V2∧Dk V2 gh (dN oh) (.slice ah' (ws (dX oh)).length ch') (dE oh)∧Nt 0 V2 (.slice ah' (ws (dX oh)).length ch') (dX oh)∧w.heap.size≤g9):=⟨HA.out.1,HA.out.2.2.1,Dh,Nh,HA.out.2.2.2⟩;clear Dh Nh HA HA1 HM1 HW
 go_upto_region 2 with fail
 go_cut [11,12] from 26 to 32 (fun pv ev wx=>∃ g7,pv=.pointer (some ⟨g7,0,none⟩)∧ev=.int .i64 0∧Aside (Lo wx g7 q2∧Lo wx g9 q1∧Below w.heap.size w wx∧w.heap.size≤g7))
 case first =>
  have hdr:=(Below.refl V2.heap.size V2).drew;have BB:=qsd (ai (H1.out.1.below hdr) (ai (H1.out.2.1.trans (hdr.mono H1.out.2.1.size)) (ai (H1.out.2.2.1.below hdr) (H1.out.2.2.2.1.below hdr))));have HLE:=qsd H1.out.2.2.2.2;clear hdr H1;obtain ⟨p0,p1,p2,f0,f1,f2⟩:=BB.out.2.2.1.facts;have hlt0:gh<V2.heap.size:=BB.out.2.2.1.lt;have q0:V2.cell? ⟨gh,0,none⟩=some (.bool (dN oh)):=p0;have q1':V2.cell? ⟨gh,1,none⟩=some (.slice ah' (ws (dX oh)).length ch'):=p1;have q2':V2.cell? ⟨gh,2,none⟩=some (.int .i64 (dE oh)):=p2;have hne0:gh≠V2.heap.size:=by omega
  refine calm17 ?_
  go_region_with (first
   | (go_at_call 112
      first
      | (with_reducible refine (HA2.out _ (FF.out.1.belows BB.out.2.1)).mono ?_
         rintro r v ⟨⟨p,rfl,hN⟩,hb⟩;obtain ⟨a2,c2,rfl,hN0⟩:=Lo.shape FF.out.2.2.1 hN;have BB:=qsd (ai (BB.out.1.below hb) (ai (BB.out.2.1.trans (hb.mono BB.out.2.1.size)) (ai (BB.out.2.2.1.below hb) (BB.out.2.2.2.below hb))));have Q2:=qsd hN0;obtain ⟨p0,p1,p2,f0,f1,f2⟩:=BB.out.2.2.1.facts;have hlt:=BB.out.2.2.1.lt;have hne:=Nat.ne_of_lt hlt;clear hb hN hN0)
      | (have G7l:=qsd BB.out.1.lt
         have BB:=qsd (ai (BB.out.1.below (below_alloc _ Zd17)) (ai (BB.out.2.1.trans ((below_alloc _ Zd17).mono BB.out.2.1.size)) (ai (BB.out.2.2.1.below (below_alloc _ Zd17)) (BB.out.2.2.2.below (below_alloc _ Zd17)))));refine (HA2.out _ (FF.out.1.belows BB.out.2.1)).mono ?_;rintro r v ⟨⟨p,rfl,hN⟩,hb⟩;obtain ⟨a2,c2,rfl,hN0⟩:=Lo.shape FF.out.2.2.1 hN;have G7:=qsd ((Lo.zero _).below hb);have BB:=qsd (ai (BB.out.1.below hb) (ai (BB.out.2.1.trans (hb.mono BB.out.2.1.size)) (ai (BB.out.2.2.1.below hb) (BB.out.2.2.2.below hb))));have Q2:=qsd hN0;obtain ⟨p0,p1,p2,f0,f1,f2⟩:=BB.out.2.2.1.facts;have hlt:=BB.out.2.2.1.lt;have hne:=Nat.ne_of_lt hlt;clear hb hN hN0))
   | (go_at_call 111
      first
      | (with_reducible refine (HM2.out _ ah' a2 ch' c2 (FF.out.1.belows BB.out.2.1) BB.out.2.2.2 Q2.out).mono ?_
         rintro r v ⟨⟨p,rfl,hN⟩,hb⟩;obtain ⟨a3,c3,rfl,hN0⟩:=Lo.shape FF.out.2.2.2.2.1 hN
         try (have G7:=qsd (G7.out.below hb);obtain ⟨e1,e2,D7,e3⟩:=G7.out;obtain ⟨y0,y1,y2,z0,z1,z2⟩:=D7.facts;try dsimp only [World.drew] at y0 y1 y2 z0 z1 z2;clear D7 e3)
         have BB:=qsd (ai (BB.out.1.below hb) (ai (BB.out.2.1.trans (hb.mono BB.out.2.1.size)) hN0));clear hb hN hN0 p0 p1 p2 f0 f1 f2)
      | (have G7l:=qsd BB.out.1.lt
         have BB:=qsd (ai (BB.out.1.below (below_alloc _ Zd17)) (ai (BB.out.2.1.trans ((below_alloc _ Zd17).mono BB.out.2.1.size)) (ai (BB.out.2.2.1.below (below_alloc _ Zd17)) (BB.out.2.2.2.below (below_alloc _ Zd17)))));have Q2:=qsd (Q2.out.below (below_alloc _ Zd17));refine (HM2.out _ ah' a2 ch' c2 (FF.out.1.belows BB.out.2.1) BB.out.2.2.2 Q2.out).mono ?_;rintro r v ⟨⟨p,rfl,hN⟩,hb⟩;obtain ⟨a3,c3,rfl,hN0⟩:=Lo.shape FF.out.2.2.2.2.1 hN;have G7:=qsd ((Lo.zero _).below hb);obtain ⟨e1,e2,D7,e3⟩:=G7.out;obtain ⟨y0,y1,y2,z0,z1,z2⟩:=D7.facts
         try dsimp only [World.drew] at y0 y1 y2 z0 z1 z2
         clear D7 e3;have BB:=qsd (ai (BB.out.1.below hb) (ai (BB.out.2.1.trans (hb.mono BB.out.2.1.size)) hN0));clear hb hN hN0 p0 p1 p2 f0 f1 f2)))
  all_goals
   go_wp2_with fail
   go_meet
   case rel=>first
    | exact ⟨_,rfl,rfl,Lo.new BB.out.2.2,BB.out.1.below (below_alloc _ _),BB.out.2.1.trans ((below_alloc _ _).mono BB.out.2.1.size),BB.out.2.1.size⟩
    | exact ⟨_,rfl,rfl,G7.out.set BB.out.2.2,BB.out.1.other G7.out (Nat.ne_of_lt G7l.out) _ _ _,st3_bel12 BB.out.2.1 BB.out.2.1.size (Nat.le_trans HLE.out (Nat.le_of_lt G7l.out)) _ _ _,Nat.le_trans HLE.out (Nat.le_of_lt G7l.out)⟩
 clear H1;obtain ⟨g11,rfl,rfl,HA⟩:=hcut;obtain ⟨W1,hW⟩:∃ W,W=wc:=⟨_,rfl⟩;subst hW;obtain ⟨⟨x11,k11,D11,M11⟩,⟨x9,k9,D9,M9⟩,hb,_⟩:=HA.out;obtain ⟨p0,p1,p2,_,_,_⟩:=D9.facts;obtain ⟨q0,q1',q2',_,_,_⟩:=D11.facts;have C:=hid (HADD.out W1 x9 x11 k9 k11 (FF.out.1.belows hb) M9 M11);have K1:=qsd hb;clear D9 M9 D11 M11 hb HA HADD HA2 HM2
 go_wp2_with fail
 refine C.out.mono ?_;rintro r v3 ⟨⟨p,rfl,hN⟩,hb⟩;obtain ⟨a3,c3,rfl,hN0⟩:=Lo.shape FF.out.2.2.2.2.2.1 hN;obtain ⟨V3,hV3⟩:∃ V,V=v3.alloc (dc17 q a3 c3):=⟨_,rfl⟩;obtain ⟨g13,hg13⟩:∃ g,g=v3.heap.size:=⟨_,rfl⟩
 have K2:Aside (Dk V3 g13 (dN q) (.slice a3 (ws (dX q)).length c3) (dE q)∧Nt 0 V3 (.slice a3 (ws (dX q)).length c3) (dX q)∧Below w.heap.size w V3):=by
  rw [hV3,hg13];have b3:=K1.out.trans (hb.mono K1.out.size);exact ⟨Dk.new _ _ _ _,hN0.below (below_alloc _ _),b3.trans ((below_alloc _ _).mono b3.size)⟩
 have HV:=(qsd (ai hV3 hg13));clear C hb hN hN0 K1 hV3 hg13 p0 p1 p2 q0 q1' q2'
 go_upto_region 4 with fail
 rw [←HV.out.1,←HV.out.2];clear HV;have hdr:=(Below.refl V3.heap.size V3).drew;have BB:Aside (Dk V3.drew g13 (dN q) (.slice a3 (ws (dX q)).length c3) (dE q)∧Nt 0 V3.drew (.slice a3 (ws (dX q)).length c3) (dX q)∧Below w.heap.size w V3.drew):=⟨K2.out.1.below hdr,K2.out.2.1.below hdr,K2.out.2.2.drew⟩;clear hdr K2;obtain ⟨d0,d1,d2,_,_,_⟩:=BB.out.1.facts;refine calm17 ?_
 go_region_with (first
  | (go_at_call 114
     with_reducible refine (HQT.out _ a3 a5 c3 c5 (FF.out.1.belows BB.out.2.2) BB.out.2.1 Q5.out).mono ?_
     rintro r v ⟨rfl,hb⟩;have BE:=qsd (BB.out.2.2.trans (hb.mono BB.out.2.2.size));clear hb d0 d1 d2)
  | (go_at_call 112
     with_reducible refine (HA3.out _ (FF.out.1.belows BB.out.2.2)).mono ?_
     rintro r v ⟨⟨p,rfl,hN⟩,hb⟩;obtain ⟨a5,c5,rfl,hN0⟩:=Lo.shape FF.out.2.2.2.2.2.2 hN;have BB:=qsd (ai (BB.out.1.below hb) (ai (BB.out.2.1.below hb) (BB.out.2.2.trans (hb.mono BB.out.2.2.size))));have Q5:=qsd hN0;obtain ⟨d0,d1,d2,_,_,_⟩:=BB.out.1.facts;clear hb hN hN0))
 all_goals
  go_wp2;go_ret;exact ⟨rfl,BE.out⟩
noncomputable def lnV17 (lo hi i p:Nat):Int:=fvW lo*((p-i:Nat):Int)+fvW hi*(i:Int)
noncomputable def qR17 (V D:Option (Bool×Nat×Int)) (mode:Int):Nat×Int:=quoR rndS ⟨dN V,.bool false,dX V,dE V,dN D,.bool false,dX D,dE D⟩ mode
noncomputable def edW (lo hi i p:Nat):Nat:=(qR17 (gV 1074 (lnV17 lo hi i p)) (gV 0 (p:Int)) 0).1
theorem bd_fv17 {x:Nat}(hx:x<18446744073709551616) (fx:finW x) (z:Nat) (hz:z=2098):Bd z (fvW x):=by
 unfold Bd;exact Nat.le_of_lt (top_fv hx fx z hz)
theorem between17 (lo hi i p:Nat) (hl:lo<18446744073709551616) (fl:finW lo) (hh:hi<18446744073709551616) (fh:finW hi) (hr:i≤p) (hd:p≤2147483648) (al ah:Option Addr) (cl ch:Nat) (w:World) (hT:Tab w)
 (Nl:Nt 0 w (.slice al (ws (dX (gV 1074 (fvW lo)))).length cl) (dX (gV 1074 (fvW lo)))) (Nh:Nt 0 w (.slice ah (ws (dX (gV 1074 (fvW hi)))).length ch) (dX (gV 1074 (fvW hi)))) :
 Calls Tryz.prog 80 #[.agg #[.bool (dN (gV 1074 (fvW lo))),.slice al (ws (dX (gV 1074 (fvW lo)))).length cl,.int .i64 (dE (gV 1074 (fvW lo)))],.agg #[.bool (dN (gV 1074 (fvW hi))),.slice ah (ws (dX (gV 1074 (fvW hi)))).length ch,.int .i64 (dE (gV 1074 (fvW hi)))],.int .i64 (i:Nat),.int .i64 (p:Nat)] w fun r w'=>r=.returned (.float .f64 (edW lo hi i p))∧Below w.heap.size w w':=by
 obtain ⟨z,hz⟩:∃ z,z=2098:=⟨_,rfl⟩;obtain ⟨k,hk⟩:∃ z,z=31:=⟨_,rfl⟩;have b1:=bd_fv17 hl fl z hz;have b2:=bd_fv17 hh fh z hz;have bn:∀ n:Nat,n≤2147483648→Bd k (n:Int):=fun n hn=>by unfold Bd;rw [Int.natAbs_natCast,hk];exact hn
 have Fl:=g_fm (u:=1074) (by omega) (by omega) b1
 have Fh:=g_fm (u:=1074) (by omega) (by omega) b2
 have Fip:=g_fm (u:=0) (by omega) (by omega) (bn (p-i) (by omega))
 have Fiq:=g_fm (u:=0) (by omega) (by omega) (bn i (by omega))
 have e1:=g_mul (u:=1074) (v:=0) (by omega) (by omega) (by omega) (by omega) b1 (bn (p-i) (by omega))
 have e2:=g_mul (u:=1074) (v:=0) (by omega) (by omega) (by omega) (by omega) b2 (bn i (by omega))
 have c1:=b1.mul (bn (p-i) (by omega))
 have c2:=b2.mul (bn i (by omega))
 have F1:=g_fm (u:=1074) (by omega) (by omega) c1
 have F2:=g_fm (u:=1074) (by omega) (by omega) c2
 have ea:=g_add (u:=1074) (by omega) (by omega) c1 c2
 have Fq:=g_fm (u:=1074) (by omega) (by omega) (c1.add c2)
 have Fd:=g_fm (u:=0) (by omega) (by omega) (bn p hd)
 obtain ⟨V,hV⟩:∃ V,V=lnV17 lo hi i p:=⟨_,rfl⟩;have hV':fvW lo*((p-i:Nat):Int)+fvW hi*(i:Int)=V:=hV.symm;rw [hV'] at ea Fq
 have:=between_core17 i p (p-i) (gV 1074 (fvW lo)) (gV 1074 (fvW hi)) _ _ _ _ _ _ Fip Fiq F1 F2 Fq Fd al ah cl ch (qR17 (gV 1074 V) (gV 0 (p:Int)) 0).1 (qR17 (gV 1074 V) (gV 0 (p:Int)) 0).2 w hT (wrapY (by omega) (by omega)) Nl Nh
  (fun u hT=>(Int_any ((p-i:Nat):Int) u hT (by omega) (by omega)).mono (fun r w' h=>h))
  (fun u hT=>(Int_any (i:Nat) u hT (by omega) (by omega)).mono (fun r w' h=>h))
  (fun u hT=>(Int_any (p:Nat) u hT (by omega) (by omega)).mono (fun r w' h=>h))
  (fun u a b c d hT N1 N2=>mulP12 Fl Fip N1 N2 hT e1 F1)
  (fun u a b c d hT N1 N2=>mulP12 Fh Fiq N1 N2 hT e2 F2)
  (fun u a b c d hT N1 N2=>addP12' F1 F2 N1 N2 hT ea Fq)
  (fun u a b c d hT N1 N2=>Quot11 (w:=u) (n:=dN (gV 1074 V)) (m:=dN (gV 0 (p:Int))) (X:=dX (gV 1074 V)) (Y:=dX (gV 0 (p:Int))) (e:=dE (gV 1074 V)) (f:=dE (gV 0 (p:Int))) 0 ⟨N1.av (Nat.le_trans Fq.len (by decide)),N2.av (Nat.le_trans Fd.len (by decide)),Fq.rng,Fd.rng⟩ hT)
 rw [hV] at this;exact this
end
section
open Go.RowKit J
theorem below_drewN17 {B:Nat}{a w:World}(h:Below B a w) (n:Nat):Below B a (w.drewN n):=⟨h.os,h.tape,h.output,h.size,h.block⟩
theorem rise17 (xs:List Nat) (ao:Option Addr) (n cap:Nat) (w:World) (hF:Fs w.heap.size w ao xs) (hn:n=xs.length) (hb:n≤17592186044416) (hW:W64 xs) :
 Calls Tryz.prog 51 #[.slice ao n cap] w fun r w'=>(∃ b:Bool,r=.returned (.bool b)∧(b=true↔Edg xs))∧Below w.heap.size w w':=by
 by_cases h2:n<2
 · have d1:decide ((n:Int)<2)=true:=by simp;omega
   have HE:Aside (¬ Edg xs):=qsd (fun e=>by have:=e.1;omega)
   clear hF hn hW;go_enter Tryz.func51,Tryz.ntmps51;go_wp2;go_ret;exact ⟨⟨false,rfl,fun h=>absurd h (by decide),fun h=>absurd h HE.out⟩,Below.refl _ _⟩
 · have d1:decide ((n:Int)<2)=false:=by simp;omega
   by_cases h3:1024<n
   · have d2:decide ((1024:Int)<(n:Int))=true:=by simp;omega
     have HE:Aside (¬ Edg xs):=qsd (fun e=>by have:=e.2.1;omega)
     clear hF hn hW;go_enter Tryz.func51,Tryz.ntmps51;go_wp2;go_ret;exact ⟨⟨false,rfl,fun h=>absurd h (by decide),fun h=>absurd h HE.out⟩,Below.refl _ _⟩
   · have d2:decide ((1024:Int)<(n:Int))=false:=by simp;omega
     have HN:=(qsd (ai hn (ai hW hF)));clear hF hn hW;go_enter Tryz.func51,Tryz.ntmps51;go_wp2
     go_loopg [3] (n-1) (fun gk iv wr=>∃ k:Nat,gk+k=n∧1≤k∧iv=.int .i64 (k:Nat)∧Aside ((∀ i,i+1<k→ltB (xs.getD i 0) (xs.getD (i+1) 0)=true)∧Below w.heap.size w wr))
     case atStart=>exact ⟨1,by omega,by omega,by first | rfl | simp,fun i hi=>by omega,Below.refl _ _⟩
     case round =>
      obtain ⟨k,hgk,h1,rfl,HA⟩:=hrel
      by_cases hk:k<n
      · have hdk:decide ((k:Int)<(n:Int))=true:=by simp;omega
        have bk:(k:Int)<(n:Int):=by omega
        obtain ⟨k0,hk0⟩:∃ y,k=y+1:=⟨k-1,by omega⟩
        have wk0:IntKind.i64.wrap ((k:Int)-1)=(k0:Int):=wrapY (by omega) (by omega)
        have b0:(k0:Int)<(n:Int):=by omega
        obtain ⟨k1,hk1⟩:∃ x,x=k+1:=⟨_,rfl⟩;have wk:IntKind.i64.wrap ((k:Int)+1)=(k1:Int):=wrapY (by omega) (by omega)
        obtain ⟨hn,hW,hF⟩:=HN.out;obtain ⟨b,off,rfl,c2⟩:=hF.at HA.out.2 k (by omega)
        have c1:=hF.cell HA.out.2 k0 (by omega)
        obtain ⟨x,hx⟩:∃ x,x=xs.getD k0 0:=⟨_,rfl⟩;obtain ⟨y,hy⟩:∃ x,x=xs.getD k 0:=⟨_,rfl⟩;rw [←hx] at c1;rw [←hy] at c2;obtain ⟨t,ht⟩:∃ t,t=ltB x y:=⟨_,rfl⟩;have ht2:(FloatKind.f64.format.order x y==some Ordering.lt)=t:=ht.symm;have HK:Aside (k1=k+1∧k=k0+1∧ltB (xs.getD k0 0) (xs.getD (k0+1) 0)=t):=⟨hk1,hk0,by rw [ht,hx,hy,hk0]⟩
        clear hn hW hF hx hy hk1 hk0 ht
        cases t
        · have HE:Aside (¬ Edg xs):=qsd (edg_not HN.out.2.1 (i:=k0) (by have:=HN.out.1;have:=HK.out;omega) HK.out.2.2)
          have HB:=qsd (fun k=>below_drewN17 HA.out.2 k)
          go_wp2_with fail
          go_quiet (fail)
          go_wp2;refine bodyPost_ret (v:=.bool false) (by simp [results,Tryz.results51,go_sem]) rfl ?_
          exact ⟨⟨false,rfl,fun h=>absurd h (by decide),fun h=>absurd h HE.out⟩,by first | exact HB.out | exact HB.out _⟩
        · have HB:=qsd (fun k=>below_drewN17 HA.out.2 k)
          go_wp2_with fail
          go_quiet (fail)
          go_wp2
          go_roundg (n-k1)
          case measure=>have:=HK.out;omega
          case rel=>exact ⟨k1,by have:=HK.out;omega,by have:=HK.out;omega,by first | rfl | simp,fun i hi=>by
           by_cases e:i+1<k
           · exact HA.out.1 i e
           · have:=HK.out
             obtain rfl:i=k0:=by omega
             exact HK.out.2.2,HB.out _⟩
      · obtain rfl:k=n:=by
         have:=hgk;omega
        have hdk:decide ((k:Int)<(k:Int))=false:=by simp
        obtain ⟨hn,hW,hF⟩:=HN.out;obtain ⟨b,off,rfl,c2⟩:=hF.at HA.out.2 (k-1) (by omega)
        have c1:=hF.cell HA.out.2 0 (by omega)
        rw [Nat.add_zero] at c1;obtain ⟨k0,hk0⟩:∃ y,y=k-1:=⟨_,rfl⟩;rw [←hk0] at c2;have wk0:IntKind.i64.wrap ((k:Int)-1)=(k0:Int):=wrapY (by omega) (by omega)
        have b0:(k0:Int)<(k:Int):=by omega
        have hx:=hW.get 0;have hy:=hW.get k0;have hE:=edg_iff hW (by omega) (by omega) (fun i hi=>HA.out.1 i (by omega))
        rw [←hn,←hk0] at hE;obtain ⟨x,hxx⟩:∃ x,x=xs.getD 0 0:=⟨_,rfl⟩;obtain ⟨y,hyy⟩:∃ x,x=xs.getD k0 0:=⟨_,rfl⟩;rw [←hxx] at c1 hE hx;rw [←hyy] at c2 hE hy;have C1:=hid (inf17n x hx wr);have C2:=hid (inf17 y hy wr);have HB:=qsd HA.out.2;have HE:=qsd hE;clear hn hW hF hx hy hE hxx hyy HA HN hk0;obtain ⟨p,hp⟩:∃ p,p=infB true x:=⟨_,rfl⟩;obtain ⟨q,hq⟩:∃ p,p=infB false y:=⟨_,rfl⟩;rw [←hp] at C1 HE;rw [←hq] at C2 HE;clear hp hq
        go_wp2_with fail
        refine C1.out.mono ?_;rintro r v ⟨rfl,rfl⟩;clear C1
        cases p
        · go_wp2_with fail
          refine C2.out.mono ?_;rintro r v ⟨rfl,rfl⟩;clear C2;go_wp2;refine bodyPost_ret (v:=.bool (!q)) (by simp [results,Tryz.results51,go_sem]) rfl ?_
          exact ⟨⟨!q,rfl,by simpa using HE.out⟩,HB.out⟩
        · go_wp2
          refine bodyPost_ret (v:=.bool false) (by simp [results,Tryz.results51,go_sem]) rfl ?_
          exact ⟨⟨false,rfl,by simpa using HE.out⟩,HB.out⟩
end
section
open Go.RowKit J
attribute [local go_sem] st_float
noncomputable def edL (lo hi p:Nat):List Nat:=(List.range (p+1)).map (fun i=>edW lo hi i p)
noncomputable def edT (lo hi p k:Nat):List Nat:=(List.range k).map (fun i=>edW lo hi i p)++List.replicate (p+1-k) 0
theorem edT_len {lo hi p k:Nat}(h:k≤p+1):(edT lo hi p k).length=p+1:=by simp [edT];omega
theorem edT_set {lo hi p k:Nat}(h:k<p+1):(edT lo hi p k).set k (edW lo hi k p)=edT lo hi p (k+1):=by
 unfold edT;rw [List.set_append_right _ _ (by simp),List.length_map,List.length_range,Nat.sub_self,show p+1-k=(p+1-(k+1))+1 by omega,List.replicate_succ,List.set_cons_zero,List.range_succ,List.map_append,List.append_assoc]
 rfl
theorem edT_all {lo hi p:Nat}:edT lo hi p (p+1)=edL lo hi p:=by simp [edT,edL]
theorem edL_len (lo hi p:Nat):(edL lo hi p).length=p+1:=by simp [edL]
theorem Edges17 (lo hi p:Nat) (w:World) (hT:Tab w) (hl:lo<18446744073709551616) (fl:finW lo) (hh:hi<18446744073709551616) (fh:finW hi) (h1:1≤p) (h2:p<1024) (hW:W64 (edL lo hi p)) :
 Calls Tryz.prog 39 #[.float .f64 lo,.float .f64 hi,.int .i64 (p:Nat)] w fun r w'=>((Edg (edL lo hi p)∧∃ gl,r=.returned (.tuple #[.slice (some ⟨gl,0,none⟩) (p+1) (p+1),.int .i64 0])∧OwnF w' gl (edL lo hi p)∧w.heap.size≤gl)∨(¬ Edg (edL lo hi p)∧r=.returned (.tuple #[.slice none 0 0,.int .i64 170])))∧Below w.heap.size w w':=by
 obtain ⟨ol,hol⟩:∃ o,o=gV 1074 (fvW lo):=⟨_,rfl⟩;obtain ⟨oh,hoh⟩:∃ o,o=gV 1074 (fvW hi):=⟨_,rfl⟩;have Fl:Fm ol:=by rw [hol];exact g_fm (by omega) (by omega) (bd_fv17 hl fl 2098 rfl)
 have Fh:Fm oh:=by rw [hoh];exact g_fm (by omega) (by omega) (bd_fv17 hh fh 2098 rfl)
 have CL:=hid (of12 lo hl fl w hT);have CH:Hid (∀ u,Tab u→Calls Tryz.prog 79 #[.float .f64 hi] u fun r w'=>(∃ v,r=.returned (.tuple #[.agg #[.bool (dN oh),v,.int .i64 (dE oh)],.int .i64 0])∧Nt u.heap.size w' v (dX oh))∧Below u.heap.size u w'):=fun u hu=>by rw [hoh];exact of12 hi hh fh u hu
 rw [g_oW,←hol] at CL
 have CB:Hid (∀ (u:World) (al ah:Option Addr) (cl ch i:Nat),Tab u→i≤p→Nt 0 u (.slice al (ws (dX ol)).length cl) (dX ol)→Nt 0 u (.slice ah (ws (dX oh)).length ch) (dX oh)→Calls Tryz.prog 80 #[.agg #[.bool (dN ol),.slice al (ws (dX ol)).length cl,.int .i64 (dE ol)],.agg #[.bool (dN oh),.slice ah (ws (dX oh)).length ch,.int .i64 (dE oh)],.int .i64 (i:Nat),.int .i64 (p:Nat)] u fun r w'=>r=.returned (.float .f64 (edW lo hi i p))∧Below u.heap.size u w'):=fun u al ah cl ch i hu hi N1 N2=>by
  rw [hol] at N1 ⊢;rw [hoh] at N2 ⊢;exact between17 lo _ i p hl fl hh fh hi (by omega) al ah cl ch u hu N1 N2
 have d1:decide ((p:Int)<1)=false:=by simp;omega
 have d2:decide ((1024:Int)≤(p:Int))=false:=by simp;omega
 obtain ⟨p1,hp1⟩:∃ q,q=p+1:=⟨_,rfl⟩;have wp:IntKind.i64.wrap ((p:Int)+1)=(p1:Int):=wrapY (by omega) (by omega)
 have hmk:=make_floats ((p1:Nat):Int) p1 rfl (by omega)
 have hp1b:p1≤1024:=by omega
 have FF:=(qsd (ai hT (ai Fl (ai Fh (ai hp1 hW)))));clear hl fl hh fh hT hol hoh Fl Fh hp1 hW;go_enter Tryz.func39,Tryz.ntmps39
 go_wp2_with fail
 refine CL.out.mono ?_;rintro r v1 ⟨⟨s1,rfl,hN⟩,hb⟩;obtain ⟨al,cl,rfl,hN0⟩:=Lo.shape FF.out.2.1 hN;obtain ⟨V1,hV1⟩:∃ V,V=v1.alloc (dc17 ol al cl):=⟨_,rfl⟩;obtain ⟨g8,hg8⟩:∃ g,g=v1.heap.size:=⟨_,rfl⟩
 have K1:Aside (Dk V1 g8 (dN ol) (.slice al (ws (dX ol)).length cl) (dE ol)∧Nt 0 V1 (.slice al (ws (dX ol)).length cl) (dX ol)∧Below w.heap.size w V1):=by
  rw [hV1,hg8];exact ⟨Dk.new _ _ _ _,hN0.below (below_alloc _ _),hb.trans ((below_alloc _ _).mono hb.size)⟩
 have HV:=(qsd (ai hV1 hg8));clear CL hb hN hN0 hV1 hg8
 go_upto_region 6 with fail
 rw [←HV.out.1,←HV.out.2];clear HV;have C:=hid (CH.out V1 (FF.out.1.belows K1.out.2.2))
 go_wp2_with fail
 refine C.out.mono ?_;rintro r v2 ⟨⟨s2,rfl,hN⟩,hb⟩;obtain ⟨ah,ch,rfl,hN0⟩:=Lo.shape FF.out.2.2.1 hN;obtain ⟨U,hU⟩:∃ V,V=v2.alloc (dc17 oh ah ch):=⟨_,rfl⟩;obtain ⟨g10,hg10⟩:∃ g,g=v2.heap.size:=⟨_,rfl⟩
 have K2:Aside (Dk U g8 (dN ol) (.slice al (ws (dX ol)).length cl) (dE ol)∧Nt 0 U (.slice al (ws (dX ol)).length cl) (dX ol)∧Dk U g10 (dN oh) (.slice ah (ws (dX oh)).length ch) (dE oh)∧Nt 0 U (.slice ah (ws (dX oh)).length ch) (dX oh)∧Below w.heap.size w U):=by
  rw [hU,hg10];have b2:=K1.out.2.2.trans (hb.mono K1.out.2.2.size);have al2:=below_alloc v2 (dc17 oh ah ch);exact ⟨(K1.out.1.below hb).below al2,(K1.out.2.1.below hb).below al2,Dk.new _ _ _ _,hN0.below al2,b2.trans (al2.mono b2.size)⟩
 have HV:=(qsd (ai hU hg10));clear C CH hb hN hN0 hU hg10 K1
 go_upto_region 9 with fail
 rw [←HV.out.1,←HV.out.2];clear HV;obtain ⟨W,hW'⟩:∃ W,W=U.alloc (.cells (madeCells #[.float .f64 0] p1) 41):=⟨_,rfl⟩;obtain ⟨gl,hgl⟩:∃ g,g=U.heap.size:=⟨_,rfl⟩
 have K3:Aside (OwnF W gl (edT lo hi p 0)∧Below U.heap.size U W∧U.heap.size≤gl):=by
  rw [hW',hgl];refine ⟨?_,below_alloc _ _,Nat.le_refl _⟩;have:=OwnF.made U p1;rw [FF.out.2.2.2.1] at this ⊢;unfold edT;simpa using this
 have HV:=(qsd (ai hW' hgl));clear hW' hgl
 go_upto_region 10 with fail
 rw [←HV.out.1,←HV.out.2];clear HV hmk;go_wp2
 go_loopg [40] p1 (fun gk iv wr=>∃ k:Nat,gk+k=p1∧iv=.int .i64 (k:Nat)∧Aside (OwnF wr gl (edT lo hi p k)∧Below U.heap.size U wr))
 case atStart=>exact ⟨0,by omega,by first | rfl | simp,K3.out.1,K3.out.2.1⟩
 case round =>
  have HG:=qsd K3.out.2.2;clear K3;obtain ⟨k,hgk,rfl,HA⟩:=hrel
  by_cases hk:k<p1
  · have hdk:decide ((k:Int)<(p1:Int))=true:=by simp;omega
    have lk:(k:Int)<(p1:Int):=by omega
    have lk0:(0:Int)≤(k:Int):=by omega
    obtain ⟨k1,hk1⟩:∃ x,x=k+1:=⟨_,rfl⟩;have wk:IntKind.i64.wrap ((k:Int)+1)=(k1:Int):=wrapY (by omega) (by omega)
    have D8:=K2.out.1.below HA.out.2;have D10:=K2.out.2.2.1.below HA.out.2;obtain ⟨p0,q1,q2,_,_,_⟩:=D8.facts;obtain ⟨r0,r1,r2,_,_,_⟩:=D10.facts;have hbw:Below w.heap.size w wr:=K2.out.2.2.2.2.trans (HA.out.2.mono K2.out.2.2.2.2.size);have C:=hid (CB.out wr al ah cl ch k (FF.out.1.belows hbw) (by have:=FF.out.2.2.2.1;omega) (K2.out.2.1.below HA.out.2) (K2.out.2.2.2.1.below HA.out.2))
    obtain ⟨y,hy⟩:∃ y,y=edW lo hi k p:=⟨_,rfl⟩;rw [←hy] at C;have HK:=(qsd (ai hk1 hy));clear D8 D10 hbw hk1 hy CB
    go_wp2_with fail
    refine C.out.mono ?_;rintro r v ⟨rfl,hb⟩;have o1:=HA.out.1.below hb HA.out.1.lt;have x1:=o1.cell k (by rw [edT_len (by have:=FF.out.2.2.2.1;omega)];have:=FF.out.2.2.2.1;omega)
    have x2:=o1.frozen k;obtain ⟨o5,ho5⟩:∃ z,z=(edT lo hi p k).getD k 0:=⟨_,rfl⟩;rw [←ho5] at x1
    have HN:Aside (OwnF (v.setCell ⟨gl,k,none⟩ (.float .f64 y)) gl (edT lo hi p k1)∧Below U.heap.size U (v.setCell ⟨gl,k,none⟩ (.float .f64 y))):=by
     have hset:=o1.set k y;rw [HK.out.2,edT_set (by have:=FF.out.2.2.2.1;omega),←HK.out.1] at hset
     have b2:=HA.out.2.trans (hb.mono HA.out.2.size);refine ⟨by rw [HK.out.2];exact hset,But.below b2 ((But.refl gl v).set k _) b2.size HG.out⟩
    clear o1 ho5 hb HA C p0 q1 q2 r0 r1 r2;go_wp2
    go_roundg (p1-k1)
    case measure=>have:=HK.out;omega
    case rel=>exact ⟨k1,by have:=HK.out;omega,by first | rfl | simp,HN.out⟩
  · obtain rfl:k=p1:=by omega
    have hdk:decide ((k:Int)<(k:Int))=false:=by simp
    have hO:=HA.out.1;rw [FF.out.2.2.2.1,edT_all] at hO;have hbw:Below w.heap.size w wr:=K2.out.2.2.2.2.trans (HA.out.2.mono K2.out.2.2.2.2.size);have hF:=hO.fs hO.lt (p+1);rw [List.take_of_length_le (by rw [edL_len];exact Nat.le_refl _)] at hF
    have C:=hid (rise17 (edL lo hi p) (some ⟨gl,0,none⟩) k k wr hF (by rw [edL_len];exact FF.out.2.2.2.1) (by have:=FF.out.2.2.2.1;omega) FF.out.2.2.2.2)
    have HO:=(qsd (ai hO (ai hbw (ai K2.out.2.2.2.2.size HG.out))));clear hO hbw hF HA CB K2
    go_wp2_with fail
    refine C.out.mono ?_;rintro r v ⟨⟨b,rfl,hbe⟩,hbv⟩;have HB:=qsd hbv;clear C hbv
    cases b
    · have HE:Aside (¬ Edg (edL lo hi p)):=qsd (fun h=>Bool.noConfusion (hbe.2 h))
      clear hbe;go_wp2;refine bodyPost_ret (v:=.tuple #[.slice none 0 0,.int .i64 170]) (by simp [results,Tryz.results39,go_sem]) rfl ?_
      exact ⟨.inr ⟨HE.out,rfl⟩,HO.out.2.1.trans (HB.out.mono HO.out.2.1.size)⟩
    · have HE:Aside (Edg (edL lo hi p)):=qsd (hbe.1 rfl)
      clear hbe;go_wp2;refine bodyPost_ret (v:=.tuple #[.slice (some ⟨gl,0,none⟩) k k,.int .i64 0]) (by simp [results,Tryz.results39,go_sem]) rfl ?_
      exact ⟨.inl ⟨HE.out,gl,by rw [FF.out.2.2.2.1],HO.out.1.below HB.out HO.out.1.lt,Nat.le_trans HO.out.2.2.1 HO.out.2.2.2⟩,HO.out.2.1.trans (HB.out.mono HO.out.2.1.size)⟩
theorem EdgesArg17 (lo hi:Nat) (z:Int) (w:World) (h:z<1∨1024≤z) :
 Calls Tryz.prog 39 #[.float .f64 lo,.float .f64 hi,.int .i64 z] w fun r w'=>r=.returned (.tuple #[.slice none 0 0,.int .i64 1])∧w'=w:=by
 by_cases h1:z<1
 · have d1:decide (z<1)=true:=by simp;omega
   go_enter Tryz.func39,Tryz.ntmps39;go_wp2;refine bodyPost_ret (v:=.tuple #[.slice none 0 0,.int .i64 1]) (by simp [results,Tryz.results39,go_sem]) rfl ?_
   exact ⟨rfl,rfl⟩
 · have d1:decide (z<1)=false:=by simp;omega
   have d2:decide ((1024:Int)≤z)=true:=by simp;omega
   go_enter Tryz.func39,Tryz.ntmps39;go_wp2;refine bodyPost_ret (v:=.tuple #[.slice none 0 0,.int .i64 1]) (by simp [results,Tryz.results39,go_sem]) rfl ?_
   exact ⟨rfl,rfl⟩
end
section
open Go.RowKit J
theorem self17 {x:Nat}(hx:x<18446744073709551616) (nx:nnW x):(FloatKind.f64.format.order x x != some .eq)=false:=by
 have:=eq17 hx hx nx nx;rw [decide_eq_true rfl] at this;simp only [bne,this];rfl
theorem isnan17 {x:Nat}(hx:x<18446744073709551616) (nx:nnW x) (w:World) :
 Calls Tryz.prog 185 #[.float .f64 x] w fun r w'=>r=.returned (.bool false)∧w'=w:=by
 have h:=self17 hx nx;go_enter Tryz.func185,Tryz.ntmps185;go_wp2;go_ret;exact ⟨by first | rfl | simp [h],rfl⟩
theorem isnan17s {x:Nat}(hx:x<18446744073709551616) (nx:nnW x) (w:World) :
 Calls Tryz.prog 146 #[.float .f64 x] w fun r w'=>r=.returned (.bool false)∧w'=w:=by
 have h:=self17 hx nx;go_enter Tryz.func146,Tryz.ntmps146;go_wp2;go_ret;exact ⟨by first | rfl | simp [h],rfl⟩
theorem less17 {x y:Nat}(hx:x<18446744073709551616) (hy:y<18446744073709551616) (nx:nnW x) (ny:nnW y) (w:World) :
 Calls Tryz.prog 145 #[.float .f64 x,.float .f64 y] w fun r w'=>r=.returned (.bool (decide (sP x<sP y)))∧w'=w:=by
 have h:=lt17 hx hy nx ny;have C:=hid (isnan17 hx nx w);obtain ⟨t,ht⟩:∃ t,t=decide (sP x<sP y):=⟨_,rfl⟩;rw [←ht] at h ⊢;clear ht;go_enter Tryz.func145,Tryz.ntmps145
 go_wp2_with fail
 refine C.out.mono ?_;rintro r v ⟨rfl,rfl⟩;go_wp2;go_ret;exact ⟨rfl,rfl⟩
theorem half17 {i j:Nat}(h:i<j) (hj:j≤1024):∃ m,m=(i+j)/2∧i≤m∧m<j:=⟨(i+j)/2,rfl,by omega,by omega⟩
theorem search17 (xs:List Nat) (ao:Option Addr) (n cap x:Nat) (w:World) (hF:Fs w.heap.size w ao xs) (hn:n=xs.length) (hW:W64 xs) (hE:Edg xs) (hx:x<18446744073709551616) (nx:nnW x) :
 Calls Tryz.prog 115 #[.slice ao n cap,.float .f64 x] w fun r w'=>(∃ (i:Nat) (b:Bool),r=.returned (.tuple #[.int .i64 (i:Nat),.bool b])∧i≤n∧(∀ k,k<i→sP (xs.getD k 0)<sP x)∧(∀ k,i≤k→k<n→sP x≤sP (xs.getD k 0))∧(b=true↔i<n∧sP (xs.getD i 0)=sP x))∧w'=w:=by
 have hl:n≤1024:=by have:=hE.2.1;omega
 have HN:=(qsd (ai hn (ai hW (ai hF (ai hE (ai hx nx))))));clear hF hn hW hE hx nx;go_enter Tryz.func115,Tryz.ntmps115;go_wp2
 go_loopg [7,8] n (fun gk iv jv wr=>∃ i j:Nat,gk+i=j∧j≤n∧iv=.int .i64 (i:Nat)∧jv=.int .i64 (j:Nat)∧wr=w∧Aside ((∀ k,k<i→sP (xs.getD k 0)<sP x)∧(∀ k,j≤k→k<n→sP x≤sP (xs.getD k 0))))
 case atStart=>exact ⟨0,n,by omega,Nat.le_refl _,by first | rfl | simp,by first | rfl | simp,rfl,fun k hk=>by omega,fun k h1 h2=>by omega⟩
 case round =>
  obtain ⟨i,j,hgk,hjn,rfl,rfl,rfl,HA⟩:=hrel
  by_cases hij:i<j
  · have hd:decide ((i:Int)<(j:Int))=true:=by simp;omega
    obtain ⟨m,hm,him,hmj⟩:=half17 hij (by omega)
    have w1:IntKind.i64.wrap ((i:Int)+(j:Int))=((i+j:Nat):Int):=wrapY (by omega) (by omega)
    obtain ⟨hn,hW,hF,hE,hx,nx⟩:=HN.out;obtain ⟨b,off,rfl,c2⟩:=hF.at (Below.refl _ _) m (by omega)
    have fy:=hE.2.2.1 _ (getD_mem17 (show m<xs.length by omega))
    have hmn:(m:Int)<(n:Int):=by omega
    have C:=hid (less17 (hW.get m) hx (Nat.le_of_lt fy) nx wr);obtain ⟨m1,hm1⟩:∃ x,x=m+1:=⟨_,rfl⟩;have wm:IntKind.i64.wrap ((m:Int)+1)=(m1:Int):=wrapY (by omega) (by omega)
    obtain ⟨y,hy⟩:∃ x,x=xs.getD m 0:=⟨_,rfl⟩;rw [←hy] at c2 C;have h2:(((i:Int)+(j:Int))/2)=(m:Int):=by omega
    obtain ⟨t,ht⟩:∃ t,t=decide (sP y<sP x):=⟨_,rfl⟩;rw [←ht] at C;have HK:Aside (m1=m+1∧y=xs.getD m 0∧t=decide (sP y<sP x)):=⟨hm1,hy,ht⟩;have hmb:m<2000:=by omega
    clear hn hW hF hE hx nx hy fy ht hm1 hm
    go_upto_region 5 with fail
    try rw [h2]
    go_wp2_with fail
    refine C.out.mono ?_;rintro r v ⟨rfl,rfl⟩;clear C
    cases t
    · go_wp2
      go_roundg (m-i)
      case measure=>omega
      case rel=>exact ⟨i,m,by omega,by omega,by first | rfl | simp,by first | rfl | simp,rfl,HA.out.1,fun k h1 h2=>by
       obtain ⟨q1,q2,q3⟩:=HK.out;have q4:=of_decide_eq_false q3.symm;rw [q2] at q4;have:=rise_le HN.out.2.2.2.1.2.2.2 h1 (by have:=HN.out.1;omega)
       omega⟩
    · go_wp2
      go_roundg (j-m1)
      case measure=>have:=HK.out.1;omega
      case rel=>exact ⟨m1,j,by have:=HK.out.1;omega,by omega,by first | rfl | simp,by first | rfl | simp,rfl,fun k h1=>by
       obtain ⟨q1,q2,q3⟩:=HK.out;have q4:=of_decide_eq_true q3.symm;rw [q2] at q4;have:=rise_le HN.out.2.2.2.1.2.2.2 (show k≤m by omega) (by have:=HN.out.1;omega)
       omega,HA.out.2⟩
  · obtain rfl:i=j:=by omega
    have hd:decide ((i:Int)<(i:Int))=false:=by simp
    obtain ⟨hn,hW,hF,hE,hx,nx⟩:=HN.out
    by_cases hin:i<n
    · have hd2:decide ((i:Int)<(n:Int))=true:=by simp;omega
      have bi:(i:Int)<(n:Int):=by omega
      obtain ⟨b,off,rfl,c2⟩:=hF.at (Below.refl _ _) i (by omega)
      have fy:=hE.2.2.1 _ (getD_mem17 (show i<xs.length by omega))
      have C:=hid (isnan17s (hW.get i) (Nat.le_of_lt fy) wr);have he:=eq17 (hW.get i) hx (Nat.le_of_lt fy) nx;obtain ⟨y,hy⟩:∃ x,x=xs.getD i 0:=⟨_,rfl⟩;rw [←hy] at c2 C he;obtain ⟨t,ht⟩:∃ t,t=decide (sP y=sP x):=⟨_,rfl⟩;rw [←ht] at he;have HK:Aside (y=xs.getD i 0∧t=decide (sP y=sP x)):=⟨hy,ht⟩;clear hn hW hF hE hx nx hy fy ht HN
      cases t
      · go_wp2_with fail
        refine C.out.mono ?_;rintro r v ⟨rfl,rfl⟩;clear C;go_wp2;refine bodyPost_ret (v:=.tuple #[.int .i64 (i:Nat),.bool false]) (by simp [results,Tryz.results115,go_sem]) rfl ?_
        exact ⟨⟨i,false,rfl,by omega,HA.out.1,HA.out.2,fun h=>absurd h (by decide),fun h=>by
         have:=of_decide_eq_false HK.out.2.symm;rw [HK.out.1] at this;exact absurd h.2 this⟩,rfl⟩
      · clear C
        go_wp2;refine bodyPost_ret (v:=.tuple #[.int .i64 (i:Nat),.bool true]) (by simp [results,Tryz.results115,go_sem]) rfl ?_
        exact ⟨⟨i,true,rfl,by omega,HA.out.1,HA.out.2,fun _=>⟨hin,by
         have:=of_decide_eq_true HK.out.2.symm;rw [HK.out.1] at this;exact this⟩,fun _=>rfl⟩,rfl⟩
    · have hd2:decide ((i:Int)<(n:Int))=false:=by simp;omega
      clear hn hW hF hE hx nx;go_wp2;refine bodyPost_ret (v:=.tuple #[.int .i64 (i:Nat),.bool false]) (by simp [results,Tryz.results115,go_sem]) rfl ?_
      exact ⟨⟨i,false,rfl,by omega,HA.out.1,HA.out.2,fun h=>absurd h (by decide),fun h=>absurd h.1 hin⟩,rfl⟩
end
section
open Go.RowKit J
def kd17 (lo hi x:Nat):Nat:=if nanW x then 0 else if sP x<sP lo then 1 else if sP hi<sP x then 2 else 3
def inB (E:List Nat) (k x:Nat):Bool:=decide (sP (E.getD k 0)≤sP x)&&(decide (sP x<sP (E.getD (k+1) 0)) || (decide (k+2=E.length)&&decide (sP x=sP (E.getD (k+1) 0))))
theorem inB_iff {E:List Nat}{k x:Nat}:inB E k x=true↔sP (E.getD k 0)≤sP x∧(sP x<sP (E.getD (k+1) 0)∨(k+2=E.length∧sP x=sP (E.getD (k+1) 0))):=by
 unfold inB;simp only [Bool.and_eq_true,Bool.or_eq_true,decide_eq_true_eq]
theorem inB_one {E:List Nat}(hE:Edg E) {k m x:Nat}(hk:k+1<E.length) (hm:m+1<E.length) (h1:inB E k x=true) (h2:inB E m x=true):k=m:=by
 rw [inB_iff] at h1 h2;have hs:=hE.2.2.2
 rcases Nat.lt_trichotomy k m with h|h|h
 · have:=rise_le hs (show k+1≤m by omega) (by omega)
   rcases h1.2 with q|⟨q,_⟩
   · omega
   · omega
 · exact h
 · have:=rise_le hs (show m+1≤k by omega) (by omega)
   rcases h2.2 with q|⟨q,_⟩
   · omega
   · omega
def bk (E:List Nat) (x:Nat):Nat:=((List.range (E.length-1)).find? (fun k=>inB E k x)).getD 0
theorem bk_eq {E:List Nat}(hE:Edg E) {k x:Nat}(hk:k+1<E.length) (h:inB E k x=true):bk E x=k:=by
 unfold bk
 cases e:(List.range (E.length-1)).find? (fun k=>inB E k x) with
 | none =>
   rw [List.find?_eq_none] at e;exact absurd h (e k (List.mem_range.2 (by omega)))
 | some m =>
   have h1:=List.find?_some e;have h2:=List.mem_range.1 (List.mem_of_find?_eq_some e);exact (inB_one hE hk (by omega) h h1).symm
theorem bin_math {E:List Nat}(hE:Edg E) {x i n:Nat}{b:Bool}(hn:n=E.length) (h0:sP (E.getD 0 0)≤sP x) (h1:sP x≤sP (E.getD (n-1) 0)) (hi:i≤n) (a:∀ k,k<i→sP (E.getD k 0)<sP x) (c:∀ k,i≤k→k<n→sP x≤sP (E.getD k 0)) (hb:b=true↔i<n∧sP (E.getD i 0)=sP x) :
 (b=true→min i (n-2)=bk E x)∧(b=false→1≤i∧min (i-1) (n-2)=bk E x)∧bk E x+1<n∧inB E (bk E x) x=true:=by
 have h2:=hE.1;have hs:=hE.2.2.2;have key:∀ k,k+1<n→inB E k x=true→bk E x=k:=fun k hk h=>bk_eq hE (by omega) h
 cases b with
 | true =>
   obtain ⟨p,q⟩:=hb.1 rfl
   by_cases e:i+1<n
   · have hin:inB E i x=true:=by
      rw [inB_iff];have:=hs i (by omega)
      exact ⟨by omega,.inl (by omega)⟩
     have:=key i e hin;refine ⟨fun _=>by rw [this];omega,fun h=>(by cases h),by omega,by rw [this];exact hin⟩
   · obtain rfl:i=n-1:=by omega
     have hin:inB E (n-2) x=true:=by
      rw [inB_iff];have:=a (n-2) (by omega)
      refine ⟨by omega,.inr ⟨by omega,?_⟩⟩
      rw [show n-2+1=n-1 by omega];exact q.symm
     have:=key (n-2) (by omega) hin
     refine ⟨fun _=>by rw [this];omega,fun h=>(by cases h),by omega,by rw [this];exact hin⟩
 | false =>
   have nb:¬ (i<n∧sP (E.getD i 0)=sP x):=fun h=>by have:=hb.2 h;cases this
   have i1:1≤i:=by
    rcases Nat.eq_zero_or_pos i with e|e
    · subst e
      have:=c 0 (Nat.le_refl _) (by omega)
      exact absurd ⟨by omega,by omega⟩ nb
    · exact e
   have i2:i<n:=by
    rcases Nat.lt_or_ge i n with e|e
    · exact e
    · have:=a (n-1) (by omega)
      omega
   have hin:inB E (i-1) x=true:=by
    rw [inB_iff];have q1:=a (i-1) (by omega)
    have q2:=c i (Nat.le_refl _) i2;refine ⟨by omega,.inl ?_⟩
    rw [show i-1+1=i by omega]
    by_cases e:sP (E.getD i 0)=sP x
    · exact absurd ⟨i2,e⟩ nb
    · omega
   have:=key (i-1) (by omega) hin
   refine ⟨fun h=>(by cases h),fun _=>⟨i1,by rw [this];omega⟩,by omega,by rw [this];exact hin⟩
structure Hs where
 C:List Nat
 b:Nat
 a:Nat
 o:Nat
def Hs.all (s:Hs):Nat:=s.b+s.a+s.o+s.C.sum
def Hs.put (E:List Nat) (s:Hs) (x:Nat):Hs :=
 ⟨if kd17 (E.getD 0 0) (E.getD (E.length-1) 0) x=3 then s.C.set (bk E x) (s.C.getD (bk E x) 0+1) else s.C,
  if kd17 (E.getD 0 0) (E.getD (E.length-1) 0) x=1 then s.b+1 else s.b,
  if kd17 (E.getD 0 0) (E.getD (E.length-1) 0) x=2 then s.a+1 else s.a,
  if kd17 (E.getD 0 0) (E.getD (E.length-1) 0) x=0 then s.o+1 else s.o⟩
theorem sum_set17:∀ (C:List Nat) (i v:Nat),i<C.length→(C.set i v).sum+C.getD i 0=C.sum+v
 | [],i,v,h=>by simp at h
 | c::C,0,v,h=>by simp;omega
 | c::C,i+1,v,h=>by
   have:=sum_set17 C i v (by simpa using h)
   simp only [List.set_cons_succ,List.sum_cons,List.getD_cons_succ];omega
theorem get_le_sum17:∀ (C:List Nat) (i:Nat),C.getD i 0≤C.sum
 | [],i=>by simp
 | c::C,0=>by simp
 | c::C,i+1=>by have:=get_le_sum17 C i;simp only [List.getD_cons_succ,List.sum_cons];omega
theorem kd_cases (lo hi x:Nat):kd17 lo hi x=0∨kd17 lo hi x=1∨kd17 lo hi x=2∨kd17 lo hi x=3:=by
 unfold kd17
 repeat' split
 all_goals simp
theorem put_all {E:List Nat}{s:Hs}{x:Nat}(h:bk E x<s.C.length∨kd17 (E.getD 0 0) (E.getD (E.length-1) 0) x≠3):(s.put E x).all=s.all+1:=by
 unfold Hs.put Hs.all
 rcases kd_cases (E.getD 0 0) (E.getD (E.length-1) 0) x with e|e|e|e <;> rw [e] <;> simp
 · omega
 · omega
 · omega
 · have:=sum_set17 s.C (bk E x) (s.C.getD (bk E x) 0+1) (by rcases h with h | h;exact h;exact absurd e h)
   simp only [List.getD_eq_getElem?_getD] at this ⊢;omega
theorem put_len {E:List Nat}{s:Hs}{x:Nat}:(s.put E x).C.length=s.C.length:=by
 unfold Hs.put;simp only
 split <;> simp
structure But2 (g h:Nat) (w w':World):Prop where
 os:w'.os=w.os
 tape:w'.tape=w.tape
 output:w'.output=w.output
 size:w.heap.size≤w'.heap.size
 block:∀ k,k<w.heap.size→k≠g→k≠h→w'.heap[k]?=w.heap[k]?
theorem But2.refl (g h:Nat) (w:World):But2 g h w w:=⟨rfl,rfl,rfl,Nat.le_refl _,fun _ _ _ _=>rfl⟩
theorem But2.trans {g h:Nat}{a b c:World}(p:But2 g h a b) (q:But2 g h b c):But2 g h a c :=
 ⟨q.os.trans p.os,q.tape.trans p.tape,q.output.trans p.output,Nat.le_trans p.size q.size,fun k hk h1 h2=>(q.block k (Nat.lt_of_lt_of_le hk p.size) h1 h2).trans (p.block k hk h1 h2)⟩
theorem But.two1 {g h:Nat}{a b:World}(p:But g a b):But2 g h a b:=⟨p.os,p.tape,p.output,p.size,fun k hk h1 _=>p.block k hk h1⟩
theorem But.two2 {g h:Nat}{a b:World}(p:But h a b):But2 g h a b:=⟨p.os,p.tape,p.output,p.size,fun k hk _ h2=>p.block k hk h2⟩
theorem Below.two {g h:Nat}{a b:World}(p:Below a.heap.size a b):But2 g h a b:=⟨p.os,p.tape,p.output,p.size,fun k hk _ _=>p.block k hk⟩
theorem But2.below {g h B:Nat}{a w w':World}(p:Below B a w) (q:But2 g h w w') (hB:B≤w.heap.size) (hg:B≤g) (hh:B≤h):Below B a w' :=
 ⟨q.os.trans p.os,q.tape.trans p.tape,q.output.trans p.output,Nat.le_trans p.size q.size,fun k hk=>(q.block k (by omega) (by omega) (by omega)).trans (p.block k hk)⟩
abbrev hcs (gE gC cE nE nC b a o n:Nat):List Value:=[.int .i64 (b:Nat),.int .i64 (a:Nat),.int .i64 (o:Nat),.slice (some ⟨gE,0,none⟩) nE cE,.slice (some ⟨gC,0,none⟩) nC nC,.int .i64 (n:Nat)]
structure Hm (w:World) (g gE gC cE:Nat) (E:List Nat) (s:Hs):Prop where
 bl:Bl w g 83 (hcs gE gC cE E.length s.C.length s.b s.a s.o s.all)
 cs:OwnI w gC s.C
 es:Fs w.heap.size w (some ⟨gE,0,none⟩) E
 n1:g≠gC
 n2:gE≠g
 n3:gE≠gC
 ed:Edg E
 wE:W64 E
 le:s.C.length+1=E.length
 mx:s.all≤1099511627776
theorem Fs.lt17 {B gE:Nat}{w:World}{E:List Nat}(h:Fs B w (some ⟨gE,0,none⟩) E) (hE:E≠[]):gE<B:=by
 obtain ⟨b,off,h1,e,_⟩:=h hE
 cases e;exact h1
theorem Fs.re17 {gE:Nat}{w w':World}{E:List Nat}(h:Fs w.heap.size w (some ⟨gE,0,none⟩) E) (hs:w.heap.size≤w'.heap.size) (hb:gE<w.heap.size→w'.heap[gE]?=w.heap[gE]?):Fs w'.heap.size w' (some ⟨gE,0,none⟩) E:=by
 intro hne;obtain ⟨b,off,h1,e,h3⟩:=h hne
 cases e
 refine ⟨gE,0,Nat.lt_of_lt_of_le h1 hs,rfl,fun i hi=>?_⟩
 rw [←h3 i hi];exact World.cell?_of_block (a:=⟨gE,0+i,none⟩) (hb h1)
theorem Hm.ne {w:World}{g gE gC cE:Nat}{E:List Nat}{s:Hs}(h:Hm w g gE gC cE E s):E≠[]:=by
 intro e;have:=h.ed.1;rw [e] at this;simp at this
theorem Hm.keep {w w':World}{g gE gC cE g' gC':Nat}{E:List Nat}{s:Hs}(h:Hm w g gE gC cE E s) (hb:But2 g' gC' w w') (h1:g≠g'∧g≠gC') (h2:gC≠g'∧gC≠gC') (h3:gE≠g'∧gE≠gC'):Hm w' g gE gC cE E s where
 bl:=by have:=h.bl;unfold Bl at this ⊢;rw [hb.block g (Array.getElem?_eq_some_iff.1 this).1 h1.1 h1.2];exact this
 cs:=by have:=h.cs;unfold OwnI at this ⊢;rw [hb.block gC (Array.getElem?_eq_some_iff.1 this).1 h2.1 h2.2];exact this
 es:=h.es.re17 hb.size (fun hl=>hb.block gE hl h3.1 h3.2)
 n1:=h.n1
 n2:=h.n2
 n3:=h.n3
 ed:=h.ed
 wE:=h.wE
 le:=h.le
 mx:=h.mx
theorem Hm.below {w w':World}{g gE gC cE:Nat}{E:List Nat}{s:Hs}(h:Hm w g gE gC cE E s) (hb:Below w.heap.size w w'):Hm w' g gE gC cE E s where
 bl:=h.bl.below hb h.bl.lt
 cs:=h.cs.below hb h.cs.lt
 es:=(h.es.below hb).mono hb.size
 n1:=h.n1
 n2:=h.n2
 n3:=h.n3
 ed:=h.ed
 wE:=h.wE
 le:=h.le
 mx:=h.mx
end
section
open Go.RowKit J
theorem Hm.cells {w:World}{g gE gC cE:Nat}{E:List Nat}{s:Hs}(h:Hm w g gE gC cE E s) :
 w.cell? ⟨g,0,none⟩=some (.int .i64 (s.b:Nat))∧w.cell? ⟨g,1,none⟩=some (.int .i64 (s.a:Nat))∧w.cell? ⟨g,2,none⟩=some (.int .i64 (s.o:Nat))∧w.cell? ⟨g,3,none⟩=some (.slice (some ⟨gE,0,none⟩) E.length cE)∧w.cell? ⟨g,4,none⟩=some (.slice (some ⟨gC,0,none⟩) s.C.length s.C.length)∧w.cell? ⟨g,5,none⟩=some (.int .i64 (s.all:Nat)) :=
 ⟨h.bl.cell 0 _ rfl,h.bl.cell 1 _ rfl,h.bl.cell 2 _ rfl,h.bl.cell 3 _ rfl,h.bl.cell 4 _ rfl,h.bl.cell 5 _ rfl⟩
theorem min17 (a b:Nat) (P:Program) (ts:Array TypeId) (t:TypeId) (w:World):(Builtin.min_ ts t #[.int .i64 (a:Nat),.int .i64 (b:Nat)]).run P w=.ok (.int .i64 ((min a b:Nat):Int)) w:=by
 by_cases h:(b:Int)<(a:Int)
 · have:min a b=b:=by omega
   simp [Builtin.min_,Builtin.min2,h,this]
   try omega
 · have:min a b=a:=by omega
   simp [Builtin.min_,Builtin.min2,h,this]
   try omega
theorem bin17 {w:World}{g gE cE nC x:Nat}{aC:Option Addr}{E:List Nat}(c3:w.cell? ⟨g,3,none⟩=some (.slice (some ⟨gE,0,none⟩) E.length cE)) (c4:w.cell? ⟨g,4,none⟩=some (.slice aC nC nC)) (es:Fs w.heap.size w (some ⟨gE,0,none⟩) E) (wE:W64 E) (ed:Edg E) (hl:nC+1=E.length) (hx:x<18446744073709551616) (nx:nnW x) (h0:sP (E.getD 0 0)≤sP x) (h1:sP x≤sP (E.getD (E.length-1) 0)) :
 Calls Tryz.prog 82 #[.pointer (some ⟨g,0,none⟩),.float .f64 x] w fun r w'=>r=.returned (.int .i64 (bk E x:Nat))∧w'=w:=by
 have C:=hid (search17 E (some ⟨gE,0,none⟩) E.length cE x w es rfl wE ed hx nx);have hE2:=ed.2.1;have hE1:=ed.1;have HX:=(qsd (ai ed (ai h0 h1)));clear ed h0 h1 hx nx es wE;obtain ⟨nE,hnE⟩:∃ n,n=E.length:=⟨_,rfl⟩;rw [←hnE] at c3 C hl hE1 hE2;have hm:=fun (a b:Nat) (ts:Array TypeId) (t:TypeId) (w:World)=>min17 a b Tryz.prog ts t w
 have wC:IntKind.i64.wrap ((nC:Int)-1)=((nE-2:Nat):Int):=wrapY (by omega) (by omega)
 obtain ⟨kC,hkC⟩:∃ k,k=nE-2:=⟨_,rfl⟩;rw [←hkC] at wC;have HN:=(qsd (ai hnE hkC));clear hnE hkC;go_enter Tryz.func82,Tryz.ntmps82
 go_wp2_with fail
 refine C.out.mono ?_;rintro r v ⟨⟨i,b,rfl,hi,ha,hc,hb⟩,rfl⟩;have hmath:=bin_math HX.out.1 (n:=nE) HN.out.1 HX.out.2.1 (by rw [HN.out.1];exact HX.out.2.2) hi ha hc hb
 clear C ha hc hb
 cases b
 · obtain ⟨i1,he⟩:=hmath.2.1 rfl
   have wi:IntKind.i64.wrap ((i:Int)-1)=((i-1:Nat):Int):=wrapY (by omega) (by omega)
   obtain ⟨j,hj⟩:∃ k,k=i-1:=⟨_,rfl⟩;rw [←hj] at wi he;rw [←HN.out.2] at he;have HR:=qsd he;clear hmath he hj i1;go_wp2;refine bodyPost_ret (v:=.int .i64 ((min j kC:Nat):Int)) (by simp [results,Tryz.results82,go_sem]) rfl ?_
   exact ⟨by rw [HR.out],rfl⟩
 · have he:=hmath.1 rfl
   rw [←HN.out.2] at he;have HR:=qsd he;clear hmath he;go_wp2;refine bodyPost_ret (v:=.int .i64 ((min i kC:Nat):Int)) (by simp [results,Tryz.results82,go_sem]) rfl ?_
   exact ⟨by rw [HR.out],rfl⟩
theorem takes17 {w:World}{g b a o:Nat}{v3 v4 v5:Value}{lo hi x:Nat}(h:Bl w g 83 [.int .i64 (b:Nat),.int .i64 (a:Nat),.int .i64 (o:Nat),v3,v4,v5]) (hx:x<18446744073709551616) (hlo:lo<18446744073709551616) (hhi:hi<18446744073709551616) (fl:nnW lo) (fh:nnW hi) (hb:b<4000000000000) (ha:a<4000000000000) (ho:o<4000000000000) :
 Calls Tryz.prog 81 #[.pointer (some ⟨g,0,none⟩),.float .f64 x,.float .f64 lo,.float .f64 hi] w fun r w'=>r=.returned (.bool (decide (kd17 lo hi x≠3)))∧Bl w' g 83 [.int .i64 ((if kd17 lo hi x=1 then b+1 else b:Nat):Int),.int .i64 ((if kd17 lo hi x=2 then a+1 else a:Nat):Int),.int .i64 ((if kd17 lo hi x=0 then o+1 else o:Nat):Int),v3,v4,v5]∧But g w w':=by
 have c0:=h.cell 0 _ rfl;have c1:=h.cell 1 _ rfl;have c2:=h.cell 2 _ rfl;have f0:=h.frozen 0;have f1:=h.frozen 1;have f2:=h.frozen 2;have wb:IntKind.i64.wrap ((b:Int)+1)=((b+1:Nat):Int):=wrapY (by omega) (by omega)
 have wa:IntKind.i64.wrap ((a:Int)+1)=((a+1:Nat):Int):=wrapY (by omega) (by omega)
 have wo:IntKind.i64.wrap ((o:Int)+1)=((o+1:Nat):Int):=wrapY (by omega) (by omega)
 have CN:=hid (isNaN_w x hx w);have HB:=qsd h;obtain ⟨k,hk⟩:∃ k,k=kd17 lo hi x:=⟨_,rfl⟩;rw [←hk];unfold kd17 at hk;obtain ⟨b1,hb1⟩:∃ k,k=b+1:=⟨_,rfl⟩;obtain ⟨a1,ha1⟩:∃ k,k=a+1:=⟨_,rfl⟩;obtain ⟨o1,ho1⟩:∃ k,k=o+1:=⟨_,rfl⟩;rw [←hb1] at wb ⊢;rw [←ha1] at wa ⊢;rw [←ho1] at wo ⊢;clear h hb1 ha1 ho1
 by_cases hn:nanW x=true
 · rw [if_pos hn] at hk
   rw [hn] at CN;subst hk;clear hx hlo hhi fl fh;go_enter Tryz.func81,Tryz.ntmps81
   go_wp2_with fail
   refine CN.out.mono ?_;rintro r v ⟨rfl,rfl⟩;go_wp2;go_ret;exact ⟨rfl,HB.out.set 2 _,(But.refl g v).set 2 _⟩
 · have hn':nanW x=false:=by simpa using hn
   rw [if_neg hn] at hk
   have nx:nnW x:=by
    unfold nanW at hn';have:=of_decide_eq_false hn'
    show x%9223372036854775808≤9218868437227405312
    omega
   rw [hn'] at CN;have e1:=lt17 hx hlo nx fl;have e2:=gt17 hx hhi nx fh;clear hx hlo hhi fl fh nx hn hn'
   by_cases h1:sP x<sP lo
   · rw [if_pos h1] at hk
     rw [decide_eq_true h1] at e1;subst hk;clear e2 h1;go_enter Tryz.func81,Tryz.ntmps81
     go_wp2_with fail
     refine CN.out.mono ?_;rintro r v ⟨rfl,rfl⟩;go_wp2;go_ret;exact ⟨rfl,HB.out.set 0 _,(But.refl g v).set 0 _⟩
   · rw [if_neg h1] at hk
     rw [decide_eq_false h1] at e1
     by_cases h2:sP hi<sP x
     · rw [if_pos h2] at hk
       rw [decide_eq_true h2] at e2;subst hk;clear h1 h2;go_enter Tryz.func81,Tryz.ntmps81
       go_wp2_with fail
       refine CN.out.mono ?_;rintro r v ⟨rfl,rfl⟩;go_wp2;go_ret;exact ⟨rfl,HB.out.set 1 _,(But.refl g v).set 1 _⟩
     · rw [if_neg h2] at hk
       rw [decide_eq_false h2] at e2;subst hk;clear h1 h2;go_enter Tryz.func81,Tryz.ntmps81
       go_wp2_with fail
       refine CN.out.mono ?_;rintro r v ⟨rfl,rfl⟩;go_wp2;go_ret;exact ⟨rfl,HB.out,But.refl g v⟩
end
section
open Go.RowKit J
theorem calm17b {P:Program}{c:Code}{K:Act→World→Prop}{Q:Exit→Act→World→Prop}{a:Act}{w:World}(h:c.wp P (Exit.then K (fun _ _ _=>False)) a w):c.wp P (Exit.then K Q) a w :=
 wp_mono h (fun e a w h=>by cases e <;> first | exact h | exact False.elim h)
theorem kd_in {lo hi x:Nat}(h:kd17 lo hi x=3):nnW x∧sP lo≤sP x∧sP x≤sP hi:=by
 unfold kd17 at h
 by_cases a:nanW x=true
 · rw [if_pos a] at h;cases h
 · rw [if_neg a] at h
   by_cases b:sP x<sP lo
   · rw [if_pos b] at h;cases h
   · rw [if_neg b] at h
     by_cases c:sP hi<sP x
     · rw [if_pos c] at h;cases h
     · refine ⟨?_,by omega,by omega⟩
       unfold nanW at a;simp only [decide_eq_true_eq] at a
       show x%9223372036854775808≤9218868437227405312
       omega
theorem bk_lt {E:List Nat}(hE:Edg E) (x:Nat):bk E x+1<E.length:=by
 unfold bk
 cases e:(List.range (E.length-1)).find? (fun k=>inB E k x) with
 | none=>have:=hE.1;simp;omega
 | some m =>
   have:=List.mem_range.1 (List.mem_of_find?_eq_some e);simp;omega
theorem Hm.outs {w wx:World}{g gE gC cE x n1:Nat}{E:List Nat}{s:Hs}(h:Hm w g gE gC cE E s) (hf:¬ 1099511627776≤s.all) (hn1:n1=s.all+1) {k:Nat}(hk:k=kd17 (E.getD 0 0) (E.getD (E.length-1) 0) x) (hk3:k≠3)
 (hb:Bl wx g 83 [.int .i64 ((if k=1 then s.b+1 else s.b:Nat):Int),.int .i64 ((if k=2 then s.a+1 else s.a:Nat):Int),.int .i64 ((if k=0 then s.o+1 else s.o:Nat):Int),.slice (some ⟨gE,0,none⟩) E.length cE,.slice (some ⟨gC,0,none⟩) s.C.length s.C.length,.int .i64 (n1:Nat)]) (hbt:But g w wx):Hm wx g gE gC cE E (s.put E x):=by
 have e:s.put E x=⟨s.C,if k=1 then s.b+1 else s.b,if k=2 then s.a+1 else s.a,if k=0 then s.o+1 else s.o⟩:=by
  unfold Hs.put;rw [←hk,if_neg hk3]
 have ha:(s.put E x).all=s.all+1:=put_all (.inr (by rw [←hk];exact hk3))
 refine ⟨?_,?_,h.es.re17 hbt.size (fun hl=>hbt.block gE hl h.n2),h.n1,h.n2,h.n3,h.ed,h.wE,?_,?_⟩
 · rw [ha,←hn1,e];exact hb
 · rw [e]
   have:=h.cs;unfold OwnI at this ⊢;rw [hbt.block gC (Array.getElem?_eq_some_iff.1 this).1 (Ne.symm h.n1)];exact this
 · rw [e];exact h.le
 · rw [ha];omega
theorem Hm.ins {w wx wy:World}{g gE gC cE x n1:Nat}{E:List Nat}{s:Hs}(h:Hm w g gE gC cE E s) (hf:¬ 1099511627776≤s.all) (hn1:n1=s.all+1) (hk:kd17 (E.getD 0 0) (E.getD (E.length-1) 0) x=3)
 (hb:Bl wx g 83 [.int .i64 (s.b:Nat),.int .i64 (s.a:Nat),.int .i64 (s.o:Nat),.slice (some ⟨gE,0,none⟩) E.length cE,.slice (some ⟨gC,0,none⟩) s.C.length s.C.length,.int .i64 (n1:Nat)]) (hbt:But g w wx) (hy:wy=wx.setCell ⟨gC,bk E x,none⟩ (.int .i64 ((s.C.getD (bk E x) 0+1:Nat):Int))):Hm wy g gE gC cE E (s.put E x)∧But2 g gC w wy:=by
 have e:s.put E x=⟨s.C.set (bk E x) (s.C.getD (bk E x) 0+1),s.b,s.a,s.o⟩:=by
  unfold Hs.put;rw [hk];rfl
 have hl:bk E x<s.C.length:=by have:=bk_lt h.ed x;have:=h.le;omega
 have ha:(s.put E x).all=s.all+1:=put_all (.inl hl)
 have hc:OwnI wx gC s.C:=by
  have:=h.cs;unfold OwnI at this ⊢;rw [hbt.block gC (Array.getElem?_eq_some_iff.1 this).1 (Ne.symm h.n1)];exact this
 have b2:But gC wx wy:=by rw [hy];exact (But.refl gC wx).set _ _
 have es1:Fs wx.heap.size wx (some ⟨gE,0,none⟩) E:=h.es.re17 hbt.size (fun hl=>hbt.block gE hl h.n2)
 refine ⟨⟨?_,?_,es1.re17 b2.size (fun hl=>b2.block gE hl h.n3),h.n1,h.n2,h.n3,h.ed,h.wE,?_,?_⟩,hbt.two1.trans b2.two2⟩
 · rw [ha,←hn1,e]
   simp only [List.length_set];exact hb.but b2 h.n1
 · rw [e,hy]
   exact hc.set _ _
 · rw [put_len];exact h.le
 · rw [ha];omega
theorem Add17 {w:World}{g gE gC cE x:Nat}{E:List Nat}{s:Hs}(h:Hm w g gE gC cE E s) (hx:x<18446744073709551616) :
 Calls Tryz.prog 43 #[.pointer (some ⟨g,0,none⟩),.float .f64 x] w fun r w'=>r=.returned (.int .i64 (if 1099511627776≤s.all then 2 else 0))∧Hm w' g gE gC cE E (if 1099511627776≤s.all then s else s.put E x)∧But2 g gC w w':=by
 obtain ⟨c0,c1,c2,c3,c4,c5⟩:=h.cells;have f5:=h.bl.frozen 5;have HH:=qsd h
 by_cases hf:1099511627776≤s.all
 · rw [if_pos hf,if_pos hf]
   obtain ⟨n,hn⟩:∃ n,n=s.all:=⟨_,rfl⟩;rw [←hn] at hf c5;have d:decide ((1099511627776:Int)≤(n:Int))=true:=by simp;omega
   clear c0 c1 c2 c3 c4 h hn hx;go_enter Tryz.func43,Tryz.ntmps43;go_wp2;go_ret;exact ⟨rfl,HH.out,But2.refl _ _ _⟩
 · rw [if_neg hf,if_neg hf]
   obtain ⟨n,hn⟩:∃ n,n=s.all:=⟨_,rfl⟩;have hbl:=h.bl;rw [←hn] at hf c5 hbl;have d:decide ((1099511627776:Int)≤(n:Int))=false:=by simp;omega
   have wn:IntKind.i64.wrap ((n:Int)+1)=((n+1:Nat):Int):=wrapY (by omega) (by omega)
   obtain ⟨n1,hn1⟩:∃ n,n=s.all+1:=⟨_,rfl⟩;rw [show n+1=n1 by omega] at wn
   obtain ⟨W,hW⟩:∃ W,W=w.setCell ⟨g,5,none⟩ (.int .i64 (n1:Nat)):=⟨_,rfl⟩;have hb1:=hbl.set 5 (.int .i64 (n1:Nat));rw [←hW] at hb1;have hbt:But g w W:=by rw [hW];exact (But.refl g w).set 5 _
   have hsz:s.b<4000000000000∧s.a<4000000000000∧s.o<4000000000000:=by
    have:=hn;unfold Hs.all at this;omega
   obtain ⟨nE,hnE⟩:∃ n,n=E.length:=⟨_,rfl⟩;obtain ⟨kE,hkE⟩:∃ n,n=E.length-1:=⟨_,rfl⟩;have he1:=h.ed.1;have he2:=h.ed.2.1;have wk:IntKind.i64.wrap ((nE:Int)-1)=(kE:Int):=wrapY (by omega) (by omega)
   have bk1:(kE:Int)<(nE:Int):=by omega
   have bk0:(0:Int)<(nE:Int):=by omega
   have bk2:0<nE:=by omega
   have bk3:kE<nE:=by omega
   have bk4:(0:Int)≤(kE:Int):=by omega
   have f0:=h.ed.2.2.1 _ (getD_mem17 (show 0<E.length by omega))
   have f1:=h.ed.2.2.1 _ (getD_mem17 (show kE<E.length by omega))
   have es0:Fs W.heap.size W (some ⟨gE,0,none⟩) E:=h.es.re17 hbt.size (fun hl=>hbt.block gE hl h.n2)
   have e0:=es0.cell (Below.refl _ _) 0 (by omega)
   have e1:=es0.cell (Below.refl _ _) kE (by omega)
   rw [Nat.zero_add] at e0 e1;have d3:=hb1.cell 3 _ rfl;rw [←hnE] at d3;have C:=hid (takes17 (w:=W.drew) (x:=x) hb1.drew hx (h.wE.get 0) (h.wE.get kE) (Nat.le_of_lt f0) (Nat.le_of_lt f1) hsz.1 hsz.2.1 hsz.2.2);obtain ⟨lo,hlo⟩:∃ y,y=E.getD 0 0:=⟨_,rfl⟩;obtain ⟨hi,hhi⟩:∃ y,y=E.getD kE 0:=⟨_,rfl⟩;rw [←hlo] at e0 C;rw [←hhi] at e1 C;have HW:=qsd hW;have HE:=(qsd (ai hnE (ai hkE (ai hlo (ai hhi (ai hbt (ai hn1 (ai hx hn))))))));have hgE:=Fs.lt17 es0 h.ne;have kS:Aside (W.drew.cell? ⟨g,3,none⟩=some (.slice (some ⟨gE,0,none⟩) nE cE)∧W.drew.cell? ⟨gE,0,none⟩=some (.float .f64 lo)∧W.drew.cell? ⟨gE,kE,none⟩=some (.float .f64 hi)):=⟨d3,e0,e1⟩;have HGE:=qsd hgE;clear h hx hbl hW hb1 hbt hsz hnE hkE he1 he2 f0 f1 es0 hlo hhi c0 c1 c2 c3 c4 hn1 hgE hn d3 e0 e1;go_enter Tryz.func43,Tryz.ntmps43
   go_upto_region 4 with fail
   rw [←HW.out];clear c5 f5 HW
   go_cut [40] from 17 to 39 (fun v wx=>v=.bool (decide (kd17 lo hi x=3))∧Aside (Bl wx g 83 [.int .i64 ((if kd17 lo hi x=1 then s.b+1 else s.b:Nat):Int),.int .i64 ((if kd17 lo hi x=2 then s.a+1 else s.a:Nat):Int),.int .i64 ((if kd17 lo hi x=0 then s.o+1 else s.o:Nat):Int),.slice (some ⟨gE,0,none⟩) E.length cE,.slice (some ⟨gC,0,none⟩) s.C.length s.C.length,.int .i64 (n1:Nat)]∧But g W.drew wx))
   case first =>
    go_region_held3 (fun w'=>w'.cell? ⟨g,3,none⟩=some (.slice (some ⟨gE,0,none⟩) nE cE)∧w'.cell? ⟨gE,0,none⟩=some (.float .f64 lo)∧w'.cell? ⟨gE,kE,none⟩=some (.float .f64 hi)) (with_reducible exact kS.out) (first
     | (go_at_call 81
        with_reducible refine C.out.mono ?_
        rintro r v ⟨rfl,hB,hbt⟩;have G:=qsd (ai hB hbt);have kS:Aside (v.cell? ⟨g,3,none⟩=some (.slice (some ⟨gE,0,none⟩) nE cE)∧v.cell? ⟨gE,0,none⟩=some (.float .f64 lo)∧v.cell? ⟨gE,kE,none⟩=some (.float .f64 hi)):=⟨by rw [HE.out.1];exact hB.cell 3 _ rfl,(World.cell?_of_block (a:=⟨gE,0,none⟩) (hbt.block gE HGE.out HH.out.n2)).trans kS.out.2.1,(World.cell?_of_block (a:=⟨gE,kE,none⟩) (hbt.block gE HGE.out HH.out.n2)).trans kS.out.2.2⟩
        clear hB hbt))
    all_goals
     go_wp2_with fail
     go_meet
     case rel=>exact ⟨by first | rfl | simp,G.out⟩
   clear kS C;obtain ⟨rfl,HA⟩:=hcut;obtain ⟨V,hV⟩:∃ W,W=wc:=⟨_,rfl⟩;subst hV
   by_cases hk:kd17 lo hi x=3
   · have dk:decide (kd17 lo hi x=3)=true:=by simp [hk]
     have hA1:=HA.out.1;rw [hk,if_neg (by decide),if_neg (by decide),if_neg (by decide)] at hA1
     have hbt:But g w V:=HE.out.2.2.2.2.1.trans ((But.refl g W).drew.trans HA.out.2)
     have hc:OwnI V gC s.C:=by
      have:=HH.out.cs;unfold OwnI at this ⊢;rw [hbt.block gC (Array.getElem?_eq_some_iff.1 this).1 (Ne.symm HH.out.n1)];exact this
     have hl:bk E x<s.C.length:=by have:=bk_lt HH.out.ed x;have:=HH.out.le;omega
     have z0:V.cell? ⟨gC,bk E x,none⟩=_:=hc.cell (bk E x) hl;have z1:V.frozen? ⟨gC,bk E x,none⟩=false:=hc.frozen (bk E x);have es1:Fs V.heap.size V (some ⟨gE,0,none⟩) E:=HH.out.es.re17 hbt.size (fun hl=>hbt.block gE hl HH.out.n2)
     have y4:V.cell? ⟨g,4,none⟩=_:=hA1.cell 4 _ rfl;have hkk:kd17 (E.getD 0 0) (E.getD (E.length-1) 0) x=3:=by rw [←HE.out.2.2.1,←HE.out.2.1,←HE.out.2.2.2.1];exact hk
     have hin:=kd_in hkk;have C:=hid (bin17 (w:=V.drew) (x:=x) (aC:=some ⟨gC,0,none⟩) (nC:=s.C.length) (hA1.cell 3 _ rfl) (hA1.cell 4 _ rfl) es1 HH.out.wE HH.out.ed HH.out.le HE.out.2.2.2.2.2.2.1 hin.1 hin.2.1 hin.2.2);have HF:=qsd (fun wy (hy:wy=V.drew.setCell ⟨gC,bk E x,none⟩ (.int .i64 ((s.C.getD (bk E x) 0+1:Nat):Int)))=>HH.out.ins (wx:=V.drew) (by rw [←HE.out.2.2.2.2.2.2.2];exact hf) HE.out.2.2.2.2.2.1 hkk hA1.drew hbt.drew hy)
     have hcb:s.C.getD (bk E x) 0<4000000000000:=by
      have q1:=get_le_sum17 s.C (bk E x);have q2:s.C.sum≤s.all:=by unfold Hs.all;omega
      have:=HE.out.2.2.2.2.2.2.2;omega
     obtain ⟨k,hkq⟩:∃ k,k=bk E x:=⟨_,rfl⟩;rw [←hkq] at hl z0 z1 C hcb HF;obtain ⟨ck,hck⟩:∃ c,c=s.C.getD k 0:=⟨_,rfl⟩;rw [←hck] at z0 hcb HF;obtain ⟨nC,hnC⟩:∃ n,n=s.C.length:=⟨_,rfl⟩;rw [←hnC] at hl y4;obtain ⟨c1,hc1⟩:∃ c,c=ck+1:=⟨_,rfl⟩;rw [←hc1] at HF;have wc1:IntKind.i64.wrap ((ck:Int)+1)=(c1:Int):=wrapY (by omega) (by omega)
     have lk1:(k:Int)<(nC:Int):=by omega
     have lk2:(0:Int)≤(k:Int):=by omega
     clear hA1 hbt hc es1 hin HA hkq hck hnC hc1 HH HE hkk
     go_upto_region 5 with fail
     refine calm17b ?_
     go_region_with (first
      | (go_at_call 82
         with_reducible refine C.out.mono ?_
         rintro r v ⟨rfl,hv⟩;rw [hv];clear hv))
     all_goals
      go_wp2;go_ret;exact ⟨rfl,HF.out _ rfl⟩
   · have dk:decide (kd17 lo hi x=3)=false:=by simp [hk]
     have HF:Aside (Hm V g gE gC cE E (s.put E x)∧But2 g gC w V):=by
      have hbt:But g w V:=HE.out.2.2.2.2.1.trans ((But.refl g W).drew.trans HA.out.2);refine ⟨HH.out.outs (by rw [←HE.out.2.2.2.2.2.2.2];exact hf) HE.out.2.2.2.2.2.1 (k:=kd17 lo hi x) ?_ hk HA.out.1 hbt,hbt.two1⟩
      rw [←HE.out.2.2.1,←HE.out.2.1,←HE.out.2.2.2.1]
     clear HA HH HE;go_wp2;go_ret;exact ⟨rfl,HF.out⟩
end
section
open Go.RowKit J
theorem drewN_drewN17 (w:World) (a b:Nat):(w.drewN a).drewN b=w.drewN (a+b):=by
 first | rfl | simp [World.drewN,Nat.add_assoc]
theorem join17 {w:World}{g b a o b2 a2 o2:Nat}{v3 v4 v5:Value}(h:Bl w g 83 [.int .i64 (b:Nat),.int .i64 (a:Nat),.int .i64 (o:Nat),v3,v4,v5]) (hb:b+b2<4000000000000) (ha:a+a2<4000000000000) (ho:o+o2<4000000000000) :
 Calls Tryz.prog 85 #[.pointer (some ⟨g,0,none⟩),.agg #[.int .i64 (b2:Nat),.int .i64 (a2:Nat),.int .i64 (o2:Nat)]] w fun r w'=>r=.returned (.tuple #[])∧Bl w' g 83 [.int .i64 ((b+b2:Nat):Int),.int .i64 ((a+a2:Nat):Int),.int .i64 ((o+o2:Nat):Int),v3,v4,v5]∧But g w w':=by
 obtain ⟨W,hW⟩:∃ W,W=w.alloc (Obj.cells #[.int .i64 (b2:Nat),.int .i64 (a2:Nat),.int .i64 (o2:Nat)] 81):=⟨_,rfl⟩;obtain ⟨g2,hg2⟩:∃ g,g=w.heap.size:=⟨_,rfl⟩;have hlt:=h.lt;have hB2:Bl W g2 81 [.int .i64 (b2:Nat),.int .i64 (a2:Nat),.int .i64 (o2:Nat)]:=by rw [hW,hg2];exact Bl.new _ _ [_,_,_]
 have hB:Bl W g 83 [.int .i64 (b:Nat),.int .i64 (a:Nat),.int .i64 (o:Nat),v3,v4,v5]:=by rw [hW];exact h.alloc _
 have hne:g≠g2:=by omega
 have hbt:But g w W:=by rw [hW];exact (But.refl g w).alloc _
 have wb:IntKind.i64.wrap ((b:Int)+(b2:Int))=((b+b2:Nat):Int):=wrapY (by omega) (by omega)
 have wa:IntKind.i64.wrap ((a:Int)+(a2:Int))=((a+a2:Nat):Int):=wrapY (by omega) (by omega)
 have wo:IntKind.i64.wrap ((o:Int)+(o2:Int))=((o+o2:Nat):Int):=wrapY (by omega) (by omega)
 obtain ⟨b3,hb3⟩:∃ k,k=b+b2:=⟨_,rfl⟩;obtain ⟨a3,ha3⟩:∃ k,k=a+a2:=⟨_,rfl⟩;obtain ⟨o3,ho3⟩:∃ k,k=o+o2:=⟨_,rfl⟩;rw [←hb3] at wb ⊢;rw [←ha3] at wa ⊢;rw [←ho3] at wo ⊢;have HW:=(qsd (ai hW hg2));have HB:=(qsd (ai hB (ai hB2 hbt)));clear h hW hg2 hB hB2 hbt hb3 ha3 ho3 hb ha ho hlt;go_enter Tryz.func85,Tryz.ntmps85
 go_upto_region 1 with fail
 rw [←HW.out.1,←HW.out.2];clear HW;have c0:W.cell? ⟨g,0,none⟩=_:=HB.out.1.cell 0 _ rfl;have e0:W.cell? ⟨g2,0,none⟩=_:=HB.out.2.1.cell 0 _ rfl;have f0:W.frozen? ⟨g,0,none⟩=false:=HB.out.1.frozen 0
 go_cut [] from 4 to 12 (fun wx=>Aside (Bl wx g 83 [.int .i64 (b3:Nat),.int .i64 (a:Nat),.int .i64 (o:Nat),v3,v4,v5]∧Bl wx g2 81 [.int .i64 (b2:Nat),.int .i64 (a2:Nat),.int .i64 (o2:Nat)]∧But g w wx))
 case first =>
  go_region
  all_goals
   go_wp2_with fail
   go_meet
   case rel=>exact ⟨HB.out.1.drew.set 0 _,(HB.out.2.1.drew).but ((But.refl g W.drew).set 0 _) (Ne.symm hne),HB.out.2.2.drew.set 0 _⟩
 clear HB c0 e0 f0;have HB:=hcut;obtain ⟨V1,hV⟩:∃ W,W=wc:=⟨_,rfl⟩;subst hV;clear hcut;have c0:V1.cell? ⟨g,1,none⟩=_:=HB.out.1.cell 1 _ rfl;have e0:V1.cell? ⟨g2,1,none⟩=_:=HB.out.2.1.cell 1 _ rfl;have f0:V1.frozen? ⟨g,1,none⟩=false:=HB.out.1.frozen 1
 go_upto_region 2 with fail
 go_cut [] from 13 to 21 (fun wx=>Aside (Bl wx g 83 [.int .i64 (b3:Nat),.int .i64 (a3:Nat),.int .i64 (o:Nat),v3,v4,v5]∧Bl wx g2 81 [.int .i64 (b2:Nat),.int .i64 (a2:Nat),.int .i64 (o2:Nat)]∧But g w wx))
 case first =>
  go_region
  all_goals
   go_wp2_with fail
   go_meet
   case rel=>exact ⟨HB.out.1.drew.set 1 _,(HB.out.2.1.drew).but ((But.refl g V1.drew).set 1 _) (Ne.symm hne),HB.out.2.2.drew.set 1 _⟩
 clear HB c0 e0 f0;have HB:=hcut;obtain ⟨V2,hV⟩:∃ W,W=wc:=⟨_,rfl⟩;subst hV;clear hcut;have c0:V2.cell? ⟨g,2,none⟩=_:=HB.out.1.cell 2 _ rfl;have e0:V2.cell? ⟨g2,2,none⟩=_:=HB.out.2.1.cell 2 _ rfl;have f0:V2.frozen? ⟨g,2,none⟩=false:=HB.out.1.frozen 2
 go_upto_region 3 with fail
 have HF:Aside (Bl (V2.drew.setCell ⟨g,2,none⟩ (.int .i64 (o3:Nat))) g 83 [.int .i64 (b3:Nat),.int .i64 (a3:Nat),.int .i64 (o3:Nat),v3,v4,v5]∧But g w (V2.drew.setCell ⟨g,2,none⟩ (.int .i64 (o3:Nat)))):=⟨HB.out.1.drew.set 2 _,HB.out.2.2.drew.set 2 _⟩;clear HB
 go_region
 all_goals
  go_wp2;refine bodyPost_end (v:=.tuple #[]) (by simp [results,Tryz.results85,go_sem]) rfl ?_
  exact ⟨rfl,HF.out⟩
theorem equal17 (xs ys:List Nat) (a1 a2:Option Addr) (n c1 m c2:Nat) (w:World) (hF:Fs w.heap.size w a1 xs) (hG:Fs w.heap.size w a2 ys) (hn:n=xs.length) (hm:m=ys.length) (hb:n≤17592186044416) (hW:W64 xs) (hV:W64 ys) (fx:∀ x ∈ xs,finW x) (fy:∀ x ∈ ys,finW x) :
 Calls Tryz.prog 84 #[.slice a1 n c1,.slice a2 m c2] w fun r w'=>(∃ b:Bool,r=.returned (.bool b)∧(b=true↔xs.map sP=ys.map sP))∧(∃ k,w'=w.drewN k):=by
 by_cases hnm:n=m
 · subst hnm
   have HN:=(qsd (ai hn (ai hW (ai hF (ai fx (ai hm (ai hV (ai hG fy))))))));clear hF hn hW hG hm hV fx fy;have d1:((n:Int) != (n:Int))=false:=by simp
   go_enter Tryz.func84,Tryz.ntmps84;go_wp2
   go_loopg [13] n (fun gk iv wr=>∃ k:Nat,gk+k=n∧iv=.int .i64 (k:Nat)∧Aside ((∀ i,i<k→sP (xs.getD i 0)=sP (ys.getD i 0))∧∃ k,wr=w.drewN k))
   case atStart=>exact ⟨0,by omega,by first | rfl | simp,fun i hi=>by omega,0,rfl⟩
   case round =>
    obtain ⟨k,hgk,rfl,HA⟩:=hrel
    by_cases hk:k<n
    · have hdk:decide ((k:Int)<(n:Int))=true:=by simp;omega
      have bk:(k:Int)<(n:Int):=by omega
      obtain ⟨k1,hk1⟩:∃ x,x=k+1:=⟨_,rfl⟩;have wk:IntKind.i64.wrap ((k:Int)+1)=(k1:Int):=wrapY (by omega) (by omega)
      obtain ⟨hn,hW,hF,fx,hm,hV,hG,fy⟩:=HN.out;obtain ⟨kk,hkk⟩:=HA.out.2;have hbel:Below w.heap.size w wr:=by rw [hkk];exact below_drewN17 (Below.refl _ _) _
      obtain ⟨b1,off1,rfl,c1'⟩:=hF.at hbel k (by omega)
      obtain ⟨b2,off2,rfl,c2'⟩:=hG.at hbel k (by omega)
      have he:=eq17 (hW.get k) (hV.get k) (Nat.le_of_lt (fx _ (getD_mem17 (show k<xs.length by omega)))) (Nat.le_of_lt (fy _ (getD_mem17 (show k<ys.length by omega))))
      obtain ⟨x,hx⟩:∃ x,x=xs.getD k 0:=⟨_,rfl⟩;obtain ⟨y,hy⟩:∃ x,x=ys.getD k 0:=⟨_,rfl⟩;rw [←hx] at c1' he;rw [←hy] at c2' he;obtain ⟨t,ht⟩:∃ t,t=decide (sP x=sP y):=⟨_,rfl⟩;rw [←ht] at he;have he2:(FloatKind.f64.format.order x y != some Ordering.eq)=!t:=by simp only [bne,he]
      have HK:Aside (k1=k+1∧t=decide (sP (xs.getD k 0)=sP (ys.getD k 0))):=⟨hk1,by rw [ht,hx,hy]⟩
      have HD:=qsd (fun q=>(⟨kk+q,by rw [hkk];exact drewN_drewN17 w kk q⟩:∃ k,wr.drewN q=w.drewN k))
      clear hn hW hF hm hV hG fx fy hx hy ht hk1 hbel hkk
      cases t
      · have HE:Aside (¬ xs.map sP=ys.map sP):=qsd (fun e=>by
         have:=of_decide_eq_false HK.out.2.symm;have e2:=congrArg (fun l=>l[k]?) e
         simp only [List.getElem?_map] at e2;rw [List.getElem?_eq_getElem (by have:=HN.out.1;omega),List.getElem?_eq_getElem (by have:=HN.out.2.2.2.2.1;omega)] at e2
         rw [List.getD_eq_getElem?_getD,List.getD_eq_getElem?_getD,List.getElem?_eq_getElem (by have:=HN.out.1;omega),List.getElem?_eq_getElem (by have:=HN.out.2.2.2.2.1;omega)] at this
         exact this (Option.some.inj e2))
        go_wp2_with fail
        go_quiet (fail)
        go_wp2;refine bodyPost_ret (v:=.bool false) (by simp [results,Tryz.results84,go_sem]) rfl ?_
        exact ⟨⟨false,rfl,fun h=>absurd h (by decide),fun h=>absurd h HE.out⟩,HD.out _⟩
      · go_wp2_with fail
        go_quiet (fail)
        go_wp2
        go_roundg (n-k1)
        case measure=>have:=HK.out;omega
        case rel=>exact ⟨k1,by have:=HK.out;omega,by first | rfl | simp,fun i hi=>by
         by_cases e:i<k
         · exact HA.out.1 i e
         · have:=HK.out
           obtain rfl:i=k:=by omega
           exact of_decide_eq_true HK.out.2.symm,HD.out _⟩
    · obtain rfl:k=n:=by omega
      have hdk:decide ((k:Int)<(k:Int))=false:=by simp
      have HE:Aside (xs.map sP=ys.map sP):=qsd (by
       refine List.ext_getElem (by simp;have:=HN.out.1;have:=HN.out.2.2.2.2.1;omega) fun i h1 h2=>?_
       have:=HA.out.1 i (by have:=HN.out.1;simp at h1;omega)
       simp at h1 h2;rw [List.getD_eq_getElem?_getD,List.getD_eq_getElem?_getD,List.getElem?_eq_getElem h1,List.getElem?_eq_getElem h2] at this
       simpa using this)
      go_wp2;refine bodyPost_ret (v:=.bool true) (by simp [results,Tryz.results84,go_sem]) rfl ?_
      exact ⟨⟨true,rfl,fun _=>HE.out,fun _=>rfl⟩,HA.out.2⟩
 · have d1:((n:Int) != (m:Int))=true:=by simp;omega
   have HE:Aside (¬ xs.map sP=ys.map sP):=qsd (fun e=>hnm (by have:=congrArg List.length e;simp at this;omega))
   clear hF hn hW hG hm hV fx fy;go_enter Tryz.func84,Tryz.ntmps84;go_wp2;go_ret;exact ⟨⟨false,rfl,fun h=>absurd h (by decide),fun h=>absurd h HE.out⟩,0,rfl⟩
end
section
open Go.RowKit
def Rf (lo:Nat) (w:World) (v:Value) (R:List Nat):Prop:=w.ownsRow lo 41 1 v R.length (R.map Fw10)
theorem Rf.nil (lo:Nat) (w:World):Rf lo w (.slice none 0 0) []:=World.ownsRow_nil w lo 41 1
theorem Rf.shape {lo:Nat}{w:World}{v:Value}{R:List Nat}(h:Rf lo w v R) (hR:0<R.length):∃ g cap,v=.slice (some ⟨g,0,none⟩) R.length cap∧lo≤g∧g<w.heap.size∧R.length≤cap∧cap≤maxLen∧∀ i,i<R.length→w.cell? ⟨g,i,none⟩=some (.float .f64 (R.getD i 0)):=by
 have h':=h
 rcases h.2 with ⟨_,h0⟩|⟨g,cap,cur,rfl,hlo,hg,hn,hm,hs,ht⟩
 · omega
 · refine ⟨g,cap,rfl,hlo,(Array.getElem?_eq_some_iff.1 hg).1,hn,hm,fun i hi=>?_⟩
   have:=World.ownsRow.cellAt h' i (by omega)
   rw [this,List.getElem?_map,List.getElem?_eq_getElem hi,List.getD_eq_getElem?_getD,List.getElem?_eq_getElem hi]
   rfl
theorem append_flts (w:World) (lo:Nat) (v:Value) (xs src:List Nat) (ao:Option Addr) (m c:Nat) (ty:TypeId) (hown:Rf lo w v xs) (hm:m=src.length)
 (hR:src≠[]→∃ b off,ao=some ⟨b,off,none⟩∧∀ i,i<src.length→w.cell? ⟨b,off+i,none⟩=some (.float .f64 (src.getD i 0)))
 (hnn:ao≠none) (hbig:xs.length+m≤100000) (hlo:lo≤w.heap.size) :
 ∃ v' w',(Builtin.append_ #[22,22] ty #[v,.slice ao m c]).run Tryz.prog w=.ok v' w'∧Rf lo w' v' (xs++src)∧w.grownBy w' v.ownBlock∧(v'.ownBlock=v.ownBlock∨v'.ownBlock=some w.heap.size):=by
 obtain ⟨i0,hi,hz0,hz1,hz2⟩:=info_parts Tryz.info_f64;subst hm;obtain ⟨a,rfl⟩:∃ a,ao=some a:=by cases ao;exact absurd rfl hnn;exact ⟨_,rfl⟩
 obtain ⟨v',w',h1,h2,h3,_,h5⟩:=run_append_own_at (P:=Tryz.prog) w lo 22 ty 41 i0 (.float .f64 0) 1 8 Tryz.und_floats hi hz0 hz1 hz2 rfl (by decide) v xs.length (xs.map Fw10) hown a src.length c (src.map Fw10) (by simp) (by
  intro j u hj;have hj2:j<src.length:=by have:=(List.getElem?_eq_some_iff.1 hj).1;simpa using this
  obtain ⟨b,off,e,hc⟩:=hR (by intro e;subst e;simp at hj2)
  cases e
  have hadd:(⟨b,off,none⟩:Addr).add j=⟨b,off+j,none⟩:=by unfold Addr.add;split <;> simp_all
  rw [hadd,hc j hj2];rw [List.getElem?_map,List.getElem?_eq_getElem hj2] at hj
  rw [List.getD_eq_getElem?_getD,List.getElem?_eq_getElem hj2]
  exact hj) (by
  intro u hu;obtain ⟨x,_,rfl⟩:=List.mem_map.1 hu
  rfl) (by unfold maxLen;omega) (by omega) hlo
 exact ⟨v',w',h1,by unfold Rf;rw [List.map_append,List.length_append];exact h2,h3,h5⟩
theorem wpList_append_flt {w:World}{ops:Array Oper}{rest:List Oper}{o:Oper}{a:Act}{Q:Exit→Act→World→Prop}(hgd:o.guard=none) (s x:Operand)
 (ho:o.op=.call { callee:=.builtin .append,args:=#[s,x],argTypes:=#[22,22] }) (v u:Value) (hs:a.eval s=v) (hx:a.eval x=u) (v':Value) (w':World)
 (hrun:(Builtin.append_ #[22,22] o.type #[v,u]).run Tryz.prog w=.ok v' w') (h:wpList Tryz.prog ops Q rest (a.put o.dst v') w'):wpList Tryz.prog ops Q (o::rest) a w:=by
 refine wpList_plain hgd fun K hK=>?_
 unfold Oper.wp;simp [execOp,ho,resolve,invoke,builtin,hs,hx,hrun,Result.andThen];exact hK _ _ h
end
end Go.Proofs.YtffeldkheibccaaGreatDoor
