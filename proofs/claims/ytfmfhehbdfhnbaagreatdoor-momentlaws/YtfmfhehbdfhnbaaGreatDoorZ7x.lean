import Derived.Test.YtfmfhehbdfhnbaaGreatDoorZ1x
import Derived.Deep.RegionHeld3
import Derived.Deep.CutRange
import Derived.Deep.Cut
import Derived.Test.YtfmfhehbdfhnbaaGreatDoorD30x
import Derived.Test.YtfmfhehbdfhnbaaGreatDoorD32cx
import Derived.Deep.OwnRows
import Derived.Deep.LoopGhost
set_option linter.unusedVariables false
set_option linter.unusedSimpArgs false
set_option maxHeartbeats 16000000
set_option maxRecDepth 20000
namespace Go.Proofs.YtfmfhehbdfhnbaaGreatDoor
section
open Go.RowKit
theorem kJ(w:World)(n:Bool)(v:Value)(e:Int)(m:Bool)(u:Value)(f:Int)(W:World)(hW:W=(w.alloc (.cells #[.bool n,v,.int .i64 e,.bool m,u,.int .i64 f] 58)).alloc (.cells zD3 25)) :
 Below w.heap.size w W/\W.heap.size=w.heap.size+2/\Rq W w.heap.size n v e m u f/\Tk W (w.heap.size+1) 25 (.bool false) (.slice none 0 0) (.int .i64 0):=by
 rw[hW];refine⟨(af w _).alloc aQ _,aQ,(Rq.new _ _ _ _ _ _ _).alloc _,?_⟩;have:=Tk.new (w.alloc (.cells #[.bool n,v,.int .i64 e,.bool m,u,.int .i64 f] 58)) 25 (.bool false) (.slice none 0 0) (.int .i64 0);simpa using this
theorem ui(W:World)(g:Nat)(n:Bool)(v:Value)(e k:Int)(tmps:Array Value)(ht:tmps[2]?.getD undef=.pointer (some ⟨g,0,none⟩))(hk:tmps[3]?.getD undef=.int .i64 k)(D:Tk W g 25 (.bool n) v (.int .i64 e)) :
 (results Tryz.f59 tmps).run Tryz.prog W=.ok (.tuple #[.agg #[.bool n,v,.int .i64 e],.int .i64 k]) W:=by
 obtain⟨x0,x1,x2,_,_,_⟩:=D.facts;simp[results,Tryz.results59,ht,hk,go_sem,x0,x1,x2]
theorem A9 {w:World}{a b:Option Addr}{la ca lb cb:Nat}(n m:Bool) (e f:Int) (WH:Nat) (x:Int) (tt:Bool) (dn:Bool) (V:Nat) (de er:Int) (lW:(ws WH).length<=8192) (lV:(ws V).length<=8192)
 (HD:Hid (∀ u,Below w.heap.size w u->Calls Tryz.prog 104 #[.agg #[.bool n,.slice a la ca,.int .i64 e,.bool m,.slice b lb cb,.int .i64 f],.int .i64 64] u fun r w'=>(∃ v,r=.returned (.agg #[v,.int .i64 x,.bool tt])/\Nt u.heap.size w' v WH)/\Below u.heap.size u w'))
 (HI:Hid (∀ (u:World) (p:Option Addr) (q:Nat),Below w.heap.size w u->Arg u p (ws WH).length q (ws WH)->Calls Tryz.prog 103 #[.bool n,.agg #[.slice p (ws WH).length q,.int .i64 x,.bool tt]] u fun r w'=>(∃ v,r=.returned (.tuple #[.agg #[.bool dn,v,.int .i64 de],.int .i64 er])/\Nt u.heap.size w' v V)/\Below u.heap.size u w')) :
 Calls Tryz.prog 59 #[.agg #[.bool n,.slice a la ca,.int .i64 e,.bool m,.slice b lb cb,.int .i64 f]] w fun r w'=>(∃ v,r=.returned (.tuple #[.agg #[.bool dn,v,.int .i64 de],.int .i64 er])/\Nt w.heap.size w' v V)/\Below w.heap.size w w':=by
 obtain⟨W1,hW1⟩:=ah ((w.alloc (.cells #[.bool n,.slice a la ca,.int .i64 e,.bool m,.slice b lb cb,.int .i64 f] 58)).alloc (.cells zD3 25));obtain⟨hB,hz1,RQ,DK⟩:=kJ w n _ e m _ f W1 hW1;have T1:=hid (HD.o W1 hB);have T2:=hid (HD.o W1.drew hB.drew);obtain⟨x0,x1,x2,x3,x4,x5⟩:=RQ.facts;obtain⟨s0,s1,s2,uZ,ve,vg⟩:=DK.facts;have hs1:w.heap.size+2<=W1.heap.size:=ae
 have SB:=(dC hB RQ DK);clear hB hz1 RQ DK HD;go_enter Tryz.func59,Tryz.ntmps59;go_wp2_with fail;rw[<-hW1];clear hW1;have ne1:w.heap.size≠w.heap.size+1:=ae
 have Q6:w.heap.size+1≠w.heap.size:=ae
 go_region_held3 (fun w'=>w'.cell? ⟨w.heap.size,0,none⟩=some (.bool n)/\w'.cell? ⟨w.heap.size,1,none⟩=some (.slice a la ca)/\w'.cell? ⟨w.heap.size,2,none⟩=some (.int .i64 e)/\w'.cell? ⟨w.heap.size,3,none⟩=some (.bool m)/\w'.cell? ⟨w.heap.size,4,none⟩=some (.slice b lb cb)/\w'.cell? ⟨w.heap.size,5,none⟩=some (.int .i64 f)) (go_keep) (first
  | (go_at_call 104
     first | with_reducible refine T1.o.mono ?_ | with_reducible refine T2.o.mono ?_
     rintro r u1 ⟨⟨v,rfl,hN⟩,hb⟩;obtain⟨a1,c1,rfl,_⟩:=hN.arg ae;have hb1:Below W1.heap.size W1 u1:=by first | exact hb | exact((aD _ W1).drew).trans (hb.mono (aC _))
     have BW:Below w.heap.size w u1:=SB.o.1.trans (hb1.mono ae);have HI1:=hid (HI.o u1 _ _ BW (hN.aY ae).2);obtain⟨p0,p1,p2,w9,xc,xe⟩:=(SB.o.r2.below hb1).facts;obtain⟨q0,q1,q2,q3,q4,q5⟩:=(SB.o.2.1.below hb1).facts;have S1:=(dC BW (SB.o.2.1.below hb1) (SB.o.r2.below hb1))
     clear hb hb1 BW hN)
  | (go_at_call 103
     with_reducible refine HI1.o.mono ?_
     rintro r u2 ⟨⟨v,rfl,hN⟩,hb⟩;obtain⟨a4,c4,rfl,_⟩:=hN.arg ae;have LD:=S1.o.r2.below hb;obtain⟨t0,t1,t2,Q7,Q8,Q9⟩:=LD.facts;obtain⟨i0,i1,i2,i3,i4,i5⟩:=(S1.o.2.1.below hb).facts;have FV:=dC (S1.o.1.trans (hb.mono S1.o.1.size)) (hN.mono S1.o.1.size) LD
     clear hN hb LD))
 all_goals (
  go_wp2;obtain⟨aB,NZ,DK⟩:=FV.o;have hsz:=aB.size
  first
  | exact aG (ui _ (w.heap.size+1) dn (.slice a4 (ws V).length c4) de er _ rfl rfl (DK.set _ _ _)) rfl ⟨⟨_,rfl,NZ.ou DK aj _ _ _⟩,dh aB hsz ae _ _ _⟩
  | exact aG (ui _ (w.heap.size+1) dn (.slice a4 (ws V).length c4) de er _ rfl rfl (DK.set _ _ _)) rfl ⟨⟨_,rfl,NZ.ou DK aj _ _ _⟩,(dh aB hsz ae _ _ _).drew⟩)
theorem DF {w:World}{a b:Option Addr}{ca cb:Nat}(n m:Bool) (X Y:Nat) (e f:Int)
 (AX:Arg w a (ws X).length ca (ws X)) (AY:Arg w b (ws Y).length cb (ws Y)) (hT:dU w) (hX:X=0\/X%2=1) (hY:Y≠0)
 (he0:-1048576<=e) (he1:e<=1048576) (hf0:-1048576<=f) (hf1:f<=1048576) (bX:bl X<=262144) (bY:bl Y<=262144) :
 Calls Tryz.prog 59 #[.agg #[.bool n,.slice a (ws X).length ca,.int .i64 e,.bool m,.slice b (ws Y).length cb,.int .i64 f]] w fun r w' =>
  dm w.heap.size w' r (mkS n (2*fA X Y 64+(if qH X Y 64 then 0 else 1)) (fP (e-f-mZ X Y 64-gP Y 64)))/\Below w.heap.size w w':=by
 have D:=jd X Y 64 hX hY ae ae bX bY;have bW:bl (fA X Y 64)<=65:=gI D.most;have hc:gP Y 64<=64:=by unfold gP;omega
 have hb:-262144<=mZ X Y 64/\mZ X Y 64<=264000:=by have:=D.X6;unfold mZ;omega
 unfold dm;refine A9 n m e f (fA X Y 64) (e-f-mZ X Y 64-gP Y 64) (qH X Y 64) _ _ _ _ (cZ ae) (aR _ _ _) ?_ ?_
 · intro u hu;exact Ch n m X Y e f 64 (AX.below hu) (AY.below hu) hX hY he0 he1 hf0 hf1 ae ae bX bY
 · intro u p q hu hA;exact zz n (fA X Y 64) _ (qH X Y 64) hA (hT.belows hu) ae ae ae
theorem pE(W:World)(g:Nat)(v:Value)(x:Int)(t:Bool)(tmps:Array Value)(ht:tmps[2]?.getD undef=.pointer (some ⟨g,0,none⟩))(D:Tk W g 125 v (.int .i64 x) (.bool t)) :
 (results Tryz.f120 tmps).run Tryz.prog W=.ok (.agg #[v,.int .i64 x,.bool t]) W:=by
 obtain⟨x0,x1,x2,_,_,_⟩:=D.facts;simp[results,Tryz.results120,ht,go_sem,x0,x1,x2]
theorem FU(w:World)(v:Value)(x:Int)(t:Bool)(W:World)(hW:W=(w.alloc (.cells #[v,.int .i64 x,.bool t] 125)).alloc (.cells #[.slice none 0 0,.int .i64 0,.bool false] 125)) :
 Below w.heap.size w W/\W.heap.size=w.heap.size+2/\Tk W w.heap.size 125 v (.int .i64 x) (.bool t)/\Tk W (w.heap.size+1) 125 (.slice none 0 0) (.int .i64 0) (.bool false):=by
 rw[hW];refine⟨(af w _).alloc aQ _,aQ,(Tk.new _ _ _ _ _).alloc _,?_⟩;have:=Tk.new (w.alloc (.cells #[v,.int .i64 x,.bool t] 125)) 125 (.slice none 0 0) (.int .i64 0) (.bool false);simpa using this
theorem Jk{w:World}{a:Option Addr}{ca:Nat}(W H:Nat)(x y:Int)(AW:Arg w a (ws W).length ca (ws W))(hx0:-10000000<=x)(hx1:x<=10000000)(e1:bz W (-1)=(H,0))(hy:x+1=y)(l2:(ws H).length<=8192)(b:Bool)(hb0:decide (W/2^0%2=1)=b) :
 Calls Tryz.prog 120 #[.agg #[.slice a (ws W).length ca,.int .i64 x,.bool true]] w fun r w'=>(∃ v,r=.returned (.agg #[v,.int .i64 y,.bool (!b)])/\Nt w.heap.size w' v H)/\Below w.heap.size w w':=by
 obtain⟨W1,hW1⟩:=ah ((w.alloc (.cells #[.slice a (ws W).length ca,.int .i64 x,.bool true] 125)).alloc (.cells #[.slice none 0 0,.int .i64 0,.bool false] 125));obtain⟨hB,hz1,SK,RK⟩:=FU w _ x true W1 hW1;have FM:bz (val (ws W)) (-1)=(H,0):=by rw[ak];exact e1
 have HC:=hid (gH (-1) (AW.below hB) FM ae ae);obtain⟨x0,x1,x2,_,_,_⟩:=SK.facts;have hs2:w.heap.size+2<=W1.heap.size:=ae
 have S0:=(ic hB SK RK (AW.below hB));clear hB SK RK AW hz1 e1 FM;go_enter Tryz.func120,Tryz.ntmps120
 go_upto_region 1 with fail
 rw[<-hW1];clear hW1;go_wp2_with fail;clear x0 x1 x2;refine HC.o.mono ?_;rintro r u1 ⟨v,rfl,hN,hb⟩;obtain⟨a1,c1,rfl,_⟩:=hN.arg ae;clear HC;obtain⟨aB,SK,RK,AW⟩:=S0.o;obtain⟨x0,x1,x2,_,_,_⟩:=(SK.below hb).facts;obtain⟨s0,s1,s2,uZ,ve,vg⟩:=(RK.below hb).facts;have S1:=(dC (aB.trans (hb.mono aB.size)) (RK.below hb) (hN.mono aB.size))
 have HB1:∀ w',w'=u1\/w'=u1.drew->Calls Tryz.prog 160 #[.slice a (ws W).length ca,.int .i64 0] w' fun r w''=>r=.returned (.bool b)/\w''=w':=by
  intro w' hw;have:=tQ (ws W) a (ws W).length ca w'.heap.size 0 w' rfl (AW.below hb).wf (by rcases hw with rfl | rfl;exact(AW.below hb).rd;exact(AW.below hb).rd) ae;rw[ak,hb0] at this;exact this
 have HB:=hid HB1;clear HB1 hb0;have hwy:IntKind.i64.wrap y=y:=by simp[IntKind.wrap,IntKind.bits,IntKind.signed];omega
 have ne1:w.heap.size≠w.heap.size+1:=ae
 have Q6:w.heap.size+1≠w.heap.size:=ae
 clear aB SK RK AW hN S0 hb;go_wp2_with fail
 go_region_held3 (fun w'=>w'.cell? ⟨w.heap.size,0,none⟩=some (.slice a (ws W).length ca)/\w'.cell? ⟨w.heap.size,1,none⟩=some (.int .i64 x)/\w'.cell? ⟨w.heap.size,2,none⟩=some (.bool true)) (go_keep) (first
  | (go_at_call 160
     with_reducible refine(HB.o _ (by first | exact .inl rfl | exact .inr rfl)).mono ?_
     rintro r u2 ⟨rfl,rfl⟩))
 all_goals (
  go_wp2;obtain⟨aB,RK,NZ⟩:=S1.o;have hsz:=aB.size
  first
  | exact aG (pE _ (w.heap.size+1) (.slice a1 (ws H).length c1) y _ _ rfl (RK.set _ _ _)) rfl ⟨⟨_,rfl,NZ.ou RK aj _ _ _⟩,dh aB hsz ae _ _ _⟩
  | exact aG (pE _ (w.heap.size+1) (.slice a1 (ws H).length c1) y _ _ rfl (RK.set _ _ _)) rfl ⟨⟨_,rfl,NZ.ou RK aj _ _ _⟩,(dh aB hsz ae _ _ _).drew⟩)
theorem Oz{w:World}{a:Option Addr}{ca:Nat}(W H:Nat)(x y:Int)(AW:Arg w a (ws W).length ca (ws W))(hx0:-10000000<=x)(hx1:x<=10000000)(e1:bz W (-1)=(H,0))(hy:x+1=y)(l2:(ws H).length<=8192) :
 Calls Tryz.prog 120 #[.agg #[.slice a (ws W).length ca,.int .i64 x,.bool false]] w fun r w'=>(∃ v,r=.returned (.agg #[v,.int .i64 y,.bool false])/\Nt w.heap.size w' v H)/\Below w.heap.size w w':=by
 obtain⟨W1,hW1⟩:=ah ((w.alloc (.cells #[.slice a (ws W).length ca,.int .i64 x,.bool false] 125)).alloc (.cells #[.slice none 0 0,.int .i64 0,.bool false] 125));obtain⟨hB,hz1,SK,RK⟩:=FU w _ x false W1 hW1;have FM:bz (val (ws W)) (-1)=(H,0):=by rw[ak];exact e1
 have HC:=hid (gH (-1) (AW.below hB) FM ae ae);obtain⟨x0,x1,x2,_,_,_⟩:=SK.facts;have hs2:w.heap.size+2<=W1.heap.size:=ae
 have S0:=(ic hB SK RK (AW.below hB));clear hB SK RK AW hz1 e1 FM;go_enter Tryz.func120,Tryz.ntmps120
 go_upto_region 1 with fail
 rw[<-hW1];clear hW1;go_wp2_with fail;clear x0 x1 x2;refine HC.o.mono ?_;rintro r u1 ⟨v,rfl,hN,hb⟩;obtain⟨a1,c1,rfl,_⟩:=hN.arg ae;clear HC;obtain⟨aB,SK,RK,AW⟩:=S0.o;obtain⟨x0,x1,x2,_,_,_⟩:=(SK.below hb).facts;obtain⟨s0,s1,s2,uZ,ve,vg⟩:=(RK.below hb).facts;have S1:=(dC (aB.trans (hb.mono aB.size)) (RK.below hb) (hN.mono aB.size));have hwy:IntKind.i64.wrap y=y:=by simp[IntKind.wrap,IntKind.bits,IntKind.signed];omega
 have ne1:w.heap.size≠w.heap.size+1:=ae
 have Q6:w.heap.size+1≠w.heap.size:=ae
 clear aB SK RK AW hN S0 hb;go_wp2_with fail
 go_region
 all_goals (
  go_wp2;obtain⟨aB,RK,NZ⟩:=S1.o;have hsz:=aB.size
  first
  | exact aG (pE _ (w.heap.size+1) (.slice a1 (ws H).length c1) y _ _ rfl (RK.set _ _ _)) rfl ⟨⟨_,rfl,NZ.ou RK aj _ _ _⟩,dh aB hsz ae _ _ _⟩
  | exact aG (pE _ (w.heap.size+1) (.slice a1 (ws H).length c1) y _ _ rfl (RK.set _ _ _)) rfl ⟨⟨_,rfl,NZ.ou RK aj _ _ _⟩,(dh aB hsz ae _ _ _).drew⟩)
theorem j5(W:World)(g:Nat)(n:Bool)(v:Value)(e k:Int)(tmps:Array Value)(ht:tmps[2]?.getD undef=.pointer (some ⟨g,0,none⟩))(hk:tmps[3]?.getD undef=.int .i64 k)(D:Tk W g 25 (.bool n) v (.int .i64 e)) :
 (results Tryz.f82 tmps).run Tryz.prog W=.ok (.tuple #[.agg #[.bool n,v,.int .i64 e],.int .i64 k]) W:=by
 obtain⟨x0,x1,x2,_,_,_⟩:=D.facts;simp[results,Tryz.results82,ht,hk,go_sem,x0,x1,x2]
theorem RS{w:World}{a b:Option Addr}{la ca lb cb:Nat}(m:Bool)(e f:Int) :
 Calls Tryz.prog 82 #[.agg #[.bool true,.slice a la ca,.int .i64 e,.bool m,.slice b lb cb,.int .i64 f]] w fun r w'=>r=.returned (.tuple #[.agg zD3,.int .i64 110])/\Below w.heap.size w w':=by
 obtain⟨W1,hW1⟩:=ah ((w.alloc (.cells #[.bool true,.slice a la ca,.int .i64 e,.bool m,.slice b lb cb,.int .i64 f] 58)).alloc (.cells zD3 25));obtain⟨hB,hz1,RQ,DK⟩:=kJ w true _ e m _ f W1 hW1;obtain⟨x0,x1,x2,x3,x4,x5⟩:=RQ.facts;obtain⟨s0,s1,s2,uZ,ve,vg⟩:=DK.facts;have SB:=(aP hB DK);clear hB hz1 RQ DK;go_enter Tryz.func82,Tryz.ntmps82
 go_upto_region 1 with fail
 rw[<-hW1];clear hW1;go_wp2;obtain⟨aB,DK⟩:=SB.o;exact aG (j5 _ (w.heap.size+1) false (.slice none 0 0) 0 110 _ rfl rfl (DK.set _ _ _)) rfl ⟨rfl,dh aB aB.size ae _ _ _⟩
theorem DI {w:World}{a b:Option Addr}{la ca lb cb:Nat}(m:Bool) (e f:Int) (WH H R L lL:Nat) (x y h:Int) (tt bL:Bool) (dn:Bool) (V:Nat) (de er:Int) (lW:(ws WH).length<=8192) (lH:(ws H).length<=8192) (lR:(ws R).length<=8192) (lLL:(ws L).length<=8192) (lV:(ws V).length<=8192)
 (hx0:-10000000<=x) (hx1:x<=10000000) (Zv:(x.tmod 2==0)=true) (hh:x.tdiv 2=h) (hh0:-10000000<=h) (hh1:h<=10000000)
 (HD:Hid (∀ u,Below w.heap.size w u->Calls Tryz.prog 104 #[.agg #[.bool false,.slice a la ca,.int .i64 e,.bool m,.slice b lb cb,.int .i64 f],.int .i64 129] u fun r w'=>(∃ v,r=.returned (.agg #[v,.int .i64 x,.bool true])/\Nt u.heap.size w' v WH)/\Below u.heap.size u w'))
 (HR:Hid (∀ (u:World) (p:Option Addr) (q:Nat),Arg u p (ws WH).length q (ws WH)->Calls Tryz.prog 121 #[.slice p (ws WH).length q] u fun r w'=>∃ v v',r=.returned (.tuple #[v,v'])/\Nt u.heap.size w' v R/\Nt u.heap.size w' v' L/\Below u.heap.size u w'))
 (HL:Hid (∀ (u:World) (p:Option Addr) (q:Nat),Arg u p (ws L).length q (ws L)->Calls Tryz.prog 93 #[.slice p (ws L).length q] u fun r w'=>r=.returned (.int .i64 (lL:Nat))/\Below u.heap.size u w')) (hlL:((lL:Int)==0)=bL) (hlL2:(lL==0)=bL)
 (HI:Hid (∀ (u:World) (p:Option Addr) (q:Nat),Below w.heap.size w u->Arg u p (ws R).length q (ws R)->Calls Tryz.prog 103 #[.bool false,.agg #[.slice p (ws R).length q,.int .i64 h,.bool bL]] u fun r w'=>(∃ v,r=.returned (.tuple #[.agg #[.bool dn,v,.int .i64 de],.int .i64 er])/\Nt u.heap.size w' v V)/\Below u.heap.size u w')) :
 Calls Tryz.prog 82 #[.agg #[.bool false,.slice a la ca,.int .i64 e,.bool m,.slice b lb cb,.int .i64 f]] w fun r w'=>(∃ v,r=.returned (.tuple #[.agg #[.bool dn,v,.int .i64 de],.int .i64 er])/\Nt w.heap.size w' v V)/\Below w.heap.size w w':=by
 obtain⟨W1,hW1⟩:=ah ((w.alloc (.cells #[.bool false,.slice a la ca,.int .i64 e,.bool m,.slice b lb cb,.int .i64 f] 58)).alloc (.cells zD3 25));obtain⟨hB,hz1,RQ,DK⟩:=kJ w false _ e m _ f W1 hW1;have T1:=hid (HD.o W1 hB);obtain⟨x0,x1,x2,x3,x4,x5⟩:=RQ.facts;have hs1:w.heap.size+2<=W1.heap.size:=ae
 have SB:=(aP hB DK);clear hB hz1 RQ DK HD;go_enter Tryz.func82,Tryz.ntmps82
 go_upto_region 1 with fail
 rw[<-hW1];clear hW1;go_wp2_with fail;clear x0 x1 x2 x3 x4 x5;refine T1.o.mono ?_;rintro r u1 ⟨⟨v,rfl,hN⟩,hb⟩;obtain⟨a1,c1,rfl,_⟩:=hN.arg ae;clear T1;obtain⟨U1,aX⟩:=ah (u1.alloc (.cells #[.slice a1 (ws WH).length c1,.int .i64 x,.bool true] 125));have jB:Below u1.heap.size u1 U1:=by rw[aX];exact af _ _
 have SK:Tk U1 u1.heap.size 125 (.slice a1 (ws WH).length c1) (.int .i64 x) (.bool true):=by rw[aX];exact Tk.new _ _ _ _ _
 obtain⟨aB,DK⟩:=SB.o;have bb:=aB.trans (hb.mono aB.size);obtain⟨gS,RU⟩:∃ g,u1.heap.size=g:=⟨_,rfl⟩;have Zw:w.heap.size+2<=gS:=by have:=DK.lt;have:=hb.size;omega
 rw[RU] at SK;have S1:=(ic (bb.trans (jB.mono bb.size)) ((DK.below hb).below jB) ((hN.below jB).mono aB.size) SK);obtain⟨x0,x1,x2,dw,dz,dA⟩:=SK.facts;clear aB DK bb hb jB hN SK SB
 go_upto_region 4 with fail
 rw[<-aX];clear aX RU;have HC:=hid (HR.o U1 a1 c1 (S1.o.r2.1.aY ae).2);go_wp2_with fail;clear x0 x1 x2 dw dz dA;refine HC.o.mono ?_;rintro r u3 ⟨v,v',rfl,hN,hM,hb⟩;obtain⟨a3,c3,rfl,_⟩:=hN.arg ae;obtain⟨a4,c4,rfl,_⟩:=hM.arg ae;clear HC HR;obtain⟨aB,DK,NW,SK⟩:=S1.o;have bb:=aB.trans (hb.mono aB.size);have xk:=SK.below hb;have Jl:=DK.below hb;obtain⟨x0,x1,x2,dw,dz,dA⟩:=xk.facts;obtain⟨s0,s1,s2,uZ,ve,vg⟩:=Jl.facts;have hwh:IntKind.i64.wrap h=h:=by simp[IntKind.wrap,IntKind.bits,IntKind.signed];omega
 have S3:=(fO bb Jl (hN.mono aB.size) (hM.mono aB.size) xk);have ne1:gS≠w.heap.size+1:=ae
 have Q6:w.heap.size+1≠gS:=ae
 have L1:=hid (HL.o u3 a4 c4 (S3.o.r3.1.aY ae).2);have L2:=hid (HL.o u3.drew a4 c4 ((S3.o.r3.1.below ((aD _ u3).drew)).aY ae).2);clear aB DK NW SK bb hb hN hM xk Jl S1;go_wp2_with fail
 go_region_held3 (fun w'=>w'.cell? ⟨gS,0,none⟩=some (.slice a1 (ws WH).length c1)/\w'.cell? ⟨gS,1,none⟩=some (.int .i64 x)/\w'.cell? ⟨gS,2,none⟩=some (.bool true)) (go_keep) (first
  | (go_at_call 93
     first | with_reducible refine L1.o.mono ?_ | with_reducible refine L2.o.mono ?_
     rintro r u4 ⟨rfl,hb⟩;have hb1:Below u3.heap.size u3 u4:=by first | exact hb | exact((aD _ u3).drew).trans (hb.mono (aC _))
     obtain⟨aB,DK,NR,NL,SK⟩:=S3.o;have bb:=aB.trans (hb1.mono aB.size);have I1:=hid (HI.o u4 a3 c3 bb ((NR.below hb1).aY ae).2);have S4:=(dC bb (DK.below hb1) (SK.below hb1));obtain⟨p0,p1,p2,w9,xc,xe⟩:=(SK.below hb1).facts;obtain⟨q0,q1,q2,AQ,AU,AV⟩:=(DK.below hb1).facts
     clear hb hb1 bb aB DK NR NL SK)
  | (go_at_call 103
     with_reducible refine I1.o.mono ?_
     rintro r u5 ⟨⟨v,rfl,hN⟩,hb⟩;obtain⟨a7,c7,rfl,_⟩:=hN.arg ae;obtain⟨aB,DK,SK⟩:=S4.o;obtain⟨i0,i1,i2,Ux,Uy,Uz⟩:=(SK.below hb).facts;obtain⟨t0,t1,t2,Q7,Q8,Q9⟩:=(DK.below hb).facts;have FV:=(dC (aB.trans (hb.mono aB.size)) (hN.mono aB.size) (DK.below hb))
     clear hN hb aB DK SK))
 all_goals (
  go_wp2;obtain⟨aB,NZ,DK⟩:=FV.o;have hsz:=aB.size
  first
  | exact aG (j5 _ (w.heap.size+1) dn (.slice a7 (ws V).length c7) de er _ rfl rfl (DK.set _ _ _)) rfl ⟨⟨_,rfl,NZ.ou DK aj _ _ _⟩,dh aB hsz ae _ _ _⟩
  | exact aG (j5 _ (w.heap.size+1) dn (.slice a7 (ws V).length c7) de er _ rfl rfl (DK.set _ _ _)) rfl ⟨⟨_,rfl,NZ.ou DK aj _ _ _⟩,(dh aB hsz ae _ _ _).drew⟩)
theorem DJ {w:World}{a b:Option Addr}{la ca lb cb:Nat}(m:Bool) (e f:Int) (WH H R L lL:Nat) (x y h:Int) (tt bL:Bool) (dn:Bool) (V:Nat) (de er:Int) (lW:(ws WH).length<=8192) (lH:(ws H).length<=8192) (lR:(ws R).length<=8192) (lLL:(ws L).length<=8192) (lV:(ws V).length<=8192)
 (hx0:-10000000<=x) (hx1:x<=10000000) (Zv:(x.tmod 2==0)=true) (hh:x.tdiv 2=h) (hh0:-10000000<=h) (hh1:h<=10000000)
 (HD:Hid (∀ u,Below w.heap.size w u->Calls Tryz.prog 104 #[.agg #[.bool false,.slice a la ca,.int .i64 e,.bool m,.slice b lb cb,.int .i64 f],.int .i64 129] u fun r w'=>(∃ v,r=.returned (.agg #[v,.int .i64 x,.bool false])/\Nt u.heap.size w' v WH)/\Below u.heap.size u w'))
 (HR:Hid (∀ (u:World) (p:Option Addr) (q:Nat),Arg u p (ws WH).length q (ws WH)->Calls Tryz.prog 121 #[.slice p (ws WH).length q] u fun r w'=>∃ v v',r=.returned (.tuple #[v,v'])/\Nt u.heap.size w' v R/\Nt u.heap.size w' v' L/\Below u.heap.size u w'))
 (HI:Hid (∀ (u:World) (p:Option Addr) (q:Nat),Below w.heap.size w u->Arg u p (ws R).length q (ws R)->Calls Tryz.prog 103 #[.bool false,.agg #[.slice p (ws R).length q,.int .i64 h,.bool false]] u fun r w'=>(∃ v,r=.returned (.tuple #[.agg #[.bool dn,v,.int .i64 de],.int .i64 er])/\Nt u.heap.size w' v V)/\Below u.heap.size u w')) :
 Calls Tryz.prog 82 #[.agg #[.bool false,.slice a la ca,.int .i64 e,.bool m,.slice b lb cb,.int .i64 f]] w fun r w'=>(∃ v,r=.returned (.tuple #[.agg #[.bool dn,v,.int .i64 de],.int .i64 er])/\Nt w.heap.size w' v V)/\Below w.heap.size w w':=by
 obtain⟨W1,hW1⟩:=ah ((w.alloc (.cells #[.bool false,.slice a la ca,.int .i64 e,.bool m,.slice b lb cb,.int .i64 f] 58)).alloc (.cells zD3 25));obtain⟨hB,hz1,RQ,DK⟩:=kJ w false _ e m _ f W1 hW1;have T1:=hid (HD.o W1 hB);obtain⟨x0,x1,x2,x3,x4,x5⟩:=RQ.facts;have hs1:w.heap.size+2<=W1.heap.size:=ae
 have SB:=(aP hB DK);clear hB hz1 RQ DK HD;go_enter Tryz.func82,Tryz.ntmps82
 go_upto_region 1 with fail
 rw[<-hW1];clear hW1;go_wp2_with fail;clear x0 x1 x2 x3 x4 x5;refine T1.o.mono ?_;rintro r u1 ⟨⟨v,rfl,hN⟩,hb⟩;obtain⟨a1,c1,rfl,_⟩:=hN.arg ae;clear T1;obtain⟨U1,aX⟩:=ah (u1.alloc (.cells #[.slice a1 (ws WH).length c1,.int .i64 x,.bool false] 125));have jB:Below u1.heap.size u1 U1:=by rw[aX];exact af _ _
 have SK:Tk U1 u1.heap.size 125 (.slice a1 (ws WH).length c1) (.int .i64 x) (.bool false):=by rw[aX];exact Tk.new _ _ _ _ _
 obtain⟨aB,DK⟩:=SB.o;have bb:=aB.trans (hb.mono aB.size);obtain⟨gS,RU⟩:∃ g,u1.heap.size=g:=⟨_,rfl⟩;have Zw:w.heap.size+2<=gS:=by have:=DK.lt;have:=hb.size;omega
 rw[RU] at SK;have S1:=(ic (bb.trans (jB.mono bb.size)) ((DK.below hb).below jB) ((hN.below jB).mono aB.size) SK);obtain⟨x0,x1,x2,dw,dz,dA⟩:=SK.facts;clear aB DK bb hb jB hN SK SB
 go_upto_region 4 with fail
 rw[<-aX];clear aX RU;have HC:=hid (HR.o U1 a1 c1 (S1.o.r2.1.aY ae).2);go_wp2_with fail;clear x0 x1 x2 dw dz dA;refine HC.o.mono ?_;rintro r u3 ⟨v,v',rfl,hN,hM,hb⟩;obtain⟨a3,c3,rfl,_⟩:=hN.arg ae;obtain⟨a4,c4,rfl,_⟩:=hM.arg ae;clear HC HR;obtain⟨aB,DK,NW,SK⟩:=S1.o;have bb:=aB.trans (hb.mono aB.size);have xk:=SK.below hb;have Jl:=DK.below hb;obtain⟨x0,x1,x2,dw,dz,dA⟩:=xk.facts;obtain⟨s0,s1,s2,uZ,ve,vg⟩:=Jl.facts;have hwh:IntKind.i64.wrap h=h:=by simp[IntKind.wrap,IntKind.bits,IntKind.signed];omega
 have S3:=(fO bb Jl (hN.mono aB.size) (hM.mono aB.size) xk);have ne1:gS≠w.heap.size+1:=ae
 have Q6:w.heap.size+1≠gS:=ae
 have I1:=hid (HI.o u3 a3 c3 S3.o.1 (S3.o.r2.1.aY ae).2);have I2:=hid (HI.o u3.drew a3 c3 S3.o.1.drew ((S3.o.r2.1.below ((aD _ u3).drew)).aY ae).2);clear aB DK NW SK bb hb hN hM xk Jl S1;go_wp2_with fail
 first | (go_region_with (first
  | (go_at_call 103
     first | with_reducible refine I1.o.mono ?_ | with_reducible refine I2.o.mono ?_
     rintro r u5 ⟨⟨v,rfl,hN⟩,hb⟩;have hb1:Below u3.heap.size u3 u5:=by first | exact hb | exact((aD _ u3).drew).trans (hb.mono (aC _))
     obtain⟨a7,c7,rfl,_⟩:=hN.arg ae;obtain⟨aB,DK,NR,NL,SK⟩:=S3.o;obtain⟨i0,i1,i2,Ux,Uy,Uz⟩:=(SK.below hb1).facts;obtain⟨t0,t1,t2,Q7,Q8,Q9⟩:=(DK.below hb1).facts;have hN':Nt w.heap.size u5 (.slice a7 (ws V).length c7) V:=hN.mono aB.size;have FV:=(dC (aB.trans (hb1.mono aB.size)) hN' (DK.below hb1))
     clear hN hN' hb hb1 aB DK SK NR NL))) | fail
 all_goals (
  go_wp2;obtain⟨aB,NZ,DK⟩:=FV.o;have hsz:=aB.size
  first
  | exact aG (j5 _ (w.heap.size+1) dn (.slice a7 (ws V).length c7) de er _ rfl rfl (DK.set _ _ _)) rfl ⟨⟨_,rfl,NZ.ou DK aj _ _ _⟩,dh aB hsz ae _ _ _⟩
  | exact aG (j5 _ (w.heap.size+1) dn (.slice a7 (ws V).length c7) de er _ rfl rfl (DK.set _ _ _)) rfl ⟨⟨_,rfl,NZ.ou DK aj _ _ _⟩,(dh aB hsz ae _ _ _).drew⟩)
theorem Qaa{P:Prop}(h:P:=by
 rw[fH];exact⟨dh bb bb.size ae _ _ _,(DK.below hb).but (mU _ _ _ _ _) ae,(hN.mono aB.size).ou xk aj _ _ _,xk.set _ _ _⟩):P:=h
theorem FW {w:World}{a b:Option Addr}{la ca lb cb:Nat}(m:Bool) (e f:Int) (WH H R L lL:Nat) (x y h:Int) (tt bL:Bool) (dn:Bool) (V:Nat) (de er:Int) (lW:(ws WH).length<=8192) (lH:(ws H).length<=8192) (lR:(ws R).length<=8192) (lLL:(ws L).length<=8192) (lV:(ws V).length<=8192)
 (hx0:-10000000<=y) (hx1:y<=10000000) (Zv:(x.tmod 2==0)=false) (hh:y.tdiv 2=h) (hh0:-10000000<=h) (hh1:h<=10000000)
 (HD:Hid (∀ u,Below w.heap.size w u->Calls Tryz.prog 104 #[.agg #[.bool false,.slice a la ca,.int .i64 e,.bool m,.slice b lb cb,.int .i64 f],.int .i64 129] u fun r w'=>(∃ v,r=.returned (.agg #[v,.int .i64 x,.bool tt])/\Nt u.heap.size w' v WH)/\Below u.heap.size u w'))
 (HH:Hid (∀ (u:World) (p:Option Addr) (q:Nat),Arg u p (ws WH).length q (ws WH)->Calls Tryz.prog 120 #[.agg #[.slice p (ws WH).length q,.int .i64 x,.bool tt]] u fun r w'=>(∃ v,r=.returned (.agg #[v,.int .i64 y,.bool true])/\Nt u.heap.size w' v H)/\Below u.heap.size u w'))
 (HR:Hid (∀ (u:World) (p:Option Addr) (q:Nat),Arg u p (ws H).length q (ws H)->Calls Tryz.prog 121 #[.slice p (ws H).length q] u fun r w'=>∃ v v',r=.returned (.tuple #[v,v'])/\Nt u.heap.size w' v R/\Nt u.heap.size w' v' L/\Below u.heap.size u w'))
 (HL:Hid (∀ (u:World) (p:Option Addr) (q:Nat),Arg u p (ws L).length q (ws L)->Calls Tryz.prog 93 #[.slice p (ws L).length q] u fun r w'=>r=.returned (.int .i64 (lL:Nat))/\Below u.heap.size u w')) (hlL:((lL:Int)==0)=bL) (hlL2:(lL==0)=bL)
 (HI:Hid (∀ (u:World) (p:Option Addr) (q:Nat),Below w.heap.size w u->Arg u p (ws R).length q (ws R)->Calls Tryz.prog 103 #[.bool false,.agg #[.slice p (ws R).length q,.int .i64 h,.bool bL]] u fun r w'=>(∃ v,r=.returned (.tuple #[.agg #[.bool dn,v,.int .i64 de],.int .i64 er])/\Nt u.heap.size w' v V)/\Below u.heap.size u w')) :
 Calls Tryz.prog 82 #[.agg #[.bool false,.slice a la ca,.int .i64 e,.bool m,.slice b lb cb,.int .i64 f]] w fun r w'=>(∃ v,r=.returned (.tuple #[.agg #[.bool dn,v,.int .i64 de],.int .i64 er])/\Nt w.heap.size w' v V)/\Below w.heap.size w w':=by
 obtain⟨W1,hW1⟩:=ah ((w.alloc (.cells #[.bool false,.slice a la ca,.int .i64 e,.bool m,.slice b lb cb,.int .i64 f] 58)).alloc (.cells zD3 25));obtain⟨hB,hz1,RQ,DK⟩:=kJ w false _ e m _ f W1 hW1;have T1:=hid (HD.o W1 hB);obtain⟨x0,x1,x2,x3,x4,x5⟩:=RQ.facts;have hs1:w.heap.size+2<=W1.heap.size:=ae
 have SB:=(aP hB DK);clear hB hz1 RQ DK HD;go_enter Tryz.func82,Tryz.ntmps82
 go_upto_region 1 with fail
 rw[<-hW1];clear hW1;go_wp2_with fail;clear x0 x1 x2 x3 x4 x5;refine T1.o.mono ?_;rintro r u1 ⟨⟨v,rfl,hN⟩,hb⟩;obtain⟨a1,c1,rfl,_⟩:=hN.arg ae;clear T1;obtain⟨U1,aX⟩:=ah (u1.alloc (.cells #[.slice a1 (ws WH).length c1,.int .i64 x,.bool tt] 125));have jB:Below u1.heap.size u1 U1:=by rw[aX];exact af _ _
 have SK:Tk U1 u1.heap.size 125 (.slice a1 (ws WH).length c1) (.int .i64 x) (.bool tt):=by rw[aX];exact Tk.new _ _ _ _ _
 obtain⟨aB,DK⟩:=SB.o;have bb:=aB.trans (hb.mono aB.size);obtain⟨gS,RU⟩:∃ g,u1.heap.size=g:=⟨_,rfl⟩;have Zw:w.heap.size+2<=gS:=by have:=DK.lt;have:=hb.size;omega
 rw[RU] at SK;have S1:=(ic (bb.trans (jB.mono bb.size)) ((DK.below hb).below jB) ((hN.below jB).mono aB.size) SK);obtain⟨x0,x1,x2,dw,dz,dA⟩:=SK.facts;clear aB DK bb hb jB hN SK SB
 go_upto_region 4 with fail
 rw[<-aX];clear aX RU;have HC:=hid (HH.o U1 a1 c1 (S1.o.r2.1.aY ae).2);go_wp2_with fail;clear x0 x1 x2;refine HC.o.mono ?_;rintro r u2 ⟨⟨v,rfl,hN⟩,hb⟩;obtain⟨a2,c2,rfl,_⟩:=hN.arg ae;clear HC HH;obtain⟨aB,DK,NW,SK⟩:=S1.o;have xk:=SK.below hb;obtain⟨x0,x1,x2,dF,dG,dH⟩:=xk.facts;obtain⟨U2,fH⟩:=ah (dM u2 gS (.slice a2 (ws H).length c2) (.int .i64 y) (.bool true));have bb:=aB.trans (hb.mono aB.size)
 have S2:Aside (Below w.heap.size w U2/\Tk U2 (w.heap.size+1) 25 (.bool false) (.slice none 0 0) (.int .i64 0)/\Nt w.heap.size U2 (.slice a2 (ws H).length c2) H/\Tk U2 gS 125 (.slice a2 (ws H).length c2) (.int .i64 y) (.bool true)):=by
  exact Qaa
 clear aB DK NW SK xk bb hb hN S1;unfold dM at fH;have Yb:=aA fH;clear fH
 go_upto_region 6 with fail
 rw[<-Yb.o];clear Yb x0 x1 x2 dw dz dA dF dG dH;obtain⟨x0,x1,x2,dw,dz,dA⟩:=S2.o.r3.facts;have HC:=hid (HR.o U2 a2 c2 (S2.o.r2.1.aY ae).2);go_wp2_with fail;clear x0 x1 x2 dw dz dA;refine HC.o.mono ?_;rintro r u3 ⟨v,v',rfl,hN,hM,hb⟩;obtain⟨a3,c3,rfl,_⟩:=hN.arg ae;obtain⟨a4,c4,rfl,_⟩:=hM.arg ae;clear HC HR;obtain⟨aB,DK,NW,SK⟩:=S2.o;have bb:=aB.trans (hb.mono aB.size);have xk:=SK.below hb;have Jl:=DK.below hb;obtain⟨x0,x1,x2,dw,dz,dA⟩:=xk.facts;obtain⟨s0,s1,s2,uZ,ve,vg⟩:=Jl.facts;have hwh:IntKind.i64.wrap h=h:=by simp[IntKind.wrap,IntKind.bits,IntKind.signed];omega
 have S3:=(fO bb Jl (hN.mono aB.size) (hM.mono aB.size) xk);have ne1:gS≠w.heap.size+1:=ae
 have Q6:w.heap.size+1≠gS:=ae
 have L1:=hid (HL.o u3 a4 c4 (S3.o.r3.1.aY ae).2);have L2:=hid (HL.o u3.drew a4 c4 ((S3.o.r3.1.below ((aD _ u3).drew)).aY ae).2);clear aB DK NW SK bb hb hN hM xk Jl S2;go_wp2_with fail
 go_region_held3 (fun w'=>w'.cell? ⟨gS,0,none⟩=some (.slice a2 (ws H).length c2)/\w'.cell? ⟨gS,1,none⟩=some (.int .i64 y)/\w'.cell? ⟨gS,2,none⟩=some (.bool true)) (go_keep) (first
  | (go_at_call 93
     first | with_reducible refine L1.o.mono ?_ | with_reducible refine L2.o.mono ?_
     rintro r u4 ⟨rfl,hb⟩;have hb1:Below u3.heap.size u3 u4:=by first | exact hb | exact((aD _ u3).drew).trans (hb.mono (aC _))
     obtain⟨aB,DK,NR,NL,SK⟩:=S3.o;have bb:=aB.trans (hb1.mono aB.size);have I1:=hid (HI.o u4 a3 c3 bb ((NR.below hb1).aY ae).2);have S4:=(dC bb (DK.below hb1) (SK.below hb1));obtain⟨p0,p1,p2,w9,xc,xe⟩:=(SK.below hb1).facts;obtain⟨q0,q1,q2,AQ,AU,AV⟩:=(DK.below hb1).facts
     clear hb hb1 bb aB DK NR NL SK)
  | (go_at_call 103
     with_reducible refine I1.o.mono ?_
     rintro r u5 ⟨⟨v,rfl,hN⟩,hb⟩;obtain⟨a7,c7,rfl,_⟩:=hN.arg ae;obtain⟨aB,DK,SK⟩:=S4.o;obtain⟨i0,i1,i2,Ux,Uy,Uz⟩:=(SK.below hb).facts;obtain⟨t0,t1,t2,Q7,Q8,Q9⟩:=(DK.below hb).facts;have FV:=(dC (aB.trans (hb.mono aB.size)) (hN.mono aB.size) (DK.below hb))
     clear hN hb aB DK SK))
 all_goals (
  go_wp2;obtain⟨aB,NZ,DK⟩:=FV.o;have hsz:=aB.size
  first
  | exact aG (j5 _ (w.heap.size+1) dn (.slice a7 (ws V).length c7) de er _ rfl rfl (DK.set _ _ _)) rfl ⟨⟨_,rfl,NZ.ou DK aj _ _ _⟩,dh aB hsz ae _ _ _⟩
  | exact aG (j5 _ (w.heap.size+1) dn (.slice a7 (ws V).length c7) de er _ rfl rfl (DK.set _ _ _)) rfl ⟨⟨_,rfl,NZ.ou DK aj _ _ _⟩,(dh aB hsz ae _ _ _).drew⟩)
theorem FZ {w:World}{a b:Option Addr}{la ca lb cb:Nat}(m:Bool) (e f:Int) (WH H R L lL:Nat) (x y h:Int) (tt bL:Bool) (dn:Bool) (V:Nat) (de er:Int) (lW:(ws WH).length<=8192) (lH:(ws H).length<=8192) (lR:(ws R).length<=8192) (lLL:(ws L).length<=8192) (lV:(ws V).length<=8192)
 (hx0:-10000000<=y) (hx1:y<=10000000) (Zv:(x.tmod 2==0)=false) (hh:y.tdiv 2=h) (hh0:-10000000<=h) (hh1:h<=10000000)
 (HD:Hid (∀ u,Below w.heap.size w u->Calls Tryz.prog 104 #[.agg #[.bool false,.slice a la ca,.int .i64 e,.bool m,.slice b lb cb,.int .i64 f],.int .i64 129] u fun r w'=>(∃ v,r=.returned (.agg #[v,.int .i64 x,.bool tt])/\Nt u.heap.size w' v WH)/\Below u.heap.size u w'))
 (HH:Hid (∀ (u:World) (p:Option Addr) (q:Nat),Arg u p (ws WH).length q (ws WH)->Calls Tryz.prog 120 #[.agg #[.slice p (ws WH).length q,.int .i64 x,.bool tt]] u fun r w'=>(∃ v,r=.returned (.agg #[v,.int .i64 y,.bool false])/\Nt u.heap.size w' v H)/\Below u.heap.size u w'))
 (HR:Hid (∀ (u:World) (p:Option Addr) (q:Nat),Arg u p (ws H).length q (ws H)->Calls Tryz.prog 121 #[.slice p (ws H).length q] u fun r w'=>∃ v v',r=.returned (.tuple #[v,v'])/\Nt u.heap.size w' v R/\Nt u.heap.size w' v' L/\Below u.heap.size u w'))
 (HI:Hid (∀ (u:World) (p:Option Addr) (q:Nat),Below w.heap.size w u->Arg u p (ws R).length q (ws R)->Calls Tryz.prog 103 #[.bool false,.agg #[.slice p (ws R).length q,.int .i64 h,.bool false]] u fun r w'=>(∃ v,r=.returned (.tuple #[.agg #[.bool dn,v,.int .i64 de],.int .i64 er])/\Nt u.heap.size w' v V)/\Below u.heap.size u w')) :
 Calls Tryz.prog 82 #[.agg #[.bool false,.slice a la ca,.int .i64 e,.bool m,.slice b lb cb,.int .i64 f]] w fun r w'=>(∃ v,r=.returned (.tuple #[.agg #[.bool dn,v,.int .i64 de],.int .i64 er])/\Nt w.heap.size w' v V)/\Below w.heap.size w w':=by
 obtain⟨W1,hW1⟩:=ah ((w.alloc (.cells #[.bool false,.slice a la ca,.int .i64 e,.bool m,.slice b lb cb,.int .i64 f] 58)).alloc (.cells zD3 25));obtain⟨hB,hz1,RQ,DK⟩:=kJ w false _ e m _ f W1 hW1;have T1:=hid (HD.o W1 hB);obtain⟨x0,x1,x2,x3,x4,x5⟩:=RQ.facts;have hs1:w.heap.size+2<=W1.heap.size:=ae
 have SB:=(aP hB DK);clear hB hz1 RQ DK HD;go_enter Tryz.func82,Tryz.ntmps82
 go_upto_region 1 with fail
 rw[<-hW1];clear hW1;go_wp2_with fail;clear x0 x1 x2 x3 x4 x5;refine T1.o.mono ?_;rintro r u1 ⟨⟨v,rfl,hN⟩,hb⟩;obtain⟨a1,c1,rfl,_⟩:=hN.arg ae;clear T1;obtain⟨U1,aX⟩:=ah (u1.alloc (.cells #[.slice a1 (ws WH).length c1,.int .i64 x,.bool tt] 125));have jB:Below u1.heap.size u1 U1:=by rw[aX];exact af _ _
 have SK:Tk U1 u1.heap.size 125 (.slice a1 (ws WH).length c1) (.int .i64 x) (.bool tt):=by rw[aX];exact Tk.new _ _ _ _ _
 obtain⟨aB,DK⟩:=SB.o;have bb:=aB.trans (hb.mono aB.size);obtain⟨gS,RU⟩:∃ g,u1.heap.size=g:=⟨_,rfl⟩;have Zw:w.heap.size+2<=gS:=by have:=DK.lt;have:=hb.size;omega
 rw[RU] at SK;have S1:=(ic (bb.trans (jB.mono bb.size)) ((DK.below hb).below jB) ((hN.below jB).mono aB.size) SK);obtain⟨x0,x1,x2,dw,dz,dA⟩:=SK.facts;clear aB DK bb hb jB hN SK SB
 go_upto_region 4 with fail
 rw[<-aX];clear aX RU;have HC:=hid (HH.o U1 a1 c1 (S1.o.r2.1.aY ae).2);go_wp2_with fail;clear x0 x1 x2;refine HC.o.mono ?_;rintro r u2 ⟨⟨v,rfl,hN⟩,hb⟩;obtain⟨a2,c2,rfl,_⟩:=hN.arg ae;clear HC HH;obtain⟨aB,DK,NW,SK⟩:=S1.o;have xk:=SK.below hb;obtain⟨x0,x1,x2,dF,dG,dH⟩:=xk.facts;obtain⟨U2,fH⟩:=ah (dM u2 gS (.slice a2 (ws H).length c2) (.int .i64 y) (.bool false));have bb:=aB.trans (hb.mono aB.size)
 have S2:Aside (Below w.heap.size w U2/\Tk U2 (w.heap.size+1) 25 (.bool false) (.slice none 0 0) (.int .i64 0)/\Nt w.heap.size U2 (.slice a2 (ws H).length c2) H/\Tk U2 gS 125 (.slice a2 (ws H).length c2) (.int .i64 y) (.bool false)):=by
  exact Qaa
 clear aB DK NW SK xk bb hb hN S1;unfold dM at fH;have Yb:=aA fH;clear fH
 go_upto_region 6 with fail
 rw[<-Yb.o];clear Yb x0 x1 x2 dw dz dA dF dG dH;obtain⟨x0,x1,x2,dw,dz,dA⟩:=S2.o.r3.facts;have HC:=hid (HR.o U2 a2 c2 (S2.o.r2.1.aY ae).2);go_wp2_with fail;clear x0 x1 x2 dw dz dA;refine HC.o.mono ?_;rintro r u3 ⟨v,v',rfl,hN,hM,hb⟩;obtain⟨a3,c3,rfl,_⟩:=hN.arg ae;obtain⟨a4,c4,rfl,_⟩:=hM.arg ae;clear HC HR;obtain⟨aB,DK,NW,SK⟩:=S2.o;have bb:=aB.trans (hb.mono aB.size);have xk:=SK.below hb;have Jl:=DK.below hb;obtain⟨x0,x1,x2,dw,dz,dA⟩:=xk.facts;obtain⟨s0,s1,s2,uZ,ve,vg⟩:=Jl.facts;have hwh:IntKind.i64.wrap h=h:=by simp[IntKind.wrap,IntKind.bits,IntKind.signed];omega
 have S3:=(fO bb Jl (hN.mono aB.size) (hM.mono aB.size) xk);have ne1:gS≠w.heap.size+1:=ae
 have Q6:w.heap.size+1≠gS:=ae
 have I1:=hid (HI.o u3 a3 c3 S3.o.1 (S3.o.r2.1.aY ae).2);have I2:=hid (HI.o u3.drew a3 c3 S3.o.1.drew ((S3.o.r2.1.below ((aD _ u3).drew)).aY ae).2);clear aB DK NW SK bb hb hN hM xk Jl S2;go_wp2_with fail
 first | (go_region_with (first
  | (go_at_call 103
     first | with_reducible refine I1.o.mono ?_ | with_reducible refine I2.o.mono ?_
     rintro r u5 ⟨⟨v,rfl,hN⟩,hb⟩;have hb1:Below u3.heap.size u3 u5:=by first | exact hb | exact((aD _ u3).drew).trans (hb.mono (aC _))
     obtain⟨a7,c7,rfl,_⟩:=hN.arg ae;obtain⟨aB,DK,NR,NL,SK⟩:=S3.o;obtain⟨i0,i1,i2,Ux,Uy,Uz⟩:=(SK.below hb1).facts;obtain⟨t0,t1,t2,Q7,Q8,Q9⟩:=(DK.below hb1).facts;have hN':Nt w.heap.size u5 (.slice a7 (ws V).length c7) V:=hN.mono aB.size;have FV:=(dC (aB.trans (hb1.mono aB.size)) hN' (DK.below hb1))
     clear hN hN' hb hb1 aB DK SK NR NL))) | fail
 all_goals (
  go_wp2;obtain⟨aB,NZ,DK⟩:=FV.o;have hsz:=aB.size
  first
  | exact aG (j5 _ (w.heap.size+1) dn (.slice a7 (ws V).length c7) de er _ rfl rfl (DK.set _ _ _)) rfl ⟨⟨_,rfl,NZ.ou DK aj _ _ _⟩,dh aB hsz ae _ _ _⟩
  | exact aG (j5 _ (w.heap.size+1) dn (.slice a7 (ws V).length c7) de er _ rfl rfl (DK.set _ _ _)) rfl ⟨⟨_,rfl,NZ.ou DK aj _ _ _⟩,(dh aB hsz ae _ _ _).drew⟩)
theorem zA(W:World)(g:Nat)(n:Bool)(v:Value)(e:Int)(m:Bool)(u:Value)(f k:Int)(tmps:Array Value)(ht:tmps[2]?.getD undef=.pointer (some ⟨g,0,none⟩))(hk:tmps[3]?.getD undef=.int .i64 k)(D:Rq W g n v e m u f) :
 (results Tryz.f140 tmps).run Tryz.prog W=.ok (.tuple #[.agg #[.bool n,v,.int .i64 e,.bool m,u,.int .i64 f],.int .i64 k]) W:=by
 obtain⟨x0,x1,x2,x3,x4,x5⟩:=D.facts;simp[results,Tryz.results140,ht,hk,go_sem,x0,x1,x2,x3,x4,x5]
theorem sI(w:World)(n:Bool)(v:Value)(e:Int)(m:Bool)(u:Value)(f:Int)(W:World)(hW:W=(w.alloc (.cells #[.bool n,v,.int .i64 e,.bool m,u,.int .i64 f] 58)).alloc (.cells #[.bool false,.slice none 0 0,.int .i64 0,.bool false,.slice none 0 0,.int .i64 0] 58)) :
 Below w.heap.size w W/\W.heap.size=w.heap.size+2/\Rq W w.heap.size n v e m u f/\Rq W (w.heap.size+1) false (.slice none 0 0) 0 false (.slice none 0 0) 0:=by
 rw[hW];refine⟨(af w _).alloc aQ _,aQ,(Rq.new _ _ _ _ _ _ _).alloc _,?_⟩;have:=Rq.new (w.alloc (.cells #[.bool n,v,.int .i64 e,.bool m,u,.int .i64 f] 58)) false (.slice none 0 0) 0 false (.slice none 0 0) 0;simpa using this
theorem Wp {w:World}{a b:Option Addr}{la ca lb cb:Nat}(n m:Bool) (e f:Int) (n1 m1:Bool) (X Y:Nat) (e1 f1:Int) (lX:(ws X).length<=8192) (lY:(ws Y).length<=8192)
 (H1:Hid (∀ u,Below w.heap.size w u->Calls Tryz.prog 90 #[.bool n,.slice a la ca,.int .i64 e] u fun r w'=>(∃ v,r=.returned (.tuple #[.agg #[.bool n1,v,.int .i64 e1],.int .i64 0])/\Nt u.heap.size w' v X)/\Below u.heap.size u w'))
 (H2:Hid (∀ u,Below w.heap.size w u->Calls Tryz.prog 90 #[.bool m,.slice b lb cb,.int .i64 f] u fun r w'=>(∃ v,r=.returned (.tuple #[.agg #[.bool m1,v,.int .i64 f1],.int .i64 0])/\Nt u.heap.size w' v Y)/\Below u.heap.size u w')) :
 Calls Tryz.prog 140 #[.agg #[.bool n,.slice a la ca,.int .i64 e,.bool m,.slice b lb cb,.int .i64 f]] w fun r w'=>(∃ v u,r=.returned (.tuple #[.agg #[.bool n1,v,.int .i64 e1,.bool m1,u,.int .i64 f1],.int .i64 0])/\Nt w.heap.size w' v X/\Nt w.heap.size w' u Y/\Ap v u)/\Below w.heap.size w w':=by
 obtain⟨W1,hW1⟩:=ah ((w.alloc (.cells #[.bool n,.slice a la ca,.int .i64 e,.bool m,.slice b lb cb,.int .i64 f] 58)).alloc (.cells #[.bool false,.slice none 0 0,.int .i64 0,.bool false,.slice none 0 0,.int .i64 0] 58));obtain⟨hB,hz1,RQ,RR⟩:=sI w n _ e m _ f W1 hW1;have hs2:w.heap.size+2<=W1.heap.size:=ae
 have hbel:=hB;have S0:=(dC hbel RQ RR);clear hbel;clear hB RQ RR hz1;go_enter Tryz.func140,Tryz.ntmps140;obtain⟨x0,x1,x2,x3,x4,x5⟩:=S0.o.2.1.facts;obtain⟨aB,RQ,RR⟩:=S0.o;have HC:=hid (H1.o W1 aB);clear aB RQ RR
 go_upto_region 1 with fail
 rw[<-hW1];clear hW1;go_wp2_with fail;clear x0 x1 x2 x3 x4 x5;refine HC.o.mono ?_;rintro r u1 ⟨⟨v,rfl,hN⟩,hb⟩;obtain⟨a1,c1,rfl,_⟩:=hN.arg ae;clear HC;obtain⟨aB,RQ,RR⟩:=S0.o;have hbn:=aB.trans (hb.mono aB.size);have S1:=ic hbn (RQ.below hb) (RR.below hb) (hN.mono aB.size);clear aB RQ RR;clear hb hbn S0;clear hN;obtain⟨U1,aX⟩:=ah (u1.alloc (.cells #[.bool n1,.slice a1 (ws X).length c1,.int .i64 e1] 25));obtain⟨aB,RQ,RR,NX⟩:=S1.o;have jB:Below u1.heap.size u1 U1:=by rw[aX];exact af _ _
 have TN:Tk U1 u1.heap.size 25 (.bool n1) (.slice a1 (ws X).length c1) (.int .i64 e1):=by rw[aX];exact Tk.new _ _ _ _ _
 have hbn:=aB.trans (jB.mono aB.size);have hgu:w.heap.size+2<=u1.heap.size:=by have:=RR.lt;omega
 have S2:=fO hbn (RQ.below jB) (RR.below jB) (NX.below jB) TN;obtain⟨x0,x1,x2,x3,x4,x5⟩:=(RQ.below jB).facts;clear aB RQ RR NX;clear jB hbn TN S1 H1;obtain⟨aB,RQ,RR,NX,TN⟩:=S2.o;have HC:=hid (H2.o U1 aB);clear aB RQ RR NX TN
 go_upto_region 4 with fail
 rw[<-aX];clear aX;go_wp2_with fail;clear x0 x1 x2 x3 x4 x5;refine HC.o.mono ?_;rintro r u3 ⟨⟨v,rfl,hN⟩,hb⟩;obtain⟨a2,c2,rfl,_⟩:=hN.arg ae;clear HC;obtain⟨aB,RQ,RR,NX,TN⟩:=S2.o;have hbn:=aB.trans (hb.mono aB.size);have S3:=nU hbn (RQ.below hb) (RR.below hb) (NX.below hb) (TN.below hb) (hN.mono aB.size) (NX.ap hN);clear aB RQ RR NX TN;clear hb hbn S2;clear hN;obtain⟨U3,Ao⟩:=ah (u3.alloc (.cells #[.bool m1,.slice a2 (ws Y).length c2,.int .i64 f1] 25));obtain⟨aB,RQ,RR,NX,TN,NY,AP⟩:=S3.o;have jB:Below u3.heap.size u3 U3:=by rw[Ao];exact af _ _
 have TD:Tk U3 u3.heap.size 25 (.bool m1) (.slice a2 (ws Y).length c2) (.int .i64 f1):=by rw[Ao];exact Tk.new _ _ _ _ _
 have hbn:=aB.trans (jB.mono aB.size);have SZ:=fO hbn (RR.below jB) (NX.below jB) (NY.below jB) AP;obtain⟨x0,x1,x2,_,_,_⟩:=(TN.below jB).facts;obtain⟨y0,y1,y2,_,_,_⟩:=TD.facts;obtain⟨r0,r1,r2,r3,r4,r5⟩:=(RR.below jB).facts;obtain⟨iH,iI,iJ,rf3,rf4,rf5⟩:=(RR.below jB).frz;clear aB RQ RR NX TN NY AP;clear jB hbn TD S3 H2
 go_upto_region 5 with fail
 rw[<-Ao];clear Ao;go_wp2;obtain⟨aB,RR,NX,NY,AP⟩:=SZ.o;have hbl:=aB.size;refine aG (zA _ (w.heap.size+1) n1 (.slice a1 (ws X).length c1) e1 m1 (.slice a2 (ws Y).length c2) f1 0 _ rfl rfl (RR.set _ _ _ _ _ _)) rfl ⟨⟨_,_,rfl,NX.st6k RR _ _ _ _ _ _,NY.st6k RR _ _ _ _ _ _,AP⟩,vH aB hbl ae _ _ _ _ _ _⟩
theorem OA {w:World}{a b:Option Addr}{la ca lb cb:Nat}(n m:Bool) (e f:Int) (n1 m1:Bool) (X Y:Nat) (e1 f1:Int) (lX:(ws X).length<=8192) (lY:(ws Y).length<=8192)
 (H1:Hid (∀ u,Below w.heap.size w u->Calls Tryz.prog 90 #[.bool n,.slice a la ca,.int .i64 e] u fun r w'=>(∃ v,r=.returned (.tuple #[.agg #[.bool n1,v,.int .i64 e1],.int .i64 2])/\Nt u.heap.size w' v X)/\Below u.heap.size u w'))
  :
 Calls Tryz.prog 140 #[.agg #[.bool n,.slice a la ca,.int .i64 e,.bool m,.slice b lb cb,.int .i64 f]] w fun r w'=>(∃ v u,r=.returned (.tuple #[.agg #[.bool false,v,.int .i64 0,.bool false,u,.int .i64 0],.int .i64 2])/\v=.slice none 0 0/\u=.slice none 0 0)/\Below w.heap.size w w':=by
 obtain⟨W1,hW1⟩:=ah ((w.alloc (.cells #[.bool n,.slice a la ca,.int .i64 e,.bool m,.slice b lb cb,.int .i64 f] 58)).alloc (.cells #[.bool false,.slice none 0 0,.int .i64 0,.bool false,.slice none 0 0,.int .i64 0] 58));obtain⟨hB,hz1,RQ,RR⟩:=sI w n _ e m _ f W1 hW1;have hs2:w.heap.size+2<=W1.heap.size:=ae
 have hbel:=hB;have S0:=(dC hbel RQ RR);clear hbel;clear hB RQ RR hz1;go_enter Tryz.func140,Tryz.ntmps140;obtain⟨x0,x1,x2,x3,x4,x5⟩:=S0.o.2.1.facts;obtain⟨aB,RQ,RR⟩:=S0.o;have HC:=hid (H1.o W1 aB);clear aB RQ RR
 go_upto_region 1 with fail
 rw[<-hW1];clear hW1;go_wp2_with fail;clear x0 x1 x2 x3 x4 x5;refine HC.o.mono ?_;rintro r u1 ⟨⟨v,rfl,hN⟩,hb⟩;obtain⟨a1,c1,rfl,_⟩:=hN.arg ae;clear HC;obtain⟨aB,RQ,RR⟩:=S0.o;have hbn:=aB.trans (hb.mono aB.size);have S1:=dC hbn (RQ.below hb) (RR.below hb);clear aB RQ RR;clear hb hbn S0;clear hN;obtain⟨U1,aX⟩:=ah (u1.alloc (.cells #[.bool n1,.slice a1 (ws X).length c1,.int .i64 e1] 25));obtain⟨aB,RQ,RR⟩:=S1.o;have jB:Below u1.heap.size u1 U1:=by rw[aX];exact af _ _
 have hlast:=aP (aB.trans (jB.mono aB.size)) (RR.below jB);obtain⟨r0,r1,r2,r3,r4,r5⟩:=(RR.below jB).facts;obtain⟨iH,iI,iJ,rf3,rf4,rf5⟩:=(RR.below jB).frz;clear aB RQ RR;clear S1 H1 jB
 go_upto_region 2 with fail
 rw[<-aX];clear aX;go_wp2;obtain⟨aB,RR⟩:=hlast.o;exact aG (zA _ (w.heap.size+1) false (.slice none 0 0) 0 false (.slice none 0 0) 0 2 _ rfl rfl (RR.set _ _ _ _ _ _)) rfl ⟨⟨_,_,rfl,rfl,rfl⟩,vH aB aB.size ae _ _ _ _ _ _⟩
theorem OB {w:World}{a b:Option Addr}{la ca lb cb:Nat}(n m:Bool) (e f:Int) (n1 m1:Bool) (X Y:Nat) (e1 f1:Int) (lX:(ws X).length<=8192) (lY:(ws Y).length<=8192)
 (H1:Hid (∀ u,Below w.heap.size w u->Calls Tryz.prog 90 #[.bool n,.slice a la ca,.int .i64 e] u fun r w'=>(∃ v,r=.returned (.tuple #[.agg #[.bool n1,v,.int .i64 e1],.int .i64 0])/\Nt u.heap.size w' v X)/\Below u.heap.size u w'))
 (H2:Hid (∀ u,Below w.heap.size w u->Calls Tryz.prog 90 #[.bool m,.slice b lb cb,.int .i64 f] u fun r w'=>(∃ v,r=.returned (.tuple #[.agg #[.bool m1,v,.int .i64 f1],.int .i64 2])/\Nt u.heap.size w' v Y)/\Below u.heap.size u w')) :
 Calls Tryz.prog 140 #[.agg #[.bool n,.slice a la ca,.int .i64 e,.bool m,.slice b lb cb,.int .i64 f]] w fun r w'=>(∃ v u,r=.returned (.tuple #[.agg #[.bool false,v,.int .i64 0,.bool false,u,.int .i64 0],.int .i64 2])/\v=.slice none 0 0/\u=.slice none 0 0)/\Below w.heap.size w w':=by
 obtain⟨W1,hW1⟩:=ah ((w.alloc (.cells #[.bool n,.slice a la ca,.int .i64 e,.bool m,.slice b lb cb,.int .i64 f] 58)).alloc (.cells #[.bool false,.slice none 0 0,.int .i64 0,.bool false,.slice none 0 0,.int .i64 0] 58));obtain⟨hB,hz1,RQ,RR⟩:=sI w n _ e m _ f W1 hW1;have hs2:w.heap.size+2<=W1.heap.size:=ae
 have hbel:=hB;have S0:=(dC hbel RQ RR);clear hbel;clear hB RQ RR hz1;go_enter Tryz.func140,Tryz.ntmps140;obtain⟨x0,x1,x2,x3,x4,x5⟩:=S0.o.2.1.facts;obtain⟨aB,RQ,RR⟩:=S0.o;have HC:=hid (H1.o W1 aB);clear aB RQ RR
 go_upto_region 1 with fail
 rw[<-hW1];clear hW1;go_wp2_with fail;clear x0 x1 x2 x3 x4 x5;refine HC.o.mono ?_;rintro r u1 ⟨⟨v,rfl,hN⟩,hb⟩;obtain⟨a1,c1,rfl,_⟩:=hN.arg ae;clear HC;obtain⟨aB,RQ,RR⟩:=S0.o;have hbn:=aB.trans (hb.mono aB.size);have S1:=ic hbn (RQ.below hb) (RR.below hb) (hN.mono aB.size);clear aB RQ RR;clear hb hbn S0;clear hN;obtain⟨U1,aX⟩:=ah (u1.alloc (.cells #[.bool n1,.slice a1 (ws X).length c1,.int .i64 e1] 25));obtain⟨aB,RQ,RR,NX⟩:=S1.o;have jB:Below u1.heap.size u1 U1:=by rw[aX];exact af _ _
 have TN:Tk U1 u1.heap.size 25 (.bool n1) (.slice a1 (ws X).length c1) (.int .i64 e1):=by rw[aX];exact Tk.new _ _ _ _ _
 have hbn:=aB.trans (jB.mono aB.size);have hgu:w.heap.size+2<=u1.heap.size:=by have:=RR.lt;omega
 have S2:=fO hbn (RQ.below jB) (RR.below jB) (NX.below jB) TN;obtain⟨x0,x1,x2,x3,x4,x5⟩:=(RQ.below jB).facts;clear aB RQ RR NX;clear jB hbn TN S1 H1;obtain⟨aB,RQ,RR,NX,TN⟩:=S2.o;have HC:=hid (H2.o U1 aB);clear aB RQ RR NX TN
 go_upto_region 4 with fail
 rw[<-aX];clear aX;go_wp2_with fail;clear x0 x1 x2 x3 x4 x5;refine HC.o.mono ?_;rintro r u3 ⟨⟨v,rfl,hN⟩,hb⟩;obtain⟨a2,c2,rfl,_⟩:=hN.arg ae;clear HC;obtain⟨aB,RQ,RR,NX,TN⟩:=S2.o;have hbn:=aB.trans (hb.mono aB.size);have S3:=fO hbn (RQ.below hb) (RR.below hb) (NX.below hb) (TN.below hb);clear aB RQ RR NX TN;clear hb hbn S2;clear hN;obtain⟨U3,Ao⟩:=ah (u3.alloc (.cells #[.bool m1,.slice a2 (ws Y).length c2,.int .i64 f1] 25));obtain⟨aB,RQ,RR,NX,TN⟩:=S3.o;have jB:Below u3.heap.size u3 U3:=by rw[Ao];exact af _ _
 have hlast:=aP (aB.trans (jB.mono aB.size)) (RR.below jB);obtain⟨r0,r1,r2,r3,r4,r5⟩:=(RR.below jB).facts;obtain⟨iH,iI,iJ,rf3,rf4,rf5⟩:=(RR.below jB).frz;clear aB RQ RR NX TN;clear S3 H2 jB
 go_upto_region 5 with fail
 rw[<-Ao];clear Ao;go_wp2;obtain⟨aB,RR⟩:=hlast.o;exact aG (zA _ (w.heap.size+1) false (.slice none 0 0) 0 false (.slice none 0 0) 0 2 _ rfl rfl (RR.set _ _ _ _ _ _)) rfl ⟨⟨_,_,rfl,rfl,rfl⟩,vH aB aB.size ae _ _ _ _ _ _⟩
theorem infoR:(Tryz.prog.info? 58).map (fun i=>(i.zero,i.size,i.bytes))=some (some (.agg #[.bool false,.slice none 0 0,.int .i64 0,.bool false,.slice none 0 0,.int .i64 0]),6,80):=by kernel_rfl
theorem DL(w:World) :
 (Instr.makeSlice 120 (.int .i64 1) (.int .i64 1)).run Tryz.prog w=.ok (.slice (some ⟨w.heap.size,0,none⟩) 1 1) (w.alloc (.cells #[.bool false,.slice none 0 0,.int .i64 0,.bool false,.slice none 0 0,.int .i64 0] 58)):=by
 have h:=infoR;have e:IntKind.i64.wrap 1=1:=aj
 cases hq:Tryz.prog.info? 58 with
 | none=>rw[hq] at h;simp at h
 | some i =>
   rw[hq] at h;simp at h;simp[Instr.makeSlice,go_sem,Tryz.underlying120,hq,h,typeInfo,e]
structure Ri where
 n:Bool
 v:Value
 X:Nat
 e:Int
 m:Bool
 u:Value
 Y:Nat
 f:Int
def Av(w:World)(v:Value)(X:Nat):Prop:=∃ a l c xs,v=.slice a l c/\Arg w a l c xs/\val xs=X
theorem Av.below{w w':World}{v:Value}{X:Nat}(h:Av w v X)(hb:Below w.heap.size w w'):Av w' v X:=by
 obtain⟨a,l,c,xs,rfl,hA,hv⟩:=h;exact⟨a,l,c,xs,rfl,hA.below hb,hv⟩
theorem Nt.av{lo:Nat}{w:World}{v:Value}{X:Nat}(h:Nt lo w v X)(hs:(ws X).length<=35184372088832):Av w v X:=by
 obtain⟨a,c,rfl,hA⟩:=h.arg hs;exact⟨a,_,c,_,rfl,hA,ak X⟩
def DN(w:World)(g k:Nat)(I:Nat->Ri):Prop:=∃ cur:Array Value,w.heap[g]?=some (.cells cur 58 (0,0))/\∀ i,i<k->cur[i*6]?=some (.bool (I i).n)/\cur[i*6+1]?=some (I i).v/\cur[i*6+2]?=some (.int .i64 (I i).e)/\cur[i*6+3]?=some (.bool (I i).m)/\cur[i*6+4]?=some (I i).u/\cur[i*6+5]?=some (.int .i64 (I i).f)
theorem DN.lt{w:World}{g k:Nat}{I:Nat->Ri}(h:DN w g k I):g<w.heap.size:=by obtain⟨c,h,_⟩:=h;exact(gL.1 h).1
theorem DN.below{w w':World}{g k:Nat}{I:Nat->Ri}(h:DN w g k I)(hb:Below w.heap.size w w'):DN w' g k I:=by
 have hl:=h.lt;obtain⟨c,h,r⟩:=h;exact⟨c,by rw[hb.block g hl];exact h,r⟩
theorem DN.facts{w:World}{g k:Nat}{I:Nat->Ri}(h:DN w g k I)(i:Nat)(hi:i<k) :
 w.cell? ⟨g,i*6,none⟩=some (.bool (I i).n)/\w.cell? ⟨g,i*6+1,none⟩=some (I i).v/\w.cell? ⟨g,i*6+2,none⟩=some (.int .i64 (I i).e)/\w.cell? ⟨g,i*6+3,none⟩=some (.bool (I i).m)/\w.cell? ⟨g,i*6+4,none⟩=some (I i).u/\w.cell? ⟨g,i*6+5,none⟩=some (.int .i64 (I i).f):=by
 obtain⟨c,h,r⟩:=h;obtain⟨r0,r1,r2,r3,r4,r5⟩:=r i hi;simp[World.cell?,h,r0,r1,r2,r3,r4,r5]
def j6(I:Nat->Ri)(k:Nat):Int :=
 if (List.range k).any (fun i=>decide (xg (I i).m (I i).Y<0)) then 1
 else if (List.range k).any (fun i=>!((mkS (I i).n (I i).X (I i).e).isSome&&(mkS (I i).m (I i).Y (I i).f).isSome)) then 2
 else if (List.range k).any (fun i=>decide (dX (mkS (I i).m (I i).Y (I i).f)=0)) then 21 else 0
theorem Jm{k i:Nat}{p:Nat->Bool}(hi:i<k)(h:p i=true):(List.range k).any p=true:=List.any_eq_true.2 ⟨i,ql.2 hi,h⟩
theorem vI{k:Nat}{p:Nat->Bool}(h:∀ i,i<k->p i=false):(List.range k).any p=false:=by
 rw[List.any_eq_false];intro i hi;rw[h i (ql.1 hi)];simp
structure RIn (w:World) (g k:Nat) (I:Nat->Ri):Prop where
 row:DN w g k I
 one:∀ i,i<k->Av w (I i).v (I i).X/\Av w (I i).u (I i).Y
 qI:∀ i,i<k->-9223372036854775808<=(I i).e/\(I i).e<=9223372036854775807/\-9223372036854775808<=(I i).f/\(I i).f<=9223372036854775807
 tab:dU w
theorem RIn.below{w w':World}{g k:Nat}{I:Nat->Ri}(h:RIn w g k I)(hb:Below w.heap.size w w'):RIn w' g k I :=
 ⟨h.row.below hb,fun i hi=>⟨(h.one i hi).1.below hb,(h.one i hi).2.below hb⟩,h.qI,h.tab.belows hb⟩
def xm(I:Nat->Ri)(V:Nat->Value×Value)(i:Nat):Ri :=
 ⟨dN (mkS (I i).n (I i).X (I i).e),(V i).1,dX (mkS (I i).n (I i).X (I i).e),dE (mkS (I i).n (I i).X (I i).e),dN (mkS (I i).m (I i).Y (I i).f),(V i).2,dX (mkS (I i).m (I i).Y (I i).f),dE (mkS (I i).m (I i).Y (I i).f)⟩
structure OC (lo:Nat) (w:World) (g k:Nat) (I:Nat->Ri) (V:Nat->Value×Value):Prop where
 row:DN w g k (xm I V)
 own:lo<=g
 nts:∀ i,i<k->Nt lo w (V i).1 (dX (mkS (I i).n (I i).X (I i).e))/\Nt lo w (V i).2 (dX (mkS (I i).m (I i).Y (I i).f))
theorem OC.below{lo:Nat}{w w':World}{g k:Nat}{I:Nat->Ri}{V:Nat->Value×Value}(h:OC lo w g k I V)(hb:Below w.heap.size w w'):OC lo w' g k I V :=
 ⟨h.row.below hb,h.own,fun i hi=>⟨(h.nts i hi).1.below hb,(h.nts i hi).2.below hb⟩⟩
abbrev RV(w:World)(g o:Nat)(a b c d e f:Value):World:=(((((w.setCell ⟨g,o,none⟩ a).setCell ⟨g,o+1,none⟩ b).setCell ⟨g,o+2,none⟩ c).setCell ⟨g,o+3,none⟩ d).setCell ⟨g,o+4,none⟩ e).setCell ⟨g,o+5,none⟩ f
theorem qJ(g o:Nat)(w:World)(a b c d e f:Value):But g w (RV w g o a b c d e f):=((((((But.refl g w).set _ _).set _ _).set _ _).set _ _).set _ _).set _ _
theorem DT{w:World}{g T:Nat}{cur:Array Value}{fz:Nat×Nat}(h:w.heap[g]?=some (.cells cur T fz))(o:Nat)(v:Value):(w.setCell ⟨g,o,none⟩ v).heap[g]?=some (.cells (cur.setIfInBounds o v) T fz):=by
 simp[World.setCell,mJ,h]
theorem Jn{w:World}{g T:Nat}{cur:Array Value}{fz:Nat×Nat}(h:w.heap[g]?=some (.cells cur T fz))(o:Nat)(a b c d e f:Value)(ho:o+5<cur.size) :
 ∃ cur',(RV w g o a b c d e f).heap[g]?=some (.cells cur' T fz)/\cur'.size=cur.size/\(cur'[o]?=some a/\cur'[o+1]?=some b/\cur'[o+2]?=some c/\cur'[o+3]?=some d/\cur'[o+4]?=some e/\cur'[o+5]?=some f)/\∀ j,(j<o\/o+5<j)->cur'[j]?=cur[j]?:=by
 refine⟨_,DT (DT (DT (DT (DT (DT h o a) (o+1) b) (o+2) c) (o+3) d) (o+4) e) (o+5) f,aQ,?_,?_⟩
 · simp[uJ];omega
 · intro j hj;have n0:o≠j:=ae
   have n1:o+1≠j:=ae
   have n2:o+2≠j:=ae
   have n3:o+3≠j:=ae
   have n4:o+4≠j:=ae
   have n5:o+5≠j:=ae
   simp[uJ,n0,n1,n2,n3,n4,n5]
structure mX (lo:Nat) (w:World) (g k i:Nat) (I:Nat->Ri) (V:Nat->Value×Value):Prop where
 row:∃ cur:Array Value,w.heap[g]?=some (.cells cur 58 (0,0))/\cur.size=6*k/\∀ j,j<i->cur[j*6]?=some (.bool (xm I V j).n)/\cur[j*6+1]?=some (xm I V j).v/\cur[j*6+2]?=some (.int .i64 (xm I V j).e)/\cur[j*6+3]?=some (.bool (xm I V j).m)/\cur[j*6+4]?=some (xm I V j).u/\cur[j*6+5]?=some (.int .i64 (xm I V j).f)
 own:lo<=g
 nts:∀ j,j<i->Nt lo w (V j).1 (dX (mkS (I j).n (I j).X (I j).e))/\Nt lo w (V j).2 (dX (mkS (I j).m (I j).Y (I j).f))
theorem mX.lt{lo:Nat}{w:World}{g k i:Nat}{I:Nat->Ri}{V:Nat->Value×Value}(h:mX lo w g k i I V):g<w.heap.size:=by obtain⟨c,h,_⟩:=h.row;exact(gL.1 h).1
theorem mX.below{lo:Nat}{w w':World}{g k i:Nat}{I:Nat->Ri}{V:Nat->Value×Value}(h:mX lo w g k i I V)(hb:Below w.heap.size w w'):mX lo w' g k i I V:=by
 have hl:=h.lt;obtain⟨⟨c,h1,r⟩,h2,h3⟩:=h;exact⟨⟨c,by rw[hb.block g hl];exact h1,r⟩,h2,fun j hj=>⟨(h3 j hj).1.below hb,(h3 j hj).2.below hb⟩⟩
theorem mX.room{lo:Nat}{w:World}{g k i:Nat}{I:Nat->Ri}{V:Nat->Value×Value}(h:mX lo w g k i I V)(j:Nat)(hj:j<6*k):(∃ v,w.cell? ⟨g,j,none⟩=some v)/\w.frozen? ⟨g,j,none⟩=false:=by
 obtain⟨⟨c,h1,hs,r⟩,h2,h3⟩:=h;refine⟨⟨c[j]'(by omega),?_⟩,?_⟩
 · simp[World.cell?,h1]
 · simp[World.frozen?,h1]
theorem mX.o{lo:Nat}{w:World}{g k:Nat}{I:Nat->Ri}{V:Nat->Value×Value}(h:mX lo w g k k I V):OC lo w g k I V:=by
 obtain⟨⟨c,h1,hs,r⟩,h2,h3⟩:=h;exact⟨⟨c,h1,r⟩,h2,h3⟩
theorem mX.step {lo:Nat}{w:World}{g k i:Nat}{I:Nat->Ri}{V:Nat->Value×Value}(h:mX lo w g k i I V) (hi:i<k) (v u:Value)
 (hv:Nt lo w v (dX (mkS (I i).n (I i).X (I i).e))) (hu:Nt lo w u (dX (mkS (I i).m (I i).Y (I i).f))) :
 ∃ V',mX lo (RV w g (i*6) (.bool (dN (mkS (I i).n (I i).X (I i).e))) v (.int .i64 (dE (mkS (I i).n (I i).X (I i).e))) (.bool (dN (mkS (I i).m (I i).Y (I i).f))) u (.int .i64 (dE (mkS (I i).m (I i).Y (I i).f)))) g k (i+1) I V':=by
 obtain⟨⟨c,h1,hs,r⟩,h2,h3⟩:=h;obtain⟨c',k1,k2,k3,k4⟩:=Jn h1 (i*6) (.bool (dN (mkS (I i).n (I i).X (I i).e))) v (.int .i64 (dE (mkS (I i).n (I i).X (I i).e))) (.bool (dN (mkS (I i).m (I i).Y (I i).f))) u (.int .i64 (dE (mkS (I i).m (I i).Y (I i).f))) ae;refine⟨fun j=>if j=i then(v,u) else V j,⟨c',k1,ae,fun j hj=>?_⟩,h2,fun j hj=>?_⟩
 · by_cases e:j=i
   · subst e;simp only[xm,if_true];exact k3
   · have:=r j ae;rw[k4 _ ae,k4 _ ae,k4 _ ae,k4 _ ae,k4 _ ae,k4 _ ae];simp only[xm,if_neg e] at this |-;exact this
 · by_cases e:j=i
   · subst e;simp only[if_true];exact⟨hv.off (qJ _ _ _ _ _ _ _ _ _) (hv.ma aj h1),hu.off (qJ _ _ _ _ _ _ _ _ _) (hu.ma aj h1)⟩
   · simp only[if_neg e];obtain⟨q1,q2⟩:=h3 j ae;exact⟨q1.off (qJ _ _ _ _ _ _ _ _ _) (q1.ma aj h1),q2.off (qJ _ _ _ _ _ _ _ _ _) (q2.ma aj h1)⟩
theorem sgnD{w:World}{n:Bool}{v:Value}{X:Nat}{e:Int}(h:Av w v X):Calls Tryz.prog 52 #[.agg #[.bool n,v,.int .i64 e]] w fun r w'=>r=.returned (.int .i64 (xg n X))/\Below w.heap.size w w':=by
 obtain⟨a,l,c,xs,rfl,hA,rfl⟩:=h;exact vB hA n e
theorem formD{w:World}{r:Ri}(h1:Av w r.v r.X)(h2:Av w r.u r.Y)(hT:dU w)(b0:-9223372036854775808<=r.e)(b1:r.e<=9223372036854775807)(b2:-9223372036854775808<=r.f)(b3:r.f<=9223372036854775807) :
 Calls Tryz.prog 140 #[.agg #[.bool r.n,r.v,.int .i64 r.e,.bool r.m,r.u,.int .i64 r.f]] w fun q w' =>
  (((mkS r.n r.X r.e).isSome&&(mkS r.m r.Y r.f).isSome)=true->∃ v u,q=.returned (.tuple #[.agg #[.bool (dN (mkS r.n r.X r.e)),v,.int .i64 (dE (mkS r.n r.X r.e)),.bool (dN (mkS r.m r.Y r.f)),u,.int .i64 (dE (mkS r.m r.Y r.f))],.int .i64 0])/\Nt w.heap.size w' v (dX (mkS r.n r.X r.e))/\Nt w.heap.size w' u (dX (mkS r.m r.Y r.f))/\Ap v u) /\
  (((mkS r.n r.X r.e).isSome&&(mkS r.m r.Y r.f).isSome)=false->q=.returned (.tuple #[.agg #[.bool false,.slice none 0 0,.int .i64 0,.bool false,.slice none 0 0,.int .i64 0],.int .i64 2]))/\Below w.heap.size w w':=by
 obtain⟨n,v,X,e,m,u,Y,f⟩:=r;simp only at *;obtain⟨a,l,c,xs,rfl,hA,rfl⟩:=h1;obtain⟨b,k,d,ys,rfl,hB,rfl⟩:=h2;have l1:=aR n (val xs) e;have l2:=aR m (val ys) f;have H1:∀ u,Below w.heap.size w u->Calls Tryz.prog 90 #[.bool n,.slice a l c,.int .i64 e] u fun r w'=>dm u.heap.size w' r (mkS n (val xs) e)/\Below u.heap.size u w':=fun u hu=>iV (hA.below hu) (hT.belows hu) n e b0 b1;have H2:∀ u,Below w.heap.size w u->Calls Tryz.prog 90 #[.bool m,.slice b k d,.int .i64 f] u fun r w'=>dm u.heap.size w' r (mkS m (val ys) f)/\Below u.heap.size u w':=fun u hu=>iV (hB.below hu) (hT.belows hu) m f b2 b3;simp only[dm] at H1 H2;generalize mkS n (val xs) e=o at *;generalize mkS m (val ys) f=p at *
 cases ho:o.isSome with
 | false =>
   have he:o7 o=2:=by unfold o7;rw[ho];rfl
   rw[he] at H1;refine(OA n m e f (dN o) false (dX o) 0 (dE o) 0 l1 (by rw[ws0];omega) H1).mono ?_;rintro r w' ⟨⟨v,u,h,rfl,rfl⟩,hb⟩;exact⟨fun hh=>(by cases hh),fun _=>h,hb⟩
 | true =>
   have he:o7 o=0:=by unfold o7;rw[ho];rfl
   rw[he] at H1
   cases hp:p.isSome with
   | false =>
     have he:o7 p=2:=by unfold o7;rw[hp];rfl
     rw[he] at H2;refine(OB n m e f (dN o) (dN p) (dX o) (dX p) (dE o) (dE p) l1 l2 H1 H2).mono ?_;rintro r w' ⟨⟨v,u,h,rfl,rfl⟩,hb⟩;exact⟨fun hh=>(by cases hh),fun _=>h,hb⟩
   | true =>
     have he:o7 p=0:=by unfold o7;rw[hp];rfl
     rw[he] at H2;refine(Wp n m e f (dN o) (dN p) (dX o) (dX p) (dE o) (dE p) l1 l2 H1 H2).mono ?_;rintro r w' ⟨⟨v,u,h,hN,hM,hap⟩,hb⟩;exact⟨fun _=>⟨v,u,h,hN,hM,hap⟩,fun hh=>(by cases hh),hb⟩
theorem RX(w:World)(g:Nat)(I:Nat->Ri)(h:RIn w g 1 I) :
 Calls Tryz.prog 102 #[.slice (some ⟨g,0,none⟩) 1 1] w fun r w' =>
  ((j6 I 1≠0/\r=.returned (.tuple #[.slice none 0 0,.int .i64 (j6 I 1)])) \/
   (j6 I 1=0/\∃ g' V,r=.returned (.tuple #[.slice (some ⟨g',0,none⟩) 1 1,.int .i64 0])/\OC w.heap.size w' g' 1 I V))/\Below w.heap.size w w':=by
 have MK:=DL;have hH:=aA h;clear h;go_enter Tryz.func102,Tryz.ntmps102;go_wp2_with fail
 go_loopg [15] 1 (fun gk iv wr=>∃ i:Nat,gk+i=1/\iv=.int .i64 (i:Nat)/\Aside (Below w.heap.size w wr/\∀ j,j<i->decide (xg (I j).m (I j).Y<0)=false))
 case atStart=>exact⟨0,ae,rfl,aD _ _,fun j hj=>by omega⟩
 case round =>
  obtain⟨i,hgi,rfl,HR⟩:=hrel
  by_cases hi:i<1
  · have hin:=hH.o.below HR.o.1;obtain⟨g0,g1,g2,g3,g4,g5⟩:=hin.row.facts i hi;obtain⟨A1,A2⟩:=hin.one i hi;obtain⟨n,v,X,e,m,u,Y,f,hI⟩:∃ n v X e m u Y f,I i=⟨n,v,X,e,m,u,Y,f⟩:=⟨_,_,_,_,_,_,_,_,rfl⟩;rw[hI] at g0 g1 g2 g3 g4 g5 A1 A2;simp only at g0 g1 g2 g3 g4 g5 A1 A2;obtain⟨a1,l1,c1,xs,rfl,-,-⟩:=id A1;obtain⟨a2,l2,c2,ys,rfl,-,-⟩:=id A2;obtain⟨U,hU⟩:=ah (wr.alloc (.cells #[.bool n,.slice a1 l1 c1,.int .i64 e,.bool m,.slice a2 l2 c2,.int .i64 f] 58));have wM:Below wr.heap.size wr U:=by rw[hU];exact af _ _
    have RQ:Rq U wr.heap.size n (.slice a1 l1 c1) e m (.slice a2 l2 c2) f:=by rw[hU];exact Rq.new _ _ _ _ _ _ _
    obtain⟨x0,x1,x2,x3,x4,x5⟩:=RQ.facts;have HC:=hid (sgnD (n:=m) (e:=f) (A2.below wM));obtain⟨s,hs⟩:∃ s,xg m Y=s:=⟨_,rfl⟩;rw[hs] at HC;have SI:=(fO (HR.o.1.trans (wM.mono HR.o.1.size)) HR.o.2 hI hs hi);clear wM RQ A1 A2 hin HR hI hs;have hli:(i:Int)<1:=ae
    have hl0:(0:Int)<=(i:Int):=ae
    go_upto_region 4 with fail
    rw[<-hU];clear hU g0 g1 g2 g3 g4 g5;go_wp2_with fail;clear x0 x1 x2 x3 x4 x5;refine HC.o.mono ?_;rintro r u1 ⟨rfl,hb⟩;have S2:=aA (SI.o.1.trans (hb.mono SI.o.1.size));clear hb HC
    by_cases hneg:s<0
    · have hn:=decide_eq_true hneg;go_wp2_with fail
      go_ret2
      obtain⟨_,hbef,hI,hs,hi⟩:=SI.o
      have hE:j6 I 1=1:=by
       unfold j6;rw[if_pos (Jm hi (by rw[hI];simp only;rw[hs];exact decide_eq_true hneg))]
      rw[hE];exact⟨.inl ⟨aj,rfl⟩,S2.o⟩
    · have hn:decide (s<0)=false:=decide_eq_false ae;go_wp2_with fail;go_roundg (1-(i+1))
      case measure=>omega
      case rel =>
       obtain⟨_,hbef,hI,hs,hi⟩:=SI.o;refine⟨i+1,ae,by go_num,S2.o,fun j hj=>?_⟩
       by_cases hji:j=i
       · subst hji;rw[hI];simp only;rw[hs];exact decide_eq_false ae
       · exact hbef j ae
  · obtain rfl:i=1:=ae
    obtain⟨M,hM⟩:=ah (wr.alloc (.cells #[.bool false,.slice none 0 0,.int .i64 0,.bool false,.slice none 0 0,.int .i64 0] 58));have hbM:Below wr.heap.size wr M:=by rw[hM];exact af _ _
    have hpM:mX w.heap.size M wr.heap.size 1 0 I (fun _=>(.slice none 0 0,.slice none 0 0)):=by
     rw[hM];exact⟨⟨_,gY _ _,rfl,fun j hj=>by omega⟩,HR.o.1.size,fun j hj=>by omega⟩
    have S1:=(dC HR.o.2 hpM (HR.o.1.trans (hbM.mono HR.o.1.size)));obtain⟨gO,hgO⟩:=ah (wr.heap.size);clear HR hbM hpM hi hgi
    go_upto_region 9 with fail
    rw[<-hM];rw[<-hgO] at S1 |-;clear hM hgO
    go_loopg [29] 1 (fun gk iv wr=>∃ i:Nat,gk+i=1/\iv=.int .i64 (i:Nat)/\Aside (Below w.heap.size w wr/\(∀ j,j<i->((mkS (I j).n (I j).X (I j).e).isSome&&(mkS (I j).m (I j).Y (I j).f).isSome)=true)/\∃ V,mX w.heap.size wr gO 1 i I V))
    case atStart=>exact⟨0,ae,rfl,S1.o.r2,fun j hj=>by omega,_,S1.o.2.1⟩
    case round =>
     obtain⟨i,hgi,rfl,HR⟩:=hrel;have SS:=aA S1.o.1;clear S1
     by_cases hi:i<1
     · obtain⟨aB,hbef,V,hP⟩:=HR.o;have hin:=hH.o.below aB;obtain⟨g0,g1,g2,g3,g4,g5⟩:=hin.row.facts i hi;obtain⟨A1,A2⟩:=hin.one i hi;obtain⟨b0,b1,b2,b3⟩:=hin.qI i hi;have hFD:=fun(u:World) (hb:Below wr.heap.size wr u)=>formD (r:=I i) (A1.below hb) (A2.below hb) ((hin.below hb).tab) b0 b1 b2 b3;obtain⟨n,v,X,e,m,u,Y,f,hI⟩:∃ n v X e m u Y f,I i=⟨n,v,X,e,m,u,Y,f⟩:=⟨_,_,_,_,_,_,_,_,rfl⟩;rw[hI] at g0 g1 g2 g3 g4 g5 A1 A2 hFD;simp only at g0 g1 g2 g3 g4 g5 A1 A2 hFD;obtain⟨a1,l1,c1,xs,rfl,-,-⟩:=id A1;obtain⟨a2,l2,c2,ys,rfl,-,-⟩:=id A2;obtain⟨U,hU⟩:=ah (wr.alloc (.cells #[.bool n,.slice a1 l1 c1,.int .i64 e,.bool m,.slice a2 l2 c2,.int .i64 f] 58));have wM:Below wr.heap.size wr U:=by rw[hU];exact af _ _
       have RQ:Rq U wr.heap.size n (.slice a1 l1 c1) e m (.slice a2 l2 c2) f:=by rw[hU];exact Rq.new _ _ _ _ _ _ _
       obtain⟨x0,x1,x2,x3,x4,x5⟩:=RQ.facts;have HC:=hid (hFD U wM);have lo1:=aR n X e;have lo2:=aR m Y f;obtain⟨o,ho⟩:∃ o,mkS n X e=o:=⟨_,rfl⟩;obtain⟨p,hp⟩:∃ p,mkS m Y f=p:=⟨_,rfl⟩;rw[ho,hp] at HC;rw[ho] at lo1;rw[hp] at lo2;have SI:=(nU (aB.trans (wM.mono aB.size)) hbef hI ho hp hi (hP.below wM));clear wM RQ A1 A2 hin HR hI ho hp aB hbef hP hFD b0 b1 b2 b3;have hli:(i:Int)<1:=ae
       have hl0:(0:Int)<=(i:Int):=ae
       go_upto_region 11 with fail
       rw[<-hU];clear hU g0 g1 g2 g3 g4 g5;go_wp2_with fail;clear x0 x1 x2 x3 x4 x5;refine HC.o.mono ?_;rintro r u1 ⟨h1,h2,hb⟩;clear HC
       cases hok:(o.isSome&&p.isSome) with
       | false =>
         obtain rfl:=h2 hok;have S2:=aA (SI.o.1.trans (hb.mono SI.o.1.size));clear h1 h2 hb;go_wp2_with fail
         go_ret2
         obtain⟨_,hbef,hI,ho,hp,hi,_⟩:=SI.o
         have hE:j6 I 1=2:=by
          unfold j6;rw[vI (p:=fun i=>decide (xg (I i).m (I i).Y<0)) SS.o,if_neg uK,if_pos (Jm hi (by rw[hI];simp only;rw[ho,hp,hok];rfl))]
         rw[hE];exact⟨.inl ⟨aj,rfl⟩,S2.o.alloc S2.o.size _⟩
       | true =>
         obtain⟨v1,v2,rfl,hN,hM2,-⟩:=h1 hok;obtain⟨p1,q1,rfl,_⟩:=hN.arg ae;obtain⟨p2,q2,rfl,_⟩:=hM2.arg ae;obtain⟨U2,fH⟩:=ah (u1.alloc (.cells #[.bool (dN o),.slice p1 (ws (dX o)).length q1,.int .i64 (dE o),.bool (dN p),.slice p2 (ws (dX p)).length q2,.int .i64 (dE p)] 58));have wM:Below u1.heap.size u1 U2:=by rw[fH];exact af _ _
         have RQ:Rq U2 u1.heap.size (dN o) (.slice p1 (ws (dX o)).length q1) (dE o) (dN p) (.slice p2 (ws (dX p)).length q2) (dE p):=by rw[fH];exact Rq.new _ _ _ _ _ _ _
         obtain⟨x0,x1,x2,x3,x4,x5⟩:=RQ.facts;have hP2:=(SI.o.r6.below hb).below wM;have hb2:=(SI.o.1.trans (hb.mono SI.o.1.size)).trans (wM.mono (dW SI.o.1.size hb.size));obtain⟨⟨y0,r0⟩,f0⟩:=hP2.room (i*6) ae;obtain⟨⟨y1,r1⟩,f1⟩:=hP2.room (i*6+1) ae;obtain⟨⟨y2,r2⟩,f2⟩:=hP2.room (i*6+2) ae;obtain⟨⟨y3,r3⟩,f3⟩:=hP2.room (i*6+3) ae;obtain⟨⟨y4,r4⟩,f4⟩:=hP2.room (i*6+4) ae;obtain⟨⟨y5,r5⟩,f5⟩:=hP2.room (i*6+5) ae;obtain⟨W',hW'⟩:∃ W',W'=RV U2 gO (i*6) (.bool (dN o)) (.slice p1 (ws (dX o)).length q1) (.int .i64 (dE o)) (.bool (dN p)) (.slice p2 (ws (dX p)).length q2) (.int .i64 (dE p)):=⟨_,rfl⟩
         have S3:Aside (Below w.heap.size w W'/\(∀ j,j<i+1->((mkS (I j).n (I j).X (I j).e).isSome&&(mkS (I j).m (I j).Y (I j).f).isSome)=true)/\∃ V,mX w.heap.size W' gO 1 (i+1) I V):=by
          obtain⟨_,hbef,hI,ho,hp,hi,_⟩:=SI.o;refine⟨?_,?_,?_⟩
          · rw[hW'];exact But.below hb2 (qJ _ _ _ _ _ _ _ _ _) hb2.size hP2.own
          · intro j hj
            by_cases e:j=i
            · subst e;rw[hI];simp only;rw[ho,hp,hok]
            · exact hbef j ae
          · have hsz:=SI.o.1.size;have:=hP2.step hi (.slice p1 (ws (dX o)).length q1) (.slice p2 (ws (dX p)).length q2) (by rw[hI];simp only;rw[ho];exact(hN.below wM).mono hsz) (by rw[hI];simp only;rw[hp];exact(hM2.below wM).mono hsz);rw[hI] at this;simp only at this;rw[ho,hp,<-hW'] at this;exact this
         have neq:u1.heap.size≠gO:=by have:=(SI.o.r6.below hb).lt;omega
         clear h1 h2 hb hN hM2 wM RQ hP2 hb2 SI
         go_upto_region 12 with fail
         rw[<-fH];clear fH;go_wp2_with fail;unfold RV at hW';go_roundg (1-(i+1))
         case measure=>omega
         case rel =>
          refine⟨i+1,ae,by go_num,?_⟩
          first | rw[<-hW'] | (rw[hW'] at S3)
          exact S3
     · obtain rfl:i=1:=ae
       obtain⟨aB,hbef,V,hP⟩:=HR.o;have hO:=hP.o;have S2:=(dC aB hbef hO);have hi0:wr=wr:=rfl;clear HR aB hbef hP hO hi hgi
       go_upto_region 17 with fail
       go_loopg [49] 1 (fun gk iv wr=>∃ i:Nat,gk+i=1/\iv=.int .i64 (i:Nat)/\Aside (Below w.heap.size w wr/\(∀ j,j<i->decide (dX (mkS (I j).m (I j).Y (I j).f)=0)=false)/\OC w.heap.size wr gO 1 I V))
       case atStart=>exact⟨0,ae,rfl,S2.o.1,fun j hj=>by omega,S2.o.r2⟩
       case round =>
        obtain⟨i,hgi,rfl,HR⟩:=hrel;have SS2:=aA S2.o.2.1;clear S2
        by_cases hi:i<1
        · obtain⟨aB,hbef,hO⟩:=HR.o;obtain⟨g0,g1,g2,g3,g4,g5⟩:=hO.row.facts i hi;obtain⟨A1,A2⟩:=hO.nts i hi;have lo1:=aR (I i).n (I i).X (I i).e;have lo2:=aR (I i).m (I i).Y (I i).f;unfold xm at g0 g1 g2 g3 g4 g5;simp only at g0 g1 g2 g3 g4 g5;obtain⟨o,ho⟩:∃ o,mkS (I i).n (I i).X (I i).e=o:=⟨_,rfl⟩;obtain⟨p,hp⟩:∃ p,mkS (I i).m (I i).Y (I i).f=p:=⟨_,rfl⟩;rw[ho] at g0 g2 A1 lo1;rw[hp] at g3 g5 A2 lo2;obtain⟨v1,hv1⟩:∃ v1,(V i).1=v1:=⟨_,rfl⟩;obtain⟨v2,hv2⟩:∃ v2,(V i).2=v2:=⟨_,rfl⟩;rw[hv1] at g1 A1;rw[hv2] at g4 A2;obtain⟨p1,q1,rfl,_⟩:=A1.arg ae;obtain⟨p2,q2,rfl,_⟩:=A2.arg ae;obtain⟨U,hU⟩:=ah (wr.alloc (.cells #[.bool (dN o),.slice p1 (ws (dX o)).length q1,.int .i64 (dE o),.bool (dN p),.slice p2 (ws (dX p)).length q2,.int .i64 (dE p)] 58));have wM:Below wr.heap.size wr U:=by rw[hU];exact af _ _
          have RQ:Rq U wr.heap.size (dN o) (.slice p1 (ws (dX o)).length q1) (dE o) (dN p) (.slice p2 (ws (dX p)).length q2) (dE p):=by rw[hU];exact Rq.new _ _ _ _ _ _ _
          obtain⟨x0,x1,x2,x3,x4,x5⟩:=RQ.facts;have HC:=hid (sgnD (n:=dN p) (e:=dE p) ((A2.below wM).av ae));obtain⟨s,hs⟩:∃ s,xg (dN p) (dX p)=s:=⟨_,rfl⟩;rw[hs] at HC;have SI:=(jJ (aB.trans (wM.mono aB.size)) hbef hp hs hi (hO.below wM));clear wM RQ A1 A2 HR ho hp hv1 hv2 hs aB hbef hO;have hli:(i:Int)<1:=ae
          have hl0:(0:Int)<=(i:Int):=ae
          go_upto_region 19 with fail
          rw[<-hU];clear hU g0 g1 g2 g3 g4 g5;go_wp2_with fail;clear x0 x1 x2 x3 x4 x5;refine HC.o.mono ?_;rintro r u1 ⟨rfl,hb⟩;have S2:=(aP (SI.o.1.trans (hb.mono SI.o.1.size)) (SI.o.r5.below hb));clear hb HC
          by_cases hz:s=0
          · have hn:(s==0)=true:=by simp[hz]
            have hsz:=SI;clear SI;go_wp2_with fail
            go_ret2
            obtain⟨_,hbef,hp,hs,hi,_⟩:=hsz.o
            have hE:j6 I 1=21:=by
             unfold j6;rw[vI (p:=fun i=>decide (xg (I i).m (I i).Y<0)) SS.o,if_neg uK,vI (p:=fun i=>!((mkS (I i).n (I i).X (I i).e).isSome&&(mkS (I i).m (I i).Y (I i).f).isSome)) (fun j hj=>by rw[SS2.o j hj];rfl),if_neg uK,if_pos (Jm hi (by simp only[hp];exact decide_eq_true (Cc.1 (hs.trans hz))))]
            rw[hE];exact⟨.inl ⟨aj,rfl⟩,S2.o.1⟩
          · have hn:(s==0)=false:=by simp[hz]
            go_wp2_with fail;go_roundg (1-(i+1))
            case measure=>omega
            case rel =>
             obtain⟨_,hbef,hp,hs,hi,_⟩:=SI.o;refine⟨i+1,ae,by go_num,S2.o.1,fun j hj=>?_,S2.o.2⟩
             by_cases hji:j=i
             · subst hji;rw[hp];exact decide_eq_false (fun h0=>hz (hs.symm.trans (Cc.2 h0)))
             · exact hbef j ae
        · obtain rfl:i=1:=ae
          have S3:=HR;clear HR hi hgi;go_wp2_with fail
          go_ret2
          have hE:j6 I 1=0:=by
           unfold j6;rw[vI (p:=fun i=>decide (xg (I i).m (I i).Y<0)) SS.o,if_neg uK,vI (p:=fun i=>!((mkS (I i).n (I i).X (I i).e).isSome&&(mkS (I i).m (I i).Y (I i).f).isSome)) (fun j hj=>by rw[SS2.o j hj];rfl),if_neg uK,vI (p:=fun i=>decide (dX (mkS (I i).m (I i).Y (I i).f)=0)) S3.o.2.1,if_neg uK]
          exact⟨.inr ⟨hE,gO,V,rfl,S3.o.r2⟩,S3.o.1⟩
theorem F7{I:Nat->Ri}{k:Nat}(h:j6 I k=0)(i:Nat)(hi:i<k):¬ xg (I i).m (I i).Y<0/\(mkS (I i).n (I i).X (I i).e).isSome=true/\(mkS (I i).m (I i).Y (I i).f).isSome=true/\dX (mkS (I i).m (I i).Y (I i).f)≠0:=by
 unfold j6 at h
 split at h
 · omega
 · rename_i h1
   split at h
   · omega
   · rename_i h2
     split at h
     · omega
     · rename_i h3;simp only[Bool.not_eq_true,List.any_eq_false,ql] at h1 h2 h3;have k1:=h1 i hi;have k2:=h2 i hi;have k3:=h3 i hi;simp at k1 k2 k3;exact⟨ae,k2.1,k2.2,k3⟩
theorem zB{n:Bool}{X:Nat}{e:Int}{o:Option (Bool×Nat×Int)}(h:mkS n X e=o)(hs:o.isSome=true):mkS (dN o) (dX o) (dE o)=o:=by
 cases o with
 | none=>cases hs
 | some d =>
   obtain⟨n1,X1,e1⟩:=d;exact(cK h).self
theorem KO{n:Bool}{X:Nat}{e:Int}{o:Option (Bool×Nat×Int)}(h:mkS n X e=o):-1048576<=dE o/\dE o<=1048576:=by
 cases o with
 | none=>exact⟨aj,aj⟩
 | some d =>
   obtain⟨n1,X1,e1⟩:=d;have:=cK h;exact⟨this.down,this.up⟩
structure Rv (w:World) (r:Ri):Prop where
 num:Av w r.v r.X
 den:Av w r.u r.Y
 be:-9223372036854775808<=r.e/\r.e<=9223372036854775807
 bf:-9223372036854775808<=r.f/\r.f<=9223372036854775807
theorem Rv.below{w w':World}{r:Ri}(h:Rv w r)(hb:Below w.heap.size w w'):Rv w' r:=⟨h.num.below hb,h.den.below hb,h.be,h.bf⟩
theorem rin1(W:World)(r:Ri)(hr:Rv W r)(hT:dU W)(R:World)(hR:R=W.alloc (.cells #[.bool r.n,r.v,.int .i64 r.e,.bool r.m,r.u,.int .i64 r.f] 58)):RIn R W.heap.size 1 (fun _=>r):=by
 have hb:Below W.heap.size W R:=by rw[hR];exact af _ _
 refine⟨⟨_,by rw[hR];exact gY _ _,?_⟩,fun i hi=>⟨hr.num.below hb,hr.den.below hb⟩,fun i hi=>⟨hr.be.1,hr.be.2,hr.bf.1,hr.bf.2⟩,hT.belows hb⟩;intro i hi;obtain rfl:i=0:=ae
 simp
end
end Go.Proofs.YtfmfhehbdfhnbaaGreatDoor
