import Derived.Test.YtaejmlkaefnbhaaGreatDoorPR1x
import Derived.Test.YtaejmlkaefnbhaaGreatDoorZ7x
import Derived.Deep.RegionHeld3
import Derived.Test.YtaejmlkaefnbhaaGreatDoorD30x
import Derived.Test.YtaejmlkaefnbhaaGreatDoorBW6x
import Derived.Test.YtaejmlkaefnbhaaGreatDoorS11ax
import Derived.BigQuiet
import Derived.Deep.LoopGhost
import Derived.Test.YtaejmlkaefnbhaaGreatDoorM1x
import Derived.RangeFuncNested
import Derived.RangeFuncBound
import Derived.RangeFuncCalls
import Derived.RangeFuncLeaves
import Derived.RangeFuncBox
import Derived.Shelf.Abstract
import Derived.Shelf.RegionOpen
import Derived.WalkKit
import Derived.OwnWalkIn
import Derived.TacticsInMore
import Derived.LoopNIn
import Derived.LoopIn
import Derived.Test.YtaejmlkaefnbhaaGreatDoorD21x
import Derived.Test.YtaejmlkaefnbhaaGreatDoorD16x
import Derived.Test.YtaejmlkaefnbhaaGreatDoorX2x
import Derived.Test.YtaejmlkaefnbhaaGreatDoorW24x
import Derived.Deep.CutRange
import Derived.Deep.Cut
set_option linter.unusedVariables false
set_option linter.unusedSimpArgs false
set_option maxHeartbeats 16000000
set_option maxRecDepth 20000
namespace Go.Proofs.YtaejmlkaefnbhaaGreatDoor
namespace J
end J
section
open Go Go.RowKit J
theorem Xc(x:Nat)(hx:x<18446744073709551616)(w:World):Calls Tryz.prog 41 #[.int .u64 (x:Nat),.int .i64 1] w fun r w'=>r=.returned (.slice (some ⟨w.heap.size,0,none⟩) 1 1)/\By w' w.heap.size (aR x 1)/\Below w.heap.size w w':=Mt x 1 hx aA w
theorem MB(x:Nat)(hx:x<18446744073709551616)(w:World):Calls Tryz.prog 41 #[.int .u64 (x:Nat),.int .i64 2] w fun r w'=>r=.returned (.slice (some ⟨w.heap.size,0,none⟩) 2 2)/\By w' w.heap.size (aR x 2)/\Below w.heap.size w w':=Mt x 2 hx aA w
theorem MC(x:Nat)(hx:x<18446744073709551616)(w:World):Calls Tryz.prog 41 #[.int .u64 (x:Nat),.int .i64 4] w fun r w'=>r=.returned (.slice (some ⟨w.heap.size,0,none⟩) 4 4)/\By w' w.heap.size (aR x 4)/\Below w.heap.size w w':=Mt x 4 hx aA w
theorem lZ(x:Nat)(hx:x<18446744073709551616)(w:World):Calls Tryz.prog 41 #[.int .u64 (x:Nat),.int .i64 8] w fun r w'=>r=.returned (.slice (some ⟨w.heap.size,0,none⟩) 8 8)/\By w' w.heap.size (aR x 8)/\Below w.heap.size w w':=Mt x 8 hx aA w
def Kc(n:Bool)(X E:Nat):List (List Nat):=[aR n.toNat 1,aR E 2,aR (ws X).length 2]++(ws X).map (fun y=>aR y 4)
theorem ME(n:Bool)(X E:Nat):(Kc n X E).length=3+(ws X).length:=by unfold Kc;simp;omega
theorem TH(n:Bool)(X E:Nat):∀ k,k<(Kc n X E).length->0<((Kc n X E).getD k []).length:=by
 intro k hk
 have h:∀ L ∈ Kc n X E,0<L.length:=by
  intro L hL;unfold Kc at hL;rcases fA.1 hL with h|h
  · simp at h;rcases h with rfl | rfl | rfl <;> (rw[aN];decide)
  · obtain⟨y,_,rfl⟩:=kW.1 h;rw[aN];decide
 exact Qbe
def qJ(n:Bool)(X E:Nat):List Nat:=(Kc n X E).flatten
theorem YN(L:List Nat):((L.map fun y=>aR y 4).flatten).length=4*L.length:=by
 induction L with
 | nil=>rfl
 | cons y L ih=>simp[aN,ih];omega
theorem nE(n:Bool)(X E:Nat):(qJ n X E).length=5+4*(ws X).length:=by
 unfold qJ Kc;rw[Ck,kv,YN];simp[aN]
theorem xd{P:Prop}(h:P:=by
 have Ea:=au HK.o.2;clear iL hk HK hfin hpt d1;go_wp2_with fail;refine hjn.o.mono ?_;rintro r u ⟨rfl,hy,hb⟩;have HL:=(bM Ea.o.size hy (Ea.o.trans (hb.mono Ea.o.size)));clear hy hb hjn Ea;go_wp2;go_ret;exact⟨wr.heap.size,rfl,HL.o.1,HL.o.2.1,HL.o.r2⟩):P:=h
theorem Kd{P:Prop}(h:P:=by
 have hd:decide ((k:Int)<l)=true:=by simp;omega
 have hkx:k<(ws X).length:=by have:=HA.o.r3.1;omega
 obtain⟨bb,off,hlt,rfl,hc⟩:=HRD.o.below HK.o.2 (by intro e;rw[e] at hkx;simp at hkx);have hck:=hc k hkx
 have hyl:(ws X).getD k 0<4294967296:=by
  rw[aS,aY hkx];exact fP X _ (iw hkx)
 have hsn:(ws X).take (k+1)=(ws X).take k++[(ws X).getD k 0]:=by rw[vo,aY hkx,aS,aY hkx];rfl
 obtain⟨y,hy⟩:=ah ((ws X).getD k 0);rw[<-hy] at hck hyl hsn;have wy:IntKind.u64.wrap (y:Int)=(y:Int):=by simp[IntKind.wrap,IntKind.bits,IntKind.signed];omega
 have L4:=hid (MC y af wr);have HZ:=(mh iL hk hkx hsn);clear hc hlt hy hyl hkx hsn iL d1;go_wp2_with fail;refine L4.o.mono ?_;rintro r u ⟨rfl,hy1,hb⟩;have hbw:Below w.heap.size w u:=HK.o.2.trans (hb.mono HK.o.2.size);have hB:=Bl.new u 35 [.slice (some ⟨wr.heap.size,0,none⟩) 4 4];have hz:=ak u (Obj.cells #[.slice (some ⟨wr.heap.size,0,none⟩) 4 4] 35)
 obtain⟨v',w',hrun,hP,hbl,_,_⟩:=gB.more (gw:=u.heap.size) (cnt:=1) (NN:=[aR y 4]) ((HK.o.1.below hb).below hz) hB rfl rfl aL (by have:=hbw.size;simp;omega) (by have:=HA.o.r3.1;simp;omega) (by
  intro i hi
  match i,hi with
  | 0,_=>exact⟨wr.heap.size,by simp[aN],hy1.below hz hy1.lt⟩)
 have jN:=au hrun;have rF:=(aT hP ((hbw.trans (hz.mono hbw.size)).trans hbl));clear hy1 hb hbw hB hz hP hbl L4 hrun
 go_wp2_with (at_builtin;refine cZ rfl (.tmp 29) (.tmp 33) rfl _ _ rfl rfl _ _ jN.o ?_)
 go_wp2;go_roundg (gk-1)
 case measure=>have:=HZ.o.1;have:=HZ.o.2.1;omega
 case rel =>
  refine⟨k+1,v',by have:=HZ.o.1;have:=HZ.o.2.1;omega,rfl,aL,au ⟨?_,rF.o.2⟩⟩;have:=rF.o.1;rw[HZ.o.r3,uV,<-nX];exact this):P:=h
theorem Jx{P:Prop}(h:P:=by
 go_region_held3 (fun w'=>w'.cell? ⟨w.heap.size,1,none⟩=some (.slice a l c)/\w'.cell? ⟨w.heap.size,2,none⟩=some (.int .i64 e)) (first | with_reducible exact kS.o | with_reducible exact kA.o _) (first
  | (go_at_call 41
     with_reducible refine C1.o.mono ?_
     rintro r u1 ⟨rfl,hy1,hb⟩;have G1:Aside (w.heap.size<=W.drew.heap.size/\By u1 W.drew.heap.size (aR b 1)/\Below w.heap.size w u1):=au ⟨H0.o.size,hy1,H0.o.trans (hb.mono H0.o.size)⟩;have kS:Aside (u1.cell? ⟨w.heap.size,1,none⟩=some (.slice a l c)/\u1.cell? ⟨w.heap.size,2,none⟩=some (.int .i64 e)):=au ⟨(hb.cell (p:=⟨w.heap.size,1,none⟩) (iH _ _ kS.o.1)).trans kS.o.1,(hb.cell (p:=⟨w.heap.size,2,none⟩) (iH _ _ kS.o.2)).trans kS.o.2⟩;have C2:=hid (L2.o u1)
     clear hy1 hb C1)
  | (go_at_call 41
     with_reducible refine C2.o.mono ?_
     rintro r u2 ⟨rfl,hy1,hb⟩;have G2:Aside (w.heap.size<=u1.heap.size/\By u2 u1.heap.size (aR E 2)/\By u2 W.drew.heap.size (aR b 1)/\Below w.heap.size w u2):=au ⟨G1.o.r2.size,hy1,G1.o.2.1.below hb G1.o.2.1.lt,G1.o.r2.trans (hb.mono G1.o.r2.size)⟩;have kS:Aside (u2.cell? ⟨w.heap.size,1,none⟩=some (.slice a l c)/\u2.cell? ⟨w.heap.size,2,none⟩=some (.int .i64 e)):=au ⟨(hb.cell (p:=⟨w.heap.size,1,none⟩) (iH _ _ kS.o.1)).trans kS.o.1,(hb.cell (p:=⟨w.heap.size,2,none⟩) (iH _ _ kS.o.2)).trans kS.o.2⟩;have C3:=hid (L3.o u2)
     clear hy1 hb C2)
  | (go_at_call 41
     with_reducible refine C3.o.mono ?_
     rintro r u3 ⟨rfl,hy1,hb⟩;have G3:Aside (By u3 u2.heap.size (aR l 2)/\By u3 u1.heap.size (aR E 2)/\By u3 W.drew.heap.size (aR b 1)/\Below w.heap.size w u3):=au ⟨hy1,G2.o.2.1.below hb G2.o.2.1.lt,G2.o.r2.1.below hb G2.o.r2.1.lt,G2.o.r3.trans (hb.mono G2.o.r3.size)⟩;have kS:Aside (u3.cell? ⟨w.heap.size,1,none⟩=some (.slice a l c)/\u3.cell? ⟨w.heap.size,2,none⟩=some (.int .i64 e)):=au ⟨(hb.cell (p:=⟨w.heap.size,1,none⟩) (iH _ _ kS.o.1)).trans kS.o.1,(hb.cell (p:=⟨w.heap.size,2,none⟩) (iH _ _ kS.o.2)).trans kS.o.2⟩;have kA:Aside (∀ ob:Obj,(u3.alloc ob).cell? ⟨w.heap.size,1,none⟩=some (.slice a l c)/\(u3.alloc ob).cell? ⟨w.heap.size,2,none⟩=some (.int .i64 e)):=au fun ob=>⟨((ak u3 ob).cell (p:=⟨w.heap.size,1,none⟩) (iH _ _ kS.o.1)).trans kS.o.1,((ak u3 ob).cell (p:=⟨w.heap.size,2,none⟩) (iH _ _ kS.o.2)).trans kS.o.2⟩
     clear hy1 hb C3))
 all_goals
  go_wp2_with fail
  go_meet
  case rel =>
   have hB:=Bl.new u3 35 [.slice (some ⟨W.heap.size,0,none⟩) 1 1,.slice (some ⟨u1.heap.size,0,none⟩) 2 2,.slice (some ⟨u2.heap.size,0,none⟩) 2 2];have hz:=ak u3 (Obj.cells #[.slice (some ⟨W.heap.size,0,none⟩) 1 1,.slice (some ⟨u1.heap.size,0,none⟩) 2 2,.slice (some ⟨u2.heap.size,0,none⟩) 2 2] 35);refine⟨u3.heap.size,rfl,au ⟨G3.o.r3.size,gB.built hB G3.o.r3.size rfl aL ?_,G3.o.r3.trans (hz.mono G3.o.r3.size),(kA.o _).1⟩⟩;intro i hi
   match i,hi with
   | 0,_=>exact⟨W.heap.size,by simp[aN],G3.o.r2.1.below hz G3.o.r2.1.lt⟩
   | 1,_=>exact⟨u1.heap.size,by simp[aN],G3.o.2.1.below hz G3.o.2.1.lt⟩
   | 2,_=>exact⟨u2.heap.size,by simp[aN],G3.o.1.below hz G3.o.1.lt⟩):P:=h
theorem Bw(n:Bool)(X E:Nat)(e:Int)(a:Option Addr)(c l:Nat)(w:World)(hN:Nt 0 w (.slice a l c) X)(hl:l=(ws X).length)(hlb:l<=65535)(he:e+4096=(E:Int))(hE:E<=65535)(N:Nat)(hNN:N=5+4*l) :
 Calls Tryz.prog 42 #[.agg #[.bool n,.slice a l c,.int .i64 e]] w fun r w'=>∃ g,r=.returned (.slice (some ⟨g,0,none⟩) N N)/\w.heap.size<=g/\By w' g (qJ n X E)/\Below w.heap.size w w':=by
 obtain⟨W,hW⟩:=ah (w.alloc (Obj.cells #[.bool n,.slice a l c,.int .i64 e] 77));have hb0:Below w.heap.size w W:=by rw[hW];exact ak _ _
 have hBl:Bl W w.heap.size 77 [.bool n,.slice a l c,.int .i64 e]:=by rw[hW];exact Bl.new _ _ [_,_,_]
 have HA:=rG hb0 hBl (hN.below hb0) hl hE hNN;have w1:IntKind.i64.wrap (e+4096)=(E:Int):=by rw[<-he];simp[IntKind.wrap,IntKind.bits,IntKind.signed];omega
 have w2:IntKind.u64.wrap (E:Int)=(E:Int):=by simp[IntKind.wrap,IntKind.bits,IntKind.signed];omega
 have w3:IntKind.u64.wrap (l:Int)=(l:Int):=by simp[IntKind.wrap,IntKind.bits,IntKind.signed];omega
 have c0:=hBl.cell 0 _ rfl;have c1:=hBl.cell 1 _ rfl;have c2:=hBl.cell 2 _ rfl;have HW:=au hW;have L1:=hid (fun u:World=>Xc n.toNat (by cases n <;> decide) u);have L2:=hid (fun u:World=>MB E af u);have L3:=hid (fun u:World=>MB l af u);obtain⟨a',c',hsl,_,_,hR⟩:=hN.shape;injection hsl with hs1 hs2 hs3
 subst hs1;have HRD:=au hR;obtain⟨b,hbn⟩:∃ b:Nat,b=n.toNat:=⟨_,rfl⟩;rw[<-hbn] at L1;have hbv:(if n=true then(1:Int) else 0)=(b:Int):=by rw[hbn];cases n <;> rfl
 have HBN:=au hbn;obtain⟨gd,hgd⟩:=ah (w.heap.size);have HGD:=au hgd;clear hW hb0 hBl hN hE he hNN hl hs2 hs3 hR hgd;have kS:=aT c1 c2
 cases n
 case false =>
  rw[show(b:Int)=_ from hbv.symm] at L1
  first | rw[if_neg aA] at L1 | rw[if_pos rfl] at L1
  clear hbv;go_enter Tryz.func42,Tryz.ntmps42
  go_upto_region 1 with fail
  rw[<-HW.o]
  go_upto_region 4 with fail
  have H0:Aside (Below w.heap.size w W.drew):=HA.o.1.drew;have kS:Aside (W.drew.cell? ⟨w.heap.size,1,none⟩=some (.slice a l c)/\W.drew.cell? ⟨w.heap.size,2,none⟩=some (.int .i64 e)):=kS.o;have C1:=hid (L1.o W.drew);clear c0 c1 c2 L1
  go_cut [4] from 9 to 21 (fun pv wx=>∃ (gb:Nat),pv=.slice (some ⟨gb,0,none⟩) 3 3/\Aside (w.heap.size<=gb/\gB w.heap.size wx pv [aR b 1,aR E 2,aR l 2]/\Below w.heap.size w wx/\wx.cell? ⟨w.heap.size,1,none⟩=some (.slice a l c)))
  case first =>
   exact Jx
  obtain⟨gb,rfl,HC⟩:=hcut;have d1:=HC.o.r3;clear kS H0 C1 L2 L3;go_wp2
  go_loopg [4,25] l (fun gk sv iv wr=>∃ (k:Nat) (v:Value),gk+k=l/\sv=v/\iv=.int .i64 (k:Nat)/\Aside (gB w.heap.size wr v ([aR b 1,aR E 2,aR l 2]++((ws X).take k).map (fun y=>aR y 4))/\Below w.heap.size w wr))
  case atStart=>exact⟨0,_,af,rfl,aL,by simpa using HC.o.2.1,HC.o.r2.1⟩
  case round =>
   obtain⟨k,v,iL,rfl,rfl,HK⟩:=hrel
   by_cases hk:k<l
   · exact Kd
   · obtain rfl:l=k:=af
     have hd:decide ((l:Int)<l)=false:=by simp
     have hfin:=HK.o.1;rw[jc (by have:=HA.o.r3.1;omega),HBN.o] at hfin;have hll:=HA.o.r3.1;have hlw:aR l 2=aR (ws X).length 2:=by rw[hll]
     rw[hlw] at hfin;change gB w.heap.size wr _ (Kc false X E) at hfin;clear hll hlw;obtain⟨pa,pc,rfl,hpt⟩:=hfin.pts;have hjn:=hid (sM (Kc false X E) pa (Kc false X E).length pc N wr rfl hpt (TH false X E) (by have:=nE false X E;unfold qJ at this;rw[this];have:=HA.o.r3;omega) (by have:=HA.o.r3;omega) (by rw[ME];have:=HA.o.r3;omega));exact xd
 case true =>
  rw[show(b:Int)=_ from hbv.symm] at L1
  first | rw[if_neg aA] at L1 | rw[if_pos rfl] at L1
  clear hbv;go_enter Tryz.func42,Tryz.ntmps42
  go_upto_region 1 with fail
  rw[<-HW.o]
  go_upto_region 4 with fail
  have H0:Aside (Below w.heap.size w W.drew):=HA.o.1.drew;have kS:Aside (W.drew.cell? ⟨w.heap.size,1,none⟩=some (.slice a l c)/\W.drew.cell? ⟨w.heap.size,2,none⟩=some (.int .i64 e)):=kS.o;have C1:=hid (L1.o W.drew);clear c0 c1 c2 L1
  go_cut [4] from 9 to 21 (fun pv wx=>∃ (gb:Nat),pv=.slice (some ⟨gb,0,none⟩) 3 3/\Aside (w.heap.size<=gb/\gB w.heap.size wx pv [aR b 1,aR E 2,aR l 2]/\Below w.heap.size w wx/\wx.cell? ⟨w.heap.size,1,none⟩=some (.slice a l c)))
  case first =>
   exact Jx
  obtain⟨gb,rfl,HC⟩:=hcut;have d1:=HC.o.r3;clear kS H0 C1 L2 L3;go_wp2
  go_loopg [4,25] l (fun gk sv iv wr=>∃ (k:Nat) (v:Value),gk+k=l/\sv=v/\iv=.int .i64 (k:Nat)/\Aside (gB w.heap.size wr v ([aR b 1,aR E 2,aR l 2]++((ws X).take k).map (fun y=>aR y 4))/\Below w.heap.size w wr))
  case atStart=>exact⟨0,_,af,rfl,aL,by simpa using HC.o.2.1,HC.o.r2.1⟩
  case round =>
   obtain⟨k,v,iL,rfl,rfl,HK⟩:=hrel
   by_cases hk:k<l
   · exact Kd
   · obtain rfl:l=k:=af
     have hd:decide ((l:Int)<l)=false:=by simp
     have hfin:=HK.o.1;rw[jc (by have:=HA.o.r3.1;omega),HBN.o] at hfin;have hll:=HA.o.r3.1;have hlw:aR l 2=aR (ws X).length 2:=by rw[hll]
     rw[hlw] at hfin;change gB w.heap.size wr _ (Kc true X E) at hfin;clear hll hlw;obtain⟨pa,pc,rfl,hpt⟩:=hfin.pts;have hjn:=hid (sM (Kc true X E) pa (Kc true X E).length pc N wr rfl hpt (TH true X E) (by have:=nE true X E;unfold qJ at this;rw[this];have:=HA.o.r3;omega) (by have:=HA.o.r3;omega) (by rw[ME];have:=HA.o.r3;omega));exact xd
theorem cutA21(w:World)(g B:Nat)(ao:Option Addr)(L:List Nat)(c n:Nat)(am:Bool)(h:gQ w g ao L c am)(hF:dO B w ao L)(hn:n<=L.length)(hg:B<=g)(hB:B<=w.heap.size) :
 Calls Tryz.prog 178 #[.pointer (some ⟨g,0,none⟩),.int .i64 (n:Nat)] w fun r w'=>r=.returned (.slice ao n n)/\dO B w' ao (L.take n)/\(∃ jq c',gQ w' g jq (L.drop n) c' am/\dO B w' jq (L.drop n))/\But g w w':=by
 by_cases h0:n=0
 · subst h0;refine dI (show Calls Tryz.prog 178 #[.pointer (some ⟨g,0,none⟩),.int .i64 ((0:Nat):Int)] w _ from Mw w g ao L c am h) ?_;rintro r w' ⟨hr,h1,hb⟩;exact⟨hr,dO.nil _ _ _,⟨ao,c,by rw[List.drop_zero];exact h1,by rw[List.drop_zero];exact hF.but hb hB hg⟩,hb⟩
 · refine(YL w g B ao L c n am h hF hn af).mono ?_;rintro r w' ⟨⟨jq,hr,h1,h2⟩,hb⟩;obtain⟨q1,q2⟩:=h2 hg hB;exact⟨hr,q2,⟨jq,_,h1,q1⟩,hb⟩
theorem MF{xs:List Nat}{b:Nat}(h:b ∈ (xs.map fun y=>aR y 4).flatten):b<256:=by
 obtain⟨l,hl,hb⟩:=List.mem_flatten.1 h;obtain⟨y,_,rfl⟩:=kW.1 hl;exact gM hb
theorem Bz(n:Bool)(X E:Nat)(rest:List Nat):qJ n X E++rest=aR n.toNat 1++(aR E 2++(aR (ws X).length 2++(((ws X).map fun y=>aR y 4).flatten++rest))):=by
 unfold qJ Kc;simp
theorem TI{n:Bool}{X E b:Nat}(h:b ∈ qJ n X E):b<256:=by
 have:=Bz n X E [];rw[qB,qB] at this;rw[this] at h;rcases fA.1 h with h|h
 · exact gM h
 · rcases fA.1 h with h | h
   · exact gM h
   · rcases fA.1 h with h | h
     · exact gM h
     · exact MF h
theorem TJ (w:World) (g B:Nat) (ao:Option Addr) (c:Nat) (n:Bool) (X E:Nat) (rest:List Nat) (h:gQ w g ao (qJ n X E++rest) c false) (hF:dO B w ao (qJ n X E++rest)) (hg:B<=g) (hB:B<=w.heap.size) (hrb:∀ b ∈ rest,b<256)
 (hE:E<=65535) (hl:(ws X).length<=65535) (hf:(X=0/\n=false/\E=4096)\/X%2=1) :
 Calls Tryz.prog 103 #[.pointer (some ⟨g,0,none⟩)] w fun r w'=>(∃ a c',r=.returned (.agg #[.bool n,.slice a (ws X).length c',.int .i64 ((E:Int)-4096)])/\Nt 0 w' (.slice a (ws X).length c') X)/\(∃ jq c',gQ w' g jq rest c' false/\dO B w' jq rest)/\But g w w':=by
 have hgl:g<w.heap.size:=h.1.lt;obtain⟨W,hW⟩:=ah (w.alloc (Obj.cells #[.bool false,.slice none 0 0,.int .i64 0] 77));have hb0:Below w.heap.size w W:=by rw[hW];exact ak _ _
 have hZ:Bl W w.heap.size 77 [.bool false,.slice none 0 0,.int .i64 0]:=by rw[hW];exact Bl.new _ _ [_,_,_]
 obtain⟨l,hll⟩:=ah ((ws X).length);rw[Bz] at h hF;rw[<-hll] at h hF hl |-;obtain⟨FL,hFL⟩:=ah (((ws X).map fun y=>aR y 4).flatten);rw[<-hFL] at h hF;have hFLl:FL.length=4*l:=by rw[hFL,YN,hll]
 have hFLw:wB l FL=ws X:=by
  have:=Mx (ws X) [] (fP X);rw[qB,<-hFL,<-hll] at this;exact this
 have hFb:∀ b ∈ FL,b<256:=fun b hb=>MF (by rw[<-hFL];exact hb);have r4:∀ b ∈ FL++rest,b<256:=fun b hb=>by rcases fA.1 hb with q | q;exact hFb b q;exact hrb b q
 have r3:∀ b ∈ aR l 2++(FL++rest),b<256:=fun b hb=>by rcases fA.1 hb with q | q;exact gM q;exact r4 b q
 have r2:∀ b ∈ aR E 2++(aR l 2++(FL++rest)),b<256:=fun b hb=>by rcases fA.1 hb with q | q;exact gM q;exact r3 b q
 have r1:∀ b ∈ aR n.toNat 1++(aR E 2++(aR l 2++(FL++rest))),b<256:=fun b hb=>by rcases fA.1 hb with q | q;exact gM q;exact r2 b q
 have HX:=(rG hB hg hgl hFLl hFLw hFb);have HZ:=(mh hll hE hl hf);have HR:=(mh r2 r3 r4 hrb);have hBW:B<=W.heap.size:=aV hB hb0.size;have t1:((aR n.toNat 1++(aR E 2++(aR l 2++(FL++rest)))).take 1)=aR n.toNat 1:=rQ (aN _ 1);have C1:=hid (show Calls Tryz.prog 175 #[.pointer (some ⟨g,0,none⟩),.int .u64 1,.int .i64 1] W _ from TC W g B ao _ c 1 1 n.toNat false ⟨h.1.below hb0 hgl,h.2⟩ (hF.below (hb0.mono hB)) (by simp[aN]) aA aA hg hBW r1 (by rw[t1];exact lC 1 _ (by cases n <;> decide)) (by cases n <;> decide) (by cases n <;> decide));rw[rP (aN _ 1)] at C1;have HW:=au hW;have H0:=(aT hb0 hZ);have hwx:IntKind.i64.wrap (E:Int)=(E:Int):=by simp[IntKind.wrap,IntKind.bits,IntKind.signed];omega
 have hwy:IntKind.i64.wrap ((E:Int)-4096)=(E:Int)-4096:=by simp[IntKind.wrap,IntKind.bits,IntKind.signed];omega
 have hwl:IntKind.i64.wrap (l:Int)=(l:Int):=by simp[IntKind.wrap,IntKind.bits,IntKind.signed];omega
 have hw4:IntKind.i64.wrap (4*(l:Int))=((4*l:Nat):Int):=by simp[IntKind.wrap,IntKind.bits,IntKind.signed];omega
 have hsg:((n.toNat:Int)==1)=n:=by cases n <;> rfl
 clear h hF hg hB hrb hE hl hf hW hb0 hZ hll hFLl hFLw hFb r1 r2 r3 r4 t1 hFL;go_enter Tryz.func103,Tryz.ntmps103
 go_upto_region 1 with fail
 rw[<-HW.o];clear HW;go_wp2_with fail;refine C1.o.mono ?_;rintro r v1 ⟨rfl,⟨a1,q1,q2⟩,hb⟩;have hB1:B<=v1.heap.size:=aV hBW hb.size;have C2:=hid (show Calls Tryz.prog 176 #[.pointer (some ⟨g,0,none⟩),.int .i64 2] v1 _ from o9 v1 g B a1 _ _ 2 false q1 q2 (by simp[aN]) aA aA HX.o.2.1 hB1 HR.o.1);rw[rQ (aN _ 2),rP (aN _ 2),lC 2 E (by have:=HZ.o.2.1;omega)] at C2;have K1:=(aT hb hB1);clear q1 q2 hb hB1 C1 hBW;go_wp2_with fail;refine C2.o.mono ?_;rintro r v2 ⟨rfl,⟨a2,q1,q2⟩,hb⟩;have hB2:B<=v2.heap.size:=aV K1.o.2 hb.size;have C3:=hid (show Calls Tryz.prog 176 #[.pointer (some ⟨g,0,none⟩),.int .i64 2] v2 _ from o9 v2 g B a2 _ _ 2 false q1 q2 (by simp[aN]) aA aA HX.o.2.1 hB2 HR.o.2.1);rw[rQ (aN _ 2),rP (aN _ 2),lC 2 l (by have:=HZ.o.r2.1;omega)] at C3;have K2:=(aT (K1.o.1.trans hb) hB2);clear q1 q2 hb hB2 C2 K1;go_wp2_with fail;refine C3.o.mono ?_;rintro r v3 ⟨rfl,⟨a3,q1,q2⟩,hb⟩;have hB3:B<=v3.heap.size:=aV K2.o.2 hb.size;have C4:=hid (cutA21 v3 g B a3 (FL++rest) _ (4*l) false q1 q2 (by rw[kv,HX.o.r3.1];omega) HX.o.2.1 hB3);rw[rQ HX.o.r3.1,rP HX.o.r3.1] at C4;have K3:=(aT (K2.o.1.trans hb) hB3);clear q1 q2 hb hB3 C3 K2;go_wp2_with fail;refine C4.o.mono ?_;rintro r v4 ⟨rfl,qp,⟨a4,c4,q1,q2⟩,hb⟩;have hB4:B<=v4.heap.size:=aV K3.o.2 hb.size;have C5:=hid (YM v4 B a3 FL (4*l) l qp hB4 HX.o.r3.1 (aB _) HZ.o.r2.1 HX.o.r5);rw[HX.o.r4.1] at C5;have K4:=(mh (K3.o.1.trans hb) hB4 q1 q2);clear qp q1 q2 hb hB4 C4 K3;go_wp2_with fail;refine C5.o.mono ?_;rintro r v5 ⟨rfl,hO,hb⟩
 have hN:Nt 0 v5 (.slice (some ⟨v4.heap.size,0,none⟩) l l) X:=by
  have:=Nt.gJ hO (jd _) (fP X) (by rw[<-HZ.o.1];have:=HZ.o.r2.1;unfold maxLen;omega);rw[xL,<-HZ.o.1,aC] at this;exact this
 have hg4:g<v4.heap.size:=K4.o.r2.1.1.lt;have K5:Aside (But g W v5/\B<=v5.heap.size/\gQ v5 g a4 rest c4 false/\dO B v5 a4 rest/\Nt 0 v5 (.slice (some ⟨v4.heap.size,0,none⟩) l l) X):=au ⟨K4.o.1.of_below hb,aV K4.o.2.1 hb.size,⟨K4.o.r2.1.1.below hb hg4,K4.o.r2.1.2⟩,K4.o.r3.below (hb.mono K4.o.2.1),hN⟩;clear hO hb hN hg4 C5 K4
 go_upto_region 5 with fail
 obtain⟨V,hV⟩:=ah (v5.alloc (Obj.cells #[.bool n,.slice (some ⟨v4.heap.size,0,none⟩) l l,.int .i64 ((E:Int)-4096)] 77));rw[<-hV];obtain⟨gd,hgd⟩:=ah (v5.heap.size);have zT:Below v5.heap.size v5 V:=by rw[hV];exact ak _ _
 have hBd:Bl V gd 77 [.bool n,.slice (some ⟨v4.heap.size,0,none⟩) l l,.int .i64 ((E:Int)-4096)]:=by rw[hV,hgd];exact Bl.new _ _ [_,_,_]
 have hg5:g<v5.heap.size:=K5.o.r2.1.1.lt;have Ji:w.heap.size<v5.heap.size:=by have:=K5.o.1.size;have:=H0.o.2.lt;omega
 have K6:Aside (But g W V/\B<=V.heap.size/\gQ V g a4 rest c4 false/\dO B V a4 rest/\Nt 0 V (.slice (some ⟨v4.heap.size,0,none⟩) l l) X/\Bl V gd 77 [.bool n,.slice (some ⟨v4.heap.size,0,none⟩) l l,.int .i64 ((E:Int)-4096)]/\w.heap.size≠gd/\w.heap.size≠g):=au ⟨K5.o.1.of_below zT,aV K5.o.2.1 zT.size,⟨K5.o.r2.1.1.below zT hg5,K5.o.r2.1.2⟩,K5.o.r3.1.below (zT.mono K5.o.2.1),K5.o.r4.below zT,hBd,af,by have:=HX.o.r2.1;omega⟩;rw[<-hgd];have d0:=hBd.cell 0 _ rfl;have d1:=hBd.cell 1 _ rfl;have d2:=hBd.cell 2 _ rfl;have CF:=hid (TF V n X ((E:Int)-4096) (some ⟨v4.heap.size,0,none⟩) l l K6.o.r4.1 HZ.o.1 HZ.o.r2.1 (by rcases HZ.o.r3 with ⟨h1,h2,h3⟩ | h1;exact .inl ⟨h1,h2,by rw[h3];rfl⟩;exact .inr h1));clear hV zT hBd hg5 Ji K5 hgd;go_wp2_with fail;refine CF.o.mono ?_;rintro r v7 ⟨rfl,hb⟩;have hgV:g<V.heap.size:=K6.o.r2.1.1.lt;have vQ:Bl v7 w.heap.size 77 [.bool false,.slice none 0 0,.int .i64 0]:=(H0.o.2.but K6.o.1 K6.o.r7).below hb (by have:=K6.o.1.size;have:=H0.o.2.lt;omega);have hBd:Bl v7 gd 77 [.bool n,.slice (some ⟨v4.heap.size,0,none⟩) l l,.int .i64 ((E:Int)-4096)]:=K6.o.r5.1.below hb K6.o.r5.1.lt;have aF:But w.heap.size v7 (((v7.setCell ⟨w.heap.size,0,none⟩ (.bool n)).setCell ⟨w.heap.size,1,none⟩ (.slice (some ⟨v4.heap.size,0,none⟩) l l)).setCell ⟨w.heap.size,2,none⟩ (.int .i64 ((E:Int)-4096))):=(((But.refl _ v7).set 0 _).set 1 _).set 2 _;have K7:Aside (But g W v7/\gQ v7 g a4 rest c4 false/\dO B v7 a4 rest/\Nt 0 v7 (.slice (some ⟨v4.heap.size,0,none⟩) l l) X/\Bl v7 w.heap.size 77 [.bool false,.slice none 0 0,.int .i64 0]/\But w.heap.size v7 (((v7.setCell ⟨w.heap.size,0,none⟩ (.bool n)).setCell ⟨w.heap.size,1,none⟩ (.slice (some ⟨v4.heap.size,0,none⟩) l l)).setCell ⟨w.heap.size,2,none⟩ (.int .i64 ((E:Int)-4096)))/\B<=v7.heap.size/\w.heap.size≠g):=au ⟨K6.o.1.of_below hb,⟨K6.o.r2.1.1.below hb hgV,K6.o.r2.1.2⟩,K6.o.r3.1.below (hb.mono K6.o.2.1),K6.o.r4.1.below hb,vQ,aF,aV K6.o.2.1 hb.size,K6.o.r7⟩;have e0:=hBd.cell 0 _ rfl;have e1:=hBd.cell 1 _ rfl;have e2:=hBd.cell 2 _ rfl;have z0:=vQ.cell 0 _ rfl;have z1:=vQ.cell 1 _ rfl;have z2:=vQ.cell 2 _ rfl;have f0:=vQ.frozen 0;have f1:=vQ.frozen 1;have f2:=vQ.frozen 2;have ne:=K6.o.r6.1;have ne':=ne.symm;clear hb hgV vQ hBd aF CF d0 d1 d2 K6;go_wp2;refine aJ (v:=.agg #[.bool n,.slice (some ⟨v4.heap.size,0,none⟩) l l,.int .i64 ((E:Int)-4096)]) (sJ Tryz.results103 _ _ w.heap.size n _ _ aL (((K7.o.r4.1.set 0 _).set 1 _).set 2 _)) rfl ?_;obtain⟨k1,k2,k3,k4,k5,k6,k7,k8⟩:=K7.o;refine⟨⟨_,_,rfl,bZ k4 k5 aA k6⟩,⟨a4,c4,⟨k2.1.but k6 k8.symm,k2.2⟩,k3.but k6 k7 HX.o.1⟩,?_⟩;have h1:But g w v7:=((But.refl g w).of_below H0.o.1).trans k1;exact⟨k6.os.trans h1.os,k6.tape.trans h1.tape,k6.output.trans h1.output,aV h1.size k6.size,fun b hb hne=>(k6.block b (gG hb h1.size) (kz hb)).trans (h1.block b hb hne)⟩
def bG(x:Nat):Int:=if 9218868437227405312<aP x then 9221120237041090560 else if fM x then -1-(aP x:Int) else aP x
theorem ju{P:Prop}(h:P:=by
 have hm:aP x<9223372036854775808:=by unfold aP;omega
 refine⟨fM x,aP x/4503599627370496,aP x%4503599627370496,af,af,?_,rfl,rfl,rfl⟩;unfold B.bw fM aP at *
 by_cases h:9223372036854775808<=x
 · rw[decide_eq_true h];simp only[iD];omega
 · rw[decide_eq_false h];simp only[iE];omega):P:=h
theorem Xd{x:Nat}(hx:x<18446744073709551616):∃ s e f,e<2048/\f<4503599627370496/\x=B.bw s e f/\s=fM x/\e=aP x/4503599627370496/\f=aP x%4503599627370496:=by
 exact ju
theorem Qbf{P:Prop}(h:P:=by
 by_cases h:9218868437227405312<aP x
 · rw[if_pos h,if_pos af]
 · rw[if_neg h,if_neg af,e]):P:=h
theorem MG{x:Nat}(hx:x<18446744073709551616):B.ky (fM x) (aP x/4503599627370496) (aP x%4503599627370496)=bG x:=by
 have hm:aP x<9223372036854775808:=by unfold aP;omega
 have e:((aP x/4503599627370496:Nat):Int)*4503599627370496+(aP x%4503599627370496:Nat)=(aP x:Int):=af
 unfold B.ky bG
 exact Qbf
theorem Eb{x y:Nat}(hx:x<18446744073709551616)(hy:y<18446744073709551616)(w:World) :
 Calls Tryz.prog 100 #[.float .f64 x,.float .f64 y] w fun r w'=>r=.returned (.int .i64 (B.oc (bG x) (bG y)))/\w'=w:=by
 obtain⟨s,e,f,h1,h2,h3,rfl,rfl,rfl⟩:=Xd hx;obtain⟨t,u,v,i1,i2,i3,rfl,rfl,rfl⟩:=Xd hy;have h:=B.A7 (fM x) (fM y) _ _ _ _ h1 h2 i1 i2 w;rw[MG hx,MG hy,<-h3,<-i3] at h;exact h
theorem TK(a b:Int):((B.oc a b<0)=(a<b))/\((0<B.oc a b)=(b<a)):=by
 unfold B.oc
 constructor <;> apply propext <;> constructor <;> intro h <;> (repeat' split at h) <;> (repeat' split) <;> omega
def loM(ra rb:Bool)(x y:Nat):Nat:=if rb=false then x else if ra=false then y else if bG y<bG x then y else x
def hiM(ra rb:Bool)(x y:Nat):Nat:=if rb=false then x else if ra=false then y else if bG x<bG y then y else x
theorem span21{w:World}{g h:Nat}{s t:Sp}{o q o' q':Option (Bool×Nat×Int)}{lo hi lo' hi':Nat}(H1:fe w g s o q lo hi)(H2:fe w h t o' q' lo' hi')(l1:lo<18446744073709551616)(l2:hi<18446744073709551616)(l3:lo'<18446744073709551616)(l4:hi'<18446744073709551616) :
 Calls Tryz.prog 46 #[.pointer (some ⟨g,0,none⟩),.pointer (some ⟨h,0,none⟩)] w fun r w'=>r=.returned (.tuple #[.float .f64 (loM (decide (s.n<s.a)) (decide (t.n<t.a)) lo lo'),.float .f64 (hiM (decide (s.n<s.a)) (decide (t.n<t.a)) hi hi')])/\Below w.heap.size w w':=by
 have HA:=hid (fun(u:World) (hu:Below w.heap.size w u)=>ll (H1.aD hu));have HB:=hid (fun(u:World) (hu:Below w.heap.size w u)=>ll (H2.aD hu));obtain⟨ra,hra⟩:=ah (decide (s.n<s.a));obtain⟨rb,hrb⟩:=ah (decide (t.n<t.a));rw[<-hra] at HA |-;rw[<-hrb] at HB |-
 have HX:Aside (∀ u:World,Below w.heap.size w u->u.cell? ⟨g,12,none⟩=some (.float .f64 lo)/\u.cell? ⟨g,13,none⟩=some (.float .f64 hi)/\u.cell? ⟨h,12,none⟩=some (.float .f64 lo')/\u.cell? ⟨h,13,none⟩=some (.float .f64 hi')):=by
  refine au fun u hu=>?_;obtain⟨a1,c1,a2,c2,k1,_⟩:=H1.aD hu;obtain⟨b1,d1,b2,d2,k2,_⟩:=H2.aD hu;exact⟨k1.cell 12 _ rfl,k1.cell 13 _ rfl,k2.cell 12 _ rfl,k2.cell 13 _ rfl⟩
 have O1:=hid (fun u:World=>Eb l3 l1 u);have O2:=hid (fun u:World=>Eb l4 l2 u);obtain⟨k1,hk1⟩:=ah (B.oc (bG lo') (bG lo));obtain⟨k2,hk2⟩:=ah (B.oc (bG hi') (bG hi));rw[<-hk1] at O1;rw[<-hk2] at O2;have e1:decide (k1<0)=decide (bG lo'<bG lo):=by rw[hk1];exact decide_eq_decide.2 (by rw[(TK _ _).1])
 have e2:decide (0<k2)=decide (bG hi<bG hi'):=by rw[hk2];exact decide_eq_decide.2 (by rw[(TK _ _).2])
 unfold loM hiM;clear H1 H2 hra hrb l1 l2 l3 l4 hk1 hk2;obtain⟨t1,ht1⟩:=ah (decide (bG lo'<bG lo));obtain⟨t2,ht2⟩:=ah (decide (bG hi<bG hi'));rw[<-ht1] at e1;rw[<-ht2] at e2;have f1:(if bG lo'<bG lo then lo' else lo)=if t1=true then lo' else lo:=by rw[ht1];simp
 have f2:(if bG hi<bG hi' then hi' else hi)=if t2=true then hi' else hi:=by rw[ht2];simp
 rw[f1,f2];clear f1 f2 ht1 ht2
 cases rb
 case false =>
  clear HA O1 O2;rw[if_pos rfl,if_pos rfl];go_enter Tryz.func46,Tryz.ntmps46;go_wp2_with fail;refine(HB.o _ (aG _ _)).mono ?_;rintro r u ⟨rfl,hb⟩;obtain⟨x1,x2,x3,x4⟩:=HX.o u hb;have BE:=au hb;clear hb HB;go_wp2_with fail
  go_quiet (fail)
  go_wp2;refine aJ (v:=.tuple #[.float .f64 lo,.float .f64 hi]) (by simp[results,Tryz.results46,go_sem]) rfl ?_;exact⟨rfl,ib BE.o _⟩
 case true =>
 rw[if_neg (c:=true=false) aA,if_neg (c:=true=false) aA]
 cases ra
 case false =>
  clear O1 O2;rw[if_pos (c:=false=false) rfl,if_pos (c:=false=false) rfl];go_enter Tryz.func46,Tryz.ntmps46;go_wp2_with fail;refine(HB.o _ (aG _ _)).mono ?_;rintro r u ⟨rfl,hb⟩;have B1:=au hb;clear hb HB;go_wp2_with fail;refine(HA.o _ B1.o).mono ?_;rintro r u2 ⟨rfl,hb⟩;have BE:=au (B1.o.trans (hb.mono B1.o.size));obtain⟨x1,x2,x3,x4⟩:=HX.o u2 BE.o;clear hb HA B1;go_wp2_with fail
  go_quiet (fail)
  go_wp2;refine aJ (v:=.tuple #[.float .f64 lo',.float .f64 hi']) (by simp[results,Tryz.results46,go_sem]) rfl ?_;exact⟨rfl,ib BE.o _⟩
 case true =>
 rw[if_neg (c:=true=false) aA,if_neg (c:=true=false) aA];obtain⟨X,hX⟩:=ah (if t1=true then lo' else lo)
 obtain⟨Y,hY⟩:=ah (if t2=true then hi' else hi)
 rw[<-hX,<-hY];have HY:=(aT hX hY);clear hX hY
 cases t1 <;> cases t2 <;> (
  go_enter Tryz.func46,Tryz.ntmps46;go_wp2_with fail;refine(HB.o _ (aG _ _)).mono ?_;rintro r u ⟨rfl,hb⟩;have B1:=au hb;clear hb HB;go_wp2_with fail;refine(HA.o _ B1.o).mono ?_;rintro r u2 ⟨rfl,hb⟩;have BE:=au (B1.o.trans (hb.mono B1.o.size));obtain⟨x1,x2,x3,x4⟩:=HX.o u2 BE.o;clear hb HA B1 HX;go_wp2_with fail
  go_quiet (fail)
  obtain⟨u3,hu3⟩:=ah (u2.drewN nq);have x1':u3.cell? ⟨g,12,none⟩=some (.float .f64 lo):=by rw[hu3];exact x1
  have x2':u3.cell? ⟨g,13,none⟩=some (.float .f64 hi):=by rw[hu3];exact x2
  have x3':u3.cell? ⟨h,12,none⟩=some (.float .f64 lo'):=by rw[hu3];exact x3
  have x4':u3.cell? ⟨h,13,none⟩=some (.float .f64 hi'):=by rw[hu3];exact x4
  have BF:Aside (Below w.heap.size w u3):=by rw[hu3];exact ib BE.o _
  rw[<-hu3];clear hu3 x1 x2 x3 x4 BE
  go_wp2_with (first | (go_at_call_of 100 (Value.float FloatKind.f64 lo');refine(O1.o _).mono ?_;rintro r v ⟨rfl,rfl⟩) | (go_at_call_of 100 (Value.float FloatKind.f64 hi');refine(O2.o _).mono ?_;rintro r v ⟨rfl,rfl⟩))
  first | exact aJ (v:=.tuple #[.float .f64 lo',.float .f64 hi']) (by simp[results,Tryz.results46,go_sem];done) rfl ⟨by rw[HY.o.1,HY.o.2];rfl,BF.o⟩ | exact aJ (v:=.tuple #[.float .f64 lo',.float .f64 hi]) (by simp[results,Tryz.results46,go_sem];done) rfl ⟨by rw[HY.o.1,HY.o.2];rfl,BF.o⟩ | exact aJ (v:=.tuple #[.float .f64 lo,.float .f64 hi']) (by simp[results,Tryz.results46,go_sem];done) rfl ⟨by rw[HY.o.1,HY.o.2];rfl,BF.o⟩ | exact aJ (v:=.tuple #[.float .f64 lo,.float .f64 hi]) (by simp[results,Tryz.results46,go_sem];done) rfl ⟨by rw[HY.o.1,HY.o.2];rfl,BF.o⟩)
theorem fD.sN{w:World}{r:Ending}{lo:Nat}{q:Option (Bool×Nat×Int)}(H:Fm q)(h:fD lo w r q):∃ a c,r=.returned (.agg #[.bool (dN q),.slice a (ws (dX q)).length c,.int .i64 (dE q)])/\Nt 0 w (.slice a (ws (dX q)).length c) (dX q):=by
 obtain⟨v,rfl,hN⟩:=h;obtain⟨a,c,rfl,hN0⟩:=Lo.shape H hN;exact⟨a,c,rfl,hN0⟩
theorem fD.TL{w:World}{r:Ending}{lo:Nat}{q:Option (Bool×Nat×Int)}(h:fD lo w r q):fD 0 w r q:=by
 obtain⟨v,rfl,hN⟩:=h;exact⟨v,rfl,hN.mono (jd _)⟩
theorem TM(n:Int)(w:World)(hT:bO w)(h0:-9223372036854775808<=n)(h1:n<=9223372036854775807) :
 Calls Tryz.prog 113 #[.int .i64 n] w fun r w'=>fD 0 w' r (gV 0 n)/\Below w.heap.size w w' :=
 (si n w hT h0 h1).mono fun r w' h=>⟨h.1.TL,h.2⟩
theorem xT{P:Prop}(h:P:=by
 subst hW;rw[<-E0];have z2:=Lo.zero (w.alloc (Obj.cells #[.bool false,.slice none 0 0,.int .i64 0] 77));rw[dL] at z2;exact⟨z2,(Lo.zero w).below (ag _ _),(ag _ _).trans ((ag _ _).mono aL)⟩):P:=h
theorem JT{P:Prop}(h:P:=by
 obtain⟨j,hgj,rfl,HA⟩:=hrel
 by_cases hj:j<n
 · obtain⟨p1,q1,D1,M1⟩:=HA.o.1;have hdr:=(aG wr.heap.size wr).drew;have kS:=bM (D1.below hdr).facts.1 (D1.below hdr).facts.2.1 (D1.below hdr).facts.2.2.1;have B1:=mh (D1.below hdr) (M1.below hdr) (HA.o.2.1.below hdr) (HA.o.r2.trans (hdr.mono HA.o.r2.size));have C:=hid (HC.o j wr.drew hj B1.o.r3);clear D1 M1 hdr
   go_upto_region 5 with fail
   refine eZ (fun u=>u.cell? ⟨w.heap.size+1,0,none⟩=some (.bool (dN (T j)))/\u.cell? ⟨w.heap.size+1,1,none⟩=some (.slice p1 (ws (dX (T j))).length q1)/\u.cell? ⟨w.heap.size+1,2,none⟩=some (.int .i64 (dE (T j)))) 5 gD ?_
   refine tk 0 [4] rfl kS.o ?_;try simp only[Act.put,sa,sb,sc]
   refine tk 1 [3,4] rfl kS.o ?_;try simp only[Act.put,sa,sb,sc]
   refine tk 2 [3,4] rfl kS.o ?_;try simp only[Act.put,sa,sb,sc]
   refine aO (i:=3) gD rfl (fun K' hK=>?_);go_simp;refine C.o.mono ?_;rintro r u3 ⟨hd,hb⟩;obtain⟨a3,c3,rfl,nO⟩:=hd.sN (PF.o.2 j hj);have B2:=iq (B1.o.1.below hb) (B1.o.2.1.below hb) (B1.o.r2.1.below hb) (B1.o.r3.trans (hb.mono B1.o.r3.size)) nO;have kS:=bM B2.o.1.facts.1 B2.o.1.facts.2.1 B2.o.1.facts.2.2.1;clear hb hd C B1 nO;dsimp only;refine hK.out _ _ (fun _=>kS.o) ?_;clear hK K'
   try simp only[Act.put,sa,sb,sc]
   have C:=hid (HP.o j u3 p1 a3 q1 c3 hj (HT.o.belows B2.o.r3.1) B2.o.2.1 B2.o.r4);refine aO (i:=4) gD rfl (fun K' hK=>?_);go_simp;refine C.o.mono ?_;rintro r u4 ⟨hd,hb⟩;obtain⟨a4,c4,rfl,oz⟩:=hd.sN (PF.o.1 (j+1) af);have B3:=iq (B2.o.1.below hb) (B2.o.2.1.below hb) (B2.o.r2.1.below hb) (B2.o.r3.1.trans (hb.mono B2.o.r3.1.size)) oz;have kS:=bM B3.o.1.facts.1 B3.o.1.facts.2.1 B3.o.1.facts.2.2.1;clear hb hd C B2 oz;dsimp only;refine hK.out _ _ (fun _=>kS.o) ?_;clear hK K'
   try simp only[Act.put,sa,sb,sc]
   obtain⟨z0,z1,z2,OL,OM,OO⟩:=B3.o.1.facts;refine aO (i:=5) gD rfl (fun K' hK=>?_);go_simp;refine hK.out _ _ (fun h=>absurd h aA) ?_;clear hK K' kS z0 z1 z2 OL OM OO;refine gY gD ?_ _;have LB:Lo u4 (w.heap.size+1) (T j):=⟨_,_,B3.o.1,B3.o.2.1⟩;have b3:=B3.o.r3.1;have H3:=bM (LB.set B3.o.r4) (B3.o.r2.1.other LB af (.bool (dN (T (j+1)))) (.slice a4 (ws (dX (T (j+1)))).length c4) (.int .i64 (dE (T (j+1))))) (jM b3 b3.size (show w.heap.size<=w.heap.size+1 by omega) (.bool (dN (T (j+1)))) (.slice a4 (ws (dX (T (j+1)))).length c4) (.int .i64 (dE (T (j+1)))));clear LB b3;go_wp2;go_roundg (gk-1)
   case measure=>omega
   case rel=>exact⟨j+1,af,by first | rfl | simp,H3.o⟩
 · obtain rfl:n=j:=af
   have hd:decide ((n:Int)<n)=false:=by simp
   obtain⟨p1,q1,D1,M1⟩:=HA.o.1;obtain⟨p2,q2,D2,M2⟩:=HA.o.2.1;obtain⟨x0,x1,x2,dB,dC,dD⟩:=D1.facts;obtain⟨y0,y1,y2,eF,eG,eO⟩:=D2.facts;have MM1:=au M1;clear D1 D2 M1 M2;go_wp2;exact qI Tryz.results205 rfl HA.o.2.1 HA.o.r2 af MM1.o):P:=h
theorem PK (w:World) (n h0:Nat) (A T:Nat->Option (Bool×Nat×Int)) (hn:n<=65536) (hT:bO w) (FA:∀ i,i<n->Fm (A i)) (FT:∀ i,i<=n->Fm (T i)) (ET:∀ i,i<n->iO (T i) (A i)=T (i+1)) (E0:dz=T 0)
 (HC:Hid (∀ (i:Nat) (u:World),i<n->Below w.heap.size w u->Calls Tryz.prog 206 #[.int .i64 (i:Nat),.pointer (some ⟨h0,0,none⟩)] u fun r w'=>fD 0 w' r (A i)/\Below u.heap.size u w')) :
 Calls Tryz.prog 205 #[.int .i64 (n:Nat),.func (.func 206) #[] #[.pointer (some ⟨h0,0,none⟩)]] w fun r w'=>fD 0 w' r (T n)/\Below w.heap.size w w':=by
 obtain⟨W,hW⟩:=ah ((w.alloc (Obj.cells #[.bool false,.slice none 0 0,.int .i64 0] 77)).alloc (Obj.cells #[.bool false,.slice none 0 0,.int .i64 0] 77))
 have H0:Aside (Lo W (w.heap.size+1) (T 0)/\Lo W w.heap.size dz/\Below w.heap.size w W):=by
  exact xT
 have HP:Hid (∀ (i:Nat) (u:World) (p q:Option Addr) (cp cq:Nat),i<n->bO u->Nt 0 u (.slice p (ws (dX (T i))).length cp) (dX (T i))->Nt 0 u (.slice q (ws (dX (A i))).length cq) (dX (A i))->Calls Tryz.prog 253 #[.agg #[.bool (dN (T i)),.slice p (ws (dX (T i))).length cp,.int .i64 (dE (T i))],.agg #[.bool (dN (A i)),.slice q (ws (dX (A i))).length cq,.int .i64 (dE (A i))]] u fun r w'=>fD 0 w' r (T (i+1))/\Below u.heap.size u w') :=
  fun i u p q cp cq hi hT n1 n2=>Tw (FT i af) (FA i hi) (FT (i+1) af) n1 n2 hT (ET i hi)
 have HW:=au hW;have PF:=aT FT FA;have HT:=au hT;clear hW FT FA ET E0 hT;go_enter Tryz.func205,Tryz.ntmps205
 go_upto_region 2 with fail
 rw[<-HW.o];clear HW;go_wp2
 go_loopg [8] n (fun gk i wr=>∃ j:Nat,gk+j=n/\i=.int .i64 (j:Nat)/\Aside (Lo wr (w.heap.size+1) (T j)/\Lo wr w.heap.size dz/\Below w.heap.size w wr))
 case atStart=>exact⟨0,af,aL,H0.o⟩
 case round =>
  exact JT
def Dr(w:World)(g n k:Nat)(A:Nat->Option (Bool×Nat×Int)):Prop:=∃ cur:Array Value,w.heap[g]?=some (.cells cur 77 (0,0))/\cur.size=n*3/\∀ i,i<k->∃ a c,cur[i*3]?=some (.bool (dN (A i)))/\cur[i*3+1]?=some (.slice a (ws (dX (A i))).length c)/\cur[i*3+2]?=some (.int .i64 (dE (A i)))/\Nt 0 w (.slice a (ws (dX (A i))).length c) (dX (A i))
theorem Dr.lt{w:World}{g n k:Nat}{A:Nat->Option (Bool×Nat×Int)}(h:Dr w g n k A):g<w.heap.size:=by obtain⟨c,h,_⟩:=h;exact(fG.1 h).1
theorem Dr.below{w w':World}{g n k:Nat}{A:Nat->Option (Bool×Nat×Int)}(h:Dr w g n k A)(hb:Below w.heap.size w w'):Dr w' g n k A:=by
 have hl:=h.lt;obtain⟨c,h,hs,r⟩:=h;refine⟨c,by rw[hb.block g hl];exact h,hs,fun i hi=>?_⟩;obtain⟨a,d,r1,r2,r3,r4⟩:=r i hi;exact⟨a,d,r1,r2,r3,r4.below hb⟩
theorem Dr.facts{w:World}{g n k:Nat}{A:Nat->Option (Bool×Nat×Int)}(h:Dr w g n k A)(i:Nat)(hi:i<k) :
 ∃ a c,w.cell? ⟨g,i*3,none⟩=some (.bool (dN (A i)))/\w.cell? ⟨g,i*3+1,none⟩=some (.slice a (ws (dX (A i))).length c)/\w.cell? ⟨g,i*3+2,none⟩=some (.int .i64 (dE (A i)))/\Nt 0 w (.slice a (ws (dX (A i))).length c) (dX (A i)):=by
 obtain⟨c,h,hs,r⟩:=h;obtain⟨a,d,r1,r2,r3,r4⟩:=r i hi;refine⟨a,d,?_,?_,?_,r4⟩ <;> simp[World.cell?,h,r1,r2,r3]
theorem Dr.room{w:World}{g n k:Nat}{A:Nat->Option (Bool×Nat×Int)}(h:Dr w g n k A)(j:Nat)(hj:j<n*3):(∃ v,w.cell? ⟨g,j,none⟩=some v)/\w.frozen? ⟨g,j,none⟩=false:=by
 obtain⟨c,h,hs,r⟩:=h;refine⟨⟨c[j]'(by omega),?_⟩,?_⟩
 · simp[World.cell?,h]
 · exact Qaw
abbrev st3o(w:World)(g o:Nat)(a b c:Value):World:=((w.setCell ⟨g,o,none⟩ a).setCell ⟨g,o+1,none⟩ b).setCell ⟨g,o+2,none⟩ c
theorem yQ(g o:Nat)(w:World)(a b c:Value):But g w (st3o w g o a b c):=(((But.refl g w).set _ _).set _ _).set _ _
theorem jz{P:Prop}(h:P:=by
 simp[Ad,show i*3≠j*3 by omega,show i*3≠j*3+1 by omega,show i*3≠j*3+2 by omega,show i*3+1≠j*3 by omega,show i*3+1≠j*3+1 by omega,show i*3+1≠j*3+2 by omega,show i*3+2≠j*3 by omega,show i*3+2≠j*3+1 by omega,show i*3+2≠j*3+2 by omega,show i≠j by omega]):P:=h
theorem Dr.step{w:World}{g n i:Nat}{A:Nat->Option (Bool×Nat×Int)}(h:Dr w g n i A)(hi:i<n){a:Option Addr}{c:Nat}(hN:Nt 0 w (.slice a (ws (dX (A i))).length c) (dX (A i))) :
 Dr (st3o w g (i*3) (.bool (dN (A i))) (.slice a (ws (dX (A i))).length c) (.int .i64 (dE (A i)))) g n (i+1) A:=by
 obtain⟨cur,h1,hs,r⟩:=h;refine⟨_,DF (DF (DF h1 (i*3) _) (i*3+1) _) (i*3+2) _,by simp;exact hs,fun j hj=>?_⟩
 by_cases e:j=i
 · subst e;refine⟨a,c,?_,?_,?_,hN.off (yQ _ _ _ _ _ _) (hN.qG aA h1)⟩ <;> (simp[Ad];omega)
 · obtain⟨b,d,r1,r2,r3,r4⟩:=r j af;refine⟨b,d,?_,?_,?_,r4.off (yQ _ _ _ _ _ _) (r4.qG aA h1)⟩
   · rw[<-r1];simp[Ad,show i*3≠j*3 by omega,show i*3+1≠j*3 by omega,show i*3+2≠j*3 by omega]
   · rw[<-r2];exact jz
   · rw[<-r3];exact jz
theorem Tryz.GL:Tryz.prog.underlying 163=some (.slice 77):=by kernel_rfl
theorem Tryz.GM:(Tryz.prog.info? 77).map (fun i=>(i.zero,i.size,i.bytes))=some (some (.agg #[.bool false,.slice none 0 0,.int .i64 0]),3,40):=by kernel_rfl
theorem Ec(n:Nat)(hn:n<=65536)(w:World) :
 (Instr.makeSlice 163 (.int .i64 (n:Nat)) (.int .i64 (n:Nat))).run Tryz.prog w=.ok (.slice (some ⟨w.heap.size,0,none⟩) n n) (w.alloc (.cells (madeCells #[.bool false,.slice none 0 0,.int .i64 0] (n*3)) 77)):=by
 have h:=Tryz.GM
 cases hq:Tryz.prog.info? 77 with
 | none=>rw[hq] at h;cases h
 | some i =>
   rw[hq] at h;simp only[Option.map_some,Option.some.injEq,Prod.mk.injEq] at h;obtain⟨hz,hs,hb⟩:=h;have:=run_make (P:=Tryz.prog) w 163 77 i _ Tryz.GL hq hz .i64 .i64 (n:Nat) (n:Nat) af af (by rw[hb];omega) af;rw[hs,kV] at this;exact this
theorem Dr.made(w:World)(n:Nat)(A:Nat->Option (Bool×Nat×Int)):Dr (w.alloc (.cells (madeCells #[.bool false,.slice none 0 0,.int .i64 0] (n*3)) 77)) w.heap.size n 0 A :=
 ⟨_,jC _ _,size_madeCells _ _,fun i hi=>absurd hi af⟩
theorem GN(x:Nat)(hx:x<18446744073709551616)(fx:¬ iY x)(w:World)(hT:bO w) :
 Calls Tryz.prog 137 #[.float .f64 x] w fun r w'=>(∃ a c,r=.returned (.tuple #[.agg #[.bool false,.slice a 0 c,.int .i64 0],.int .i64 30])/\Nt w.heap.size w' (.slice a 0 c) 0)/\Below w.heap.size w w':=by
 have e:B.bw (fM x) (aP x/4503599627370496) (aP x%4503599627370496)=x:=by
  have h1:aP x=x%9223372036854775808:=rfl;unfold B.bw
  by_cases h:9223372036854775808<=x
  · rw[show fM x=true from decide_eq_true h];simp only[iD];omega
  · rw[show fM x=false from decide_eq_false h];simp only[iE];omega
 have hm:aP x<9223372036854775808:=iB _ aA;have hm2:¬ aP x<9218868437227405312:=fx;have:=RX (fM x) (aP x/4503599627370496) (aP x%4503599627370496) af af w hT;rw[e] at this;refine this.mono ?_;rintro r w' ⟨⟨v,rfl,hN⟩,hb⟩;have e1:ofR (fM x) (aP x/4503599627370496) (aP x%4503599627370496)=none:=by unfold ofR;rw[if_pos af]
 have e2:ofE (aP x/4503599627370496)=30:=by unfold ofE;rw[if_pos af]
 rw[e1] at hN |-;rw[e2];obtain⟨a,c,rfl,_⟩:=hN.arg (by show(ws 0).length<=_;rw[bB];decide);rw[show(ws (dX (none:Option (Bool×Nat×Int)))).length=0 by simp[dX,bB]] at hN |-;exact⟨⟨a,c,rfl,hN⟩,hb⟩
theorem of14(x:Nat)(hx:x<18446744073709551616)(fx:iY x)(w:World)(hT:bO w) :
 Calls Tryz.prog 137 #[.float .f64 x] w fun r w'=>(∃ v,r=.returned (.tuple #[.agg #[.bool (dN (gV 1074 (qW x))),v,.int .i64 (dE (gV 1074 (qW x)))],.int .i64 0])/\Nt w.heap.size w' v (dX (gV 1074 (qW x))))/\Below w.heap.size w w':=WR x ⟨hx,fx⟩ w hT
theorem TP(i n g4 gA:Nat)(A:Nat->Option (Bool×Nat×Int))(u:World)(hi:i<n)(hn:n<=65536)(hB:Bl u g4 163 [.slice (some ⟨gA,0,none⟩) n n])(hD:Dr u gA n n A) :
 Calls Tryz.prog 206 #[.int .i64 (i:Nat),.pointer (some ⟨g4,0,none⟩)] u fun r w'=>fD 0 w' r (A i)/\Below u.heap.size u w':=by
 obtain⟨W,hW⟩:=ah (u.alloc (Obj.cells #[.bool false,.slice none 0 0,.int .i64 0] 77))
 have H0:Aside (Lo W u.heap.size dz/\Dr W gA n n A/\Bl W g4 163 [.slice (some ⟨gA,0,none⟩) n n]/\Below u.heap.size u W):=by
  rw[hW];exact⟨Lo.zero _,hD.below (ag _ _),hB.below (ag _ _) hB.lt,ag _ _⟩
 have HW:=au hW;clear hW hB hD;go_enter Tryz.func206,Tryz.ntmps206
 go_upto_region 1 with fail
 rw[<-HW.o];clear HW;have s0:=H0.o.r2.1.cell 0 _ rfl;obtain⟨a,c,x0,x1,x2,M⟩:=H0.o.2.1.facts i hi;have MM1:=au M;obtain⟨p2,q2,D2,M2⟩:=H0.o.1;obtain⟨y0,y1,y2,eF,eG,eO⟩:=D2.facts;clear D2 M2 M;go_wp2;exact qI Tryz.results206 rfl H0.o.1 H0.o.r3 af MM1.o
theorem Dr.but{w w':World}{g g' n k T:Nat}{A:Nat->Option (Bool×Nat×Int)}{L:List Value}(h:Dr w g n k A)(hb:But g' w w')(hB:Bl w g' T L)(hg:g≠g')(hT:T≠138):Dr w' g n k A:=by
 have hl:=h.lt;obtain⟨c,h,hs,r⟩:=h;refine⟨c,by rw[hb.block g hl hg];exact h,hs,fun i hi=>?_⟩;obtain⟨a,d,r1,r2,r3,r4⟩:=r i hi;exact⟨a,d,r1,r2,r3,r4.off hb (r4.qG hT hB)⟩
def fiB(xs:List Nat):Bool:=xs.all (fun x=>decide (aP x<9218868437227405312))
theorem Ed(xs:List Nat):fiB xs=true↔∀ x ∈ xs,iY x:=by
 unfold fiB;rw[List.all_eq_true];constructor
 · intro h x hx;exact of_decide_eq_true (h x hx)
 · intro h x hx;exact decide_eq_true (h x hx)
def PL(xs:List Nat):Int:=if 65536<xs.length then 2 else if fiB xs then 0 else 30
def fX(xs:List Nat)(i:Nat):Int:=qW (xs.getD i 0)
def sX(xs:List Nat):Int:=tS (fX xs) xs.length
theorem sO{xs:List Nat}(hW:eD xs)(hf:∀ x ∈ xs,iY x)(i:Nat)(hi:i<xs.length):Bd 2098 (fX xs i):=by
 unfold fX;rw[aS,aY hi];exact Mq (hW _ (iw hi)) (hf _ (iw hi))
theorem vR{xs:List Nat}(hW:eD xs)(hf:∀ x ∈ xs,iY x)(hl:xs.length<=65536)(k:Nat)(hk:k<=xs.length):Bd 2114 (tS (fX xs) k):=YK (fun i hi=>sO hW hf i hi) hl k hk
def Rr(w:World)(v:Value)(n:Nat)(A:Nat->Option (Bool×Nat×Int))(S:Option (Bool×Nat×Int)):Prop:=∃ gA a c,v=.agg #[.slice (some ⟨gA,0,none⟩) n n,.bool (dN S),.slice a (ws (dX S)).length c,.int .i64 (dE S)]/\Dr w gA n n A/\Nt 0 w (.slice a (ws (dX S)).length c) (dX S)
theorem Xe(xs:List Nat)(a:Option Addr)(n c:Nat)(w:World)(hn:n=xs.length)(hF:Fs w.heap.size w a xs)(hW:eD xs)(hT:bO w)(hl:n<=35184372088832) :
 Calls Tryz.prog 129 #[.slice a n c] w fun r w' =>
  ((PL xs≠0/\r=.returned (.tuple #[.agg #[.slice none 0 0,.bool false,.slice none 0 0,.int .i64 0],.int .i64 (PL xs)])) \/
   (PL xs=0/\∃ v,r=.returned (.tuple #[v,.int .i64 0])/\Rr w' v n (fun i=>gV 1074 (fX xs i)) (gV 1074 (sX xs))))/\Below w.heap.size w w':=by
 obtain⟨W,nS⟩:=ah (w.alloc (Obj.cells #[.slice none 0 0,.bool false,.slice none 0 0,.int .i64 0] 165))
 have H0:Aside (Bl W w.heap.size 165 [.slice none 0 0,.bool false,.slice none 0 0,.int .i64 0]/\Below w.heap.size w W):=by
  rw[nS];exact⟨Bl.new _ 165 [_,_,_,_],ak _ _⟩
 have pg:=au nS;clear nS
 by_cases hL:65536<n
 · have e:PL xs=2:=by unfold PL;rw[if_pos af]
   rw[e];have d5:decide ((65536:Int)<(n:Nat))=true:=by simp;omega
   clear hn hF hW hT e;go_enter Tryz.func129,Tryz.ntmps129
   go_upto_region 1 with fail
   rw[<-pg.o];clear pg;have c0:=H0.o.1.cell 0 _ rfl;have c1:=H0.o.1.cell 1 _ rfl;have c2:=H0.o.1.cell 2 _ rfl;have c3:=H0.o.1.cell 3 _ rfl;have f0:=H0.o.1.frozen 0;have f1:=H0.o.1.frozen 1;have f2:=H0.o.1.frozen 2;have f3:=H0.o.1.frozen 3;go_wp2;have q:=(((H0.o.1.set 0 (.slice none 0 0)).set 1 (.bool false)).set 2 (.slice none 0 0)).set 3 (.int .i64 0);have g0:=q.cell 0 _ rfl;have g1:=q.cell 1 _ rfl;have g2:=q.cell 2 _ rfl;have g3:=q.cell 3 _ rfl;refine aJ (v:=.tuple #[.agg #[.slice none 0 0,.bool false,.slice none 0 0,.int .i64 0],.int .i64 2]) (by simp[results,Tryz.results129,go_sem,g0,g1,g2,g3]) rfl ⟨.inl ⟨aA,rfl⟩,?_⟩;exact But.below H0.o.2 (((((But.refl _ _).set 0 _).set 1 _).set 2 _).set 3 _) H0.o.2.size (aB _)
 · have d5:decide ((65536:Int)<(n:Nat))=false:=by simp;omega
   have hmk:=Ec n af;obtain⟨A,hA⟩:∃ A:Nat->Option (Bool×Nat×Int),A=fun i=>gV 1074 (fX xs i):=⟨_,rfl⟩;obtain⟨W1,hW1⟩:=ah ((W.alloc (.cells (madeCells #[.bool false,.slice none 0 0,.int .i64 0] (n*3)) 77)).alloc (Obj.cells #[.slice (some ⟨w.heap.size+1,0,none⟩) n n] 163));have hws:W.heap.size=w.heap.size+1:=by rw[pg.o];simp
   have H1:Aside (Dr W1 (w.heap.size+1) n 0 A/\Bl W1 (w.heap.size+2) 163 [.slice (some ⟨w.heap.size+1,0,none⟩) n n]/\Bl W1 w.heap.size 165 [.slice none 0 0,.bool false,.slice none 0 0,.int .i64 0]/\Below w.heap.size w W1):=by
    rw[hW1];have z1:=Dr.made W n A;rw[hws] at z1;have z2:=Bl.new (W.alloc (.cells (madeCells #[.bool false,.slice none 0 0,.int .i64 0] (n*3)) 77)) 163 [.slice (some ⟨w.heap.size+1,0,none⟩) n n];rw[dL,hws] at z2;have b0:=H0.o;exact⟨z1.below (ag _ _),z2,(b0.1.alloc _).alloc _,(b0.2.trans ((ag _ _).mono b0.2.size)).trans ((ag _ _).mono (by simp;have:=b0.2.size;omega))⟩
   have HW1:=au hW1;have HX:=iq hn hF hW hT hA;have HL:=au hL
   have HE:Aside (∀ x ∈ xs,¬ iY x->PL xs=30):=by
    intro x hx hf;unfold PL;rw[if_neg af,if_neg (by intro q;exact hf ((Ed xs).1 q x hx))]
   clear hW1 hn hF hW hT hA hws hL;go_enter Tryz.func129,Tryz.ntmps129
   go_upto_region 1 with fail
   rw[<-pg.o]
   go_upto_region 4 with fail
   have hgs:W.heap.size=w.heap.size+1:=by rw[pg.o];simp
   try rw[hgs]
   rw[<-HW1.o];clear HW1 pg hgs;go_wp2
   go_loopg [17] n (fun gk i wr=>∃ j:Nat,gk+j=n/\i=.int .i64 (j:Nat)/\Aside (Dr wr (w.heap.size+1) n j A/\Bl wr (w.heap.size+2) 163 [.slice (some ⟨w.heap.size+1,0,none⟩) n n]/\Bl wr w.heap.size 165 [.slice none 0 0,.bool false,.slice none 0 0,.int .i64 0]/\Below w.heap.size w wr/\∀ i,i<j->iY (xs.getD i 0)))
   case atStart=>exact⟨0,af,aL,H1.o.1,H1.o.2.1,H1.o.r2.1,H1.o.r3,fun i hi=>absurd hi af⟩
   case round =>
    obtain⟨j,hgj,rfl,HA⟩:=hrel
    by_cases hj:j<n
    · obtain⟨b,off,rfl,hc⟩:=HX.o.2.1.at HA.o.r3.1 j (by rw[<-HX.o.1];exact hj);obtain⟨x,hx⟩:=ah (xs.getD j 0);rw[<-hx] at hc;have yt:x<18446744073709551616:=by rw[hx];exact HX.o.r2.1.get j
      by_cases hfx:iY x
      · have C:=hid (of14 x yt hfx wr (HX.o.r3.1.belows HA.o.r3.1));have eA:gV 1074 (qW x)=A j:=by rw[HX.o.r4,hx];rfl
        rw[eA] at C;have FA:Fm (A j):=by rw[<-eA];exact cu aA aA (Mq yt hfx)
        have PA:=(bM FA hfx hx);clear eA FA hfx hx yt;go_wp2_with fail;refine C.o.mono ?_;rintro r u ⟨⟨v,rfl,hN⟩,hb⟩;obtain⟨a1,c1,rfl,hN0⟩:=Lo.shape PA.o.1 hN;obtain⟨U,hU⟩:=ah (u.alloc (Obj.cells #[.bool (dN (A j)),.slice a1 (ws (dX (A j))).length c1,.int .i64 (dE (A j))] 77))
        have H2:Aside (Dk U u.heap.size (dN (A j)) (.slice a1 (ws (dX (A j))).length c1) (dE (A j))/\Nt 0 U (.slice a1 (ws (dX (A j))).length c1) (dX (A j))/\Dr U (w.heap.size+1) n j A/\Bl U (w.heap.size+2) 163 [.slice (some ⟨w.heap.size+1,0,none⟩) n n]/\Bl U w.heap.size 165 [.slice none 0 0,.bool false,.slice none 0 0,.int .i64 0]/\Below w.heap.size w U):=by
         rw[hU];have b0:=HA.o.r3.1;exact⟨Dk.new _ _ _ _,hN0.below (ag _ _),(HA.o.1.below hb).below (ag _ _),(HA.o.2.1.below hb HA.o.2.1.lt).alloc _,(HA.o.r2.1.below hb HA.o.r2.1.lt).alloc _,(b0.trans (hb.mono b0.size)).trans ((ag _ _).mono (aV b0.size hb.size))⟩
        obtain⟨gq,vD⟩:=ah (u.heap.size);rw[<-vD] at H2;have HU:=(aT hU vD);clear hU hN hN0 hb C vD hc
        go_upto_region 10 with fail
        rw[<-HU.o.1,<-HU.o.2];clear HU;obtain⟨x0,x1,x2,dB,dC,dD⟩:=H2.o.1.facts;have s0:=H2.o.r3.1.cell 0 _ rfl;obtain⟨⟨v0,k0⟩,kf0⟩:=H2.o.r2.1.room (j*3) af;obtain⟨⟨v1,k1⟩,kf1⟩:=H2.o.r2.1.room (j*3+1) af;obtain⟨⟨v2,k2⟩,kf2⟩:=H2.o.r2.1.room (j*3+2) af;go_wp2;go_roundg (gk-1)
        case measure=>omega
        case rel =>
         have hbt:=yQ (w.heap.size+1) (j*3) U (.bool (dN (A j))) (.slice a1 (ws (dX (A j))).length c1) (.int .i64 (dE (A j)));refine⟨j+1,af,by first | rfl | simp,H2.o.r2.1.step hj H2.o.2.1,H2.o.r3.1.but hbt af,H2.o.r4.1.but hbt af,But.below H2.o.r5 hbt H2.o.r5.size af,fun i hi=>?_⟩
         by_cases e:i=j
         · subst e;rw[<-PA.o.r2];exact PA.o.2.1
         · exact HA.o.r4 i af
      · have C:=hid (GN x yt hfx wr (HX.o.r3.1.belows HA.o.r3.1));have e30:PL xs=30:=HE.o x (by rw[hx,aS,aY (by rw[<-HX.o.1];exact hj)];exact iw _) hfx;have E30:=au e30;clear hfx hx yt e30;go_wp2_with fail;refine C.o.mono ?_;rintro r u ⟨⟨a1,c1,rfl,hN⟩,hb⟩;obtain⟨U,hU⟩:=ah (u.alloc (Obj.cells #[.bool false,.slice a1 0 c1,.int .i64 0] 77))
        have H2:Aside (Bl U w.heap.size 165 [.slice none 0 0,.bool false,.slice none 0 0,.int .i64 0]/\Below w.heap.size w U):=by
         rw[hU];have b0:=HA.o.r3.1;exact⟨(HA.o.r2.1.below hb HA.o.r2.1.lt).alloc _,(b0.trans (hb.mono b0.size)).trans ((ag _ _).mono (aV b0.size hb.size))⟩
        have HU:=au hU;clear hU hN hb C hc
        go_upto_region 9 with fail
        rw[<-HU.o];clear HU;have c0:=H2.o.1.cell 0 _ rfl;have c1:=H2.o.1.cell 1 _ rfl;have c2:=H2.o.1.cell 2 _ rfl;have c3:=H2.o.1.cell 3 _ rfl;have f0:=H2.o.1.frozen 0;have f1:=H2.o.1.frozen 1;have f2:=H2.o.1.frozen 2;have f3:=H2.o.1.frozen 3;go_wp2;have q:=(((H2.o.1.set 0 (.slice none 0 0)).set 1 (.bool false)).set 2 (.slice none 0 0)).set 3 (.int .i64 0);have g0:=q.cell 0 _ rfl;have g1:=q.cell 1 _ rfl;have g2:=q.cell 2 _ rfl;have g3:=q.cell 3 _ rfl;refine aJ (v:=.tuple #[.agg #[.slice none 0 0,.bool false,.slice none 0 0,.int .i64 0],.int .i64 30]) (by simp[results,Tryz.results129,go_sem,g0,g1,g2,g3]) rfl ⟨.inl ⟨by rw[E30.o];decide,by rw[E30.o]⟩,?_⟩;exact But.below H2.o.2 (((((But.refl _ _).set 0 _).set 1 _).set 2 _).set 3 _) H2.o.2.size (aB _)
    · obtain rfl:n=j:=af
      have hd:decide ((n:Int)<n)=false:=by simp
      have hall:∀ x ∈ xs,iY x:=by
       intro x hx;obtain⟨i,hi,e⟩:=List.getElem_of_mem hx;have:=HA.o.r4 i (by rw[HX.o.1];exact hi);rw[aS,aY hi] at this;rw[<-e];exact this
      have e0:PL xs=0:=by unfold PL;rw[if_neg (by have:=HL.o;have:=HX.o.1;omega),if_pos ((Ed xs).2 hall)]
      have E0:=au e0;obtain⟨S,hS⟩:=ah (gV 1074 (sX xs));have FS:Fm S:=by rw[hS];exact cu aA aA (vR HX.o.r2.1 hall (by have:=HL.o;have:=HX.o.1;omega) _ (aB _))
      have HS:=au hS
      have HC:Hid (∀ u:World,Below wr.heap.size wr u->bO u->Calls Tryz.prog 205 #[.int .i64 (n:Nat),.func (.func 206) #[] #[.pointer (some ⟨w.heap.size+2,0,none⟩)]] u fun r w'=>fD 0 w' r S/\Below u.heap.size u w'):=fun u hu LZ=>by
       have hl:=HL.o
       have:=PK u n (w.heap.size+2) A (fun i=>gV 1074 (tS (fX xs) i)) af LZ (fun i hi=>by rw[HX.o.r4];exact cu aA aA (sO HX.o.r2.1 hall i (by rw[<-HX.o.1];exact hi)))
        (fun i hi=>cu aA aA (vR HX.o.r2.1 hall (by have:=HX.o.1;omega) i (by rw[<-HX.o.1];exact hi)))
        (fun i hi=>by rw[HX.o.r4];exact yI aA aA (vR HX.o.r2.1 hall (by have:=HX.o.1;omega) i (by rw[<-HX.o.1];omega)) ((sO HX.o.r2.1 hall i (by rw[<-HX.o.1];exact hi)).mono aA))
        (yJ 1074).symm (hid fun i v hi hv=>TP i n (w.heap.size+2) (w.heap.size+1) A v hi af ((HA.o.2.1.below hu HA.o.2.1.lt).below hv (HA.o.2.1.below hu HA.o.2.1.lt).lt) ((HA.o.1.below hu).below hv))
       rw[hS];unfold sX;rw[<-HX.o.1];exact this
      have hdr:=(aG wr.heap.size wr).drew;have HT:=au (HX.o.r3.1.belows HA.o.r3.1);have BD:=(mh (HA.o.1.below hdr) (HA.o.2.1.below hdr HA.o.2.1.lt) (HA.o.r2.1.below hdr HA.o.r2.1.lt) (HA.o.r3.1.trans (hdr.mono HA.o.r3.1.size)));have kS:=au (BD.o.2.1.cell 0 _ rfl);have hmf:∀ (fn:Fn) (first cap:Array Value) (w:World),(Instr.makeFunc fn first cap).run Tryz.prog w=.ok (.func fn first cap) w:=fun _ _ _ _=>rfl;have FFS:=au FS;have C:=hid (HC.o wr.drew hdr (HT.o.belows hdr));have r0:=BD.o.r2.1.frozen 0;have r1:=BD.o.r2.1.frozen 1;have r2:=BD.o.r2.1.frozen 2;have r3:=BD.o.r2.1.frozen 3;have q0:=BD.o.r2.1.cell 0 _ rfl;have q1:=BD.o.r2.1.cell 1 _ rfl;have q2:=BD.o.r2.1.cell 2 _ rfl;have q3:=BD.o.r2.1.cell 3 _ rfl;clear hS hdr hall HC FS e0
      go_upto_region 12 with fail
      go_region_held3 (fun w'=>w'.cell? ⟨w.heap.size+2,0,none⟩=some (.slice (some ⟨w.heap.size+1,0,none⟩) n n)) (first | with_reducible exact kS.o | exact(BD.o.2.1.but (((((But.refl _ _).set 0 _).set 1 _).set 2 _).set 3 _) af).cell 0 _ rfl) (first
       | (go_at_call 205
          with_reducible refine C.o.mono ?_
          rintro r u3 ⟨hd2,hb⟩;obtain⟨a3,c3,rfl,nO⟩:=hd2.sN FFS.o;have BD:=iq (BD.o.1.below hb) (BD.o.2.1.below hb BD.o.2.1.lt) (BD.o.r2.1.below hb BD.o.r2.1.lt) (BD.o.r3.trans (hb.mono BD.o.r3.size)) nO;have kS:=au (BD.o.2.1.cell 0 _ rfl);have r0:=BD.o.r2.1.frozen 0;have r1:=BD.o.r2.1.frozen 1;have r2:=BD.o.r2.1.frozen 2;have r3:=BD.o.r2.1.frozen 3;have q0:=BD.o.r2.1.cell 0 _ rfl;have q1:=BD.o.r2.1.cell 1 _ rfl;have q2:=BD.o.r2.1.cell 2 _ rfl;have q3:=BD.o.r2.1.cell 3 _ rfl
          clear hb hd2 nO))
      go_wp2;have qq:=(((BD.o.r2.1.set 0 (.slice (some ⟨w.heap.size+1,0,none⟩) n n)).set 1 (.bool (dN S))).set 2 (.slice a3 (ws (dX S)).length c3)).set 3 (.int .i64 (dE S));have g0:=qq.cell 0 _ rfl;have g1:=qq.cell 1 _ rfl;have g2:=qq.cell 2 _ rfl;have g3:=qq.cell 3 _ rfl;have aF:But w.heap.size u3 ((((u3.setCell ⟨w.heap.size,0,none⟩ (.slice (some ⟨w.heap.size+1,0,none⟩) n n)).setCell ⟨w.heap.size,1,none⟩ (.bool (dN S))).setCell ⟨w.heap.size,2,none⟩ (.slice a3 (ws (dX S)).length c3)).setCell ⟨w.heap.size,3,none⟩ (.int .i64 (dE S))):=((((But.refl _ _).set 0 _).set 1 _).set 2 _).set 3 _;refine aJ (v:=.tuple #[.agg #[.slice (some ⟨w.heap.size+1,0,none⟩) n n,.bool (dN S),.slice a3 (ws (dX S)).length c3,.int .i64 (dE S)],.int .i64 0]) (by simp[results,Tryz.results129,go_sem,g0,g1,g2,g3]) rfl ⟨.inr ⟨E0.o,_,rfl,?_⟩,?_⟩;rw[<-HS.o,<-HX.o.r4];refine⟨w.heap.size+1,a3,c3,rfl,?_,?_⟩
      · exact BD.o.1.but aF BD.o.r2.1 af aA
      · exact BD.o.r4.off aF (BD.o.r4.qG aA BD.o.r2.1)
      · exact But.below BD.o.r3.1 aF BD.o.r3.1.size (aB _)
def uF(o1 o2:Option (Bool×Nat×Int)):Option (Bool×Nat×Int):=if o1.isSome&&o2.isSome then iO o1 (mkS (!dN o2) (dX o2) (dE o2)) else none
def nG(w:World)(r:Ending)(o:Option (Bool×Nat×Int))(e:Int):Prop:=∃ v,r=.returned (.tuple #[.agg #[.bool (dN o),v,.int .i64 (dE o)],.int .i64 e])/\Nt 0 w v (dX o)
theorem dh.da14{lo:Nat}{w:World}{r:Ending}{o:Option (Bool×Nat×Int)}(h:dh lo w r o):nG w r o (qx o):=by
 obtain⟨v,rfl,hN⟩:=h;exact⟨v,rfl,hN.mono (jd _)⟩
theorem Nt.dR{w:World}{v:Value}{X:Nat}(h:Nt 0 w v X):∃ a c,v=.slice a (ws X).length c/\Nt 0 w (.slice a (ws X).length c) X:=by
 obtain⟨a,c,rfl,-⟩:=h.shape;exact⟨a,c,rfl,h⟩
theorem nG.dR{w:World}{r:Ending}{o:Option (Bool×Nat×Int)}{e:Int}(h:nG w r o e):∃ a c,r=.returned (.tuple #[.agg #[.bool (dN o),.slice a (ws (dX o)).length c,.int .i64 (dE o)],.int .i64 e])/\Nt 0 w (.slice a (ws (dX o)).length c) (dX o):=by
 obtain⟨v,rfl,hN⟩:=h;obtain⟨a,c,rfl,hN⟩:=hN.dR;exact⟨a,c,rfl,hN⟩
theorem fD.dR{lo:Nat}{w:World}{r:Ending}{o:Option (Bool×Nat×Int)}(h:fD lo w r o):∃ a c,r=.returned (.agg #[.bool (dN o),.slice a (ws (dX o)).length c,.int .i64 (dE o)])/\Nt 0 w (.slice a (ws (dX o)).length c) (dX o):=by
 obtain⟨v,rfl,hN⟩:=h.TL;obtain⟨a,c,rfl,hN⟩:=hN.dR;exact⟨a,c,rfl,hN⟩
theorem Ee(W:World):Below W.heap.size W (W.alloc (Obj.cells #[.bool false,.slice none 0 0,.int .i64 0] 77)).drew:=(ag W (Obj.cells #[.bool false,.slice none 0 0,.int .i64 0] 77)).trans (((aG (W.alloc (Obj.cells #[.bool false,.slice none 0 0,.int .i64 0] 77)).heap.size (W.alloc (Obj.cells #[.bool false,.slice none 0 0,.int .i64 0] 77))).drew).mono aL)
theorem Ef(W:World):Lo (W.alloc (Obj.cells #[.bool false,.slice none 0 0,.int .i64 0] 77)).drew W.heap.size dz:=(Lo.zero W).below (aG _ _).drew
theorem yR{o:Option (Bool×Nat×Int)}(h:o.isSome=true):qx o=0:=by unfold qx;rw[h];rfl
theorem yS{o:Option (Bool×Nat×Int)}(h:o.isSome=false):qx o=2:=by unfold qx;rw[h];rfl
structure sP (w u:World) (np ns nt:Bool) (ap az at':Option Addr) (lp cp ls cs lt ct:Nat) (ep es et:Int):Prop where
 p:Dk u w.heap.size np (.slice ap lp cp) ep
 s:Dk u (w.heap.size+1) ns (.slice az ls cs) es
 t:Dk u (w.heap.size+2) nt (.slice at' lt ct) et
 z:Lo u (w.heap.size+3) dz
 b:Below w.heap.size w u
theorem sP.below{w u v:World}{np ns nt:Bool}{ap az at':Option Addr}{lp cp ls cs lt ct:Nat}{ep es et:Int}(h:sP w u np ns nt ap az at' lp cp ls cs lt ct ep es et)(hb:Below u.heap.size u v):sP w v np ns nt ap az at' lp cp ls cs lt ct ep es et :=
 ⟨h.p.below hb,h.s.below hb,h.t.below hb,h.z.below hb,h.b.trans (hb.mono h.b.size)⟩
theorem sP.other{w u:World}{np ns nt:Bool}{ap az at':Option Addr}{lp cp ls cs lt ct g:Nat}{ep es et:Int}{q:Option (Bool×Nat×Int)}(h:sP w u np ns nt ap az at' lp cp ls cs lt ct ep es et)(hL:Lo u g q)(hg:w.heap.size+3<g)(x y z:Value):sP w (dx u g x y z) np ns nt ap az at' lp cp ls cs lt ct ep es et :=
 ⟨h.p.other g af _ _ _,h.s.other g af _ _ _,h.t.other g af _ _ _,h.z.other hL af _ _ _,jM h.b h.b.size af _ _ _⟩
theorem Kf{P:Prop}(h:P:=by
 subst hW;have z1:=Dk.new (w.alloc (Obj.cells #[.bool np,.slice ap lp cp,.int .i64 ep] 77)) ns (.slice az ls cs) es;have z2:=Dk.new ((w.alloc (Obj.cells #[.bool np,.slice ap lp cp,.int .i64 ep] 77)).alloc (Obj.cells #[.bool ns,.slice az ls cs,.int .i64 es] 77)) nt (.slice at' lt ct) et;have z3:=Lo.zero (((w.alloc (Obj.cells #[.bool np,.slice ap lp cp,.int .i64 ep] 77)).alloc (Obj.cells #[.bool ns,.slice az ls cs,.int .i64 es] 77)).alloc (Obj.cells #[.bool nt,.slice at' lt ct,.int .i64 et] 77));rw[dL] at z1;rw[dL,dL] at z2;rw[dL,dL,dL] at z3;exact⟨(((Dk.new _ _ _ _).below (ag _ _)).below (ag _ _)).below (ag _ _),(z1.below (ag _ _)).below (ag _ _),z2.below (ag _ _),z3,(((ag _ _).trans ((ag _ _).mono aL)).trans ((ag _ _).mono (by simp;omega))).trans ((ag _ _).mono (by simp;omega))⟩):P:=h
theorem Zs{P:Prop}(h:P:=by
 have hdr:=(aG W.heap.size W).drew;have BB:=au (H0.o.below hdr);have BZ:=aT (H0.o.below (Ee W)) (Ef W);have k0:=BB.o.p.facts;have kS:=bM k0.1 k0.2.1 k0.2.2.1;have h3l:=H0.o.z.lt;clear hdr k0
 go_region_held3 (fun w'=>w'.cell? ⟨w.heap.size,0,none⟩=some (.bool np)/\w'.cell? ⟨w.heap.size,1,none⟩=some (.slice ap lp cp)/\w'.cell? ⟨w.heap.size,2,none⟩=some (.int .i64 ep)) (first | with_reducible exact kS.o | with_reducible exact⟨BZ.o.1.p.facts.1,BZ.o.1.p.facts.2.1,BZ.o.1.p.facts.2.2.1⟩ | with_reducible exact⟨kZ.o.facts.1,kZ.o.facts.2.1,kZ.o.facts.2.2.1⟩ | with_reducible exact kT.o | with_reducible exact⟨kM.o.facts.1,kM.o.facts.2.1,kM.o.facts.2.2.1⟩ | with_reducible exact⟨kN.o.facts.1,kN.o.facts.2.1,kN.o.facts.2.2.1⟩) (first
  | (go_at_call 113
     with_reducible refine(HI.o _ BB.o.b).mono ?_
     rintro r u1 ⟨hd,hb⟩;obtain⟨a3,c3,rfl,nO⟩:=hd.dR;have BC:=aT (BB.o.below hb) nO;have kS:=bM BC.o.1.p.facts.1 BC.o.1.p.facts.2.1 BC.o.1.p.facts.2.2.1;have kZ:=au (BC.o.1.p.below (ag u1 (Obj.cells #[.bool false,.slice none 0 0,.int .i64 0] 77)));have YO:=BC.o.1.z.lt
     clear hb hd nO)
  | (go_at_call 113
     with_reducible refine(HI.o _ BZ.o.1.b).mono ?_
     rintro r u1 ⟨hd,hb⟩;obtain⟨a3,c3,rfl,nO⟩:=hd.dR;have BC:=aT (BZ.o.1.below hb) nO;have ZB:=au (BZ.o.2.below hb);have kS:=bM BC.o.1.p.facts.1 BC.o.1.p.facts.2.1 BC.o.1.p.facts.2.2.1
     clear hb hd nO)
  | (go_at_call 194
     with_reducible refine(MH.o _ a3 c3 BC.o.1.b BC.o.2).mono ?_
     rintro r u2 ⟨hd,hb⟩;obtain⟨a4,c4,rfl,oz⟩:=hd.dR;have BE:=aT (BC.o.1.below hb) oz;have kS:=bM BE.o.1.p.facts.1 BE.o.1.p.facts.2.1 BE.o.1.p.facts.2.2.1;have kZ:=au (BE.o.1.p.below (ag u2 (Obj.cells #[.bool false,.slice none 0 0,.int .i64 0] 77)));have kM:=au (BE.o.1.p.below (ag u2 (Obj.cells #[.bool (dN o1),.slice a4 (ws (dX o1)).length c4,.int .i64 (dE o1)] 77)));have kN:=au ((BE.o.1.p.below (ag u2 (Obj.cells #[.bool false,.slice none 0 0,.int .i64 0] 77))).other u2.heap.size (by have:=BE.o.1.z.lt;omega) (.bool (dN o1)) (.slice a4 (ws (dX o1)).length c4) (.int .i64 (dE o1)))
     try have ZB:=au (ZB.o.below hb)
     try have kT:=au (show _ from(ai (BE.o.1.p.other _ (show w.heap.size≠W.heap.size by omega) (.bool (dN o1)) (.slice a4 (ws (dX o1)).length c4) (.int .i64 (dE o1))).facts.1 (ai (BE.o.1.p.other _ (show w.heap.size≠W.heap.size by omega) (.bool (dN o1)) (.slice a4 (ws (dX o1)).length c4) (.int .i64 (dE o1))).facts.2.1 (BE.o.1.p.other _ (show w.heap.size≠W.heap.size by omega) (.bool (dN o1)) (.slice a4 (ws (dX o1)).length c4) (.int .i64 (dE o1))).facts.2.2.1)))
     try (obtain⟨zp,zq,DZ,MZ⟩:=ZB.o;obtain⟨z0,z1,z2,OL,OM,OO⟩:=DZ.facts;clear DZ MZ)
     clear hb hd oz)
  | (go_at_call 194
     with_reducible refine(MH.o _ a3 c3 (BC.o.1.below (ag u1 (Obj.cells #[.bool false,.slice none 0 0,.int .i64 0] 77))).b (BC.o.2.below (ag u1 (Obj.cells #[.bool false,.slice none 0 0,.int .i64 0] 77)))).mono ?_
     rintro r u2 ⟨hd,hb⟩;obtain⟨a4,c4,rfl,oz⟩:=hd.dR;have BE:=aT ((BC.o.1.below (ag u1 (Obj.cells #[.bool false,.slice none 0 0,.int .i64 0] 77))).below hb) oz;have ZC:=au ((Lo.zero u1).below hb);have kS:=bM BE.o.1.p.facts.1 BE.o.1.p.facts.2.1 BE.o.1.p.facts.2.2.1;have kT:=bM (BE.o.1.p.other _ (show w.heap.size≠u1.heap.size by omega) (.bool (dN o1)) (.slice a4 (ws (dX o1)).length c4) (.int .i64 (dE o1))).facts.1 (BE.o.1.p.other _ (show w.heap.size≠u1.heap.size by omega) (.bool (dN o1)) (.slice a4 (ws (dX o1)).length c4) (.int .i64 (dE o1))).facts.2.1 (BE.o.1.p.other _ (show w.heap.size≠u1.heap.size by omega) (.bool (dN o1)) (.slice a4 (ws (dX o1)).length c4) (.int .i64 (dE o1))).facts.2.2.1;obtain⟨zp,zq,DZ,MZ⟩:=ZC.o;obtain⟨z0,z1,z2,OL,OM,OO⟩:=DZ.facts
     clear hb hd oz DZ MZ))
 all_goals
  go_wp2_with fail
  go_meet
  case rel =>
   first
    | exact⟨u2.heap.size,rfl,rfl,Lo.new BE.o.2,BE.o.1.below (ag _ _),BE.o.1.z.lt⟩
    | exact⟨u2.heap.size,rfl,rfl,(Lo.zero u2).set (BE.o.2.below (ag _ _)),(BE.o.1.below (ag _ _)).other (Lo.zero u2) BE.o.1.z.lt _ _ _,BE.o.1.z.lt⟩
    | exact⟨W.heap.size,rfl,rfl,ZB.o.set BE.o.2,BE.o.1.other ZB.o h3l _ _ _,h3l⟩
    | exact⟨u1.heap.size,rfl,rfl,ZC.o.set BE.o.2,BE.o.1.other ZC.o YO _ _ _,YO⟩):P:=h
theorem Xf (w:World) (n:Int) (np ns nt:Bool) (ap az at':Option Addr) (lp cp ls cs lt ct:Nat) (ep es et:Int) (oI o1 o2:Option (Bool×Nat×Int)) (e1 e2:Int)
 (HI:Hid (∀ u:World,Below w.heap.size w u->Calls Tryz.prog 113 #[.int .i64 n] u fun r w'=>fD 0 w' r oI/\Below u.heap.size u w'))
 (MH:Hid (∀ (u:World) (a:Option Addr) (c:Nat),Below w.heap.size w u->Nt 0 u (.slice a (ws (dX oI)).length c) (dX oI)->Calls Tryz.prog 194 #[.agg #[.bool (dN oI),.slice a (ws (dX oI)).length c,.int .i64 (dE oI)],.agg #[.bool np,.slice ap lp cp,.int .i64 ep]] u fun r w'=>nG w' r o1 e1/\Below u.heap.size u w')) (x1:(e1==0)=false) :
 Calls Tryz.prog 117 #[.int .i64 n,.agg #[.bool np,.slice ap lp cp,.int .i64 ep],.agg #[.bool ns,.slice az ls cs,.int .i64 es],.agg #[.bool nt,.slice at' lt ct,.int .i64 et]] w fun r w'=>nG w' r (none:Option (Bool×Nat×Int)) e1/\Below w.heap.size w w':=by
 obtain⟨W,hW⟩:=ah ((((w.alloc (Obj.cells #[.bool np,.slice ap lp cp,.int .i64 ep] 77)).alloc (Obj.cells #[.bool ns,.slice az ls cs,.int .i64 es] 77)).alloc (Obj.cells #[.bool nt,.slice at' lt ct,.int .i64 et] 77)).alloc (Obj.cells #[.bool false,.slice none 0 0,.int .i64 0] 77))
 have H0:Aside (sP w W np ns nt ap az at' lp cp ls cs lt ct ep es et):=by
  exact Kf
 have HW:=au hW;clear hW;go_enter Tryz.func117,Tryz.ntmps117
 go_upto_region 1 with fail
 rw[<-HW.o];clear HW
 go_cut [10,11] from 13 to 19 (fun q e wx=>∃ gq:Nat,q=.pointer (some ⟨gq,0,none⟩)/\e=.int .i64 e1/\Aside (Lo wx gq o1/\sP w wx np ns nt ap az at' lp cp ls cs lt ct ep es et/\w.heap.size+3<gq))
 case first =>
  exact Zs
 obtain⟨gq,rfl,rfl,K1⟩:=hcut;obtain⟨U,hU⟩:=ah wc;rw[<-hU] at K1 |-;clear hU H0;obtain⟨p4,q4,D4,M4⟩:=K1.o.2.1.z;obtain⟨y0,y1,y2,eF,eG,eO⟩:=D4.facts;have HE:=aT (D4.set false (.slice none 0 0) 0) (jM K1.o.2.1.b K1.o.2.1.b.size (show w.heap.size<=w.heap.size+3 by omega) (.bool false) (.slice none 0 0) (.int .i64 0));unfold dx at HE;clear D4 M4;go_wp2;obtain⟨f0,f1,f2,_,_,_⟩:=HE.o.1.facts;exact aJ (v:=.tuple #[.agg #[.bool false,.slice none 0 0,.int .i64 0],.int .i64 e1]) (by simp[results,Tryz.results117,go_sem,f0,f1,f2]) rfl ⟨⟨_,rfl,Nt.nil _ _⟩,HE.o.2⟩
end
end Go.Proofs.YtaejmlkaefnbhaaGreatDoor
