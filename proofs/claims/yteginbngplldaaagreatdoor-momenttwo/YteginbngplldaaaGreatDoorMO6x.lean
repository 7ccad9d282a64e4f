import Derived.Test.YteginbngplldaaaGreatDoorZ22x
import Derived.Test.YteginbngplldaaaGreatDoorW17x
import Derived.ChangeKeysEq
import Derived.Laws.OwnMore
import Derived.Lib.SliceRun
import Derived.Deep.RegionHeld
import Derived.Test.YteginbngplldaaaGreatDoorW7x
import Derived.Test.YteginbngplldaaaGreatDoorD2x
import Derived.Deep.RegionWith
import Derived.Test.YteginbngplldaaaGreatDoorD19x
import Derived.Test.YteginbngplldaaaGreatDoorM1x
import Derived.Test.YteginbngplldaaaGreatDoorD39x
import Derived.Deep.RegionHeld3
import Derived.Test.YteginbngplldaaaGreatDoorZ8x
import Derived.Test.YteginbngplldaaaGreatDoorD8x
import Derived.Deep.CutRange
import Derived.Test.YteginbngplldaaaGreatDoorD32cx
import Derived.Deep.Cut
import Derived.Laws.CopyOwn
import Derived.Deep.OwnRows
import Derived.Laws.MakeOwn
import Derived.ArgAppend
import Derived.Maps.AppendAt
import Derived.WalkMore
set_option linter.unusedVariables false
set_option linter.unusedSimpArgs false
set_option maxHeartbeats 16000000
set_option maxRecDepth 20000
namespace Go.Proofs.YteginbngplldaaaGreatDoor
namespace J
end J
section
open Go Go.RowKit J
def BH(xs:List Nat):Bool:=xs.all (fun x=>decide (gI x<9218868437227405312))
theorem gU(xs:List Nat):BH xs=true↔∀ x ∈ xs,fD x:=by
 unfold BH;rw[zX];constructor
 · intro h x hx;exact of_decide_eq_true (h x hx)
 · intro h x hx;exact decide_eq_true (h x hx)
def nV(xs:List Nat):Int:=if 65536<xs.length then 2 else if BH xs then 0 else 30
def fX(xs:List Nat)(i:Nat):Int:=zn (xs.getD i 0)
def sX(xs:List Nat):Int:=tS (fX xs) xs.length
theorem gP{xs:List Nat}(hW:j4 xs)(hf:∀ x ∈ xs,fD x)(i:Nat)(hi:i<xs.length):Bd 2098 (fX xs i):=by
 unfold fX;rw[fP,jb hi];exact PV (hW _ (nN hi)) (hf _ (nN hi))
theorem iA{xs:List Nat}(hW:j4 xs)(hf:∀ x ∈ xs,fD x)(hl:xs.length<=65536)(k:Nat)(hk:k<=xs.length):Bd 2114 (tS (fX xs) k):=zx (fun i hi=>gP hW hf i hi) hl k hk
def Rr(w:World)(v:Value)(n:Nat)(A:Nat->Option (Bool×Nat×Int))(S:Option (Bool×Nat×Int)):Prop:=∃ gA a c,v=.agg #[.slice (some ⟨gA,0,none⟩) n n,.bool (dN S),.slice a (ws (dX S)).length c,.int .i64 (dE S)]/\Dr w gA n n A/\Nt 0 w (.slice a (ws (dX S)).length c) (dX S)
theorem Rr.below{w w':World}{v:Value}{n:Nat}{A:Nat->Option (Bool×Nat×Int)}{S:Option (Bool×Nat×Int)}(h:Rr w v n A S)(hb:An w w'):Rr w' v n A S:=by
 obtain⟨g,a,c,e,h1,h2⟩:=h;exact⟨g,a,c,e,h1.below hb,h2.below hb⟩
theorem rT(xs:List Nat)(a:Option Addr)(n c:Nat)(w:World)(hn:n=xs.length)(hF:Fs w.heap.size w a xs)(hW:j4 xs)(hT:dH w)(hl:n<=35184372088832) :
 As 49 #[.slice a n c] w fun r w' =>
  ((nV xs≠0/\r=.returned (.tuple #[.agg #[.slice none 0 0,.bool false,.slice none 0 0,.int .i64 0],.int .i64 (nV xs)])) \/
   (nV xs=0/\∃ v,r=.returned (.tuple #[v,.int .i64 0])/\Rr w' v n (fun i=>gV 1074 (fX xs i)) (gV 1074 (sX xs))))/\An w w':=by
 obtain⟨W,jV⟩:=af (w.alloc (Obj.cells #[.slice none 0 0,.bool false,.slice none 0 0,.int .i64 0] 62))
 have H0:Aside (Bl W w.heap.size 62 [.slice none 0 0,.bool false,.slice none 0 0,.int .i64 0]/\An w W):=by
  rw[jV];exact⟨Bl.new _ 62 [_,_,_,_],aK _ _⟩
 have jB:=ak jV;clear jV
 by_cases hL:65536<n
 · have e:nV xs=2:=by unfold nV;rw[if_pos (by omega)]
   rw[e];have d5:decide ((65536:Int)<(n:Nat))=true:=by simp;omega
   clear hn hF hW hT e;go_enter Tryz.func49,Tryz.ntmps49
   go_upto_region 1 with fail
   rw[<-jB.o];clear jB;have c0:=H0.o.1.cell 0 _ rfl;have c1:=H0.o.1.cell 1 _ rfl;have c2:=H0.o.1.cell 2 _ rfl;have c3:=H0.o.1.cell 3 _ rfl;have f0:=H0.o.1.frozen 0;have f1:=H0.o.1.frozen 1;have f2:=H0.o.1.frozen 2;have f3:=H0.o.1.frozen 3;go_wp2;have q:=(((H0.o.1.set 0 (.slice none 0 0)).set 1 (.bool false)).set 2 (.slice none 0 0)).set 3 (.int .i64 0);have g0:=q.cell 0 _ rfl;have g1:=q.cell 1 _ rfl;have g2:=q.cell 2 _ rfl;have g3:=q.cell 3 _ rfl;refine aC (v:=.tuple #[.agg #[.slice none 0 0,.bool false,.slice none 0 0,.int .i64 0],.int .i64 2]) (by simp[results,Tryz.results49,go_sem,g0,g1,g2,g3]) rfl ⟨.inl ⟨by decide,rfl⟩,?_⟩;exact But.below H0.o.2 (((((But.refl _ _).set 0 _).set 1 _).set 2 _).set 3 _) H0.o.2.size (aA _)
 · have d5:decide ((65536:Int)<(n:Nat))=false:=by simp;omega
   have hmk:=BA n (by omega);obtain⟨A,hA⟩:∃ A:Nat->Option (Bool×Nat×Int),A=fun i=>gV 1074 (fX xs i):=⟨_,rfl⟩;obtain⟨W1,hW1⟩:=af ((W.alloc (.cells (madeCells #[.bool false,.slice none 0 0,.int .i64 0] (n*3)) 37)).alloc (Obj.cells #[.slice (some ⟨w.heap.size+1,0,none⟩) n n] 60));have hws:W.heap.size=w.heap.size+1:=by rw[jB.o];simp
   have H1:Aside (Dr W1 (w.heap.size+1) n 0 A/\Bl W1 (w.heap.size+2) 60 [.slice (some ⟨w.heap.size+1,0,none⟩) n n]/\Bl W1 w.heap.size 62 [.slice none 0 0,.bool false,.slice none 0 0,.int .i64 0]/\An w W1):=by
    rw[hW1];have z1:=Dr.made W n A;rw[hws] at z1;have z2:=Bl.new (W.alloc (.cells (madeCells #[.bool false,.slice none 0 0,.int .i64 0] (n*3)) 37)) 60 [.slice (some ⟨w.heap.size+1,0,none⟩) n n];rw[dA,hws] at z2;have b0:=H0.o;exact⟨z1.below (ae _ _),z2,(b0.1.alloc _).alloc _,(b0.2.trans ((ae _ _).mono b0.2.size)).trans ((ae _ _).mono (by simp;have:=b0.2.size;omega))⟩
   have HW1:=ak hW1;have HX:=dJ hn hF hW hT hA;have HL:=ak hL
   have HE:Aside (∀ x ∈ xs,¬ fD x->nV xs=30):=by
    intro x hx hf;unfold nV;rw[if_neg (by omega),if_neg (by intro q;exact hf ((gU xs).1 q x hx))]
   clear hW1 hn hF hW hT hA hws hL;go_enter Tryz.func49,Tryz.ntmps49
   go_upto_region 1 with fail
   rw[<-jB.o]
   go_upto_region 4 with fail
   have hgs:W.heap.size=w.heap.size+1:=by rw[jB.o];simp
   try rw[hgs]
   rw[<-HW1.o];clear HW1 jB hgs;go_wp2
   go_loopg [17] n (fun gk i wr=>∃ j:Nat,gk+j=n/\i=.int .i64 (j:Nat)/\Aside (Dr wr (w.heap.size+1) n j A/\Bl wr (w.heap.size+2) 60 [.slice (some ⟨w.heap.size+1,0,none⟩) n n]/\Bl wr w.heap.size 62 [.slice none 0 0,.bool false,.slice none 0 0,.int .i64 0]/\An w wr/\∀ i,i<j->fD (xs.getD i 0)))
   case atStart=>exact⟨0,by omega,by simp,H1.o.1,H1.o.2.1,H1.o.r2.1,H1.o.r3,fun i hi=>absurd hi (by omega)⟩
   case round =>
    obtain⟨j,hgj,rfl,HA⟩:=hrel
    by_cases hj:j<n
    · obtain⟨b,off,rfl,hc⟩:=HX.o.2.1.at HA.o.r3.1 j (by rw[<-HX.o.1];exact hj);obtain⟨x,hx⟩:=af (xs.getD j 0);rw[<-hx] at hc;have D5:x<18446744073709551616:=by rw[hx];exact HX.o.r2.1.get j
      by_cases hfx:fD x
      · have C:=hid (of14 x D5 hfx wr (HX.o.r3.1.belows HA.o.r3.1));have eA:gV 1074 (zn x)=A j:=by rw[HX.o.r4,hx];rfl
        rw[eA] at C;have FA:Fm (A j):=by rw[<-eA];exact aZ (by decide) (by decide) (PV D5 hfx)
        have PA:=(bO FA hfx hx);clear eA FA hfx hx D5;go_wp2_with fail;refine C.o.mono ?_;rintro r u ⟨⟨v,rfl,hN⟩,hb⟩;obtain⟨a1,c1,rfl,hN0⟩:=Lo.shape PA.o.1 hN;obtain⟨U,hU⟩:=af (u.alloc (Obj.cells #[.bool (dN (A j)),.slice a1 (ws (dX (A j))).length c1,.int .i64 (dE (A j))] 37))
        have H2:Aside (Dk U u.heap.size (dN (A j)) (.slice a1 (ws (dX (A j))).length c1) (dE (A j))/\Nt 0 U (.slice a1 (ws (dX (A j))).length c1) (dX (A j))/\Dr U (w.heap.size+1) n j A/\Bl U (w.heap.size+2) 60 [.slice (some ⟨w.heap.size+1,0,none⟩) n n]/\Bl U w.heap.size 62 [.slice none 0 0,.bool false,.slice none 0 0,.int .i64 0]/\An w U):=by
         rw[hU];have b0:=HA.o.r3.1;exact⟨Dk.new _ _ _ _,hN0.below (ae _ _),(HA.o.1.below hb).below (ae _ _),(HA.o.2.1.below hb HA.o.2.1.lt).alloc _,(HA.o.r2.1.below hb HA.o.r2.1.lt).alloc _,(b0.trans (hb.mono b0.size)).trans ((ae _ _).mono (cB b0.size hb.size))⟩
        obtain⟨gq,sF⟩:=af (u.heap.size);rw[<-sF] at H2;have HU:=(aJ hU sF);clear hU hN hN0 hb C sF hc
        go_upto_region 10 with fail
        rw[<-HU.o.1,<-HU.o.2];clear HU;obtain⟨x0,x1,x2,bE,bF,bG⟩:=H2.o.1.facts;have s0:=H2.o.r3.1.cell 0 _ rfl;obtain⟨⟨v0,k0⟩,kf0⟩:=H2.o.r2.1.room (j*3) (by omega);obtain⟨⟨v1,k1⟩,kf1⟩:=H2.o.r2.1.room (j*3+1) (by omega);obtain⟨⟨v2,k2⟩,kf2⟩:=H2.o.r2.1.room (j*3+2) (by omega);go_wp2;go_roundg (gk-1)
        case measure=>omega
        case rel =>
         have hbt:=xD (w.heap.size+1) (j*3) U (.bool (dN (A j))) (.slice a1 (ws (dX (A j))).length c1) (.int .i64 (dE (A j)));refine⟨j+1,by omega,by first | rfl | simp,H2.o.r2.1.step hj H2.o.2.1,H2.o.r3.1.but hbt (by omega),H2.o.r4.1.but hbt (by omega),But.below H2.o.r5 hbt H2.o.r5.size (by omega),fun i hi=>?_⟩
         by_cases e:i=j
         · subst e;rw[<-PA.o.r2];exact PA.o.2.1
         · exact HA.o.r4 i (by omega)
      · have C:=hid (PZ x D5 hfx wr (HX.o.r3.1.belows HA.o.r3.1));have e30:nV xs=30:=HE.o x (by rw[hx,fP,jb (by rw[<-HX.o.1];exact hj)];exact nN _) hfx;have E30:=ak e30;clear hfx hx D5 e30;go_wp2_with fail;refine C.o.mono ?_;rintro r u ⟨⟨a1,c1,rfl,hN⟩,hb⟩;obtain⟨U,hU⟩:=af (u.alloc (Obj.cells #[.bool false,.slice a1 0 c1,.int .i64 0] 37))
        have H2:Aside (Bl U w.heap.size 62 [.slice none 0 0,.bool false,.slice none 0 0,.int .i64 0]/\An w U):=by
         rw[hU];have b0:=HA.o.r3.1;exact⟨(HA.o.r2.1.below hb HA.o.r2.1.lt).alloc _,(b0.trans (hb.mono b0.size)).trans ((ae _ _).mono (cB b0.size hb.size))⟩
        have HU:=ak hU;clear hU hN hb C hc
        go_upto_region 9 with fail
        rw[<-HU.o];clear HU;have c0:=H2.o.1.cell 0 _ rfl;have c1:=H2.o.1.cell 1 _ rfl;have c2:=H2.o.1.cell 2 _ rfl;have c3:=H2.o.1.cell 3 _ rfl;have f0:=H2.o.1.frozen 0;have f1:=H2.o.1.frozen 1;have f2:=H2.o.1.frozen 2;have f3:=H2.o.1.frozen 3;go_wp2;have q:=(((H2.o.1.set 0 (.slice none 0 0)).set 1 (.bool false)).set 2 (.slice none 0 0)).set 3 (.int .i64 0);have g0:=q.cell 0 _ rfl;have g1:=q.cell 1 _ rfl;have g2:=q.cell 2 _ rfl;have g3:=q.cell 3 _ rfl;refine aC (v:=.tuple #[.agg #[.slice none 0 0,.bool false,.slice none 0 0,.int .i64 0],.int .i64 30]) (by simp[results,Tryz.results49,go_sem,g0,g1,g2,g3]) rfl ⟨.inl ⟨by rw[E30.o];decide,by rw[E30.o]⟩,?_⟩;exact But.below H2.o.2 (((((But.refl _ _).set 0 _).set 1 _).set 2 _).set 3 _) H2.o.2.size (aA _)
    · obtain rfl:n=j:=by omega
      have hd:decide ((n:Int)<n)=false:=by simp
      have hall:∀ x ∈ xs,fD x:=by
       intro x hx;obtain⟨i,hi,e⟩:=List.getElem_of_mem hx;have:=HA.o.r4 i (by rw[HX.o.1];exact hi);rw[fP,jb hi] at this;rw[<-e];exact this
      have e0:nV xs=0:=by unfold nV;rw[if_neg (by have:=HL.o;have:=HX.o.1;omega),if_pos ((gU xs).2 hall)]
      have E0:=ak e0;obtain⟨S,hS⟩:=af (gV 1074 (sX xs));have FS:Fm S:=by rw[hS];exact aZ (by decide) (by decide) (iA HX.o.r2.1 hall (by have:=HL.o;have:=HX.o.1;omega) _ (aA _))
      have HS:=ak hS
      have HC:Hid (∀ u:World,An wr u->dH u->As 84 #[.int .i64 (n:Nat),.func (.func 93) #[] #[.pointer (some ⟨w.heap.size+2,0,none⟩)]] u fun r w'=>aN 0 w' r S/\Below u.heap.size u w'):=fun u hu qD=>by
       have hl:=HL.o
       have:=Mc u n (w.heap.size+2) A (fun i=>gV 1074 (tS (fX xs) i)) (by omega) qD (fun i hi=>by rw[HX.o.r4];exact aZ (by decide) (by decide) (gP HX.o.r2.1 hall i (by rw[<-HX.o.1];exact hi)))
        (fun i hi=>aZ (by decide) (by decide) (iA HX.o.r2.1 hall (by have:=HX.o.1;omega) i (by rw[<-HX.o.1];exact hi)))
        (fun i hi=>by rw[HX.o.r4];exact uN (by decide) (by decide) (iA HX.o.r2.1 hall (by have:=HX.o.1;omega) i (by rw[<-HX.o.1];omega)) ((gP HX.o.r2.1 hall i (by rw[<-HX.o.1];exact hi)).mono (by decide)))
        (o6 1074).symm (hid fun i v hi hv=>P5 i n (w.heap.size+2) (w.heap.size+1) A v hi (by omega) ((HA.o.2.1.below hu HA.o.2.1.lt).below hv (HA.o.2.1.below hu HA.o.2.1.lt).lt) ((HA.o.1.below hu).below hv))
       rw[hS];unfold sX;rw[<-HX.o.1];exact this
      have hdr:=(aB wr.heap.size wr).drew;have HT:=ak (HX.o.r3.1.belows HA.o.r3.1);have BD:=(fE (HA.o.1.below hdr) (HA.o.2.1.below hdr HA.o.2.1.lt) (HA.o.r2.1.below hdr HA.o.r2.1.lt) (HA.o.r3.1.trans (hdr.mono HA.o.r3.1.size)));have kS:=ak (BD.o.2.1.cell 0 _ rfl);have hmf:∀ (fn:Fn) (first cap:Array Value) (w:World),(Instr.makeFunc fn first cap).run Tryz.prog w=.ok (.func fn first cap) w:=fun _ _ _ _=>rfl;have FFS:=ak FS;have C:=hid (HC.o wr.drew hdr (HT.o.belows hdr));have r0:=BD.o.r2.1.frozen 0;have r1:=BD.o.r2.1.frozen 1;have r2:=BD.o.r2.1.frozen 2;have r3:=BD.o.r2.1.frozen 3;have q0:=BD.o.r2.1.cell 0 _ rfl;have q1:=BD.o.r2.1.cell 1 _ rfl;have q2:=BD.o.r2.1.cell 2 _ rfl;have q3:=BD.o.r2.1.cell 3 _ rfl;clear hS hdr hall HC FS e0
      go_upto_region 12 with fail
      go_region_held3 (fun w'=>w'.cell? ⟨w.heap.size+2,0,none⟩=some (.slice (some ⟨w.heap.size+1,0,none⟩) n n)) (first | with_reducible exact kS.o | exact(BD.o.2.1.but (((((But.refl _ _).set 0 _).set 1 _).set 2 _).set 3 _) (by omega)).cell 0 _ rfl) (first
       | (go_at_call 84
          with_reducible refine C.o.mono ?_
          rintro r u3 ⟨hd2,hb⟩;obtain⟨a3,c3,rfl,eu⟩:=hd2.jy FFS.o;have BD:=dJ (BD.o.1.below hb) (BD.o.2.1.below hb BD.o.2.1.lt) (BD.o.r2.1.below hb BD.o.r2.1.lt) (BD.o.r3.trans (hb.mono BD.o.r3.size)) eu;have kS:=ak (BD.o.2.1.cell 0 _ rfl);have r0:=BD.o.r2.1.frozen 0;have r1:=BD.o.r2.1.frozen 1;have r2:=BD.o.r2.1.frozen 2;have r3:=BD.o.r2.1.frozen 3;have q0:=BD.o.r2.1.cell 0 _ rfl;have q1:=BD.o.r2.1.cell 1 _ rfl;have q2:=BD.o.r2.1.cell 2 _ rfl;have q3:=BD.o.r2.1.cell 3 _ rfl
          clear hb hd2 eu))
      go_wp2;have qq:=(((BD.o.r2.1.set 0 (.slice (some ⟨w.heap.size+1,0,none⟩) n n)).set 1 (.bool (dN S))).set 2 (.slice a3 (ws (dX S)).length c3)).set 3 (.int .i64 (dE S));have g0:=qq.cell 0 _ rfl;have g1:=qq.cell 1 _ rfl;have g2:=qq.cell 2 _ rfl;have g3:=qq.cell 3 _ rfl;have aG:But w.heap.size u3 ((((u3.setCell ⟨w.heap.size,0,none⟩ (.slice (some ⟨w.heap.size+1,0,none⟩) n n)).setCell ⟨w.heap.size,1,none⟩ (.bool (dN S))).setCell ⟨w.heap.size,2,none⟩ (.slice a3 (ws (dX S)).length c3)).setCell ⟨w.heap.size,3,none⟩ (.int .i64 (dE S))):=((((But.refl _ _).set 0 _).set 1 _).set 2 _).set 3 _;refine aC (v:=.tuple #[.agg #[.slice (some ⟨w.heap.size+1,0,none⟩) n n,.bool (dN S),.slice a3 (ws (dX S)).length c3,.int .i64 (dE S)],.int .i64 0]) (by simp[results,Tryz.results49,go_sem,g0,g1,g2,g3]) rfl ⟨.inr ⟨E0.o,_,rfl,?_⟩,?_⟩;rw[<-HS.o,<-HX.o.r4];refine⟨w.heap.size+1,a3,c3,rfl,?_,?_⟩
      · exact BD.o.1.but aG BD.o.r2.1 (by omega) (by decide)
      · exact BD.o.r4.off aG (BD.o.r4.fJ (by decide) BD.o.r2.1)
      · exact But.below BD.o.r3.1 aG BD.o.r3.1.size (aA _)
def xE(o1 o2:Option (Bool×Nat×Int)):Option (Bool×Nat×Int):=if o1.isSome&&o2.isSome then iB o1 (mkS (!dN o2) (dX o2) (dE o2)) else none
def nJ(w:World)(r:Ending)(o:Option (Bool×Nat×Int))(e:Int):Prop:=∃ v,r=.returned (.tuple #[.agg #[.bool (dN o),v,.int .i64 (dE o)],.int .i64 e])/\Nt 0 w v (dX o)
theorem bN.Xn{lo:Nat}{w:World}{r:Ending}{o:Option (Bool×Nat×Int)}(h:bN lo w r o):nJ w r o (nU o):=by
 obtain⟨v,rfl,hN⟩:=h;exact⟨v,rfl,hN.mono (oh _)⟩
theorem Nt.aD{w:World}{v:Value}{X:Nat}(h:Nt 0 w v X):∃ a c,v=.slice a (ws X).length c/\Nt 0 w (.slice a (ws X).length c) X:=by
 obtain⟨a,c,rfl,-⟩:=h.shape;exact⟨a,c,rfl,h⟩
theorem nJ.aD{w:World}{r:Ending}{o:Option (Bool×Nat×Int)}{e:Int}(h:nJ w r o e):∃ a c,r=.returned (.tuple #[.agg #[.bool (dN o),.slice a (ws (dX o)).length c,.int .i64 (dE o)],.int .i64 e])/\Nt 0 w (.slice a (ws (dX o)).length c) (dX o):=by
 obtain⟨v,rfl,hN⟩:=h;obtain⟨a,c,rfl,hN⟩:=hN.aD;exact⟨a,c,rfl,hN⟩
theorem aN.aD{lo:Nat}{w:World}{r:Ending}{o:Option (Bool×Nat×Int)}(h:aN lo w r o):∃ a c,r=.returned (.agg #[.bool (dN o),.slice a (ws (dX o)).length c,.int .i64 (dE o)])/\Nt 0 w (.slice a (ws (dX o)).length c) (dX o):=by
 obtain⟨v,rfl,hN⟩:=h.Bw;obtain⟨a,c,rfl,hN⟩:=hN.aD;exact⟨a,c,rfl,hN⟩
theorem xG(W:World):An W (W.alloc (Obj.cells #[.bool false,.slice none 0 0,.int .i64 0] 37)).drew:=(ae W (Obj.cells #[.bool false,.slice none 0 0,.int .i64 0] 37)).trans (((aB (W.alloc (Obj.cells #[.bool false,.slice none 0 0,.int .i64 0] 37)).heap.size (W.alloc (Obj.cells #[.bool false,.slice none 0 0,.int .i64 0] 37))).drew).mono (by simp))
theorem xH(W:World):Lo (W.alloc (Obj.cells #[.bool false,.slice none 0 0,.int .i64 0] 37)).drew W.heap.size gG:=(Lo.zero W).below (aB _ _).drew
theorem xI{o:Option (Bool×Nat×Int)}(h:o.isSome=true):nU o=0:=by unfold nU;rw[h];rfl
theorem xJ{o:Option (Bool×Nat×Int)}(h:o.isSome=false):nU o=2:=by unfold nU;rw[h];rfl
structure rU (w u:World) (np ns nt:Bool) (ap az at':Option Addr) (lp cp ls cs lt ct:Nat) (ep es et:Int):Prop where
 p:Dk u w.heap.size np (.slice ap lp cp) ep
 s:Dk u (w.heap.size+1) ns (.slice az ls cs) es
 t:Dk u (w.heap.size+2) nt (.slice at' lt ct) et
 z:Lo u (w.heap.size+3) gG
 b:An w u
theorem rU.below{w u v:World}{np ns nt:Bool}{ap az at':Option Addr}{lp cp ls cs lt ct:Nat}{ep es et:Int}(h:rU w u np ns nt ap az at' lp cp ls cs lt ct ep es et)(hb:An u v):rU w v np ns nt ap az at' lp cp ls cs lt ct ep es et :=
 ⟨h.p.below hb,h.s.below hb,h.t.below hb,h.z.below hb,h.b.trans (hb.mono h.b.size)⟩
theorem rU.other{w u:World}{np ns nt:Bool}{ap az at':Option Addr}{lp cp ls cs lt ct g:Nat}{ep es et:Int}{q:Option (Bool×Nat×Int)}(h:rU w u np ns nt ap az at' lp cp ls cs lt ct ep es et)(hL:Lo u g q)(hg:w.heap.size+3<g)(x y z:Value):rU w (dh u g x y z) np ns nt ap az at' lp cp ls cs lt ct ep es et :=
 ⟨h.p.other g (by omega) _ _ _,h.s.other g (by omega) _ _ _,h.t.other g (by omega) _ _ _,h.z.other hL (by omega) _ _ _,di h.b h.b.size (by omega) _ _ _⟩
theorem JT{P:Prop}(h:P:=by
 subst hW;have z1:=Dk.new (w.alloc (Obj.cells #[.bool np,.slice ap lp cp,.int .i64 ep] 37)) ns (.slice az ls cs) es;have z2:=Dk.new ((w.alloc (Obj.cells #[.bool np,.slice ap lp cp,.int .i64 ep] 37)).alloc (Obj.cells #[.bool ns,.slice az ls cs,.int .i64 es] 37)) nt (.slice at' lt ct) et;have z3:=Lo.zero (((w.alloc (Obj.cells #[.bool np,.slice ap lp cp,.int .i64 ep] 37)).alloc (Obj.cells #[.bool ns,.slice az ls cs,.int .i64 es] 37)).alloc (Obj.cells #[.bool nt,.slice at' lt ct,.int .i64 et] 37));rw[dA] at z1;rw[dA,dA] at z2;rw[dA,dA,dA] at z3;exact⟨(((Dk.new _ _ _ _).below (ae _ _)).below (ae _ _)).below (ae _ _),(z1.below (ae _ _)).below (ae _ _),z2.below (ae _ _),z3,(((ae _ _).trans ((ae _ _).mono (by simp))).trans ((ae _ _).mono (by simp;omega))).trans ((ae _ _).mono (by simp;omega))⟩):P:=h
theorem ZD{P:Prop}(h:P:=by
 have hdr:=(aB W.heap.size W).drew;have BB:=ak (H0.o.below hdr);have BZ:=aJ (H0.o.below (xG W)) (xH W);have k0:=BB.o.p.facts;have kS:=bO k0.1 k0.2.1 k0.2.2.1;have h3l:=H0.o.z.lt;clear hdr k0
 go_region_held3 (fun w'=>w'.cell? ⟨w.heap.size,0,none⟩=some (.bool np)/\w'.cell? ⟨w.heap.size,1,none⟩=some (.slice ap lp cp)/\w'.cell? ⟨w.heap.size,2,none⟩=some (.int .i64 ep)) (first | with_reducible exact kS.o | with_reducible exact⟨BZ.o.1.p.facts.1,BZ.o.1.p.facts.2.1,BZ.o.1.p.facts.2.2.1⟩ | with_reducible exact⟨kZ.o.facts.1,kZ.o.facts.2.1,kZ.o.facts.2.2.1⟩ | with_reducible exact kT.o | with_reducible exact⟨kM.o.facts.1,kM.o.facts.2.1,kM.o.facts.2.2.1⟩ | with_reducible exact⟨kN.o.facts.1,kN.o.facts.2.1,kN.o.facts.2.2.1⟩) (first
  | (go_at_call 52
     with_reducible refine(HI.o _ BB.o.b).mono ?_
     rintro r u1 ⟨hd,hb⟩;obtain⟨a3,c3,rfl,eu⟩:=hd.aD;have BC:=aJ (BB.o.below hb) eu;have kS:=bO BC.o.1.p.facts.1 BC.o.1.p.facts.2.1 BC.o.1.p.facts.2.2.1;have kZ:=ak (BC.o.1.p.below (ae u1 (Obj.cells #[.bool false,.slice none 0 0,.int .i64 0] 37)));have Vv:=BC.o.1.z.lt
     clear hb hd eu)
  | (go_at_call 52
     with_reducible refine(HI.o _ BZ.o.1.b).mono ?_
     rintro r u1 ⟨hd,hb⟩;obtain⟨a3,c3,rfl,eu⟩:=hd.aD;have BC:=aJ (BZ.o.1.below hb) eu;have ZB:=ak (BZ.o.2.below hb);have kS:=bO BC.o.1.p.facts.1 BC.o.1.p.facts.2.1 BC.o.1.p.facts.2.2.1
     clear hb hd eu)
  | (go_at_call 83
     with_reducible refine(Jg.o _ a3 c3 BC.o.1.b BC.o.2).mono ?_
     rintro r u2 ⟨hd,hb⟩;obtain⟨a4,c4,rfl,iD⟩:=hd.aD;have BE:=aJ (BC.o.1.below hb) iD;have kS:=bO BE.o.1.p.facts.1 BE.o.1.p.facts.2.1 BE.o.1.p.facts.2.2.1;have kZ:=ak (BE.o.1.p.below (ae u2 (Obj.cells #[.bool false,.slice none 0 0,.int .i64 0] 37)));have kM:=ak (BE.o.1.p.below (ae u2 (Obj.cells #[.bool (dN o1),.slice a4 (ws (dX o1)).length c4,.int .i64 (dE o1)] 37)));have kN:=ak ((BE.o.1.p.below (ae u2 (Obj.cells #[.bool false,.slice none 0 0,.int .i64 0] 37))).other u2.heap.size (by have:=BE.o.1.z.lt;omega) (.bool (dN o1)) (.slice a4 (ws (dX o1)).length c4) (.int .i64 (dE o1)))
     try have ZB:=ak (ZB.o.below hb)
     try have kT:=ak (show _ from(ai (BE.o.1.p.other _ (show w.heap.size≠W.heap.size by omega) (.bool (dN o1)) (.slice a4 (ws (dX o1)).length c4) (.int .i64 (dE o1))).facts.1 (ai (BE.o.1.p.other _ (show w.heap.size≠W.heap.size by omega) (.bool (dN o1)) (.slice a4 (ws (dX o1)).length c4) (.int .i64 (dE o1))).facts.2.1 (BE.o.1.p.other _ (show w.heap.size≠W.heap.size by omega) (.bool (dN o1)) (.slice a4 (ws (dX o1)).length c4) (.int .i64 (dE o1))).facts.2.2.1)))
     try (obtain⟨zp,zq,DZ,MZ⟩:=ZB.o;obtain⟨z0,z1,z2,dO,dP,dQ⟩:=DZ.facts;clear DZ MZ)
     clear hb hd iD)
  | (go_at_call 83
     with_reducible refine(Jg.o _ a3 c3 (BC.o.1.below (ae u1 (Obj.cells #[.bool false,.slice none 0 0,.int .i64 0] 37))).b (BC.o.2.below (ae u1 (Obj.cells #[.bool false,.slice none 0 0,.int .i64 0] 37)))).mono ?_
     rintro r u2 ⟨hd,hb⟩;obtain⟨a4,c4,rfl,iD⟩:=hd.aD;have BE:=aJ ((BC.o.1.below (ae u1 (Obj.cells #[.bool false,.slice none 0 0,.int .i64 0] 37))).below hb) iD;have ZC:=ak ((Lo.zero u1).below hb);have kS:=bO BE.o.1.p.facts.1 BE.o.1.p.facts.2.1 BE.o.1.p.facts.2.2.1;have kT:=bO (BE.o.1.p.other _ (show w.heap.size≠u1.heap.size by omega) (.bool (dN o1)) (.slice a4 (ws (dX o1)).length c4) (.int .i64 (dE o1))).facts.1 (BE.o.1.p.other _ (show w.heap.size≠u1.heap.size by omega) (.bool (dN o1)) (.slice a4 (ws (dX o1)).length c4) (.int .i64 (dE o1))).facts.2.1 (BE.o.1.p.other _ (show w.heap.size≠u1.heap.size by omega) (.bool (dN o1)) (.slice a4 (ws (dX o1)).length c4) (.int .i64 (dE o1))).facts.2.2.1;obtain⟨zp,zq,DZ,MZ⟩:=ZC.o;obtain⟨z0,z1,z2,dO,dP,dQ⟩:=DZ.facts
     clear hb hd iD DZ MZ))
 all_goals
  go_wp2_with fail
  go_meet
  case rel =>
   first
    | exact⟨u2.heap.size,rfl,rfl,Lo.new BE.o.2,BE.o.1.below (ae _ _),BE.o.1.z.lt⟩
    | exact⟨u2.heap.size,rfl,rfl,(Lo.zero u2).set (BE.o.2.below (ae _ _)),(BE.o.1.below (ae _ _)).other (Lo.zero u2) BE.o.1.z.lt _ _ _,BE.o.1.z.lt⟩
    | exact⟨W.heap.size,rfl,rfl,ZB.o.set BE.o.2,BE.o.1.other ZB.o h3l _ _ _,h3l⟩
    | exact⟨u1.heap.size,rfl,rfl,ZC.o.set BE.o.2,BE.o.1.other ZC.o Vv _ _ _,Vv⟩):P:=h
theorem TS (w:World) (n:Int) (np ns nt:Bool) (ap az at':Option Addr) (lp cp ls cs lt ct:Nat) (ep es et:Int) (oI o1 o2:Option (Bool×Nat×Int)) (e1 e2:Int)
 (HI:Hid (∀ u:World,An w u->As 52 #[.int .i64 n] u fun r w'=>aN 0 w' r oI/\An u w'))
 (Jg:Hid (∀ (u:World) (a:Option Addr) (c:Nat),An w u->Nt 0 u (.slice a (ws (dX oI)).length c) (dX oI)->As 83 #[.agg #[.bool (dN oI),.slice a (ws (dX oI)).length c,.int .i64 (dE oI)],.agg #[.bool np,.slice ap lp cp,.int .i64 ep]] u fun r w'=>nJ w' r o1 e1/\An u w')) (x1:(e1==0)=false) :
 As 45 #[.int .i64 n,.agg #[.bool np,.slice ap lp cp,.int .i64 ep],.agg #[.bool ns,.slice az ls cs,.int .i64 es],.agg #[.bool nt,.slice at' lt ct,.int .i64 et]] w fun r w'=>nJ w' r (none:Option (Bool×Nat×Int)) e1/\An w w':=by
 obtain⟨W,hW⟩:=af ((((w.alloc (Obj.cells #[.bool np,.slice ap lp cp,.int .i64 ep] 37)).alloc (Obj.cells #[.bool ns,.slice az ls cs,.int .i64 es] 37)).alloc (Obj.cells #[.bool nt,.slice at' lt ct,.int .i64 et] 37)).alloc (Obj.cells #[.bool false,.slice none 0 0,.int .i64 0] 37))
 have H0:Aside (rU w W np ns nt ap az at' lp cp ls cs lt ct ep es et):=by
  exact JT
 have HW:=ak hW;clear hW;go_enter Tryz.func45,Tryz.ntmps45
 go_upto_region 1 with fail
 rw[<-HW.o];clear HW
 go_cut [10,11] from 13 to 19 (fun q e wx=>∃ gq:Nat,q=.pointer (some ⟨gq,0,none⟩)/\e=.int .i64 e1/\Aside (Lo wx gq o1/\rU w wx np ns nt ap az at' lp cp ls cs lt ct ep es et/\w.heap.size+3<gq))
 case first =>
  exact ZD
 obtain⟨gq,rfl,rfl,K1⟩:=hcut;obtain⟨U,hU⟩:=af wc;rw[<-hU] at K1 |-;clear hU H0;obtain⟨p4,q4,D4,M4⟩:=K1.o.2.1.z;obtain⟨y0,y1,y2,bI,bJ,bK⟩:=D4.facts;have HE:=aJ (D4.set false (.slice none 0 0) 0) (di K1.o.2.1.b K1.o.2.1.b.size (show w.heap.size<=w.heap.size+3 by omega) (.bool false) (.slice none 0 0) (.int .i64 0));unfold dh at HE;clear D4 M4;go_wp2;obtain⟨f0,f1,f2,_,_,_⟩:=HE.o.1.facts;exact aC (v:=.tuple #[.agg #[.bool false,.slice none 0 0,.int .i64 0],.int .i64 e1]) (by simp[results,Tryz.results45,go_sem,f0,f1,f2]) rfl ⟨⟨_,rfl,Nt.nil _ _⟩,HE.o.2⟩
theorem Qak{P:Prop}(h:P:=by
 rw[hV,hgr];exact⟨(K1.o.1.below hb).below (ae _ _),(K1.o.2.1.below hb).below (ae _ _),Lo.new uW⟩):P:=h
theorem TT (w:World) (n:Int) (np ns nt:Bool) (ap az at':Option Addr) (lp cp ls cs lt ct:Nat) (ep es et:Int) (oI o1 o2:Option (Bool×Nat×Int)) (e1 e2:Int)
 (HI:Hid (∀ u:World,An w u->As 52 #[.int .i64 n] u fun r w'=>aN 0 w' r oI/\An u w'))
 (Jg:Hid (∀ (u:World) (a:Option Addr) (c:Nat),An w u->Nt 0 u (.slice a (ws (dX oI)).length c) (dX oI)->As 83 #[.agg #[.bool (dN oI),.slice a (ws (dX oI)).length c,.int .i64 (dE oI)],.agg #[.bool np,.slice ap lp cp,.int .i64 ep]] u fun r w'=>nJ w' r o1 e1/\An u w'))
 (Vw:Hid (∀ u:World,An w u->As 83 #[.agg #[.bool ns,.slice az ls cs,.int .i64 es],.agg #[.bool nt,.slice at' lt ct,.int .i64 et]] u fun r w'=>nJ w' r o2 e2/\An u w')) (x1:e1=0) (x2:(e2==0)=false) :
 As 45 #[.int .i64 n,.agg #[.bool np,.slice ap lp cp,.int .i64 ep],.agg #[.bool ns,.slice az ls cs,.int .i64 es],.agg #[.bool nt,.slice at' lt ct,.int .i64 et]] w fun r w'=>nJ w' r (none:Option (Bool×Nat×Int)) e2/\An w w':=by
 obtain⟨W,hW⟩:=af ((((w.alloc (Obj.cells #[.bool np,.slice ap lp cp,.int .i64 ep] 37)).alloc (Obj.cells #[.bool ns,.slice az ls cs,.int .i64 es] 37)).alloc (Obj.cells #[.bool nt,.slice at' lt ct,.int .i64 et] 37)).alloc (Obj.cells #[.bool false,.slice none 0 0,.int .i64 0] 37))
 have H0:Aside (rU w W np ns nt ap az at' lp cp ls cs lt ct ep es et):=by
  exact JT
 have HW:=ak hW;clear hW;subst x1;go_enter Tryz.func45,Tryz.ntmps45
 go_upto_region 1 with fail
 rw[<-HW.o];clear HW
 go_cut [10,11] from 13 to 19 (fun q e wx=>∃ gq:Nat,q=.pointer (some ⟨gq,0,none⟩)/\e=.int .i64 0/\Aside (Lo wx gq o1/\rU w wx np ns nt ap az at' lp cp ls cs lt ct ep es et/\w.heap.size+3<gq))
 case first =>
  exact ZD
 obtain⟨gq,rfl,rfl,K1⟩:=hcut;obtain⟨U,hU⟩:=af wc;rw[<-hU] at K1 |-;clear hU H0
 go_upto_region 4 with fail
 obtain⟨x0,x1,x2,bE,bF,bG⟩:=K1.o.2.1.s.facts;obtain⟨y0,y1,y2,bI,bJ,bK⟩:=K1.o.2.1.t.facts;have C:=hid (Vw.o U K1.o.2.1.b);go_wp2_with fail;refine C.o.mono ?_;rintro r u3 ⟨hd,hb⟩;obtain⟨a5,c5,rfl,uW⟩:=hd.aD;obtain⟨V,hV⟩:=af (u3.alloc (Obj.cells #[.bool (dN o2),.slice a5 (ws (dX o2)).length c5,.int .i64 (dE o2)] 37));obtain⟨gr,hgr⟩:=af (u3.heap.size)
 have K2:Aside (Lo V gq o1/\rU w V np ns nt ap az at' lp cp ls cs lt ct ep es et/\Lo V gr o2):=by
  exact Qak
 have HV:=(aJ hV hgr);clear hV hgr hb hd uW C x0 x1 x2 bE bF bG y0 y1 y2 bI bJ bK K1
 go_upto_region 5 with fail
 rw[<-HV.o.1,<-HV.o.2];clear HV;obtain⟨p4,q4,D4,M4⟩:=K2.o.2.1.z;obtain⟨y0,y1,y2,bI,bJ,bK⟩:=D4.facts;have HE:=aJ (D4.set false (.slice none 0 0) 0) (di K2.o.2.1.b K2.o.2.1.b.size (show w.heap.size<=w.heap.size+3 by omega) (.bool false) (.slice none 0 0) (.int .i64 0));unfold dh at HE;clear D4 M4;go_wp2;obtain⟨f0,f1,f2,_,_,_⟩:=HE.o.1.facts;exact aC (v:=.tuple #[.agg #[.bool false,.slice none 0 0,.int .i64 0],.int .i64 e2]) (by simp[results,Tryz.results45,go_sem,f0,f1,f2]) rfl ⟨⟨_,rfl,Nt.nil _ _⟩,HE.o.2⟩
theorem Xo (w:World) (n:Int) (np ns nt:Bool) (ap az at':Option Addr) (lp cp ls cs lt ct:Nat) (ep es et:Int) (oI o1 o2 o3:Option (Bool×Nat×Int)) (e1 e2 e3:Int)
 (HI:Hid (∀ u:World,An w u->As 52 #[.int .i64 n] u fun r w'=>aN 0 w' r oI/\An u w'))
 (Jg:Hid (∀ (u:World) (a:Option Addr) (c:Nat),An w u->Nt 0 u (.slice a (ws (dX oI)).length c) (dX oI)->As 83 #[.agg #[.bool (dN oI),.slice a (ws (dX oI)).length c,.int .i64 (dE oI)],.agg #[.bool np,.slice ap lp cp,.int .i64 ep]] u fun r w'=>nJ w' r o1 e1/\An u w'))
 (Vw:Hid (∀ u:World,An w u->As 83 #[.agg #[.bool ns,.slice az ls cs,.int .i64 es],.agg #[.bool nt,.slice at' lt ct,.int .i64 et]] u fun r w'=>nJ w' r o2 e2/\An u w'))
 (HS:Hid (∀ (u:World) (a b:Option Addr) (c d:Nat),An w u->Nt 0 u (.slice a (ws (dX o1)).length c) (dX o1)->Nt 0 u (.slice b (ws (dX o2)).length d) (dX o2)->As 88 #[.agg #[.bool (dN o1),.slice a (ws (dX o1)).length c,.int .i64 (dE o1)],.agg #[.bool (dN o2),.slice b (ws (dX o2)).length d,.int .i64 (dE o2)]] u fun r w'=>nJ w' r o3 e3/\An u w')) (x1:e1=0) (x2:e2=0) :
 As 45 #[.int .i64 n,.agg #[.bool np,.slice ap lp cp,.int .i64 ep],.agg #[.bool ns,.slice az ls cs,.int .i64 es],.agg #[.bool nt,.slice at' lt ct,.int .i64 et]] w fun r w'=>nJ w' r o3 e3/\An w w':=by
 obtain⟨W,hW⟩:=af ((((w.alloc (Obj.cells #[.bool np,.slice ap lp cp,.int .i64 ep] 37)).alloc (Obj.cells #[.bool ns,.slice az ls cs,.int .i64 es] 37)).alloc (Obj.cells #[.bool nt,.slice at' lt ct,.int .i64 et] 37)).alloc (Obj.cells #[.bool false,.slice none 0 0,.int .i64 0] 37))
 have H0:Aside (rU w W np ns nt ap az at' lp cp ls cs lt ct ep es et):=by
  exact JT
 have HW:=ak hW;clear hW;subst x1;subst x2;go_enter Tryz.func45,Tryz.ntmps45
 go_upto_region 1 with fail
 rw[<-HW.o];clear HW
 go_cut [10,11] from 13 to 19 (fun q e wx=>∃ gq:Nat,q=.pointer (some ⟨gq,0,none⟩)/\e=.int .i64 0/\Aside (Lo wx gq o1/\rU w wx np ns nt ap az at' lp cp ls cs lt ct ep es et/\w.heap.size+3<gq))
 case first =>
  exact ZD
 obtain⟨gq,rfl,rfl,K1⟩:=hcut;obtain⟨U,hU⟩:=af wc;rw[<-hU] at K1 |-;clear hU H0
 go_upto_region 4 with fail
 obtain⟨x0,x1,x2,bE,bF,bG⟩:=K1.o.2.1.s.facts;obtain⟨y0,y1,y2,bI,bJ,bK⟩:=K1.o.2.1.t.facts;have C:=hid (Vw.o U K1.o.2.1.b);go_wp2_with fail;refine C.o.mono ?_;rintro r u3 ⟨hd,hb⟩;obtain⟨a5,c5,rfl,uW⟩:=hd.aD;obtain⟨V,hV⟩:=af (u3.alloc (Obj.cells #[.bool (dN o2),.slice a5 (ws (dX o2)).length c5,.int .i64 (dE o2)] 37));obtain⟨gr,hgr⟩:=af (u3.heap.size)
 have K2:Aside (Lo V gq o1/\rU w V np ns nt ap az at' lp cp ls cs lt ct ep es et/\Lo V gr o2):=by
  exact Qak
 have HV:=(aJ hV hgr);clear hV hgr hb hd uW C x0 x1 x2 bE bF bG y0 y1 y2 bI bJ bK K1
 go_upto_region 5 with fail
 rw[<-HV.o.1,<-HV.o.2];clear HV
 go_upto_region 7 with fail
 obtain⟨p1,q1,D1,M1⟩:=K2.o.1;obtain⟨p2,q2,D2,M2⟩:=K2.o.r2;obtain⟨x0,x1,x2,bE,bF,bG⟩:=D1.facts;obtain⟨y0,y1,y2,bI,bJ,bK⟩:=D2.facts;have C:=hid (HS.o V p1 p2 q1 q2 K2.o.2.1.b M1 M2);clear D1 D2 M1 M2;go_wp2_with fail;refine C.o.mono ?_;rintro r u4 ⟨hd,hb⟩;obtain⟨a6,c6,rfl,Ah⟩:=hd.aD;have K3:=aJ (K2.o.2.1.below hb) Ah;clear hb hd Ah C x0 x1 x2 bE bF bG y0 y1 y2 bI bJ bK K2;obtain⟨p4,q4,D4,M4⟩:=K3.o.1.z;obtain⟨y0,y1,y2,bI,bJ,bK⟩:=D4.facts;have HE:=bO (D4.set (dN o3) (.slice a6 (ws (dX o3)).length c6) (dE o3)) (K3.o.2.rR D4 (.bool (dN o3)) (.slice a6 (ws (dX o3)).length c6) (.int .i64 (dE o3))) (di K3.o.1.b K3.o.1.b.size (show w.heap.size<=w.heap.size+3 by omega) (.bool (dN o3)) (.slice a6 (ws (dX o3)).length c6) (.int .i64 (dE o3)));unfold dh at HE;clear D4 M4;go_wp2;obtain⟨f0,f1,f2,_,_,_⟩:=HE.o.1.facts;exact aC (v:=.tuple #[.agg #[.bool (dN o3),.slice a6 (ws (dX o3)).length c6,.int .i64 (dE o3)],.int .i64 e3]) (by simp[results,Tryz.results45,go_sem,f0,f1,f2]) rfl ⟨⟨_,rfl,HE.o.2.1⟩,HE.o.r2⟩
theorem BI{o p:Option (Bool×Nat×Int)}(h:(dY o p).isSome=true):mkS (dN (dY o p)) (dX (dY o p)) (dE (dY o p))=dY o p:=by
 cases o with
 | none=>cases h
 | some x =>
   cases p with
   | none=>cases h
   | some y=>exact xm (o:=dY (some x) (some y)) rfl h
theorem jA{w w':World}{p:Addr}{v:Value}(h:w.cell? p=some v)(hb:An w w'):w'.cell? p=some v:=(hb.cell (p:=p) (lK w p h)).trans h
theorem ck{w u:World}(hb:An w u){a b c d:Addr}{p q r s:Value}{R R':Prop}(h:w.cell? a=some p/\w.cell? b=some q/\w.cell? c=some r/\w.cell? d=some s/\R)(f:R->R'):u.cell? a=some p/\u.cell? b=some q/\u.cell? c=some r/\u.cell? d=some s/\R':=⟨jA h.1 hb,jA h.2.1 hb,jA h.2.2.1 hb,jA h.2.2.2.1 hb,f h.2.2.2.2⟩
theorem ck1{w u:World}(hb:An w u){a:Addr}{p:Value}(h:w.cell? a=some p):u.cell? a=some p:=jA h hb
theorem ck2{w u:World}(hb:An w u){a b:Addr}{p q:Value}(h:w.cell? a=some p/\w.cell? b=some q):u.cell? a=some p/\u.cell? b=some q:=⟨jA h.1 hb,jA h.2 hb⟩
theorem l9{w u:World}(hb:An w u){a b c:Addr}{p q r:Value}(h:w.cell? a=some p/\w.cell? b=some q/\w.cell? c=some r):u.cell? a=some p/\u.cell? b=some q/\u.cell? c=some r:=⟨jA h.1 hb,jA h.2.1 hb,jA h.2.2 hb⟩
theorem jm{w u:World}(hb:An w u){a b c d:Addr}{p q r s:Value}(h:w.cell? a=some p/\w.cell? b=some q/\w.cell? c=some r/\w.cell? d=some s):u.cell? a=some p/\u.cell? b=some q/\u.cell? c=some r/\u.cell? d=some s:=⟨jA h.1 hb,jA h.2.1 hb,jA h.2.2.1 hb,jA h.2.2.2 hb⟩
theorem lG{w:World}{g:Nat}{x y z:Value}{p:Addr}{v:Value}(h:w.cell? p=some v)(hg:p.block≠g):(dh w g x y z).cell? p=some v:=by
 rw[x8 (a:=p) ((kI g w x y z).block p.block (lK w p h) hg)];exact h
theorem tZ{o:Option (Bool×Nat×Int)}(h:o.isSome=true)(hr:mkS (dN o) (dX o) (dE o)=o):(ws (dX o)).length<=8192/\-9223372036854775808<=dE o/\dE o<=9223372036854775807:=by
 have F:=iN (n:=dN o) (X:=dX o) (e:=dE o) (by rw[hr];exact h);rw[hr] at F;have:=dF F;have:=F.up;have:=F.down;refine⟨by omega,by omega,by omega⟩
theorem rX {w:World}{ap az at':Option Addr}{lp cp ls cs lt ct:Nat}{xs ys zs:List Nat}(n:Int) (np ns nt:Bool) (ep es et:Int) (h1:Arg w ap lp cp xs) (h2:Arg w az ls cs ys) (h3:Arg w at' lt ct zs) (hT:dH w)
 (hn:-9223372036854775808<=n/\n<=9223372036854775807) (b1:-9223372036854775808<=ep/\ep<=9223372036854775807) (b2:-9223372036854775808<=es/\es<=9223372036854775807) (b3:-9223372036854775808<=et/\et<=9223372036854775807) :
 As 45 #[.int .i64 n,.agg #[.bool np,.slice ap lp cp,.int .i64 ep],.agg #[.bool ns,.slice az ls cs,.int .i64 es],.agg #[.bool nt,.slice at' lt ct,.int .i64 et]] w fun r w' =>
  nJ w' r (xE (dY (gV 0 n) (mkS np (val xs) ep)) (dY (mkS ns (val ys) es) (mkS nt (val zs) et))) (nU (xE (dY (gV 0 n) (mkS np (val xs) ep)) (dY (mkS ns (val ys) es) (mkS nt (val zs) et))))/\An w w':=by
 have Fi:Fm (gV 0 n):=aZ (m:=63) (by decide) (by decide) (show Bd 63 n by unfold Bd;omega);have HI:=hid (fun(u:World) (hu:An w u)=>xC n u (hT.belows hu) hn.1 hn.2)
 have Jg:∀ (u:World) (a:Option Addr) (c:Nat),An w u->Nt 0 u (.slice a (ws (dX (gV 0 n))).length c) (dX (gV 0 n))->As 83 #[.agg #[.bool (dN (gV 0 n)),.slice a (ws (dX (gV 0 n))).length c,.int .i64 (dE (gV 0 n))],.agg #[.bool np,.slice ap lp cp,.int .i64 ep]] u fun r w'=>nJ w' r (dY (gV 0 n) (mkS np (val xs) ep)) (nU (dY (gV 0 n) (mkS np (val xs) ep)))/\An u w':=fun u a c hu hN=>by
  have:=wX (Fi.a12 hN) (h1.below hu) (hT.belows hu) (dN (gV 0 n)) np (dE (gV 0 n)) ep Fi.mV.1 Fi.mV.2 b1.1 b1.2;rw[aj,Fi.re] at this;exact this.mono fun r w' h=>⟨h.1.Xn,h.2⟩
 have Vw:∀ u:World,An w u->As 83 #[.agg #[.bool ns,.slice az ls cs,.int .i64 es],.agg #[.bool nt,.slice at' lt ct,.int .i64 et]] u fun r w'=>nJ w' r (dY (mkS ns (val ys) es) (mkS nt (val zs) et)) (nU (dY (mkS ns (val ys) es) (mkS nt (val zs) et)))/\An u w':=fun u hu =>
  (wX (h2.below hu) (h3.below hu) (hT.belows hu) ns nt es et b2.1 b2.2 b3.1 b3.2).mono fun r w' h=>⟨h.1.Xn,h.2⟩
 have R1:=BI (o:=gV 0 n) (p:=mkS np (val xs) ep);have R2:=BI (o:=mkS ns (val ys) es) (p:=mkS nt (val zs) et);generalize dY (gV 0 n) (mkS np (val xs) ep)=o1 at *;generalize dY (mkS ns (val ys) es) (mkS nt (val zs) et)=o2 at *
 have HS:o1.isSome=true->o2.isSome=true->∀ (u:World) (a b:Option Addr) (c d:Nat),An w u->Nt 0 u (.slice a (ws (dX o1)).length c) (dX o1)->Nt 0 u (.slice b (ws (dX o2)).length d) (dX o2)->As 88 #[.agg #[.bool (dN o1),.slice a (ws (dX o1)).length c,.int .i64 (dE o1)],.agg #[.bool (dN o2),.slice b (ws (dX o2)).length d,.int .i64 (dE o2)]] u fun r w'=>nJ w' r (iB o1 (mkS (!dN o2) (dX o2) (dE o2))) (nU (iB o1 (mkS (!dN o2) (dX o2) (dE o2))))/\An u w':=fun q1 q2 u a b c d hu n1 n2=>by
  obtain⟨l1,r1,r1'⟩:=tZ q1 (R1 q1);obtain⟨l2,r2,r2'⟩:=tZ q2 (R2 q2);have:=O9 (n1.aR (by omega)).2 (n2.aR (by omega)).2 (hT.belows hu) (dN o1) (dN o2) (dE o1) (dE o2) r1 r1' r2 r2';rw[aj,aj,R1 q1] at this;exact this.mono fun r w' h=>⟨h.1.Xn,h.2⟩
 unfold xE;have none14:∀ (u:World) (a b:Option Addr) (c d:Nat),An w u->Nt 0 u (.slice a (ws (dX o1)).length c) (dX o1)->Nt 0 u (.slice b (ws (dX o2)).length d) (dX o2)->True:=fun _ _ _ _ _ _ _ _=>trivial
 cases q1:o1.isSome with
 | false =>
   have e1:=xJ q1;rw[e1] at Jg;exact TS w n np ns nt ap az at' lp cp ls cs lt ct ep es et (gV 0 n) o1 o2 2 (nU o2) HI (hid Jg) (by decide)
 | true =>
   have e1:=xI q1;rw[e1] at Jg
   cases q2:o2.isSome with
   | false =>
     have e2:=xJ q2;rw[e2] at Vw;exact TT w n np ns nt ap az at' lp cp ls cs lt ct ep es et (gV 0 n) o1 o2 0 2 HI (hid Jg) (hid Vw) rfl (by decide)
   | true =>
     have e2:=xI q2;rw[e2] at Vw;exact Xo w n np ns nt ap az at' lp cp ls cs lt ct ep es et (gV 0 n) o1 o2 _ 0 0 _ HI (hid Jg) (hid Vw) (hid (HS q1 q2)) rfl rfl
theorem Xp {w:World}{ap az at':Option Addr}{cp cs ct:Nat}{n:Nat}{P S T:Int}(hn:n<=65536) (bP:Bd 4212 P) (bS:Bd 2114 S) (bT:Bd 2114 T) (hT:dH w)
 (N1:Nt 0 w (.slice ap (ws (dX (gV 2148 P))).length cp) (dX (gV 2148 P))) (N2:Nt 0 w (.slice az (ws (dX (gV 1074 S))).length cs) (dX (gV 1074 S))) (N3:Nt 0 w (.slice at' (ws (dX (gV 1074 T))).length ct) (dX (gV 1074 T))) :
 As 45 #[.int .i64 (n:Nat),.agg #[.bool (dN (gV 2148 P)),.slice ap (ws (dX (gV 2148 P))).length cp,.int .i64 (dE (gV 2148 P))],.agg #[.bool (dN (gV 1074 S)),.slice az (ws (dX (gV 1074 S))).length cs,.int .i64 (dE (gV 1074 S))],.agg #[.bool (dN (gV 1074 T)),.slice at' (ws (dX (gV 1074 T))).length ct,.int .i64 (dE (gV 1074 T))]] w fun r w' =>
  nJ w' r (gV 2148 ((n:Int)*P-S*T)) 0/\An w w':=by
 have F1:Fm (gV 2148 P):=aZ (by decide) (by decide) bP;have F2:Fm (gV 1074 S):=aZ (by decide) (by decide) bS;have F3:Fm (gV 1074 T):=aZ (by decide) (by decide) bT;have bn:Bd 16 (n:Int):=Bd.nat (by omega);have b1:Bd 4228 ((n:Int)*P):=(bn.mul bP).mono (by decide);have b2:Bd 4228 (S*T):=(bS.mul bT).mono (by decide);have F4:Fm (gV 2148 ((n:Int)*P)):=aZ (by decide) (by decide) b1;have F5:Fm (gV 2148 (S*T)):=aZ (by decide) (by decide) b2;have F6:Fm (gV 2148 ((n:Int)*P-S*T)):=aZ (by decide) (by decide) (b1.sub b2);have:=rX (n:Int) (dN (gV 2148 P)) (dN (gV 1074 S)) (dN (gV 1074 T)) (dE (gV 2148 P)) (dE (gV 1074 S)) (dE (gV 1074 T)) (F1.a12 N1) (F2.a12 N2) (F3.a12 N3) hT (by omega) F1.mV F2.mV F3.mV;rw[aj,aj,aj,F1.re,F2.re,F3.re,iR (by decide) (by decide) (by decide) (by decide) bn bP,iR (by decide) (by decide) (by decide) (by decide) bS bT,dK] at this
 have e:xE (gV 2148 ((n:Int)*P)) (gV 2148 (S*T))=gV 2148 ((n:Int)*P-S*T):=by
  unfold xE;rw[F4.sm,F5.sm];exact Je (by decide) (by decide) b1 b2
 rw[e,F6.er] at this;exact this
theorem Md (w:World) (n h0 h1:Nat) (A T:Nat->Option (Bool×Nat×Int)) (hn:n<=65536) (hT:dH w) (FA:∀ i,i<n->Fm (A i)) (FT:∀ i,i<=n->Fm (T i)) (ET:∀ i,i<n->iB (T i) (A i)=T (i+1)) (E0:gG=T 0)
 (HC:Hid (∀ (i:Nat) (u:World),i<n->An w u->As 85 #[.int .i64 (i:Nat),.pointer (some ⟨h0,0,none⟩),.pointer (some ⟨h1,0,none⟩)] u fun r w'=>aN 0 w' r (A i)/\An u w')) :
 As 84 #[.int .i64 (n:Nat),.func (.func 85) #[] #[.pointer (some ⟨h0,0,none⟩),.pointer (some ⟨h1,0,none⟩)]] w fun r w'=>aN 0 w' r (T n)/\An w w':=by
 obtain⟨W,hW⟩:=af ((w.alloc (Obj.cells #[.bool false,.slice none 0 0,.int .i64 0] 37)).alloc (Obj.cells #[.bool false,.slice none 0 0,.int .i64 0] 37))
 have H0:Aside (Lo W (w.heap.size+1) (T 0)/\Lo W w.heap.size gG/\An w W):=by
  subst hW;exact Up
 have HP:Hid (∀ (i:Nat) (u:World) (p q:Option Addr) (cp cq:Nat),i<n->dH u->Nt 0 u (.slice p (ws (dX (T i))).length cp) (dX (T i))->Nt 0 u (.slice q (ws (dX (A i))).length cq) (dX (A i))->As 131 #[.agg #[.bool (dN (T i)),.slice p (ws (dX (T i))).length cp,.int .i64 (dE (T i))],.agg #[.bool (dN (A i)),.slice q (ws (dX (A i))).length cq,.int .i64 (dE (A i))]] u fun r w'=>aN 0 w' r (T (i+1))/\An u w') :=
  fun i u p q cp cq hi hT n1 n2=>Bt (FT i (by omega)) (FA i hi) (FT (i+1) (by omega)) n1 n2 hT (ET i hi)
 have HW:=ak hW;have PF:=aJ FT FA;have HT:=ak hT;clear hW FT FA ET E0 hT;go_enter Tryz.func84,Tryz.ntmps84
 go_upto_region 2 with fail
 rw[<-HW.o];clear HW;go_wp2
 go_loopg [8] n (fun gk i wr=>∃ j:Nat,gk+j=n/\i=.int .i64 (j:Nat)/\Aside (Lo wr (w.heap.size+1) (T j)/\Lo wr w.heap.size gG/\An w wr))
 case atStart=>exact⟨0,by omega,by simp,H0.o⟩
 case round =>
  exact Zs
theorem Me (i n h0 h1 gx gy:Nat) (A B:Nat->Option (Bool×Nat×Int)) (c:Option (Bool×Nat×Int)) (u:World) (hi:i<n) (hn:n<=65536) (hT:dH u) (FA:Fm (A i)) (FB:Fm (B i)) (Fc:Fm c) (E:dY (A i) (B i)=c)
 (k0:u.cell? ⟨h0,0,none⟩=some (.slice (some ⟨gx,0,none⟩) n n)) (k1:u.cell? ⟨h1,0,none⟩=some (.slice (some ⟨gy,0,none⟩) n n)) (hx:Dr u gx n n A) (hy:Dr u gy n n B) :
 As 85 #[.int .i64 (i:Nat),.pointer (some ⟨h0,0,none⟩),.pointer (some ⟨h1,0,none⟩)] u fun r w'=>aN 0 w' r c/\An u w':=by
 obtain⟨W,hW⟩:=af (u.alloc (Obj.cells #[.bool false,.slice none 0 0,.int .i64 0] 37));have LT:Aside (h0<u.heap.size/\h1<u.heap.size/\gx<u.heap.size/\gy<u.heap.size):=⟨lK u _ k0,lK u _ k1,hx.lt,hy.lt⟩;have hb:An u W.drew:=by rw[hW];exact xG u
 have L0:Lo W.drew u.heap.size gG:=by rw[hW];exact xH u
 obtain⟨p1,q1,x0,x1,x2,M1⟩:=(hx.below hb).facts i hi;obtain⟨p2,q2,y0,y1,y2,M2⟩:=(hy.below hb).facts i hi;have kS:Aside (W.drew.cell? ⟨h0,0,none⟩=some (.slice (some ⟨gx,0,none⟩) n n)/\W.drew.cell? ⟨h1,0,none⟩=some (.slice (some ⟨gy,0,none⟩) n n)/\W.drew.cell? ⟨gx,i*3,none⟩=some (.bool (dN (A i)))/\W.drew.cell? ⟨gx,i*3+1,none⟩=some (.slice p1 (ws (dX (A i))).length q1)/\W.drew.cell? ⟨gx,i*3+2,none⟩=some (.int .i64 (dE (A i)))/\W.drew.cell? ⟨gy,i*3,none⟩=some (.bool (dN (B i)))/\W.drew.cell? ⟨gy,i*3+1,none⟩=some (.slice p2 (ws (dX (B i))).length q2)/\W.drew.cell? ⟨gy,i*3+2,none⟩=some (.int .i64 (dE (B i)))):=⟨jA k0 hb,jA k1 hb,x0,x1,x2,y0,y1,y2⟩;have C:=hid (gT FA FB Fc M1 M2 (hT.belows hb) E);have BD:=(aJ hb L0);have FF:=ak Fc;have HW:=ak hW;have HI:=ak hi;clear hW hb L0 x0 x1 x2 y0 y1 y2 M1 M2 k0 k1 hx hy FA FB Fc E hT;go_enter Tryz.func85,Tryz.ntmps85
 go_upto_region 1 with fail
 rw[<-HW.o];clear HW
 go_region_held3 (fun w'=>w'.cell? ⟨h0,0,none⟩=some (.slice (some ⟨gx,0,none⟩) n n)/\w'.cell? ⟨h1,0,none⟩=some (.slice (some ⟨gy,0,none⟩) n n)/\w'.cell? ⟨gx,i*3,none⟩=some (.bool (dN (A i)))/\w'.cell? ⟨gx,i*3+1,none⟩=some (.slice p1 (ws (dX (A i))).length q1)/\w'.cell? ⟨gx,i*3+2,none⟩=some (.int .i64 (dE (A i)))/\w'.cell? ⟨gy,i*3,none⟩=some (.bool (dN (B i)))/\w'.cell? ⟨gy,i*3+1,none⟩=some (.slice p2 (ws (dX (B i))).length q2)/\w'.cell? ⟨gy,i*3+2,none⟩=some (.int .i64 (dE (B i)))) (first | with_reducible exact kS.o | with_reducible exact kT.o) (first
  | (go_at_call 40
     with_reducible refine C.o.mono ?_
     rintro r u3 ⟨hd,hb⟩;obtain⟨a3,c3,rfl,eu⟩:=hd.aD;have BD:=bO (BD.o.1.trans (hb.mono BD.o.1.size)) (BD.o.2.below hb) eu;have kS:=ak (ck hb kS.o fun h=>jm hb h);have kT:=qb (lG (x:=.bool (dN c)) (y:=.slice a3 (ws (dX c)).length c3) (z:=.int .i64 (dE c)) kS.o.1 (dR LT.o.1)) (lG (x:=.bool (dN c)) (y:=.slice a3 (ws (dX c)).length c3) (z:=.int .i64 (dE c)) kS.o.2.1 (dR LT.o.2.1)) (lG (x:=.bool (dN c)) (y:=.slice a3 (ws (dX c)).length c3) (z:=.int .i64 (dE c)) kS.o.r2.1 (dR LT.o.r2.1)) (lG (x:=.bool (dN c)) (y:=.slice a3 (ws (dX c)).length c3) (z:=.int .i64 (dE c)) kS.o.r3.1 (dR LT.o.r2.1)) (lG (x:=.bool (dN c)) (y:=.slice a3 (ws (dX c)).length c3) (z:=.int .i64 (dE c)) kS.o.r4.1 (dR LT.o.r2.1)) (lG (x:=.bool (dN c)) (y:=.slice a3 (ws (dX c)).length c3) (z:=.int .i64 (dE c)) kS.o.r5.1 (dR LT.o.r3)) (lG (x:=.bool (dN c)) (y:=.slice a3 (ws (dX c)).length c3) (z:=.int .i64 (dE c)) kS.o.r6.1 (dR LT.o.r3)) (lG (x:=.bool (dN c)) (y:=.slice a3 (ws (dX c)).length c3) (z:=.int .i64 (dE c)) kS.o.r7 (dR LT.o.r3));obtain⟨zp,zq,DZ,MZ⟩:=BD.o.2.1;obtain⟨z0,z1,z2,dO,dP,dQ⟩:=DZ.facts
     clear hb hd eu DZ MZ C))
 go_wp2;exact iL Tryz.results85 rfl BD.o.2.1 BD.o.1 (aA _) BD.o.r2
theorem pO{f g:Nat->Int}{n:Nat}(bf:∀ i,i<n->Bd 2098 (f i))(bg:∀ i,i<n->Bd 2098 (g i))(hn:n<=65536)(k:Nat)(hk:k<=n):Bd 4212 (tS (fun i=>f i*g i) k) :=
 (zx (m:=4196) (fun i hi=>((bf i hi).mul (bg i hi)).mono (by decide)) hn k hk).mono (by decide)
theorem zj{P:Prop}(h:P:=by
 rw[hW];exact((Bl.new w 62 [.slice (some ⟨gx,0,none⟩) n n,.bool (dN oS),.slice ax (ws (dX oS)).length cx,.int .i64 (dE oS)]).alloc _).alloc _):P:=h
theorem D6 (w:World) (n gx gy:Nat) (ax ay:Option Addr) (cx cy:Nat) (oS oT oP oD:Option (Bool×Nat×Int)) (hP:Fm oP) (hD:Fm oD)
 (N1:Nt 0 w (.slice ax (ws (dX oS)).length cx) (dX oS)) (N2:Nt 0 w (.slice ay (ws (dX oT)).length cy) (dX oT))
 (HC:Hid (∀ u:World,An w u->u.cell? ⟨w.heap.size,0,none⟩=some (.slice (some ⟨gx,0,none⟩) n n)->u.cell? ⟨w.heap.size+1,0,none⟩=some (.slice (some ⟨gy,0,none⟩) n n)->As 84 #[.int .i64 (n:Nat),.func (.func 85) #[] #[.pointer (some ⟨w.heap.size,0,none⟩),.pointer (some ⟨w.heap.size+1,0,none⟩)]] u fun r w'=>aN 0 w' r oP/\An u w'))
 (HD:Hid (∀ (u:World) (a b d:Option Addr) (ca cb cd:Nat),An w u->Nt 0 u (.slice a (ws (dX oP)).length ca) (dX oP)->Nt 0 u (.slice b (ws (dX oS)).length cb) (dX oS)->Nt 0 u (.slice d (ws (dX oT)).length cd) (dX oT)->As 45 #[.int .i64 (n:Nat),.agg #[.bool (dN oP),.slice a (ws (dX oP)).length ca,.int .i64 (dE oP)],.agg #[.bool (dN oS),.slice b (ws (dX oS)).length cb,.int .i64 (dE oS)],.agg #[.bool (dN oT),.slice d (ws (dX oT)).length cd,.int .i64 (dE oT)]] u fun r w'=>nJ w' r oD 0/\An u w')) :
 As 41 #[.agg #[.slice (some ⟨gx,0,none⟩) n n,.bool (dN oS),.slice ax (ws (dX oS)).length cx,.int .i64 (dE oS)],.agg #[.slice (some ⟨gy,0,none⟩) n n,.bool (dN oT),.slice ay (ws (dX oT)).length cy,.int .i64 (dE oT)]] w fun r w'=>aN 0 w' r oD/\An w w':=by
 obtain⟨W,hW⟩:=af (((w.alloc (Obj.cells #[.slice (some ⟨gx,0,none⟩) n n,.bool (dN oS),.slice ax (ws (dX oS)).length cx,.int .i64 (dE oS)] 62)).alloc (Obj.cells #[.slice (some ⟨gy,0,none⟩) n n,.bool (dN oT),.slice ay (ws (dX oT)).length cy,.int .i64 (dE oT)] 62)).alloc (Obj.cells #[.bool false,.slice none 0 0,.int .i64 0] 37))
 have H0:Aside (Bl W w.heap.size 62 [.slice (some ⟨gx,0,none⟩) n n,.bool (dN oS),.slice ax (ws (dX oS)).length cx,.int .i64 (dE oS)]/\Bl W (w.heap.size+1) 62 [.slice (some ⟨gy,0,none⟩) n n,.bool (dN oT),.slice ay (ws (dX oT)).length cy,.int .i64 (dE oT)]/\Lo W (w.heap.size+2) gG/\An w W/\Nt 0 W (.slice ax (ws (dX oS)).length cx) (dX oS)/\Nt 0 W (.slice ay (ws (dX oT)).length cy) (dX oT)):=by
  have hbW:An w W:=by rw[hW];exact((ae _ _).trans ((ae _ _).mono (by simp))).trans ((ae _ _).mono (by simp;omega))
  refine⟨?_,?_,?_,hbW,N1.below hbW,N2.below hbW⟩
  · exact zj
  · have z1:=Bl.new (w.alloc (Obj.cells #[.slice (some ⟨gx,0,none⟩) n n,.bool (dN oS),.slice ax (ws (dX oS)).length cx,.int .i64 (dE oS)] 62)) 62 [.slice (some ⟨gy,0,none⟩) n n,.bool (dN oT),.slice ay (ws (dX oT)).length cy,.int .i64 (dE oT)];rw[dA] at z1;rw[hW];exact z1.alloc _
  · have z2:=Lo.zero ((w.alloc (Obj.cells #[.slice (some ⟨gx,0,none⟩) n n,.bool (dN oS),.slice ax (ws (dX oS)).length cx,.int .i64 (dE oS)] 62)).alloc (Obj.cells #[.slice (some ⟨gy,0,none⟩) n n,.bool (dN oT),.slice ay (ws (dX oT)).length cy,.int .i64 (dE oT)] 62));rw[dA,dA] at z2;rw[hW];exact z2
 have HW:=ak hW;have FF:=(aJ hP hD);clear hW N1 N2 hP hD;go_enter Tryz.func41,Tryz.ntmps41
 go_upto_region 1 with fail
 rw[<-HW.o];clear HW;have s0:=H0.o.1.cell 0 _ rfl;have hmf:∀ (fn:Fn) (first cap:Array Value) (w:World),(Instr.makeFunc fn first cap).run Tryz.prog w=.ok (.func fn first cap) w:=fun _ _ _ _=>rfl;have C:=hid (HC.o W H0.o.r3.1 (H0.o.1.cell 0 _ rfl) (H0.o.2.1.cell 0 _ rfl));go_wp2_with fail;refine C.o.mono ?_;rintro r u1 ⟨hd,hb⟩;obtain⟨a1,c1,rfl,hN1⟩:=hd.aD;obtain⟨U,hU⟩:=af (u1.alloc (Obj.cells #[.bool (dN oP),.slice a1 (ws (dX oP)).length c1,.int .i64 (dE oP)] 37));obtain⟨g6,TU⟩:=af (u1.heap.size)
 have H1:Aside (Lo U g6 oP/\Bl U w.heap.size 62 [.slice (some ⟨gx,0,none⟩) n n,.bool (dN oS),.slice ax (ws (dX oS)).length cx,.int .i64 (dE oS)]/\Bl U (w.heap.size+1) 62 [.slice (some ⟨gy,0,none⟩) n n,.bool (dN oT),.slice ay (ws (dX oT)).length cy,.int .i64 (dE oT)]/\Lo U (w.heap.size+2) gG/\An w U/\Nt 0 U (.slice ax (ws (dX oS)).length cx) (dX oS)/\Nt 0 U (.slice ay (ws (dX oT)).length cy) (dX oT)):=by
  have uK:An W U:=by rw[hU];exact hb.trans ((ae _ _).mono hb.size)
  refine⟨?_,H0.o.1.below uK H0.o.1.lt,H0.o.2.1.below uK H0.o.2.1.lt,H0.o.r2.1.below uK,H0.o.r3.1.trans (uK.mono H0.o.r3.1.size),H0.o.r4.1.below uK,H0.o.r5.below uK⟩;rw[hU,TU];exact Lo.new hN1
 have HU:=(aJ hU TU);clear hU TU hb hd hN1 C H0 s0
 go_upto_region 3 with fail
 rw[<-HU.o.1,<-HU.o.2];clear HU;obtain⟨pp,qp,DP,MP⟩:=H1.o.1;obtain⟨x0,x1,x2,bE,bF,bG⟩:=DP.facts;have s1:=H1.o.2.1.cell 1 _ rfl;have s2:=H1.o.2.1.cell 2 _ rfl;have s3:=H1.o.2.1.cell 3 _ rfl;have t1:=H1.o.r2.1.cell 1 _ rfl;have t2:=H1.o.r2.1.cell 2 _ rfl;have t3:=H1.o.r2.1.cell 3 _ rfl;have C:=hid (HD.o U pp ax ay qp cx cy H1.o.r4.1 MP H1.o.r5.1 H1.o.r6);clear DP MP;go_wp2_with fail;refine C.o.mono ?_;rintro r u2 ⟨hd,hb⟩;obtain⟨a2,c2,rfl,j5⟩:=hd.aD;obtain⟨V,hV⟩:=af (u2.alloc (Obj.cells #[.bool (dN oD),.slice a2 (ws (dX oD)).length c2,.int .i64 (dE oD)] 37));obtain⟨g7,mo⟩:=af (u2.heap.size)
 have H2:Aside (Lo V g7 oD/\Lo V (w.heap.size+2) gG/\An w V):=by
  have Jh:An U V:=by rw[hV];exact hb.trans ((ae _ _).mono hb.size)
  refine⟨?_,H1.o.r3.1.below Jh,H1.o.r4.1.trans (Jh.mono H1.o.r4.1.size)⟩;rw[hV,mo];exact Lo.new j5
 have HV:=(aJ hV mo);clear hV mo hb hd j5 C H1 x0 x1 x2 bE bF bG s1 s2 s3 t1 t2 t3
 go_upto_region 4 with fail
 rw[<-HV.o.1,<-HV.o.2];clear HV;obtain⟨p1,q1,D1,M1⟩:=H2.o.1;obtain⟨p2,q2,D2,M2⟩:=H2.o.2.1;obtain⟨x0,x1,x2,bE,bF,bG⟩:=D1.facts;obtain⟨y0,y1,y2,bI,bJ,bK⟩:=D2.facts;have Bz:=ak M1;clear D1 D2 M1 M2;go_wp2;exact iL Tryz.results41 rfl H2.o.2.1 H2.o.r2 (by omega) Bz.o
theorem mY {w:World}{v1 v2:Value}{n:Nat}{f g:Nat->Int}{S T:Int}(hn:n<=65536) (hT:dH w) (bf:∀ i,i<n->Bd 2098 (f i)) (bg:∀ i,i<n->Bd 2098 (g i)) (bS:Bd 2114 S) (bT:Bd 2114 T)
 (h1:Rr w v1 n (fun i=>gV 1074 (f i)) (gV 1074 S)) (h2:Rr w v2 n (fun i=>gV 1074 (g i)) (gV 1074 T)) :
 As 41 #[v1,v2] w fun r w'=>aN 0 w' r (gV 2148 ((n:Int)*tS (fun i=>f i*g i) n-S*T))/\An w w':=by
 obtain⟨gx,ax,cx,rfl,hx,n1⟩:=h1;obtain⟨gy,ay,cy,rfl,hy,n2⟩:=h2;have bP:=fun k hk=>pO bf bg hn k hk;have bn:Bd 16 (n:Int):=Bd.nat (by omega);refine D6 w n gx gy ax ay cx cy (gV 1074 S) (gV 1074 T) (gV 2148 (tS (fun i=>f i*g i) n)) _ (aZ (by decide) (by decide) (bP n (aA _))) (aZ (m:=4229) (by decide) (by decide) (Bd.sub (m:=4228) ((bn.mul (bP n (aA _))).mono (by decide)) ((bS.mul bT).mono (by decide)))) n1 n2 (hid fun u hu k0 k1=>?_) (hid fun u a b d ca cb cd hu m1 m2 m3=>Xp hn (bP n (aA _)) bS bT (hT.belows hu) m1 m2 m3);refine Md u n w.heap.size (w.heap.size+1) (fun i=>gV 2148 (f i*g i)) (fun i=>gV 2148 (tS (fun i=>f i*g i) i)) hn (hT.belows hu) (fun i hi=>aZ (by decide) (by decide) ((bf i hi).mul (bg i hi))) (fun i hi=>aZ (by decide) (by decide) (bP i hi)) (fun i hi=>uN (by decide) (by decide) (bP i (by omega)) (((bf i hi).mul (bg i hi)).mono (by decide))) (o6 2148).symm (hid fun i v hi hv=>?_);have hv2:An w v:=hu.trans (hv.mono hu.size);exact Me i n w.heap.size (w.heap.size+1) gx gy (fun i=>gV 1074 (f i)) (fun i=>gV 1074 (g i)) (gV 2148 (f i*g i)) v hi hn (hT.belows hv2) (aZ (by decide) (by decide) (bf i hi)) (aZ (by decide) (by decide) (bg i hi)) (aZ (by decide) (by decide) ((bf i hi).mul (bg i hi))) (iR (by decide) (by decide) (by decide) (by decide) (bf i hi) (bg i hi)) (jA k0 hv) (jA k1 hv) (hx.below hv2) (hy.below hv2)
end
namespace Ps
open Go.RowKit
open Go.RowKit
def Wf(xs:List Nat):Prop:=∀ x ∈ xs,x<18446744073709551616
theorem Wf.get{xs:List Nat}(h:Wf xs)(k:Nat):xs.getD k 0<18446744073709551616:=by
 exact Qaq
def U(n:Nat):Value:=.float .f64 n
def Rd(B:Nat)(w:World)(ao:Option Addr)(xs:List Nat):Prop :=
 xs≠[]->∃ b off,b<B/\ao=some ⟨b,off,none⟩/\∀ i,i<xs.length->w.cell? ⟨b,off+i,none⟩=some (.float .f64 (xs.getD i 0))
theorem Rd.below{B:Nat}{w w':World}{ao:Option Addr}{xs:List Nat}(h:Rd B w ao xs)(hb:Below B w w'):Rd B w' ao xs:=by
 exact xj
theorem Rd.mono{B B':Nat}{w:World}{ao:Option Addr}{xs:List Nat}(h:Rd B w ao xs)(hB:B<=B'):Rd B' w ao xs:=by
 exact Qax
def Lt(lo:Nat)(w:World)(v:Value)(xs:List Nat):Prop:=w.ownsRow lo 23 1 v xs.length (xs.map U)
theorem Lt.nil(lo:Nat)(w:World):Lt lo w (.slice none 0 0) []:=Cn _ _ _ _
theorem Tryz.P6:(Tryz.prog.info? 23).map (fun i=>(i.zero,i.size,i.bytes))=some (some (.float .f64 0),1,8):=by kernel_rfl
open Go.RowKit
abbrev Rw(lo:Nat)(w:World)(v:Value)(n:Nat)(ys:List Value):Prop:=w.ownsRow lo 23 1 v n ys
def Mf(w w':World):Prop:=∀ (g:Nat) (cur:Array Value) (e:TypeId),e≠27->e≠26->w.heap[g]?=some (.cells cur e (0,0))->w'.heap[g]?=some (.cells cur e (0,0))
theorem Mf.row{w w':World}{lo:Nat}{v:Value}{n:Nat}{ys:List Value}(h:Rw lo w v n ys)(k:Mf w w'):Rw lo w' v n ys:=by
 refine⟨h.1,?_⟩;rcases h.2 with hn|⟨g,cap,cur,rfl,hlo,hg,rest⟩
 · exact .inl hn
 · exact .inr ⟨g,cap,cur,rfl,hlo,k _ _ _ (by decide) (by decide) hg,rest⟩
theorem Mf.below{w w':World}(h:An w w'):Mf w w':=fun g cur _ _ _ e=>by rw[h.block g (fV.1 e).1];exact e
theorem tq{w w':World}{lo e s:Nat}{v:Value}{n:Nat}{ys:List Value}(h:w.ownsRow lo e s v n ys)(hb:∀ g,v.ownBlock=some g->w'.heap[g]?=w.heap[g]?):w'.ownsRow lo e s v n ys:=by
 exact jj
theorem lZ (w:World) (lo:Nat) (v:Value) (n:Nat) (ys:List Value) (x:Value) (s:Nat) (ty:TypeId) (hown:Rw lo w v n ys) (hx:w.cell? ⟨s,0,none⟩=some x) (h1:x.oneCell'=true)
 (hbig:n+1<=17592186044416) (hlo:lo<=w.heap.size) :
 ∃ v' w',(Builtin.append_ #[27,27] ty #[v,.slice (some ⟨s,0,none⟩) 1 1]).run Tryz.prog w=.ok v' w'/\Rw lo w' v' (n+1) (ys++[x])/\w.grownBy w' v.ownBlock /\
   (v'.ownBlock=v.ownBlock\/∃ g,v'.ownBlock=some g/\w.heap.size<=g)/\(∀ (u:Value) (k:Nat) (zs:List Value),Rw lo w u k zs->(u.ownBlock=v.ownBlock->k<=n)->Rw lo w' u k zs):=by
 obtain⟨i0,hi,hz0,hz1,hz2⟩:=info_parts Tryz.P6
 have hnews:∀ j u,[x][j]?=some u->w.cell? ((⟨s,0,none⟩:Addr).add j)=some u:=by
  exact Qav
 have h1':∀ u ∈ [x],u.oneCell'=true:=by intro u hu;simp at hu;subst hu;exact h1
 have keep:∀ w',w.grownBy w' none->∀ (u:Value) (k:Nat) (zs:List Value),Rw lo w u k zs->Rw lo w' u k zs:=by
  exact ye
 have Oa:∀ (v':Value) (w':World) (m:Nat) (zs:List Value),w'.ownsRow w.heap.size 23 1 v' (m+1) zs->∃ g,v'.ownBlock=some g/\w.heap.size<=g:=by
  exact Qaj
 have mono:∀ (v':Value) (w':World) (m:Nat) (zs:List Value),w'.ownsRow w.heap.size 23 1 v' m zs->Rw lo w' v' m zs:=by
  exact j7
 rcases hown.2 with ⟨rfl,rfl⟩|⟨g,cap,cur,rfl,hlg,hg,hnc,hm,hs,ht⟩
 · obtain⟨v',w',r1,r2,r3,_,_⟩:=run_append_own_at (P:=Tryz.prog) w w.heap.size 27 ty 23 i0 (.float .f64 0) 1 8 Tryz.underlying27 hi hz0 hz1 hz2 rfl (by decide) (.slice none 0 0) 0 [] (Cn _ _ _ _) ⟨s,0,none⟩ 1 1 [x] rfl hnews h1' (by unfold maxLen;omega) (by omega) (aA _);have hy:ys=[]:=uy (by simpa using hown.1);subst hy;exact⟨v',w',r1,mono _ _ _ _ (by simpa using r2),r3,.inr (Oa _ _ 0 _ (by simpa using r2)),fun u k zs hr _=>keep _ r3 u k zs hr⟩
 · by_cases hroom:n+1<=cap
   · have hr:=run_append_room (P:=Tryz.prog) w 27 ty 23 i0 Tryz.underlying27 hi g n cap cur hg ⟨s,0,none⟩ 1 1 [x] (by rw[hz1];rfl) hnews h1' hroom (by rw[hz1,hs];simp;omega);rw[hz1] at hr;refine⟨_,_,hr,⟨by simpa using hown.1,.inr ⟨g,cap,_,rfl,hlg,setRow_heap w g cur _ 23 _ hg,hroom,hm,?_,?_⟩⟩,⟨rfl,rfl,rfl,by simp,fun k _ hk=>setRow_other w g k _ (fun e=>hk (by simp[Value.ownBlock,e]))⟩,.inl rfl,?_⟩
     · exact x7
     · exact xF
     · intro u k zs hr2 hle;rcases hr2.2 with hn|⟨g2,cap2,Wq,rfl,hl2,hg2,Ob,hm2,hs2,ht2⟩
       · exact⟨hr2.1,.inl hn⟩
       · by_cases he:g2=g
         · subst he;rw[hg] at hg2
           cases hg2
           have hk:=hle rfl;refine⟨hr2.1,.inr ⟨g2,cap2,_,rfl,hl2,setRow_heap w g2 cur _ 23 _ hg,Ob,hm2,?_,?_⟩⟩
           · exact x7
           · exact xt
         · exact Qaf
   · obtain⟨v',w',r1,r2,r3⟩:=run_append_arg_grows (P:=Tryz.prog) w 27 ty 23 i0 (.float .f64 0) 1 8 Tryz.underlying27 hi hz0 hz1 hz2 rfl (by decide) ⟨g,0,none⟩ n cap ys (by simpa using hown.1) (fun j u hj=>hown.cells (g:=g) (by simp[Value.ownBlock]) j u hj) ⟨s,0,none⟩ 1 1 [x] rfl hnews (by omega) (by unfold maxLen;omega) (by omega);exact y6
theorem dB {w:World}{ops:Array Oper}{rest:List Oper}{o:Oper}{a:Act}{Q:Exit->Act->World->Prop}(hgd:o.guard=none) (s x:Operand) (t:TypeId)
 (ho:o.op=.call { callee:=.builtin .append,args:=#[s,x],argTypes:=#[t,t] }) (v u:Value) (hs:a.eval s=v) (hx:a.eval x=u) (v':Value) (w':World)
 (hrun:(Builtin.append_ #[t,t] o.type #[v,u]).run Tryz.prog w=.ok v' w') (h:wpList Tryz.prog ops Q rest (a.put o.dst v') w'):wpList Tryz.prog ops Q (o::rest) a w:=by
 refine wpList_plain hgd fun K hK=>?_;unfold Oper.wp;simp[execOp,ho,resolve,invoke,builtin,hs,hx,hrun,Result.andThen];exact hK _ _ h
end Ps
end Go.Proofs.YteginbngplldaaaGreatDoor
