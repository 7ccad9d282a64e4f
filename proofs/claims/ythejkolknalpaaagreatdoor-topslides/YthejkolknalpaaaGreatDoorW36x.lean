import Derived.Test.YthejkolknalpaaaGreatDoorW24x
import Derived.Test.YthejkolknalpaaaGreatDoorSL6x
import Derived.Test.YthejkolknalpaaaGreatDoorM1x
import Derived.Laws.IdiomStrings
import Derived.Test.YthejkolknalpaaaGreatDoorBIeeex
import Derived.Test.YthejkolknalpaaaGreatDoorP2x
import Derived.Test.YthejkolknalpaaaGreatDoorD14x
import Derived.BigQuiet
import Derived.Deep.Cut
import Derived.Deep.RegionHeld3
import Derived.Test.YthejkolknalpaaaGreatDoorD30x
set_option linter.unusedVariables false
set_option linter.unusedSimpArgs false
set_option maxHeartbeats 16000000
set_option maxRecDepth 20000
namespace Go.Proofs.YthejkolknalpaaaGreatDoor
section
open Go.RowKit
theorem Div_arg {w:World}{a b:Option Addr}{n c m d:Nat}{xs ys:List Nat}{V U:Nat}{z:Int}(h1:Arg w a n c xs) (h2:Arg w b m d ys) (e:divS (val xs) (val ys)=(V,U,z)) :
 Calls Tryz.prog 141 #[.slice a n c,.slice b m d] w fun r w'=>∃ v u,r=.returned (.tuple #[v,u,.int .i64 z])∧Nt w.heap.size w' v V∧Nt w.heap.size w' u U∧Below w.heap.size w w' :=
 (Div_any xs ys a b n c m d w.heap.size w h1.len h2.len h1.cap h2.cap (by have:=h1.big;omega) (by have:=h2.big;omega) h1.wf h2.wf h1.rd h2.rd (Nat.le_refl _)).mono
  fun r w' ⟨⟨v,u,h3,h4,h5,h6⟩,hb⟩=>by rw [e] at h3 h4 h5;exact ⟨v,u,h3,h4,h5,hb⟩
theorem Len_arg {w:World}{a:Option Addr}{n c:Nat}{xs:List Nat}{k:Nat}(h1:Arg w a n c xs) (e:bl (val xs)=k) :
 Calls Tryz.prog 66 #[.slice a n c] w fun r w'=>r=.returned (.int .i64 (k:Nat))∧Below w.heap.size w w':=by
 subst e;exact (len_any xs a n c w.heap.size w h1.len h1.cap (by have:=h1.big;omega) h1.wf h1.rd).mono fun r w' ⟨h,e⟩=>⟨h,by rw [e];exact Below.refl _ _⟩
theorem shiftS_up {X V:Nat}{k:Nat}(hX:¬ LG X) (hb:X=0∨bl X+k≤262144) (e:X*2^k=V):shiftS X (k:Int)=(V,0):=by
 unfold shiftS;rw [if_neg hX]
 by_cases h0:X=0
 · rw [if_pos h0,←e,h0,Nat.zero_mul]
 · rw [if_neg h0,if_neg (by omega),if_neg (by omega)]
   simp [e]
theorem shiftS_dn {X V:Nat}{k:Nat}(hX:¬ LG X) (e:X/2^k=V):shiftS X (-(k:Int))=(V,0):=by
 unfold shiftS;rw [if_neg hX]
 by_cases h0:X=0
 · rw [if_pos h0,←e,h0,Nat.zero_div]
 · rw [if_neg h0]
   by_cases hk:k=0
   · subst hk
     rw [if_neg (by simp),if_neg (by have:=mt (LG_bl X).2 hX;omega)]
     simp at e;simp [e]
   · rw [if_pos (by omega)]
     simp [e]
theorem divS_ok {X Y:Nat}(h1:¬ LG X) (h2:¬ LG Y) (h:Y≠0) {V U:Nat}(e1:X/Y=V) (e2:X%Y=U):divS X Y=(V,U,0):=by
 unfold divS;rw [if_neg (by simp [h1,h2]),if_neg h,e1,e2]
theorem cmpLow_any {w:World}{a b q h:Option Addr}{ca cb cq ch:Nat}(W0 Lf Y H cut Bk Lo Tk' Hs:Nat) (z:Int) (AW:Arg w a (ws W0).length ca (ws W0)) (AL:Arg w b (ws Lf).length cb (ws Lf)) (AY:Arg w q (ws Y).length cq (ws Y)) (AH:Arg w h (ws H).length ch (ws H))
 (hc:cut≤4611686018427387904) (e1:shiftS H (cut:Int)=(Bk,0)) (e2:subS Y Bk=(Lo,0)) (e3:mulS W0 Lo=(Tk',0)) (e4:shiftS Lf (cut:Int)=(Hs,0)) (e5:cmpI Hs Tk'=z)
 (l1:(ws Bk).length≤8192) (l2:(ws Lo).length≤8192) (l3:(ws Tk').length≤8192) (l4:(ws Hs).length≤8192) :
 Calls Tryz.prog 142 #[.slice a (ws W0).length ca,.slice b (ws Lf).length cb,.slice q (ws Y).length cq,.slice h (ws H).length ch,.int .i64 (cut:Nat)] w fun r w'=>r=.returned (.int .i64 z)∧Below w.heap.size w w':=by
 rw [←val_ws H] at e1;rw [←val_ws Y,←val_ws Bk] at e2;rw [←val_ws W0,←val_ws Lo] at e3;rw [←val_ws Lf] at e4;rw [←val_ws Hs,←val_ws Tk'] at e5;have E:=(qsd (ai e1 (ai e2 (ai e3 (ai e4 e5)))));clear e1 e2 e3 e4 e5;have hbel:=Below.refl w.heap.size w;have S0:=(qsd (ai hbel (ai AW (ai AL (ai AY AH)))));clear hbel;clear AW AL AY AH;go_enter Tryz.func142,Tryz.ntmps142;obtain ⟨bel,AW,AL,AY,AH⟩:=S0.out;have HC:=hid (Shift_arg (cut:Int) AH E.out.1 (by omega) (by omega))
 clear bel AW AL AY AH
 go_wp2_with fail
 refine HC.out.mono ?_;rintro r u1 ⟨v,rfl,hN,hb⟩;obtain ⟨a1,c1,rfl,_⟩:=hN.arg (by omega)
 clear HC;obtain ⟨bel,AW,AL,AY,AH⟩:=S0.out;have hbn:=bel.trans (hb.mono bel.size);have S1:=qsd (ai hbn (ai (AW.below hb) (ai (AL.below hb) (ai (AY.below hb) (ai (AH.below hb) (hN.mono bel.size))))));clear bel AW AL AY AH;clear hb hbn S0;clear hN;obtain ⟨bel,AW,AL,AY,AH,NB⟩:=S1.out;have HC:=hid (Sub_arg AY (NB.arg' (by omega)).2 E.out.2.1)
 clear bel AW AL AY AH NB
 go_wp2_with fail
 refine HC.out.mono ?_;rintro r u2 ⟨v,rfl,hN,hb⟩;obtain ⟨a2,c2,rfl,_⟩:=hN.arg (by omega)
 clear HC;obtain ⟨bel,AW,AL,AY,AH,NB⟩:=S1.out;have hbn:=bel.trans (hb.mono bel.size);have S2:=qsd (ai hbn (ai (AW.below hb) (ai (AL.below hb) (ai (AY.below hb) (ai (AH.below hb) (ai (NB.below hb) (hN.mono bel.size)))))));clear bel AW AL AY AH NB;clear hb hbn S1;clear hN;obtain ⟨bel,AW,AL,AY,AH,NB,NL⟩:=S2.out;have HC:=hid (Mul_arg AW (NL.arg' (by omega)).2 E.out.2.2.1)
 clear bel AW AL AY AH NB NL
 go_wp2_with fail
 refine HC.out.mono ?_;rintro r u3 ⟨v,rfl,hN,hb⟩;obtain ⟨a3,c3,rfl,_⟩:=hN.arg (by omega)
 clear HC;obtain ⟨bel,AW,AL,AY,AH,NB,NL⟩:=S2.out;have hbn:=bel.trans (hb.mono bel.size);have S3:=qsd (ai hbn (ai (AW.below hb) (ai (AL.below hb) (ai (AY.below hb) (ai (AH.below hb) (ai (NB.below hb) (ai (NL.below hb) (hN.mono bel.size))))))));clear bel AW AL AY AH NB NL;clear hb hbn S2;clear hN;obtain ⟨bel,AW,AL,AY,AH,NB,NL,NT⟩:=S3.out;have HC:=hid (Shift_arg (cut:Int) AL E.out.2.2.2.1 (by omega) (by omega))
 clear bel AW AL AY AH NB NL NT
 go_wp2_with fail
 refine HC.out.mono ?_;rintro r u4 ⟨v,rfl,hN,hb⟩;obtain ⟨a4,c4,rfl,_⟩:=hN.arg (by omega)
 clear HC;obtain ⟨bel,AW,AL,AY,AH,NB,NL,NT⟩:=S3.out;have hbn:=bel.trans (hb.mono bel.size);have S4:=qsd (ai hbn (ai (AW.below hb) (ai (AL.below hb) (ai (AY.below hb) (ai (AH.below hb) (ai (NB.below hb) (ai (NL.below hb) (ai (NT.below hb) (hN.mono bel.size)))))))));clear bel AW AL AY AH NB NL NT;clear hb hbn S3;clear hN;obtain ⟨bel,AW,AL,AY,AH,NB,NL,NT,NS⟩:=S4.out;have HC:=hid (Cmp_arg (NS.arg' (by omega)).2 (NT.arg' (by omega)).2 z E.out.2.2.2.2)
 clear bel AW AL AY AH NB NL NT NS
 go_wp2_with fail
 refine HC.out.mono ?_;rintro r u5 ⟨rfl,hb⟩;clear HC;obtain ⟨bel,AW,AL,AY,AH,NB,NL,NT,NS⟩:=S4.out;have hbn:=bel.trans (hb.mono bel.size);have S5:=qsd (ai hbn (ai (AW.below hb) (ai (AL.below hb) (ai (AY.below hb) (ai (AH.below hb) (ai (NB.below hb) (ai (NL.below hb) (ai (NT.below hb) (NS.below hb)))))))));clear bel AW AL AY AH NB NL NT NS;clear hb hbn S4;have hbW:=hid S5.out.1;clear S5 E;go_wp2;go_ret;exact ⟨rfl,hbW.out⟩
def Tk (w:World) (g T:Nat) (x y z:Value):Prop:=w.heap[g]?=some (.cells #[x,y,z] T (0,0))
theorem Tk.lt {w:World}{g T:Nat}{x y z:Value}(h:Tk w g T x y z):g<w.heap.size:=(Array.getElem?_eq_some_iff.1 h).1
theorem Tk.below {w w':World}{g T:Nat}{x y z:Value}(h:Tk w g T x y z) (hb:Below w.heap.size w w'):Tk w' g T x y z:=by
 unfold Tk;rw [hb.block g h.lt];exact h
theorem Tk.alloc {w:World}{g T:Nat}{x y z:Value}(h:Tk w g T x y z) (o:Obj):Tk (w.alloc o) g T x y z:=h.below (below_alloc w o)
theorem Tk.new (w:World) (T:Nat) (x y z:Value):Tk (w.alloc (.cells #[x,y,z] T)) w.heap.size T x y z:=heap_alloc_new _ _
theorem Tk.facts {w:World}{g T:Nat}{x y z:Value}(h:Tk w g T x y z) :
 w.cell? ⟨g,0,none⟩=some x∧w.cell? ⟨g,1,none⟩=some y∧w.cell? ⟨g,2,none⟩=some z∧w.frozen? ⟨g,0,none⟩=false∧w.frozen? ⟨g,1,none⟩=false∧w.frozen? ⟨g,2,none⟩=false:=by
 unfold Tk at h;simp [World.cell?,World.frozen?,h]
theorem Tk.set {w:World}{g T:Nat}{x y z:Value}(h:Tk w g T x y z) (a b c:Value):Tk (st3 w g a b c) g T a b c:=by
 unfold Tk at h ⊢;simp [st3,World.setCell,Array.getElem?_modify,h]
def Rq (w:World) (g:Nat) (n:Bool) (v:Value) (e:Int) (m:Bool) (u:Value) (f:Int):Prop:=w.heap[g]?=some (.cells #[.bool n,v,.int .i64 e,.bool m,u,.int .i64 f] 110 (0,0))
theorem Rq.lt {w:World}{g:Nat}{n:Bool}{v:Value}{e:Int}{m:Bool}{u:Value}{f:Int}(h:Rq w g n v e m u f):g<w.heap.size:=(Array.getElem?_eq_some_iff.1 h).1
theorem Rq.below {w w':World}{g:Nat}{n:Bool}{v:Value}{e:Int}{m:Bool}{u:Value}{f:Int}(h:Rq w g n v e m u f) (hb:Below w.heap.size w w'):Rq w' g n v e m u f:=by
 unfold Rq;rw [hb.block g h.lt];exact h
theorem Rq.alloc {w:World}{g:Nat}{n:Bool}{v:Value}{e:Int}{m:Bool}{u:Value}{f:Int}(h:Rq w g n v e m u f) (o:Obj):Rq (w.alloc o) g n v e m u f:=h.below (below_alloc w o)
theorem Rq.new (w:World) (n:Bool) (v:Value) (e:Int) (m:Bool) (u:Value) (f:Int):Rq (w.alloc (.cells #[.bool n,v,.int .i64 e,.bool m,u,.int .i64 f] 110)) w.heap.size n v e m u f:=heap_alloc_new _ _
theorem Rq.facts {w:World}{g:Nat}{n:Bool}{v:Value}{e:Int}{m:Bool}{u:Value}{f:Int}(h:Rq w g n v e m u f) :
 w.cell? ⟨g,0,none⟩=some (.bool n)∧w.cell? ⟨g,1,none⟩=some v∧w.cell? ⟨g,2,none⟩=some (.int .i64 e)∧w.cell? ⟨g,3,none⟩=some (.bool m)∧w.cell? ⟨g,4,none⟩=some u∧w.cell? ⟨g,5,none⟩=some (.int .i64 f):=by
 unfold Rq at h;simp [World.cell?,h]
theorem Rq.frz {w:World}{g:Nat}{n:Bool}{v:Value}{e:Int}{m:Bool}{u:Value}{f:Int}(h:Rq w g n v e m u f) :
 w.frozen? ⟨g,0,none⟩=false∧w.frozen? ⟨g,1,none⟩=false∧w.frozen? ⟨g,2,none⟩=false∧w.frozen? ⟨g,3,none⟩=false∧w.frozen? ⟨g,4,none⟩=false∧w.frozen? ⟨g,5,none⟩=false:=by
 unfold Rq at h;simp [World.frozen?,h]
abbrev st6 (w:World) (g:Nat) (a b c d e f:Value):World:=(((((w.setCell ⟨g,0,none⟩ a).setCell ⟨g,1,none⟩ b).setCell ⟨g,2,none⟩ c).setCell ⟨g,3,none⟩ d).setCell ⟨g,4,none⟩ e).setCell ⟨g,5,none⟩ f
theorem st6_but (g:Nat) (w:World) (a b c d e f:Value):But g w (st6 w g a b c d e f):=((((((But.refl g w).set _ _).set _ _).set _ _).set _ _).set _ _).set _ _
theorem Rq.set {w:World}{g:Nat}{n:Bool}{v:Value}{e:Int}{m:Bool}{u:Value}{f:Int}(h:Rq w g n v e m u f) (n':Bool) (v':Value) (e':Int) (m':Bool) (u':Value) (f':Int) :
 Rq (st6 w g (.bool n') v' (.int .i64 e') (.bool m') u' (.int .i64 f')) g n' v' e' m' u' f':=by
 unfold Rq at h ⊢;simp [st6,World.setCell,Array.getElem?_modify,h]
theorem Nt.off {lo:Nat}{w w':World}{v:Value}{X g:Nat}(h:Nt lo w v X) (hb:But g w w') (hg:v.ownBlock≠Option.some g):Nt lo w' v X:=by
 refine ⟨h.1,?_⟩
 rcases h.2 with hn|⟨g',cap,cur,rfl,hlo,hg',rest⟩
 · exact .inl hn
 · refine .inr ⟨g',cap,cur,rfl,hlo,?_,rest⟩
   rw [hb.block g' (Array.getElem?_eq_some_iff.1 hg').1 (by intro e;subst e;exact hg (by simp [Value.ownBlock]))];exact hg'
theorem Nt.notin {lo:Nat}{w:World}{v:Value}{X g T:Nat}{C:Array Value}{fz:Nat×Nat}(h:Nt lo w v X) (hT:T≠89) (hg:w.heap[g]?=Option.some (.cells C T fz)):v.ownBlock≠Option.some g:=by
 intro e
 rcases h.2 with ⟨rfl,_⟩|⟨g',cap,cur,rfl,_,h2,_⟩
 · simp [Value.ownBlock] at e
 · simp [Value.ownBlock] at e
   subst e;rw [hg] at h2;simp at h2;exact hT h2.2.1
theorem Nt.st3k {lo:Nat}{w:World}{v:Value}{X g T:Nat}{x y z:Value}(h:Nt lo w v X) (D:Tk w g T x y z) (hT:T≠89) (a b c:Value):Nt lo (st3 w g a b c) v X:=h.off (set3_but g w a b c) (h.notin hT D)
theorem Nt.st6k {lo:Nat}{w:World}{v:Value}{X g:Nat}{n:Bool}{p:Value}{e:Int}{m:Bool}{u:Value}{f:Int}(h:Nt lo w v X) (D:Rq w g n p e m u f) (a b c d q r:Value):Nt lo (st6 w g a b c d q r) v X:=h.off (st6_but g w a b c d q r) (h.notin (by decide) D)
theorem below_st3 {B g:Nat}{a w:World}(h:Below B a w) (hB:B≤w.heap.size) (hg:B≤g) (x y z:Value):Below B a (st3 w g x y z):=But.below h (set3_but g w x y z) hB hg
theorem below_st6 {B g:Nat}{a w:World}(h:Below B a w) (hB:B≤w.heap.size) (hg:B≤g) (x y z p q r:Value):Below B a (st6 w g x y z p q r):=But.below h (st6_but g w x y z p q r) hB hg
def Ap (v u:Value):Prop:=∀ g,v.ownBlock=some g→u.ownBlock≠some g
theorem Nt.blk {lo:Nat}{w:World}{v:Value}{X g:Nat}(h:Nt lo w v X) (hg:v.ownBlock=Option.some g):lo≤g∧g<w.heap.size:=by
 rcases h.2 with ⟨rfl,_⟩|⟨g',cap,cur,rfl,h1,h2,_⟩
 · simp [Value.ownBlock] at hg
 · simp [Value.ownBlock] at hg
   subst hg;exact ⟨h1,(Array.getElem?_eq_some_iff.1 h2).1⟩
theorem Nt.ap {lo:Nat}{w w':World}{v u:Value}{X Y:Nat}(h:Nt lo w v X) (k:Nt w.heap.size w' u Y):Ap v u:=by
 intro g hg hu;have:=(h.blk hg).2;have:=(k.blk hu).1;omega
theorem ws0:(ws 0).length=0:=by rw [ws_zero];rfl
theorem divided_res (W:World) (g:Nat) (v:Value) (x:Int) (t:Bool) (tmps:Array Value) (ht:tmps[4]?.getD undef=.pointer (some ⟨g,0,none⟩)) (D:Tk W g 161 v (.int .i64 x) (.bool t)) :
 (results Tryz.f118 tmps).run Tryz.prog W=.ok (.agg #[v,.int .i64 x,.bool t]) W:=by
 obtain ⟨x0,x1,x2,_,_,_⟩:=D.facts;simp [results,Tryz.results118,ht,go_sem,x0,x1,x2]
theorem div_begin (w:World) (n:Bool) (v:Value) (e:Int) (m:Bool) (u:Value) (f:Int) (W:World) (hW:W=(w.alloc (.cells #[.bool n,v,.int .i64 e,.bool m,u,.int .i64 f] 110)).alloc (.cells #[.slice none 0 0,.int .i64 0,.bool false] 161)) :
 Below w.heap.size w W∧W.heap.size=w.heap.size+2∧Rq W w.heap.size n v e m u f∧Tk W (w.heap.size+1) 161 (.slice none 0 0) (.int .i64 0) (.bool false):=by
 rw [hW];refine ⟨(below_alloc w _).alloc (by simp) _,by simp,(Rq.new _ _ _ _ _ _ _).alloc _,?_⟩
 have:=Tk.new (w.alloc (.cells #[.bool n,v,.int .i64 e,.bool m,u,.int .i64 f] 110)) 161 (.slice none 0 0) (.int .i64 0) (.bool false);simpa using this
theorem divided_pos {w:World}{a b:Option Addr}{ca cb:Nat}(n m:Bool) (X Y:Nat) (e f:Int) (size lX lY lH cut H lev W0 Lf WH:Nat) (t bb z x y1 y2:Int) (tt:Bool)
 (AX:Arg w a (ws X).length ca (ws X)) (AY:Arg w b (ws Y).length cb (ws Y))
 (he0:-1048576≤e) (he1:e≤1048576) (hf0:-1048576≤f) (hf1:f≤1048576) (hs:size≤1000) (hlY:bl Y=lY) (hlX:bl X=lX) (hlH:bl H=lH) (bX:lX≤262144) (bY:lY≤262144) (bH:lH≤262144)
 (ht:(lY:Int)+(size:Int)-262144=t) (hcut:max t 0=(cut:Int)) (bcut:cut≤2000)
 (e1:shiftS Y (-(cut:Int))=(H,0)) (hbb:(lH:Int)+(size:Int)-(lX:Int)=bb) (e2:shiftS X bb=(lev,0)) (e3:divS lev H=(W0,Lf,0))
 (HL:Hid (∀ (u:World) (p q r s:Option Addr) (cp cq cr cs:Nat),Arg u p (ws W0).length cp (ws W0)→Arg u q (ws Lf).length cq (ws Lf)→Arg u r (ws Y).length cr (ws Y)→Arg u s (ws H).length cs (ws H)→Calls Tryz.prog 142 #[.slice p (ws W0).length cp,.slice q (ws Lf).length cq,.slice r (ws Y).length cr,.slice s (ws H).length cs,.int .i64 (cut:Nat)] u fun r w'=>r=.returned (.int .i64 z)∧Below u.heap.size u w'))
 (hz:decide (z<0)=false)
 (h1:e-f=y1) (h2:y1-bb=y2) (h3:y2-(cut:Int)=x) (htt:(decide (z=0)&&decide (0≤bb))=tt)
 (l1:(ws H).length≤8192) (l2:(ws lev).length≤8192) (l3:(ws W0).length≤8192) (l4:(ws Lf).length≤8192) :
 Calls Tryz.prog 118 #[.agg #[.bool n,.slice a (ws X).length ca,.int .i64 e,.bool m,.slice b (ws Y).length cb,.int .i64 f],.int .i64 (size:Nat)] w fun r w'=>(∃ v,r=.returned (.agg #[v,.int .i64 x,.bool tt])∧Nt w.heap.size w' v W0)∧Below w.heap.size w w':=by
 obtain ⟨W1,hW1⟩:∃ W,W=(w.alloc (.cells #[.bool n,.slice a (ws X).length ca,.int .i64 e,.bool m,.slice b (ws Y).length cb,.int .i64 f] 110)).alloc (.cells #[.slice none 0 0,.int .i64 0,.bool false] 161):=⟨_,rfl⟩;obtain ⟨hB,hz1,RQ,SK⟩:=div_begin w n _ e m _ f W1 hW1;have e1':shiftS (val (ws Y)) (-(cut:Int))=(H,0):=by rw [val_ws];exact e1
 have e2':shiftS (val (ws X)) bb=(lev,0):=by rw [val_ws];exact e2
 have e3':divS (val (ws lev)) (val (ws H))=(W0,Lf,0):=by rw [val_ws,val_ws];exact e3
 have lY':bl (val (ws Y))=lY:=by rw [val_ws];exact hlY
 have lX':bl (val (ws X))=lX:=by rw [val_ws];exact hlX
 have lH':bl (val (ws H))=lH:=by rw [val_ws];exact hlH
 have E:=(qsd (ai e1' (ai e2' (ai e3' (ai lY' (ai lX' lH'))))));have SZ:=(qsd (ai hz1 hB));have hs2:w.heap.size+2≤W1.heap.size:=by omega
 have hbel:=hB;have S0:=(qsd (ai hbel (ai (AX.below hB) (ai (AY.below hB) (ai RQ SK)))));clear hbel;clear e1 e2 e3 e1' e2' e3' lY' lX' lH' hlY hlX hlH AX AY hB RQ SK hz1;go_enter Tryz.func118,Tryz.ntmps118
 go_upto_region 1 with fail
 rw [←hW1];clear hW1;obtain ⟨x0,x1,x2,x3,x4,x5⟩:=S0.out.2.2.2.1.facts
 go_quiet (fail)
 clear x0 x1 x2 x3 x4 x5;generalize hV:World.drewN W1 _=V1;have hb:Below W1.heap.size W1 V1:=by rw [←hV];exact Below.drewN' (Below.refl _ _) _
 clear hV;obtain ⟨bel,AX,AY,RQ,SK⟩:=S0.out;have hbn:=bel.trans (hb.mono bel.size);have S1:=qsd (ai hbn (ai (AX.below hb) (ai (AY.below hb) (ai (RQ.below hb) (SK.below hb)))));clear bel AX AY RQ SK;clear hb hbn S0;obtain ⟨bel,AX,AY,RQ,SK⟩:=S1.out;have HC:=hid (Len_arg AY E.out.2.2.2.1);clear bel AX AY RQ SK
 go_wp2_with fail
 refine HC.out.mono ?_;rintro r u2 ⟨rfl,hb⟩;clear HC;obtain ⟨bel,AX,AY,RQ,SK⟩:=S1.out;have hbn:=bel.trans (hb.mono bel.size);have S2:=qsd (ai hbn (ai (AX.below hb) (ai (AY.below hb) (ai (RQ.below hb) (SK.below hb)))));clear bel AX AY RQ SK;clear hb hbn S1;obtain ⟨bel,AX,AY,RQ,SK⟩:=S2.out;have HC:=hid (Shift_arg (-(cut:Int)) AY E.out.1 (by omega) (by omega))
 clear bel AX AY RQ SK
 go_wp2_with fail
 refine HC.out.mono ?_;rintro r u3 ⟨v,rfl,hN,hb⟩;obtain ⟨a1,c1,rfl,_⟩:=hN.arg (by omega)
 clear HC;obtain ⟨bel,AX,AY,RQ,SK⟩:=S2.out;have hbn:=bel.trans (hb.mono bel.size);have S3:=qsd (ai hbn (ai (AX.below hb) (ai (AY.below hb) (ai (RQ.below hb) (ai (SK.below hb) (hN.mono bel.size))))));clear bel AX AY RQ SK;clear hb hbn S2;clear hN;obtain ⟨bel,AX,AY,RQ,SK,NH⟩:=S3.out;have HC:=hid (Len_arg (NH.arg' (by omega)).2 E.out.2.2.2.2.2)
 clear bel AX AY RQ SK NH
 go_wp2_with fail
 refine HC.out.mono ?_;rintro r u4 ⟨rfl,hb⟩;clear HC;obtain ⟨bel,AX,AY,RQ,SK,NH⟩:=S3.out;have hbn:=bel.trans (hb.mono bel.size);have S4:=qsd (ai hbn (ai (AX.below hb) (ai (AY.below hb) (ai (RQ.below hb) (ai (SK.below hb) (NH.below hb))))));clear bel AX AY RQ SK NH;clear hb hbn S3;obtain ⟨bel,AX,AY,RQ,SK,NH⟩:=S4.out;have HC:=hid (Len_arg AX E.out.2.2.2.2.1);clear bel AX AY RQ SK NH
 go_wp2_with fail
 refine HC.out.mono ?_;rintro r u5 ⟨rfl,hb⟩;clear HC;obtain ⟨bel,AX,AY,RQ,SK,NH⟩:=S4.out;have hbn:=bel.trans (hb.mono bel.size);have S5:=qsd (ai hbn (ai (AX.below hb) (ai (AY.below hb) (ai (RQ.below hb) (ai (SK.below hb) (NH.below hb))))));clear bel AX AY RQ SK NH;clear hb hbn S4;obtain ⟨bel,AX,AY,RQ,SK,NH⟩:=S5.out;have HC:=hid (Shift_arg bb AX E.out.2.1 (by omega) (by omega))
 clear bel AX AY RQ SK NH
 go_wp2_with fail
 refine HC.out.mono ?_;rintro r u6 ⟨v,rfl,hN,hb⟩;obtain ⟨a2,c2,rfl,_⟩:=hN.arg (by omega)
 clear HC;obtain ⟨bel,AX,AY,RQ,SK,NH⟩:=S5.out;have hbn:=bel.trans (hb.mono bel.size);have S6:=qsd (ai hbn (ai (AX.below hb) (ai (AY.below hb) (ai (RQ.below hb) (ai (SK.below hb) (ai (NH.below hb) (hN.mono bel.size)))))));clear bel AX AY RQ SK NH;clear hb hbn S5;clear hN;obtain ⟨bel,AX,AY,RQ,SK,NH,NV⟩:=S6.out;have HC:=hid (Div_arg (NV.arg' (by omega)).2 (NH.arg' (by omega)).2 E.out.2.2.1)
 clear bel AX AY RQ SK NH NV
 go_wp2_with fail
 refine HC.out.mono ?_;rintro r u7 ⟨v,v2,rfl,hN,hM,hb⟩;obtain ⟨a3,c3,rfl,_⟩:=hN.arg (by omega)
 obtain ⟨a4,c4,rfl,_⟩:=hM.arg (by omega)
 clear HC;obtain ⟨bel,AX,AY,RQ,SK,NH,NV⟩:=S6.out;have hbn:=bel.trans (hb.mono bel.size);have S7:=qsd (ai hbn (ai (AX.below hb) (ai (AY.below hb) (ai (RQ.below hb) (ai (SK.below hb) (ai (NH.below hb) (ai (hN.mono bel.size) (hM.mono bel.size))))))));clear bel AX AY RQ SK NH NV;clear hb hbn S6;clear hN hM;obtain ⟨bel,AX,AY,RQ,SK,NH,NW,NL⟩:=S7.out;have HC:=hid (HL.out u7 _ _ _ _ _ _ _ _ (NW.arg' (by omega)).2 (NL.arg' (by omega)).2 AY (NH.arg' (by omega)).2)
 clear bel AX AY RQ SK NH NW NL
 go_wp2_with fail
 refine HC.out.mono ?_;rintro r u8 ⟨rfl,hb⟩;clear HC;obtain ⟨bel,AX,AY,RQ,SK,NH,NW,NL⟩:=S7.out;have hbn:=bel.trans (hb.mono bel.size);have S8:=qsd (ai hbn (ai (AX.below hb) (ai (AY.below hb) (ai (RQ.below hb) (ai (SK.below hb) (ai (NH.below hb) (ai (NW.below hb) (NL.below hb))))))));clear bel AX AY RQ SK NH NW NL;clear hb hbn S7;obtain ⟨bel,AX,AY,RQ,SK,NH,NW,NL⟩:=S8.out;have hlast:=qsd (ai bel (ai NW SK));obtain ⟨x0,x1,x2,x3,x4,x5⟩:=RQ.facts;obtain ⟨s0,s1,s2,sf0,sf1,sf2⟩:=SK.facts;have hsz:=qsd (SK.lt);clear bel AX AY RQ SK NH NW NL;clear S8 E HL;have htA:=qsd htt;clear htt;go_wp2
 all_goals (
  obtain ⟨bel,NZ,SK⟩:=hlast.out;have hsz:=bel.size;refine bodyPost_ret (divided_res _ (w.heap.size+1) (.slice a3 (ws W0).length c3) x _ _ rfl (SK.set _ _ _)) rfl ⟨⟨.slice a3 (ws W0).length c3,?_,NZ.st3k SK (by decide) _ _ _⟩,below_st3 bel hsz (by omega) _ _ _⟩
  rw [←htA.out]
  first | rfl | simp [*])
theorem divided_neg {w:World}{a b:Option Addr}{ca cb:Nat}(n m:Bool) (X Y:Nat) (e f:Int) (size lX lY lH cut H lev W0 Lf WH:Nat) (t bb z x y1 y2:Int) (tt:Bool)
 (AX:Arg w a (ws X).length ca (ws X)) (AY:Arg w b (ws Y).length cb (ws Y))
 (he0:-1048576≤e) (he1:e≤1048576) (hf0:-1048576≤f) (hf1:f≤1048576) (hs:size≤1000) (hlY:bl Y=lY) (hlX:bl X=lX) (hlH:bl H=lH) (bX:lX≤262144) (bY:lY≤262144) (bH:lH≤262144)
 (ht:(lY:Int)+(size:Int)-262144=t) (hcut:max t 0=(cut:Int)) (bcut:cut≤2000)
 (e1:shiftS Y (-(cut:Int))=(H,0)) (hbb:(lH:Int)+(size:Int)-(lX:Int)=bb) (e2:shiftS X bb=(lev,0)) (e3:divS lev H=(W0,Lf,0))
 (HL:Hid (∀ (u:World) (p q r s:Option Addr) (cp cq cr cs:Nat),Arg u p (ws W0).length cp (ws W0)→Arg u q (ws Lf).length cq (ws Lf)→Arg u r (ws Y).length cr (ws Y)→Arg u s (ws H).length cs (ws H)→Calls Tryz.prog 142 #[.slice p (ws W0).length cp,.slice q (ws Lf).length cq,.slice r (ws Y).length cr,.slice s (ws H).length cs,.int .i64 (cut:Nat)] u fun r w'=>r=.returned (.int .i64 z)∧Below u.heap.size u w'))
 (hz:decide (z<0)=true) (e4:subS W0 1=(WH,0))
 (h1:e-f=y1) (h2:y1-bb=y2) (h3:y2-(cut:Int)=x) (htt:(decide (z=0)&&decide (0≤bb))=tt)
 (l1:(ws H).length≤8192) (l2:(ws lev).length≤8192) (l3:(ws W0).length≤8192) (l4:(ws Lf).length≤8192) (l5:(ws WH).length≤8192) :
 Calls Tryz.prog 118 #[.agg #[.bool n,.slice a (ws X).length ca,.int .i64 e,.bool m,.slice b (ws Y).length cb,.int .i64 f],.int .i64 (size:Nat)] w fun r w'=>(∃ v,r=.returned (.agg #[v,.int .i64 x,.bool tt])∧Nt w.heap.size w' v WH)∧Below w.heap.size w w':=by
 obtain ⟨W1,hW1⟩:∃ W,W=(w.alloc (.cells #[.bool n,.slice a (ws X).length ca,.int .i64 e,.bool m,.slice b (ws Y).length cb,.int .i64 f] 110)).alloc (.cells #[.slice none 0 0,.int .i64 0,.bool false] 161):=⟨_,rfl⟩;obtain ⟨hB,hz1,RQ,SK⟩:=div_begin w n _ e m _ f W1 hW1;have e1':shiftS (val (ws Y)) (-(cut:Int))=(H,0):=by rw [val_ws];exact e1
 have e2':shiftS (val (ws X)) bb=(lev,0):=by rw [val_ws];exact e2
 have e3':divS (val (ws lev)) (val (ws H))=(W0,Lf,0):=by rw [val_ws,val_ws];exact e3
 have lY':bl (val (ws Y))=lY:=by rw [val_ws];exact hlY
 have lX':bl (val (ws X))=lX:=by rw [val_ws];exact hlX
 have lH':bl (val (ws H))=lH:=by rw [val_ws];exact hlH
 have E:=(qsd (ai e1' (ai e2' (ai e3' (ai lY' (ai lX' lH'))))));have SZ:=(qsd (ai hz1 hB));have hs2:w.heap.size+2≤W1.heap.size:=by omega
 have e4':subS (val (ws W0)) (val (ws 1))=(WH,0):=by rw [val_ws,val_ws];exact e4
 have E4:=qsd e4';have l1s:(ws 1).length≤8192:=by rw [ws_one];simp
 clear e4 e4';have hbel:=hB;have S0:=(qsd (ai hbel (ai (AX.below hB) (ai (AY.below hB) (ai RQ SK)))));clear hbel;clear e1 e2 e3 e1' e2' e3' lY' lX' lH' hlY hlX hlH AX AY hB RQ SK hz1;go_enter Tryz.func118,Tryz.ntmps118
 go_upto_region 1 with fail
 rw [←hW1];clear hW1;obtain ⟨x0,x1,x2,x3,x4,x5⟩:=S0.out.2.2.2.1.facts
 go_quiet (fail)
 clear x0 x1 x2 x3 x4 x5;generalize hV:World.drewN W1 _=V1;have hb:Below W1.heap.size W1 V1:=by rw [←hV];exact Below.drewN' (Below.refl _ _) _
 clear hV;obtain ⟨bel,AX,AY,RQ,SK⟩:=S0.out;have hbn:=bel.trans (hb.mono bel.size);have S1:=qsd (ai hbn (ai (AX.below hb) (ai (AY.below hb) (ai (RQ.below hb) (SK.below hb)))));clear bel AX AY RQ SK;clear hb hbn S0;obtain ⟨bel,AX,AY,RQ,SK⟩:=S1.out;have HC:=hid (Len_arg AY E.out.2.2.2.1);clear bel AX AY RQ SK
 go_wp2_with fail
 refine HC.out.mono ?_;rintro r u2 ⟨rfl,hb⟩;clear HC;obtain ⟨bel,AX,AY,RQ,SK⟩:=S1.out;have hbn:=bel.trans (hb.mono bel.size);have S2:=qsd (ai hbn (ai (AX.below hb) (ai (AY.below hb) (ai (RQ.below hb) (SK.below hb)))));clear bel AX AY RQ SK;clear hb hbn S1;obtain ⟨bel,AX,AY,RQ,SK⟩:=S2.out;have HC:=hid (Shift_arg (-(cut:Int)) AY E.out.1 (by omega) (by omega))
 clear bel AX AY RQ SK
 go_wp2_with fail
 refine HC.out.mono ?_;rintro r u3 ⟨v,rfl,hN,hb⟩;obtain ⟨a1,c1,rfl,_⟩:=hN.arg (by omega)
 clear HC;obtain ⟨bel,AX,AY,RQ,SK⟩:=S2.out;have hbn:=bel.trans (hb.mono bel.size);have S3:=qsd (ai hbn (ai (AX.below hb) (ai (AY.below hb) (ai (RQ.below hb) (ai (SK.below hb) (hN.mono bel.size))))));clear bel AX AY RQ SK;clear hb hbn S2;clear hN;obtain ⟨bel,AX,AY,RQ,SK,NH⟩:=S3.out;have HC:=hid (Len_arg (NH.arg' (by omega)).2 E.out.2.2.2.2.2)
 clear bel AX AY RQ SK NH
 go_wp2_with fail
 refine HC.out.mono ?_;rintro r u4 ⟨rfl,hb⟩;clear HC;obtain ⟨bel,AX,AY,RQ,SK,NH⟩:=S3.out;have hbn:=bel.trans (hb.mono bel.size);have S4:=qsd (ai hbn (ai (AX.below hb) (ai (AY.below hb) (ai (RQ.below hb) (ai (SK.below hb) (NH.below hb))))));clear bel AX AY RQ SK NH;clear hb hbn S3;obtain ⟨bel,AX,AY,RQ,SK,NH⟩:=S4.out;have HC:=hid (Len_arg AX E.out.2.2.2.2.1);clear bel AX AY RQ SK NH
 go_wp2_with fail
 refine HC.out.mono ?_;rintro r u5 ⟨rfl,hb⟩;clear HC;obtain ⟨bel,AX,AY,RQ,SK,NH⟩:=S4.out;have hbn:=bel.trans (hb.mono bel.size);have S5:=qsd (ai hbn (ai (AX.below hb) (ai (AY.below hb) (ai (RQ.below hb) (ai (SK.below hb) (NH.below hb))))));clear bel AX AY RQ SK NH;clear hb hbn S4;obtain ⟨bel,AX,AY,RQ,SK,NH⟩:=S5.out;have HC:=hid (Shift_arg bb AX E.out.2.1 (by omega) (by omega))
 clear bel AX AY RQ SK NH
 go_wp2_with fail
 refine HC.out.mono ?_;rintro r u6 ⟨v,rfl,hN,hb⟩;obtain ⟨a2,c2,rfl,_⟩:=hN.arg (by omega)
 clear HC;obtain ⟨bel,AX,AY,RQ,SK,NH⟩:=S5.out;have hbn:=bel.trans (hb.mono bel.size);have S6:=qsd (ai hbn (ai (AX.below hb) (ai (AY.below hb) (ai (RQ.below hb) (ai (SK.below hb) (ai (NH.below hb) (hN.mono bel.size)))))));clear bel AX AY RQ SK NH;clear hb hbn S5;clear hN;obtain ⟨bel,AX,AY,RQ,SK,NH,NV⟩:=S6.out;have HC:=hid (Div_arg (NV.arg' (by omega)).2 (NH.arg' (by omega)).2 E.out.2.2.1)
 clear bel AX AY RQ SK NH NV
 go_wp2_with fail
 refine HC.out.mono ?_;rintro r u7 ⟨v,v2,rfl,hN,hM,hb⟩;obtain ⟨a3,c3,rfl,_⟩:=hN.arg (by omega)
 obtain ⟨a4,c4,rfl,_⟩:=hM.arg (by omega)
 clear HC;obtain ⟨bel,AX,AY,RQ,SK,NH,NV⟩:=S6.out;have hbn:=bel.trans (hb.mono bel.size);have S7:=qsd (ai hbn (ai (AX.below hb) (ai (AY.below hb) (ai (RQ.below hb) (ai (SK.below hb) (ai (NH.below hb) (ai (hN.mono bel.size) (hM.mono bel.size))))))));clear bel AX AY RQ SK NH NV;clear hb hbn S6;clear hN hM;obtain ⟨bel,AX,AY,RQ,SK,NH,NW,NL⟩:=S7.out;have HC:=hid (HL.out u7 _ _ _ _ _ _ _ _ (NW.arg' (by omega)).2 (NL.arg' (by omega)).2 AY (NH.arg' (by omega)).2)
 clear bel AX AY RQ SK NH NW NL
 go_wp2_with fail
 refine HC.out.mono ?_;rintro r u8 ⟨rfl,hb⟩;clear HC;obtain ⟨bel,AX,AY,RQ,SK,NH,NW,NL⟩:=S7.out;have hbn:=bel.trans (hb.mono bel.size);have S8:=qsd (ai hbn (ai (AX.below hb) (ai (AY.below hb) (ai (RQ.below hb) (ai (SK.below hb) (ai (NH.below hb) (ai (NW.below hb) (NL.below hb))))))));clear bel AX AY RQ SK NH NW NL;clear hb hbn S7;obtain ⟨bel,AX,AY,RQ,SK,NH,NW,NL⟩:=S8.out;have HC:=hid (of_any 1 u8 (by omega))
 clear bel AX AY RQ SK NH NW NL
 go_wp2_with fail
 refine HC.out.mono ?_;rintro r u9 ⟨v,rfl,hN,hb⟩;obtain ⟨a5,c5,rfl,_⟩:=hN.arg (by omega)
 clear HC;obtain ⟨bel,AX,AY,RQ,SK,NH,NW,NL⟩:=S8.out;have hbn:=bel.trans (hb.mono bel.size);have S9:=qsd (ai hbn (ai (AX.below hb) (ai (AY.below hb) (ai (RQ.below hb) (ai (SK.below hb) (ai (NH.below hb) (ai (NW.below hb) (ai (NL.below hb) (hN.mono bel.size)))))))));clear bel AX AY RQ SK NH NW NL;clear hb hbn S8;clear hN;obtain ⟨bel,AX,AY,RQ,SK,NH,NW,NL,NO⟩:=S9.out;have HC:=hid (Sub_arg (NW.arg' (by omega)).2 (NO.arg' (by omega)).2 E4.out)
 clear bel AX AY RQ SK NH NW NL NO
 go_wp2_with fail
 refine HC.out.mono ?_;rintro r u10 ⟨v,rfl,hN,hb⟩;obtain ⟨a6,c6,rfl,_⟩:=hN.arg (by omega)
 clear HC;obtain ⟨bel,AX,AY,RQ,SK,NH,NW,NL,NO⟩:=S9.out;have hbn:=bel.trans (hb.mono bel.size);have S10:=qsd (ai hbn (ai (AX.below hb) (ai (AY.below hb) (ai (RQ.below hb) (ai (SK.below hb) (ai (NH.below hb) (ai (NW.below hb) (ai (NL.below hb) (ai (NO.below hb) (hN.mono bel.size))))))))));clear bel AX AY RQ SK NH NW NL NO;clear hb hbn S9;clear hN;obtain ⟨bel,AX,AY,RQ,SK,NH,NW,NL,NO,NR⟩:=S10.out;have hlast:=qsd (ai bel (ai NR SK));obtain ⟨x0,x1,x2,x3,x4,x5⟩:=RQ.facts;obtain ⟨s0,s1,s2,sf0,sf1,sf2⟩:=SK.facts;have hsz:=qsd (SK.lt);clear bel AX AY RQ SK NH NW NL NO NR;clear S10 E HL;have htA:=qsd htt;clear htt;go_wp2
 all_goals (
  obtain ⟨bel,NZ,SK⟩:=hlast.out;have hsz:=bel.size;refine bodyPost_ret (divided_res _ (w.heap.size+1) (.slice a6 (ws WH).length c6) x _ _ rfl (SK.set _ _ _)) rfl ⟨⟨.slice a6 (ws WH).length c6,?_,NZ.st3k SK (by decide) _ _ _⟩,below_st3 bel hsz (by omega) _ _ _⟩
  rw [←htA.out]
  first | rfl | simp [*])
theorem notLG11 {X:Nat}(h:bl X≤262144):¬ LG X:=fun k=>by have:=(LG_bl X).1 k;omega
theorem mulS_ok11 {X Y V:Nat}(h1:¬ LG X) (h2:¬ LG Y) (h3:¬ LG V) (e:X*Y=V):mulS X Y=(V,0):=by subst e;unfold mulS;rw [if_neg (by simp [h1,h2]),if_neg h3]
theorem len_bl8 {X:Nat}(h:bl X≤262144):(ws X).length≤8192:=by have:=notLG11 h;unfold LG at this;omega
theorem bl_lt_pow {X k:Nat}(h:X<2^k):bl X≤k:=by
 by_cases h0:X=0
 · subst h0;rw [bl_zero];omega
 · have:=(Nat.pow_lt_pow_iff_right (a:=2) (by decide)).1 (Nat.lt_of_le_of_lt (bl_ge X h0) h)
   have:=bl_pos X h0;omega
theorem bl_le_of {X Y:Nat}(h:X≤Y) (k:bl Y≤262144):bl X≤262144:=by
 have:=bl_lt_pow (Nat.lt_of_le_of_lt h (bl_lt Y));omega
theorem cmpI_lt0 (x y:Nat):decide (cmpI x y<0)=decide (x<y):=by
 unfold cmpI
 by_cases h:x<y
 · simp [h]
 · by_cases h2:y<x <;> simp [h,h2]
theorem cmpI_eq0 (x y:Nat):decide (cmpI x y=0)=decide (x=y):=by
 unfold cmpI
 by_cases h:x<y
 · have:x≠y:=by omega
   simp [h,this]
 · by_cases h2:y<x
   · have:x≠y:=by omega
     simp [h,h2,this]
   · have:x=y:=by omega
     simp [this]
theorem divided11 {w:World}{a b:Option Addr}{ca cb:Nat}(n m:Bool) (X Y:Nat) (e f:Int) (size:Nat)
 (AX:Arg w a (ws X).length ca (ws X)) (AY:Arg w b (ws Y).length cb (ws Y)) (hX:X=0∨X%2=1) (hY:Y≠0)
 (he0:-1048576≤e) (he1:e≤1048576) (hf0:-1048576≤f) (hf1:f≤1048576) (hs0:1≤size) (hs:size≤1000) (bX:bl X≤262144) (bY:bl Y≤262144) :
 Calls Tryz.prog 118 #[.agg #[.bool n,.slice a (ws X).length ca,.int .i64 e,.bool m,.slice b (ws Y).length cb,.int .i64 f],.int .i64 (size:Nat)] w fun r w'=>(∃ v,r=.returned (.agg #[v,.int .i64 (e-f-byS X Y size-cutS Y size),.bool (atS X Y size)])∧Nt w.heap.size w' v (whoS X Y size))∧Below w.heap.size w w':=by
 have D:=divS_facts X Y size hX hY hs0 hs bX bY;have hYp:=bl_pos Y hY;have cutb:cutS Y size≤1000∧cutS Y size<bl Y:=by unfold cutS;omega
 have bH:bl (higS Y size)≤262144:=by have:=D.blh;omega
 have hHc:bl (higS Y size)+size≤262144∨cutS Y size=0:=by have:=D.blh;unfold cutS at *;omega
 have hbyb:-262144≤byS X Y size∧byS X Y size≤264000:=by unfold byS;omega
 have bLev:bl (levS X Y size)≤262144:=by
  have:=bl_lt_pow D.lev;have h2:bl (higS Y size)+size≤262144:=by have:=D.blh;unfold cutS at this;omega
  omega
 have bW0:bl (who0 X Y size)≤262144:=by have:=bl_lt_pow D.w0;omega
 have bLf:bl (lefS X Y size)≤262144:=bl_le_of (Nat.le_of_lt D.lef) bH;have e1:shiftS Y (-((cutS Y size:Nat):Int))=(higS Y size,0):=shiftS_dn (notLG11 bY) rfl
 have e2:shiftS X (byS X Y size)=(levS X Y size,0):=by
  by_cases hb:byS X Y size<0
  · have:=shiftS_dn (X:=X) (k:=(-byS X Y size).toNat) (V:=levS X Y size) (notLG11 bX) (by unfold levS;rw [if_pos hb])
    rw [show -(((-byS X Y size).toNat:Nat):Int)=byS X Y size by omega] at this
    exact this
  · have:=shiftS_up (X:=X) (k:=(byS X Y size).toNat) (V:=levS X Y size) (notLG11 bX) (by
     by_cases h0:X=0
     · exact .inl h0
     · right
       have h2:bl (higS Y size)+size≤262144:=by have:=D.blh;unfold cutS at this;omega
       unfold byS at *;omega) (by unfold levS;rw [if_neg hb])
    rw [show (((byS X Y size).toNat:Nat):Int)=byS X Y size by omega] at this
    exact this
 have e3:divS (levS X Y size) (higS Y size)=(who0 X Y size,lefS X Y size,0):=divS_ok (notLG11 bLev) (notLG11 bH) D.hig rfl rfl
 -- what cmpLow is asked
 have hYHb:higS Y size*2^cutS Y size≤Y:=D.low';have bBk:bl (higS Y size*2^cutS Y size)≤262144:=bl_le_of hYHb bY;have bLo:bl (lowS Y size)≤262144:=bl_le_of (Nat.sub_le _ _) bY
 have bTk:bl (takS X Y size)≤262144:=by
  have h1:takS X Y size<2^(size+1+cutS Y size):=by
   unfold takS;rw [Nat.pow_add];exact Nat.mul_lt_mul'' D.w0 D.lowlt
  have:=bl_lt_pow h1;omega
 have bHs:bl (hasS X Y size)≤262144:=by
  refine bl_le_of (Y:=Y) (Nat.le_trans ?_ hYHb) bY;exact Nat.mul_le_mul_right _ (Nat.le_of_lt D.lef)
 have c1:shiftS (higS Y size) ((cutS Y size:Nat):Int)=(higS Y size*2^cutS Y size,0):=shiftS_up (notLG11 bH) (.inr (by have:=D.blh;omega)) rfl
 have c2:subS Y (higS Y size*2^cutS Y size)=(lowS Y size,0):=subS_ok (notLG11 bY) (notLG11 bBk) (by unfold lowS;omega)
 have c3:mulS (who0 X Y size) (lowS Y size)=(takS X Y size,0):=mulS_ok11 (notLG11 bW0) (notLG11 bLo) (notLG11 bTk) rfl
 have c4:shiftS (lefS X Y size) ((cutS Y size:Nat):Int)=(hasS X Y size,0):=shiftS_up (notLG11 bLf) (by
  by_cases h0:lefS X Y size=0
  · exact .inl h0
  · right
    have hlt:lefS X Y size≤higS Y size:=Nat.le_of_lt D.lef;have:=bl_lt_pow (Nat.lt_of_le_of_lt hlt (bl_lt (higS Y size)));have:=D.blh
    omega) rfl
 have HC:Hid (∀ (u:World) (p q r s:Option Addr) (cp cq cr cs:Nat),Arg u p (ws (who0 X Y size)).length cp (ws (who0 X Y size))→Arg u q (ws (lefS X Y size)).length cq (ws (lefS X Y size))→Arg u r (ws Y).length cr (ws Y)→Arg u s (ws (higS Y size)).length cs (ws (higS Y size))→Calls Tryz.prog 142 #[.slice p (ws (who0 X Y size)).length cp,.slice q (ws (lefS X Y size)).length cq,.slice r (ws Y).length cr,.slice s (ws (higS Y size)).length cs,.int .i64 ((cutS Y size:Nat):Int)] u fun r w'=>r=.returned (.int .i64 (cmpI (hasS X Y size) (takS X Y size)))∧Below u.heap.size u w') :=
  fun u p q r s cp cq cr cs A1 A2 A3 A4=>cmpLow_any _ _ _ _ (cutS Y size) _ _ _ _ _ A1 A2 A3 A4 (by omega) c1 c2 c3 c4 rfl (len_bl8 bBk) (len_bl8 bLo) (len_bl8 bTk) (len_bl8 bHs)
 have htt:(decide (cmpI (hasS X Y size) (takS X Y size)=0)&&decide (0≤byS X Y size))=atS X Y size:=by rw [cmpI_eq0];rfl
 have hcut:max ((bl Y:Int)+(size:Int)-262144) 0=((cutS Y size:Nat):Int):=by unfold cutS;omega
 by_cases hlt:hasS X Y size<takS X Y size
 · have hz:decide (cmpI (hasS X Y size) (takS X Y size)<0)=true:=by rw [cmpI_lt0];exact decide_eq_true hlt
   have e4:subS (who0 X Y size) 1=(whoS X Y size,0):=by
    refine subS_ok (notLG11 bW0) (notLG11 (by decide)) ?_
    have:=D.less hlt;unfold whoS;rw [if_pos hlt];omega
   exact divided_neg n m X Y e f size (bl X) (bl Y) (bl (higS Y size)) (cutS Y size) (higS Y size) (levS X Y size) (who0 X Y size) (lefS X Y size) (whoS X Y size) _ (byS X Y size) _ _ _ _ (atS X Y size) AX AY he0 he1 hf0 hf1 hs rfl rfl rfl bX bY bH rfl hcut (by omega) e1 rfl e2 e3 HC hz e4 rfl rfl rfl htt (len_bl8 bH) (len_bl8 bLev) (len_bl8 bW0) (len_bl8 bLf) (len_bl8 (bl_le_of (Y:=who0 X Y size) (by unfold whoS;rw [if_pos hlt];omega) bW0))
 · have hz:decide (cmpI (hasS X Y size) (takS X Y size)<0)=false:=by rw [cmpI_lt0];exact decide_eq_false hlt
   have eW:whoS X Y size=who0 X Y size:=by unfold whoS;rw [if_neg hlt]
   rw [eW];exact divided_pos n m X Y e f size (bl X) (bl Y) (bl (higS Y size)) (cutS Y size) (higS Y size) (levS X Y size) (who0 X Y size) (lefS X Y size) 0 _ (byS X Y size) _ _ _ _ (atS X Y size) AX AY he0 he1 hf0 hf1 hs rfl rfl rfl bX bY bH rfl hcut (by omega) e1 rfl e2 e3 HC hz rfl rfl rfl htt (len_bl8 bH) (len_bl8 bLev) (len_bl8 bW0) (len_bl8 bLf)
theorem inside_res (W:World) (g:Nat) (n:Bool) (v:Value) (e k:Int) (tmps:Array Value) (ht:tmps[4]?.getD undef=.pointer (some ⟨g,0,none⟩)) (hk:tmps[5]?.getD undef=.int .i64 k) (D:Tk W g 67 (.bool n) v (.int .i64 e)) :
 (results Tryz.f117 tmps).run Tryz.prog W=.ok (.tuple #[.agg #[.bool n,v,.int .i64 e],.int .i64 k]) W:=by
 obtain ⟨x0,x1,x2,_,_,_⟩:=D.facts;simp [results,Tryz.results117,ht,hk,go_sem,x0,x1,x2]
theorem ins_begin (w:World) (v:Value) (x:Int) (t:Bool) (W:World) (hW:W=(w.alloc (.cells #[v,.int .i64 x,.bool t] 161)).alloc (.cells #[.bool false,.slice none 0 0,.int .i64 0] 67)) :
 Below w.heap.size w W∧W.heap.size=w.heap.size+2∧Tk W w.heap.size 161 v (.int .i64 x) (.bool t)∧Tk W (w.heap.size+1) 67 (.bool false) (.slice none 0 0) (.int .i64 0):=by
 rw [hW];refine ⟨(below_alloc w _).alloc (by simp) _,by simp,(Tk.new _ _ _ _ _).alloc _,?_⟩
 have:=Tk.new (w.alloc (.cells #[v,.int .i64 x,.bool t] 161)) 67 (.bool false) (.slice none 0 0) (.int .i64 0);simpa using this
theorem inside_yes {w:World}{a:Option Addr}{ca:Nat}(n:Bool) (W M2 M3:Nat) (x y E:Int) (dn:Bool) (V:Nat) (de er:Int) (AW:Arg w a (ws W).length ca (ws W)) (hx0:-10000000≤x) (hx1:x≤10000000)
 (e1:shiftS W 1=(M2,0)) (hy:x-1=y) (hE:min (max y (-4096)) 4096=E) (l2:(ws M2).length≤8192) (lV:(ws V).length≤8192)
 (HM:Hid (∀ (u:World) (p:Option Addr) (q:Nat),Below w.heap.size w u→Arg u p (ws M2).length q (ws M2)→Calls Tryz.prog 63 #[.bool n,.slice p (ws M2).length q,.int .i64 E] u fun r w'=>(∃ v,r=.returned (.tuple #[.agg #[.bool dn,v,.int .i64 de],.int .i64 er])∧Nt u.heap.size w' v V)∧Below u.heap.size u w')) :
 Calls Tryz.prog 117 #[.bool n,.agg #[.slice a (ws W).length ca,.int .i64 x,.bool true]] w fun r w'=>(∃ v,r=.returned (.tuple #[.agg #[.bool dn,v,.int .i64 de],.int .i64 er])∧Nt w.heap.size w' v V)∧Below w.heap.size w w':=by
 obtain ⟨W1,hW1⟩:∃ U,U=(w.alloc (.cells #[.slice a (ws W).length ca,.int .i64 x,.bool true] 161)).alloc (.cells #[.bool false,.slice none 0 0,.int .i64 0] 67):=⟨_,rfl⟩;obtain ⟨hB,hz1,SK,DK⟩:=ins_begin w _ x true W1 hW1;have e1':shiftS (val (ws W)) 1=(M2,0):=by rw [val_ws];exact e1
 have E1:=qsd e1';have hs2:w.heap.size+2≤W1.heap.size:=by omega
 have l1s:(ws 1).length≤8192:=by rw [ws_one];simp
 have hbel:=hB;have S0:=(qsd (ai hbel (ai (AW.below hB) (ai SK DK))));clear hbel;clear e1 e1' AW hB SK DK hz1;go_enter Tryz.func117,Tryz.ntmps117;obtain ⟨x0,x1,x2,_,_,_⟩:=S0.out.2.2.1.facts;obtain ⟨bel,AW,SK,DK⟩:=S0.out;have HC:=hid (Shift_arg 1 AW E1.out (by omega) (by omega))
 clear bel AW SK DK
 go_upto_region 1 with fail
 rw [←hW1];clear hW1
 go_wp2_with fail
 clear x0 x1 x2;refine HC.out.mono ?_;rintro r u1 ⟨v,rfl,hN,hb⟩;obtain ⟨a1,c1,rfl,_⟩:=hN.arg (by omega)
 clear HC;obtain ⟨bel,AW,SK,DK⟩:=S0.out;have hbn:=bel.trans (hb.mono bel.size);have S1:=qsd (ai hbn (ai (AW.below hb) (ai (SK.below hb) (ai (DK.below hb) (hN.mono bel.size)))));clear bel AW SK DK;clear hb hbn S0;clear hN;obtain ⟨x0,x1,x2,_,_,_⟩:=S1.out.2.2.1.facts;obtain ⟨bel,AW,SK,DK,N2⟩:=S1.out;have HC:=hid (HM.out u1 _ _ bel (N2.arg' (by omega)).2)
 clear bel AW SK DK N2
 go_wp2_with fail
 clear x0 x1 x2;refine HC.out.mono ?_;rintro r u2 ⟨⟨v,rfl,hN⟩,hb⟩;obtain ⟨a7,c7,rfl,_⟩:=hN.arg (by omega)
 clear HC;obtain ⟨bel,AW,SK,DK,N2⟩:=S1.out;have hbn:=bel.trans (hb.mono bel.size);have S2:=qsd (ai hbn (ai (AW.below hb) (ai (SK.below hb) (ai (DK.below hb) (ai (N2.below hb) (hN.mono bel.size))))));clear bel AW SK DK N2;clear hb hbn S1;clear hN;obtain ⟨bel,AW,SK,DK,N2,NV⟩:=S2.out;have hlast:=qsd (ai bel (ai NV DK));obtain ⟨s0,s1,s2,sf0,sf1,sf2⟩:=DK.facts;clear bel AW SK DK N2 NV;clear S2 HM;go_wp2;obtain ⟨bel,NZ,DK⟩:=hlast.out;have hsz:=bel.size;exact bodyPost_ret (inside_res _ (w.heap.size+1) dn (.slice a7 (ws V).length c7) de er _ rfl rfl (DK.set _ _ _)) rfl ⟨⟨_,rfl,NZ.st3k DK (by decide) _ _ _⟩,below_st3 bel hsz (by omega) _ _ _⟩
theorem inside_no {w:World}{a:Option Addr}{ca:Nat}(n:Bool) (W M2 M3:Nat) (x y E:Int) (dn:Bool) (V:Nat) (de er:Int) (AW:Arg w a (ws W).length ca (ws W)) (hx0:-10000000≤x) (hx1:x≤10000000)
 (e1:shiftS W 1=(M2,0)) (e2:addS M2 1=(M3,0)) (hy:x-1=y) (hE:min (max y (-4096)) 4096=E) (l2:(ws M2).length≤8192) (l3:(ws M3).length≤8192) (lV:(ws V).length≤8192)
 (HM:Hid (∀ (u:World) (p:Option Addr) (q:Nat),Below w.heap.size w u→Arg u p (ws M3).length q (ws M3)→Calls Tryz.prog 63 #[.bool n,.slice p (ws M3).length q,.int .i64 E] u fun r w'=>(∃ v,r=.returned (.tuple #[.agg #[.bool dn,v,.int .i64 de],.int .i64 er])∧Nt u.heap.size w' v V)∧Below u.heap.size u w')) :
 Calls Tryz.prog 117 #[.bool n,.agg #[.slice a (ws W).length ca,.int .i64 x,.bool false]] w fun r w'=>(∃ v,r=.returned (.tuple #[.agg #[.bool dn,v,.int .i64 de],.int .i64 er])∧Nt w.heap.size w' v V)∧Below w.heap.size w w':=by
 obtain ⟨W1,hW1⟩:∃ U,U=(w.alloc (.cells #[.slice a (ws W).length ca,.int .i64 x,.bool false] 161)).alloc (.cells #[.bool false,.slice none 0 0,.int .i64 0] 67):=⟨_,rfl⟩;obtain ⟨hB,hz1,SK,DK⟩:=ins_begin w _ x false W1 hW1;have e1':shiftS (val (ws W)) 1=(M2,0):=by rw [val_ws];exact e1
 have e2':addS (val (ws M2)) (val (ws 1))=(M3,0):=by rw [val_ws,val_ws];exact e2
 have E2:=qsd e2';clear e2 e2';have E1:=qsd e1';have hs2:w.heap.size+2≤W1.heap.size:=by omega
 have l1s:(ws 1).length≤8192:=by rw [ws_one];simp
 have hbel:=hB;have S0:=(qsd (ai hbel (ai (AW.below hB) (ai SK DK))));clear hbel;clear e1 e1' AW hB SK DK hz1;go_enter Tryz.func117,Tryz.ntmps117;obtain ⟨x0,x1,x2,_,_,_⟩:=S0.out.2.2.1.facts;obtain ⟨bel,AW,SK,DK⟩:=S0.out;have HC:=hid (Shift_arg 1 AW E1.out (by omega) (by omega))
 clear bel AW SK DK
 go_upto_region 1 with fail
 rw [←hW1];clear hW1
 go_wp2_with fail
 clear x0 x1 x2;refine HC.out.mono ?_;rintro r u1 ⟨v,rfl,hN,hb⟩;obtain ⟨a1,c1,rfl,_⟩:=hN.arg (by omega)
 clear HC;obtain ⟨bel,AW,SK,DK⟩:=S0.out;have hbn:=bel.trans (hb.mono bel.size);have S1:=qsd (ai hbn (ai (AW.below hb) (ai (SK.below hb) (ai (DK.below hb) (hN.mono bel.size)))));clear bel AW SK DK;clear hb hbn S0;clear hN;obtain ⟨x0,x1,x2,_,_,_⟩:=S1.out.2.2.1.facts;obtain ⟨bel,AW,SK,DK,N2⟩:=S1.out;have HC:=hid (of_any 1 u1 (by omega))
 clear bel AW SK DK N2
 go_wp2_with fail
 clear x0 x1 x2;refine HC.out.mono ?_;rintro r u2 ⟨v,rfl,hN,hb⟩;obtain ⟨a5,c5,rfl,_⟩:=hN.arg (by omega)
 clear HC;obtain ⟨bel,AW,SK,DK,N2⟩:=S1.out;have hbn:=bel.trans (hb.mono bel.size);have S2:=qsd (ai hbn (ai (AW.below hb) (ai (SK.below hb) (ai (DK.below hb) (ai (N2.below hb) (hN.mono bel.size))))));clear bel AW SK DK N2;clear hb hbn S1;clear hN;obtain ⟨bel,AW,SK,DK,N2,NO⟩:=S2.out;have HC:=hid (Add_arg (N2.arg' (by omega)).2 (NO.arg' (by omega)).2 E2.out)
 clear bel AW SK DK N2 NO
 go_wp2_with fail
 refine HC.out.mono ?_;rintro r u3 ⟨v,rfl,hN,hb⟩;obtain ⟨a6,c6,rfl,_⟩:=hN.arg (by omega)
 clear HC;obtain ⟨bel,AW,SK,DK,N2,NO⟩:=S2.out;have hbn:=bel.trans (hb.mono bel.size);have S3:=qsd (ai hbn (ai (AW.below hb) (ai (SK.below hb) (ai (DK.below hb) (ai (N2.below hb) (ai (NO.below hb) (hN.mono bel.size)))))));clear bel AW SK DK N2 NO;clear hb hbn S2;clear hN;obtain ⟨x0,x1,x2,_,_,_⟩:=S3.out.2.2.1.facts;obtain ⟨bel,AW,SK,DK,N2,NO,N3⟩:=S3.out;have HC:=hid (HM.out u3 _ _ bel (N3.arg' (by omega)).2)
 clear bel AW SK DK N2 NO N3
 go_wp2_with fail
 clear x0 x1 x2;refine HC.out.mono ?_;rintro r u4 ⟨⟨v,rfl,hN⟩,hb⟩;obtain ⟨a7,c7,rfl,_⟩:=hN.arg (by omega)
 clear HC;obtain ⟨bel,AW,SK,DK,N2,NO,N3⟩:=S3.out;have hbn:=bel.trans (hb.mono bel.size);have S4:=qsd (ai hbn (ai (AW.below hb) (ai (SK.below hb) (ai (DK.below hb) (ai (N2.below hb) (ai (NO.below hb) (ai (N3.below hb) (hN.mono bel.size))))))));clear bel AW SK DK N2 NO N3;clear hb hbn S3;clear hN;obtain ⟨bel,AW,SK,DK,N2,NO,N3,NV⟩:=S4.out;have hlast:=qsd (ai bel (ai NV DK));obtain ⟨s0,s1,s2,sf0,sf1,sf2⟩:=DK.facts;clear bel AW SK DK N2 NO N3 NV;clear S4 HM;go_wp2;obtain ⟨bel,NZ,DK⟩:=hlast.out;have hsz:=bel.size;exact bodyPost_ret (inside_res _ (w.heap.size+1) dn (.slice a7 (ws V).length c7) de er _ rfl rfl (DK.set _ _ _)) rfl ⟨⟨_,rfl,NZ.st3k DK (by decide) _ _ _⟩,below_st3 bel hsz (by omega) _ _ _⟩
theorem inside_any {w:World}{a:Option Addr}{ca:Nat}(n:Bool) (W:Nat) (x:Int) (t:Bool) (AW:Arg w a (ws W).length ca (ws W)) (hT:Tab w) (hx0:-10000000≤x) (hx1:x≤10000000) (hW:bl W≤1000) :
 Calls Tryz.prog 117 #[.bool n,.agg #[.slice a (ws W).length ca,.int .i64 x,.bool t]] w fun r w'=>DAns w.heap.size w' r (mkS n (2*W+(if t then 0 else 1)) (clampE x))∧Below w.heap.size w w':=by
 have hLW:¬ LG W:=fun k=>by have:=(LG_bl W).1 k;omega
 have e1:shiftS W 1=(2*W,0):=by
  have:=shiftS_up (X:=W) (k:=1) (V:=2*W) hLW (.inr (by omega)) (by omega)
  simpa using this
 have b2:∀ d,d≤1→bl (2*W+d)≤1001:=by
  intro d hd;have h1:=bl_lt W;have h2:2*W+d<2^(bl W+1):=by rw [Nat.pow_succ];omega
  by_cases h0:2*W+d=0
  · rw [h0,bl_zero];omega
  · have:=(Nat.pow_lt_pow_iff_right (a:=2) (by decide)).1 (Nat.lt_of_le_of_lt (bl_ge _ h0) h2)
    have:=bl_pos _ h0;omega
 have l8:∀ d,d≤1→(ws (2*W+d)).length≤8192∧¬ LG (2*W+d):=by
  intro d hd;have hb:=b2 d hd;have hn:¬ LG (2*W+d):=fun k=>by have:=(LG_bl (2*W+d)).1 k;omega
  exact ⟨by unfold LG at hn;omega,hn⟩
 have cl0:-4096≤clampE x∧clampE x≤4096:=by unfold clampE;omega
 unfold DAns;have hl:=mkS_len n (2*W+(if t then 0 else 1)) (clampE x)
 cases t with
 | true =>
   simp only [if_true,Nat.add_zero] at hl ⊢;refine inside_yes n W (2*W) 0 x _ _ _ _ _ _ AW hx0 hx1 e1 rfl rfl (l8 0 (by omega)).1 hl ?_
   intro u p q hu hA;have:=Make_any hA (hT.belows hu) n (clampE x) (by omega) (by omega)
   rw [val_ws] at this;exact this
 | false =>
   simp only [Bool.false_eq_true,if_false] at hl ⊢;refine inside_no n W (2*W) (2*W+1) x _ _ _ _ _ _ AW hx0 hx1 e1 (addS_ok (l8 1 (by omega)).2 rfl) rfl rfl (l8 0 (by omega)).1 (l8 1 (by omega)).1 hl ?_
   intro u p q hu hA;have:=Make_any hA (hT.belows hu) n (clampE x) (by omega) (by omega)
   rw [val_ws] at this;exact this
theorem quot_begin (w:World) (n:Bool) (v:Value) (e:Int) (m:Bool) (u:Value) (f:Int) (W:World) (hW:W=(w.alloc (.cells #[.bool n,v,.int .i64 e,.bool m,u,.int .i64 f] 110)).alloc (.cells #[.bool false,.slice none 0 0,.int .i64 0] 67)) :
 Below w.heap.size w W∧W.heap.size=w.heap.size+2∧Rq W w.heap.size n v e m u f∧Tk W (w.heap.size+1) 67 (.bool false) (.slice none 0 0) (.int .i64 0):=by
 rw [hW];refine ⟨(below_alloc w _).alloc (by simp) _,by simp,(Rq.new _ _ _ _ _ _ _).alloc _,?_⟩
 have:=Tk.new (w.alloc (.cells #[.bool n,v,.int .i64 e,.bool m,u,.int .i64 f] 110)) 67 (.bool false) (.slice none 0 0) (.int .i64 0);simpa using this
theorem quotient_res (W:World) (g:Nat) (n:Bool) (v:Value) (e k:Int) (tmps:Array Value) (ht:tmps[2]?.getD undef=.pointer (some ⟨g,0,none⟩)) (hk:tmps[3]?.getD undef=.int .i64 k) (D:Tk W g 67 (.bool n) v (.int .i64 e)) :
 (results Tryz.f85 tmps).run Tryz.prog W=.ok (.tuple #[.agg #[.bool n,v,.int .i64 e],.int .i64 k]) W:=by
 obtain ⟨x0,x1,x2,_,_,_⟩:=D.facts;simp [results,Tryz.results85,ht,hk,go_sem,x0,x1,x2]
theorem quotient_core {w:World}{a b:Option Addr}{la ca lb cb:Nat}(n m:Bool) (e f:Int) (WH:Nat) (x:Int) (tt:Bool) (dn:Bool) (V:Nat) (de er:Int) (lW:(ws WH).length≤8192) (lV:(ws V).length≤8192)
 (HD:Hid (∀ u,Below w.heap.size w u→Calls Tryz.prog 118 #[.agg #[.bool n,.slice a la ca,.int .i64 e,.bool m,.slice b lb cb,.int .i64 f],.int .i64 64] u fun r w'=>(∃ v,r=.returned (.agg #[v,.int .i64 x,.bool tt])∧Nt u.heap.size w' v WH)∧Below u.heap.size u w'))
 (HI:Hid (∀ (u:World) (p:Option Addr) (q:Nat),Below w.heap.size w u→Arg u p (ws WH).length q (ws WH)→Calls Tryz.prog 117 #[.bool n,.agg #[.slice p (ws WH).length q,.int .i64 x,.bool tt]] u fun r w'=>(∃ v,r=.returned (.tuple #[.agg #[.bool dn,v,.int .i64 de],.int .i64 er])∧Nt u.heap.size w' v V)∧Below u.heap.size u w')) :
 Calls Tryz.prog 85 #[.agg #[.bool n,.slice a la ca,.int .i64 e,.bool m,.slice b lb cb,.int .i64 f]] w fun r w'=>(∃ v,r=.returned (.tuple #[.agg #[.bool dn,v,.int .i64 de],.int .i64 er])∧Nt w.heap.size w' v V)∧Below w.heap.size w w':=by
 obtain ⟨W1,hW1⟩:∃ U,U=(w.alloc (.cells #[.bool n,.slice a la ca,.int .i64 e,.bool m,.slice b lb cb,.int .i64 f] 110)).alloc (.cells #[.bool false,.slice none 0 0,.int .i64 0] 67):=⟨_,rfl⟩;obtain ⟨hB,hz1,RQ,DK⟩:=quot_begin w n _ e m _ f W1 hW1;have T1:=hid (HD.out W1 hB);have T2:=hid (HD.out W1.drew hB.drew);obtain ⟨x0,x1,x2,x3,x4,x5⟩:=RQ.facts;obtain ⟨s0,s1,s2,sf0,sf1,sf2⟩:=DK.facts;have hs1:w.heap.size+2≤W1.heap.size:=by omega
 have SB:=(qsd (ai hB (ai RQ DK)));clear hB hz1 RQ DK HD;go_enter Tryz.func85,Tryz.ntmps85
 go_wp2_with fail
 rw [←hW1];clear hW1;have ne1:w.heap.size≠w.heap.size+1:=by omega
 have ne2:w.heap.size+1≠w.heap.size:=by omega
 go_region_held3 (fun w'=>w'.cell? ⟨w.heap.size,0,none⟩=some (.bool n)∧w'.cell? ⟨w.heap.size,1,none⟩=some (.slice a la ca)∧w'.cell? ⟨w.heap.size,2,none⟩=some (.int .i64 e)∧w'.cell? ⟨w.heap.size,3,none⟩=some (.bool m)∧w'.cell? ⟨w.heap.size,4,none⟩=some (.slice b lb cb)∧w'.cell? ⟨w.heap.size,5,none⟩=some (.int .i64 f)) (go_keep) (first
  | (go_at_call 118
     first | with_reducible refine T1.out.mono ?_ | with_reducible refine T2.out.mono ?_
     rintro r u1 ⟨⟨v,rfl,hN⟩,hb⟩;obtain ⟨a1,c1,rfl,_⟩:=hN.arg (by omega)
     have hb1:Below W1.heap.size W1 u1:=by first | exact hb | exact ((Below.refl _ W1).drew).trans (hb.mono (Nat.le_refl _))
     have BW:Below w.heap.size w u1:=SB.out.1.trans (hb1.mono (by omega))
     have HI1:=hid (HI.out u1 _ _ BW (hN.arg' (by omega)).2)
     obtain ⟨p0,p1,p2,pf0,pf1,pf2⟩:=(SB.out.2.2.below hb1).facts;obtain ⟨q0,q1,q2,q3,q4,q5⟩:=(SB.out.2.1.below hb1).facts;have S1:=(qsd (ai BW (ai (SB.out.2.1.below hb1) (SB.out.2.2.below hb1))));clear hb hb1 BW hN)
  | (go_at_call 117
     with_reducible refine HI1.out.mono ?_
     rintro r u2 ⟨⟨v,rfl,hN⟩,hb⟩;obtain ⟨a4,c4,rfl,_⟩:=hN.arg (by omega)
     have LD:=S1.out.2.2.below hb;obtain ⟨t0,t1,t2,tf0,tf1,tf2⟩:=LD.facts;obtain ⟨i0,i1,i2,i3,i4,i5⟩:=(S1.out.2.1.below hb).facts;have FV:=qsd (ai (S1.out.1.trans (hb.mono S1.out.1.size)) (ai (hN.mono S1.out.1.size) LD));clear hN hb LD))
 all_goals (
  go_wp2;obtain ⟨bel,NZ,DK⟩:=FV.out;have hsz:=bel.size
  first
  | exact bodyPost_ret (quotient_res _ (w.heap.size+1) dn (.slice a4 (ws V).length c4) de er _ rfl rfl (DK.set _ _ _)) rfl ⟨⟨_,rfl,NZ.st3k DK (by decide) _ _ _⟩,below_st3 bel hsz (by omega) _ _ _⟩
  | exact bodyPost_ret (quotient_res _ (w.heap.size+1) dn (.slice a4 (ws V).length c4) de er _ rfl rfl (DK.set _ _ _)) rfl ⟨⟨_,rfl,NZ.st3k DK (by decide) _ _ _⟩,(below_st3 bel hsz (by omega) _ _ _).drew⟩)
theorem quotient_any {w:World}{a b:Option Addr}{ca cb:Nat}(n m:Bool) (X Y:Nat) (e f:Int)
 (AX:Arg w a (ws X).length ca (ws X)) (AY:Arg w b (ws Y).length cb (ws Y)) (hT:Tab w) (hX:X=0∨X%2=1) (hY:Y≠0)
 (he0:-1048576≤e) (he1:e≤1048576) (hf0:-1048576≤f) (hf1:f≤1048576) (bX:bl X≤262144) (bY:bl Y≤262144) :
 Calls Tryz.prog 85 #[.agg #[.bool n,.slice a (ws X).length ca,.int .i64 e,.bool m,.slice b (ws Y).length cb,.int .i64 f]] w fun r w' =>
  DAns w.heap.size w' r (mkS n (2*whoS X Y 64+(if atS X Y 64 then 0 else 1)) (clampE (e-f-byS X Y 64-cutS Y 64)))∧Below w.heap.size w w':=by
 have D:=divS_facts X Y 64 hX hY (by omega) (by omega) bX bY
 have bW:bl (whoS X Y 64)≤65:=bl_lt_pow D.most;have hc:cutS Y 64≤64:=by unfold cutS;omega
 have hb:-262144≤byS X Y 64∧byS X Y 64≤264000:=by have:=D.blh;unfold byS;omega
 unfold DAns;refine quotient_core n m e f (whoS X Y 64) (e-f-byS X Y 64-cutS Y 64) (atS X Y 64) _ _ _ _ (len_bl8 (by omega)) (mkS_len _ _ _) ?_ ?_
 · intro u hu
   exact divided11 n m X Y e f 64 (AX.below hu) (AY.below hu) hX hY he0 he1 hf0 hf1 (by omega) (by omega) bX bY
 · intro u p q hu hA
   exact inside_any n (whoS X Y 64) _ (atS X Y 64) hA (hT.belows hu) (by omega) (by omega) (by omega)
theorem form_res (W:World) (g:Nat) (n:Bool) (v:Value) (e:Int) (m:Bool) (u:Value) (f k:Int) (tmps:Array Value) (ht:tmps[2]?.getD undef=.pointer (some ⟨g,0,none⟩)) (hk:tmps[3]?.getD undef=.int .i64 k) (D:Rq W g n v e m u f) :
 (results Tryz.f138 tmps).run Tryz.prog W=.ok (.tuple #[.agg #[.bool n,v,.int .i64 e,.bool m,u,.int .i64 f],.int .i64 k]) W:=by
 obtain ⟨x0,x1,x2,x3,x4,x5⟩:=D.facts;simp [results,Tryz.results138,ht,hk,go_sem,x0,x1,x2,x3,x4,x5]
theorem form_begin (w:World) (n:Bool) (v:Value) (e:Int) (m:Bool) (u:Value) (f:Int) (W:World) (hW:W=(w.alloc (.cells #[.bool n,v,.int .i64 e,.bool m,u,.int .i64 f] 110)).alloc (.cells #[.bool false,.slice none 0 0,.int .i64 0,.bool false,.slice none 0 0,.int .i64 0] 110)) :
 Below w.heap.size w W∧W.heap.size=w.heap.size+2∧Rq W w.heap.size n v e m u f∧Rq W (w.heap.size+1) false (.slice none 0 0) 0 false (.slice none 0 0) 0:=by
 rw [hW];refine ⟨(below_alloc w _).alloc (by simp) _,by simp,(Rq.new _ _ _ _ _ _ _).alloc _,?_⟩
 have:=Rq.new (w.alloc (.cells #[.bool n,v,.int .i64 e,.bool m,u,.int .i64 f] 110)) false (.slice none 0 0) 0 false (.slice none 0 0) 0;simpa using this
theorem form_ok {w:World}{a b:Option Addr}{la ca lb cb:Nat}(n m:Bool) (e f:Int) (n1 m1:Bool) (X Y:Nat) (e1 f1:Int) (lX:(ws X).length≤8192) (lY:(ws Y).length≤8192)
 (H1:Hid (∀ u,Below w.heap.size w u→Calls Tryz.prog 63 #[.bool n,.slice a la ca,.int .i64 e] u fun r w'=>(∃ v,r=.returned (.tuple #[.agg #[.bool n1,v,.int .i64 e1],.int .i64 0])∧Nt u.heap.size w' v X)∧Below u.heap.size u w'))
 (H2:Hid (∀ u,Below w.heap.size w u→Calls Tryz.prog 63 #[.bool m,.slice b lb cb,.int .i64 f] u fun r w'=>(∃ v,r=.returned (.tuple #[.agg #[.bool m1,v,.int .i64 f1],.int .i64 0])∧Nt u.heap.size w' v Y)∧Below u.heap.size u w')) :
 Calls Tryz.prog 138 #[.agg #[.bool n,.slice a la ca,.int .i64 e,.bool m,.slice b lb cb,.int .i64 f]] w fun r w'=>(∃ v u,r=.returned (.tuple #[.agg #[.bool n1,v,.int .i64 e1,.bool m1,u,.int .i64 f1],.int .i64 0])∧Nt w.heap.size w' v X∧Nt w.heap.size w' u Y∧Ap v u)∧Below w.heap.size w w':=by
 obtain ⟨W1,hW1⟩:∃ U,U=(w.alloc (.cells #[.bool n,.slice a la ca,.int .i64 e,.bool m,.slice b lb cb,.int .i64 f] 110)).alloc (.cells #[.bool false,.slice none 0 0,.int .i64 0,.bool false,.slice none 0 0,.int .i64 0] 110):=⟨_,rfl⟩;obtain ⟨hB,hz1,RQ,RR⟩:=form_begin w n _ e m _ f W1 hW1;have hs2:w.heap.size+2≤W1.heap.size:=by omega
 have hbel:=hB;have S0:=(qsd (ai hbel (ai RQ RR)));clear hbel;clear hB RQ RR hz1;go_enter Tryz.func138,Tryz.ntmps138;obtain ⟨x0,x1,x2,x3,x4,x5⟩:=S0.out.2.1.facts;obtain ⟨bel,RQ,RR⟩:=S0.out;have HC:=hid (H1.out W1 bel);clear bel RQ RR
 go_upto_region 1 with fail
 rw [←hW1];clear hW1
 go_wp2_with fail
 clear x0 x1 x2 x3 x4 x5;refine HC.out.mono ?_;rintro r u1 ⟨⟨v,rfl,hN⟩,hb⟩;obtain ⟨a1,c1,rfl,_⟩:=hN.arg (by omega)
 clear HC;obtain ⟨bel,RQ,RR⟩:=S0.out;have hbn:=bel.trans (hb.mono bel.size);have S1:=qsd (ai hbn (ai (RQ.below hb) (ai (RR.below hb) (hN.mono bel.size))));clear bel RQ RR;clear hb hbn S0;clear hN;obtain ⟨U1,hU1⟩:∃ U,U=u1.alloc (.cells #[.bool n1,.slice a1 (ws X).length c1,.int .i64 e1] 67):=⟨_,rfl⟩;obtain ⟨bel,RQ,RR,NX⟩:=S1.out;have hbA:Below u1.heap.size u1 U1:=by rw [hU1];exact below_alloc _ _
 have TN:Tk U1 u1.heap.size 67 (.bool n1) (.slice a1 (ws X).length c1) (.int .i64 e1):=by rw [hU1];exact Tk.new _ _ _ _ _
 have hbn:=bel.trans (hbA.mono bel.size);have hgu:w.heap.size+2≤u1.heap.size:=by have:=RR.lt;omega
 have S2:=qsd (ai hbn (ai (RQ.below hbA) (ai (RR.below hbA) (ai (NX.below hbA) TN))));obtain ⟨x0,x1,x2,x3,x4,x5⟩:=(RQ.below hbA).facts;clear bel RQ RR NX;clear hbA hbn TN S1 H1;obtain ⟨bel,RQ,RR,NX,TN⟩:=S2.out;have HC:=hid (H2.out U1 bel);clear bel RQ RR NX TN
 go_upto_region 4 with fail
 rw [←hU1];clear hU1
 go_wp2_with fail
 clear x0 x1 x2 x3 x4 x5;refine HC.out.mono ?_;rintro r u3 ⟨⟨v,rfl,hN⟩,hb⟩;obtain ⟨a2,c2,rfl,_⟩:=hN.arg (by omega)
 clear HC;obtain ⟨bel,RQ,RR,NX,TN⟩:=S2.out;have hbn:=bel.trans (hb.mono bel.size);have S3:=qsd (ai hbn (ai (RQ.below hb) (ai (RR.below hb) (ai (NX.below hb) (ai (TN.below hb) (ai (hN.mono bel.size) (NX.ap hN)))))));clear bel RQ RR NX TN;clear hb hbn S2;clear hN;obtain ⟨U3,hU3⟩:∃ U,U=u3.alloc (.cells #[.bool m1,.slice a2 (ws Y).length c2,.int .i64 f1] 67):=⟨_,rfl⟩;obtain ⟨bel,RQ,RR,NX,TN,NY,AP⟩:=S3.out;have hbA:Below u3.heap.size u3 U3:=by rw [hU3];exact below_alloc _ _
 have TD:Tk U3 u3.heap.size 67 (.bool m1) (.slice a2 (ws Y).length c2) (.int .i64 f1):=by rw [hU3];exact Tk.new _ _ _ _ _
 have hbn:=bel.trans (hbA.mono bel.size);have SZ:=qsd (ai hbn (ai (RR.below hbA) (ai (NX.below hbA) (ai (NY.below hbA) AP))));obtain ⟨x0,x1,x2,_,_,_⟩:=(TN.below hbA).facts;obtain ⟨y0,y1,y2,_,_,_⟩:=TD.facts;obtain ⟨r0,r1,r2,r3,r4,r5⟩:=(RR.below hbA).facts;obtain ⟨rf0,rf1,rf2,rf3,rf4,rf5⟩:=(RR.below hbA).frz;clear bel RQ RR NX TN NY AP;clear hbA hbn TD S3 H2
 go_upto_region 5 with fail
 rw [←hU3];clear hU3;go_wp2;obtain ⟨bel,RR,NX,NY,AP⟩:=SZ.out;have hbl:=bel.size;refine bodyPost_ret (form_res _ (w.heap.size+1) n1 (.slice a1 (ws X).length c1) e1 m1 (.slice a2 (ws Y).length c2) f1 0 _ rfl rfl (RR.set _ _ _ _ _ _)) rfl ⟨⟨_,_,rfl,NX.st6k RR _ _ _ _ _ _,NY.st6k RR _ _ _ _ _ _,AP⟩,below_st6 bel hbl (by omega) _ _ _ _ _ _⟩
theorem form_bad1 {w:World}{a b:Option Addr}{la ca lb cb:Nat}(n m:Bool) (e f:Int) (n1 m1:Bool) (X Y:Nat) (e1 f1:Int) (lX:(ws X).length≤8192) (lY:(ws Y).length≤8192)
 (H1:Hid (∀ u,Below w.heap.size w u→Calls Tryz.prog 63 #[.bool n,.slice a la ca,.int .i64 e] u fun r w'=>(∃ v,r=.returned (.tuple #[.agg #[.bool n1,v,.int .i64 e1],.int .i64 2])∧Nt u.heap.size w' v X)∧Below u.heap.size u w'))
  :
 Calls Tryz.prog 138 #[.agg #[.bool n,.slice a la ca,.int .i64 e,.bool m,.slice b lb cb,.int .i64 f]] w fun r w'=>(∃ v u,r=.returned (.tuple #[.agg #[.bool false,v,.int .i64 0,.bool false,u,.int .i64 0],.int .i64 2])∧v=.slice none 0 0∧u=.slice none 0 0)∧Below w.heap.size w w':=by
 obtain ⟨W1,hW1⟩:∃ U,U=(w.alloc (.cells #[.bool n,.slice a la ca,.int .i64 e,.bool m,.slice b lb cb,.int .i64 f] 110)).alloc (.cells #[.bool false,.slice none 0 0,.int .i64 0,.bool false,.slice none 0 0,.int .i64 0] 110):=⟨_,rfl⟩;obtain ⟨hB,hz1,RQ,RR⟩:=form_begin w n _ e m _ f W1 hW1;have hs2:w.heap.size+2≤W1.heap.size:=by omega
 have hbel:=hB;have S0:=(qsd (ai hbel (ai RQ RR)));clear hbel;clear hB RQ RR hz1;go_enter Tryz.func138,Tryz.ntmps138;obtain ⟨x0,x1,x2,x3,x4,x5⟩:=S0.out.2.1.facts;obtain ⟨bel,RQ,RR⟩:=S0.out;have HC:=hid (H1.out W1 bel);clear bel RQ RR
 go_upto_region 1 with fail
 rw [←hW1];clear hW1
 go_wp2_with fail
 clear x0 x1 x2 x3 x4 x5;refine HC.out.mono ?_;rintro r u1 ⟨⟨v,rfl,hN⟩,hb⟩;obtain ⟨a1,c1,rfl,_⟩:=hN.arg (by omega)
 clear HC;obtain ⟨bel,RQ,RR⟩:=S0.out;have hbn:=bel.trans (hb.mono bel.size);have S1:=qsd (ai hbn (ai (RQ.below hb) (RR.below hb)));clear bel RQ RR;clear hb hbn S0;clear hN;obtain ⟨U1,hU1⟩:∃ U,U=u1.alloc (.cells #[.bool n1,.slice a1 (ws X).length c1,.int .i64 e1] 67):=⟨_,rfl⟩;obtain ⟨bel,RQ,RR⟩:=S1.out;have hbA:Below u1.heap.size u1 U1:=by rw [hU1];exact below_alloc _ _
 have hlast:=qsd (ai (bel.trans (hbA.mono bel.size)) (RR.below hbA));obtain ⟨r0,r1,r2,r3,r4,r5⟩:=(RR.below hbA).facts;obtain ⟨rf0,rf1,rf2,rf3,rf4,rf5⟩:=(RR.below hbA).frz;clear bel RQ RR;clear S1 H1 hbA
 go_upto_region 2 with fail
 rw [←hU1];clear hU1;go_wp2;obtain ⟨bel,RR⟩:=hlast.out;exact bodyPost_ret (form_res _ (w.heap.size+1) false (.slice none 0 0) 0 false (.slice none 0 0) 0 2 _ rfl rfl (RR.set _ _ _ _ _ _)) rfl ⟨⟨_,_,rfl,rfl,rfl⟩,below_st6 bel bel.size (by omega) _ _ _ _ _ _⟩
theorem form_bad2 {w:World}{a b:Option Addr}{la ca lb cb:Nat}(n m:Bool) (e f:Int) (n1 m1:Bool) (X Y:Nat) (e1 f1:Int) (lX:(ws X).length≤8192) (lY:(ws Y).length≤8192)
 (H1:Hid (∀ u,Below w.heap.size w u→Calls Tryz.prog 63 #[.bool n,.slice a la ca,.int .i64 e] u fun r w'=>(∃ v,r=.returned (.tuple #[.agg #[.bool n1,v,.int .i64 e1],.int .i64 0])∧Nt u.heap.size w' v X)∧Below u.heap.size u w'))
 (H2:Hid (∀ u,Below w.heap.size w u→Calls Tryz.prog 63 #[.bool m,.slice b lb cb,.int .i64 f] u fun r w'=>(∃ v,r=.returned (.tuple #[.agg #[.bool m1,v,.int .i64 f1],.int .i64 2])∧Nt u.heap.size w' v Y)∧Below u.heap.size u w')) :
 Calls Tryz.prog 138 #[.agg #[.bool n,.slice a la ca,.int .i64 e,.bool m,.slice b lb cb,.int .i64 f]] w fun r w'=>(∃ v u,r=.returned (.tuple #[.agg #[.bool false,v,.int .i64 0,.bool false,u,.int .i64 0],.int .i64 2])∧v=.slice none 0 0∧u=.slice none 0 0)∧Below w.heap.size w w':=by
 obtain ⟨W1,hW1⟩:∃ U,U=(w.alloc (.cells #[.bool n,.slice a la ca,.int .i64 e,.bool m,.slice b lb cb,.int .i64 f] 110)).alloc (.cells #[.bool false,.slice none 0 0,.int .i64 0,.bool false,.slice none 0 0,.int .i64 0] 110):=⟨_,rfl⟩;obtain ⟨hB,hz1,RQ,RR⟩:=form_begin w n _ e m _ f W1 hW1;have hs2:w.heap.size+2≤W1.heap.size:=by omega
 have hbel:=hB;have S0:=(qsd (ai hbel (ai RQ RR)));clear hbel;clear hB RQ RR hz1;go_enter Tryz.func138,Tryz.ntmps138;obtain ⟨x0,x1,x2,x3,x4,x5⟩:=S0.out.2.1.facts;obtain ⟨bel,RQ,RR⟩:=S0.out;have HC:=hid (H1.out W1 bel);clear bel RQ RR
 go_upto_region 1 with fail
 rw [←hW1];clear hW1
 go_wp2_with fail
 clear x0 x1 x2 x3 x4 x5;refine HC.out.mono ?_;rintro r u1 ⟨⟨v,rfl,hN⟩,hb⟩;obtain ⟨a1,c1,rfl,_⟩:=hN.arg (by omega)
 clear HC;obtain ⟨bel,RQ,RR⟩:=S0.out;have hbn:=bel.trans (hb.mono bel.size);have S1:=qsd (ai hbn (ai (RQ.below hb) (ai (RR.below hb) (hN.mono bel.size))));clear bel RQ RR;clear hb hbn S0;clear hN;obtain ⟨U1,hU1⟩:∃ U,U=u1.alloc (.cells #[.bool n1,.slice a1 (ws X).length c1,.int .i64 e1] 67):=⟨_,rfl⟩;obtain ⟨bel,RQ,RR,NX⟩:=S1.out;have hbA:Below u1.heap.size u1 U1:=by rw [hU1];exact below_alloc _ _
 have TN:Tk U1 u1.heap.size 67 (.bool n1) (.slice a1 (ws X).length c1) (.int .i64 e1):=by rw [hU1];exact Tk.new _ _ _ _ _
 have hbn:=bel.trans (hbA.mono bel.size);have hgu:w.heap.size+2≤u1.heap.size:=by have:=RR.lt;omega
 have S2:=qsd (ai hbn (ai (RQ.below hbA) (ai (RR.below hbA) (ai (NX.below hbA) TN))));obtain ⟨x0,x1,x2,x3,x4,x5⟩:=(RQ.below hbA).facts;clear bel RQ RR NX;clear hbA hbn TN S1 H1;obtain ⟨bel,RQ,RR,NX,TN⟩:=S2.out;have HC:=hid (H2.out U1 bel);clear bel RQ RR NX TN
 go_upto_region 4 with fail
 rw [←hU1];clear hU1
 go_wp2_with fail
 clear x0 x1 x2 x3 x4 x5;refine HC.out.mono ?_;rintro r u3 ⟨⟨v,rfl,hN⟩,hb⟩;obtain ⟨a2,c2,rfl,_⟩:=hN.arg (by omega)
 clear HC;obtain ⟨bel,RQ,RR,NX,TN⟩:=S2.out;have hbn:=bel.trans (hb.mono bel.size);have S3:=qsd (ai hbn (ai (RQ.below hb) (ai (RR.below hb) (ai (NX.below hb) (TN.below hb)))));clear bel RQ RR NX TN;clear hb hbn S2;clear hN;obtain ⟨U3,hU3⟩:∃ U,U=u3.alloc (.cells #[.bool m1,.slice a2 (ws Y).length c2,.int .i64 f1] 67):=⟨_,rfl⟩;obtain ⟨bel,RQ,RR,NX,TN⟩:=S3.out;have hbA:Below u3.heap.size u3 U3:=by rw [hU3];exact below_alloc _ _
 have hlast:=qsd (ai (bel.trans (hbA.mono bel.size)) (RR.below hbA));obtain ⟨r0,r1,r2,r3,r4,r5⟩:=(RR.below hbA).facts;obtain ⟨rf0,rf1,rf2,rf3,rf4,rf5⟩:=(RR.below hbA).frz;clear bel RQ RR NX TN;clear S3 H2 hbA
 go_upto_region 5 with fail
 rw [←hU3];clear hU3;go_wp2;obtain ⟨bel,RR⟩:=hlast.out;exact bodyPost_ret (form_res _ (w.heap.size+1) false (.slice none 0 0) 0 false (.slice none 0 0) 0 2 _ rfl rfl (RR.set _ _ _ _ _ _)) rfl ⟨⟨_,_,rfl,rfl,rfl⟩,below_st6 bel bel.size (by omega) _ _ _ _ _ _⟩
end
end Go.Proofs.YthejkolknalpaaaGreatDoor
