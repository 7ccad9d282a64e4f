import Derived.Test.YtjldfhecnaiinaaGreatDoorZ40x
import Derived.Deep.CutRange
import Derived.Deep.RegionWith
import Derived.Deep.RegionHeld3
import Derived.Test.YtjldfhecnaiinaaGreatDoorZ9x
import Derived.Test.YtjldfhecnaiinaaGreatDoorD20x
import Derived.BigQuiet
import Derived.Test.YtjldfhecnaiinaaGreatDoorF7x
import Derived.Test.YtjldfhecnaiinaaGreatDoorP2x
set_option linter.unusedVariables false
set_option linter.unusedSimpArgs false
set_option maxHeartbeats 16000000
set_option maxRecDepth 20000
namespace Go.Proofs.YtjldfhecnaiinaaGreatDoor
namespace J
end J
section
open Go.RowKit J
attribute [local go_sem] st_float
def nz7 (j:Nat):Bool:=((j:Int)==1) || ((j:Int)==2)
def en7 (j:Nat):Bool:=((j:Int)==3) || ((j:Int)==4)
def na7 (x y:Nat):Bool:=((kd x:Int)==5) || ((kd y:Int)==5) || ((nz7 (kd x) || nz7 (kd y))&&(en7 (kd x) || en7 (kd y)))
theorem prod7 {x y:Nat}(hx:x<18446744073709551616) (hy:y<18446744073709551616) :
 (na7 x y=true→pK x y=1∧pT x y=0)∧(na7 x y=false→(en7 (kd x) || en7 (kd y))=true→(magW x≤9218868437227405312∧magW y≤9218868437227405312)∧pK x y=(if (negW x != negW y) then 3 else 2)∧pT x y=0) ∧
 (na7 x y=false→(en7 (kd x) || en7 (kd y))=false→(nz7 (kd x) || nz7 (kd y))=true→(magW x≤9218868437227405312∧magW y≤9218868437227405312)∧pK x y=(if (negW x != negW y) then 4 else 5)∧pT x y=0) ∧
 (na7 x y=false→(en7 (kd x) || en7 (kd y))=false→(nz7 (kd x) || nz7 (kd y))=false→finW x∧finW y∧pK x y=0):=by
 have hng:∀ a b:Bool,(!a==b)=(a != b):=by decide
 have inf:∀ z:Nat,clW z=3→magW z≤9218868437227405312:=fun z h=>by
  rcases Nat.lt_or_ge 9218868437227405312 (magW z) with q|q
  · rw [cl_nan q] at h;omega
  · exact q
 have tz:pK x y≠0→pT x y=0:=fun h=>by unfold pT;unfold pK at h;exact pv7_no h
 unfold na7
 rcases cls_kd hx with ⟨k,c⟩|⟨k,c,n⟩|⟨k,c,n,f,v⟩|⟨k,c,n,f⟩
 · have e:pK x y=1:=by
    unfold pK pk;rw [c,if_pos (.inl (by have:=cl_range y;omega))]
   rw [k];refine ⟨fun _=>⟨e,tz (by omega)⟩,(fun h=>by simp at h),(fun h=>by simp at h),(fun h=>by simp at h)⟩
 · rcases cls_kd hy with ⟨k',c'⟩ | ⟨k',c',n'⟩ | ⟨k',c',n',f',v'⟩ | ⟨k',c',n',f'⟩
   · have e:pK x y=1:=by unfold pK pk;rw [c,c',if_pos (.inl (by omega))]
     rw [k'];refine ⟨fun _=>⟨e,tz (by omega)⟩,(fun h=>by simp at h),(fun h=>by simp at h),(fun h=>by simp at h)⟩
   · have e:pK x y=(if (negW x != negW y) then 3 else 2):=by unfold pK pk;rw [c,c',n,n',hng,if_neg (by omega),if_pos (by omega)]
     have e0:pK x y≠0:=by rw [e];split <;> omega
     refine ⟨fun h=>?_,fun _ _=>⟨⟨inf x c,inf y c'⟩,e,tz e0⟩,fun _ h=>?_,fun _ h=>?_⟩
     · exfalso;rcases k with k | k <;> rcases k' with k' | k' <;> rw [k,k'] at h <;> simp [nz7,en7] at h
     · exfalso;rcases k with k | k <;> rw [k] at h <;> simp [en7] at h
     · exfalso;rcases k with k | k <;> rw [k] at h <;> simp [en7] at h
   · have e:pK x y=1:=by unfold pK pk;rw [c,c',if_pos (.inr (by omega))]
     refine ⟨fun _=>⟨e,tz (by omega)⟩,fun h=>?_,fun h=>?_,fun h=>?_⟩
     all_goals exfalso;rcases k with k | k <;> rcases k' with k' | k' <;> rw [k,k'] at h <;> simp [nz7,en7] at h
   · have e:pK x y=(if (negW x != negW y) then 3 else 2):=by unfold pK pk;rw [c,n,n',hng,if_neg (by omega),if_pos (by omega)]
     have e0:pK x y≠0:=by rw [e];split <;> omega
     have hyf:magW y≤9218868437227405312:=Nat.le_of_lt f';refine ⟨fun h=>?_,fun _ _=>⟨⟨inf x c,hyf⟩,e,tz e0⟩,fun _ h=>?_,fun _ h=>?_⟩
     · exfalso;rcases k with k | k <;> rw [k,k'] at h <;> simp [nz7,en7] at h
     · exfalso;rcases k with k | k <;> rw [k] at h <;> simp [en7] at h
     · exfalso;rcases k with k | k <;> rw [k] at h <;> simp [en7] at h
 · have hxf:magW x≤9218868437227405312:=Nat.le_of_lt f
   rcases cls_kd hy with ⟨k',c'⟩|⟨k',c',n'⟩|⟨k',c',n',f',v'⟩|⟨k',c',n',f'⟩
   · have e:pK x y=1:=by unfold pK pk;rw [c,c',if_pos (.inl (by omega))]
     rw [k'];refine ⟨fun _=>⟨e,tz (by omega)⟩,(fun h=>by simp at h),(fun h=>by simp at h),(fun h=>by simp at h)⟩
   · have e:pK x y=1:=by unfold pK pk;rw [c,c',if_pos (.inr (by omega))]
     refine ⟨fun _=>⟨e,tz (by omega)⟩,fun h=>?_,fun h=>?_,fun h=>?_⟩
     all_goals exfalso;rcases k with k | k <;> rcases k' with k' | k' <;> rw [k,k'] at h <;> simp [nz7,en7] at h
   · have e:pK x y=(if (negW x != negW y) then 4 else 5):=by unfold pK pk;rw [c,c',n,n',hng,if_neg (by omega),if_neg (by omega),if_pos (by omega)]
     have e0:pK x y≠0:=by rw [e];split <;> omega
     have hyf:magW y≤9218868437227405312:=Nat.le_of_lt f';refine ⟨fun h=>?_,fun _ h=>?_,fun _ _ _=>⟨⟨hxf,hyf⟩,e,tz e0⟩,fun _ _ h=>?_⟩
     · exfalso;rcases k with k | k <;> rcases k' with k' | k' <;> rw [k,k'] at h <;> simp [nz7,en7] at h
     · exfalso;rcases k with k | k <;> rcases k' with k' | k' <;> rw [k,k'] at h <;> simp [en7] at h
     · exfalso;rcases k with k | k <;> rw [k] at h <;> simp [nz7] at h
   · have e:pK x y=(if (negW x != negW y) then 4 else 5):=by unfold pK pk;rw [c,n,n',hng,if_neg (by omega),if_neg (by omega),if_pos (by omega)]
     have e0:pK x y≠0:=by rw [e];split <;> omega
     have hyf:magW y≤9218868437227405312:=Nat.le_of_lt f';refine ⟨fun h=>?_,fun _ h=>?_,fun _ _ _=>⟨⟨hxf,hyf⟩,e,tz e0⟩,fun _ _ h=>?_⟩
     · exfalso;rcases k with k | k <;> rw [k,k'] at h <;> simp [nz7,en7] at h
     · exfalso;rcases k with k | k <;> rw [k,k'] at h <;> simp [en7] at h
     · exfalso;rcases k with k | k <;> rw [k] at h <;> simp [nz7] at h
 · have hxf:magW x≤9218868437227405312:=Nat.le_of_lt f
   rcases cls_kd hy with ⟨k',c'⟩|⟨k',c',n'⟩|⟨k',c',n',f',v'⟩|⟨k',c',n',f'⟩
   · have e:pK x y=1:=by unfold pK pk;rw [c',if_pos (.inl (by omega))]
     rw [k'];refine ⟨fun _=>⟨e,tz (by omega)⟩,(fun h=>by simp at h),(fun h=>by simp at h),(fun h=>by simp at h)⟩
   · have e:pK x y=(if (negW x != negW y) then 3 else 2):=by unfold pK pk;rw [c',n,n',hng,if_neg (by omega),if_pos (by omega)]
     have e0:pK x y≠0:=by rw [e];split <;> omega
     refine ⟨fun h=>?_,fun _ _=>⟨⟨hxf,inf y c'⟩,e,tz e0⟩,fun _ h=>?_,fun _ h=>?_⟩
     · exfalso;rcases k' with k' | k' <;> rw [k,k'] at h <;> simp [nz7,en7] at h
     · exfalso;rcases k' with k' | k' <;> rw [k'] at h <;> simp [en7] at h
     · exfalso;rcases k' with k' | k' <;> rw [k'] at h <;> simp [en7] at h
   · have e:pK x y=(if (negW x != negW y) then 4 else 5):=by unfold pK pk;rw [c',n,n',hng,if_neg (by omega),if_neg (by omega),if_pos (by omega)]
     have e0:pK x y≠0:=by rw [e];split <;> omega
     have hyf:magW y≤9218868437227405312:=Nat.le_of_lt f';refine ⟨fun h=>?_,fun _ h=>?_,fun _ _ _=>⟨⟨hxf,hyf⟩,e,tz e0⟩,fun _ _ h=>?_⟩
     · exfalso;rcases k' with k' | k' <;> rw [k,k'] at h <;> simp [nz7,en7] at h
     · exfalso;rcases k' with k' | k' <;> rw [k,k'] at h <;> simp [en7] at h
     · exfalso;rcases k' with k' | k' <;> rw [k'] at h <;> simp [nz7] at h
   · have e:pK x y=0:=by unfold pK pk;rw [if_neg (by omega),if_neg (by omega),if_neg (by omega)]
     refine ⟨fun h=>?_,fun _ h=>?_,fun _ _ h=>?_,fun _ _ _=>⟨f,f',e⟩⟩
     all_goals exfalso;rw [k,k'] at h;simp [nz7,en7] at h
end
section
open Go.RowKit J
attribute [local go_sem] st_float
def Lt (w:World) (g:Nat) (k:Nat) (o:Option (Bool×Nat×Int)):Prop:=∃ a c,Bl w g 95 [.int .i64 (k:Nat),.bool (dN o),.slice a (ws (dX o)).length c,.int .i64 (dE o)]∧Nt 0 w (.slice a (ws (dX o)).length c) (dX o)
theorem Lt.below {w w':World}{g k:Nat}{o:Option (Bool×Nat×Int)}(h:Lt w g k o) (hb:Below w.heap.size w w'):Lt w' g k o:=by
 obtain ⟨a,c,h1,h2⟩:=h;exact ⟨a,c,h1.below hb h1.lt,h2.below hb⟩
theorem Lt.new {w:World}{k:Nat}{o:Option (Bool×Nat×Int)}{a:Option Addr}{c:Nat}(hN:Nt 0 w (.slice a (ws (dX o)).length c) (dX o)):Lt (w.alloc (Obj.cells #[.int .i64 (k:Nat),.bool (dN o),.slice a (ws (dX o)).length c,.int .i64 (dE o)] 95)) w.heap.size k o :=
 ⟨a,c,Bl.new w 95 [_,_,_,_],hN.below (below_alloc _ _)⟩
end
section
open Go.RowKit J
attribute [local go_sem] st_float
def laC (o:Option (Bool×Nat×Int)) (a:Option Addr) (c:Nat) (s:Sp):List Value:=[.bool (dN o),.slice a (ws (dX o)).length c,.int .i64 (dE o),.int .i64 s.n,.int .i64 s.u,.int .i64 s.d,.int .i64 s.m,.int .i64 s.p,.int .i64 s.a]
def La (w:World) (g:Nat) (o:Option (Bool×Nat×Int)) (s:Sp):Prop:=∃ a c,Bl w g 63 (laC o a c s)∧Nt 0 w (.slice a (ws (dX o)).length c) (dX o)
theorem La.below {w w':World}{g:Nat}{o:Option (Bool×Nat×Int)}{s:Sp}(h:La w g o s) (hb:Below w.heap.size w w'):La w' g o s:=by
 obtain ⟨a,c,h1,h2⟩:=h;exact ⟨a,c,h1.below hb h1.lt,h2.below hb⟩
theorem La.lt {w:World}{g:Nat}{o:Option (Bool×Nat×Int)}{s:Sp}(h:La w g o s):g<w.heap.size:=by
 obtain ⟨a,c,h1,h2⟩:=h;exact h1.lt
theorem Nt.offA {lo g T:Nat}{w w':World}{v:Value}{X:Nat}{C:List Value}(h:Nt lo w v X) (hB:Bl w g T C) (hT:T≠122) (hb:But g w w'):Nt lo w' v X:=by
 refine h.off hb ?_
 rcases h.2 with ⟨rfl,_⟩|⟨g',cap,cur,rfl,_,hg,_⟩
 · simp [Value.ownBlock]
 · intro e'
   obtain rfl:g'=g:=by simpa [Value.ownBlock] using e'
   rw [show w.heap[g']?=_ from hB] at hg
   simp at hg;exact hT hg.2
theorem ex_great {V:Int}(j:Nat) (hj:j=4238) (hV:V.natAbs<2^j):decide ((2090:Int)<(bl (dX (exV V)):Int)+dE (exV V))=false∧bl (dX (exV V))≤262144∧-2000000≤dE (exV V)∧dE (exV V)≤2000000:=by
 obtain ⟨n,X,e,ho,F,hx⟩:=ex_iv V j (by omega) hV
 rw [ho];have h1:=F.size;have h2:=F.down;have h3:=F.up
 show decide ((2090:Int)<(bl X:Int)+e)=false∧bl X≤262144∧-2000000≤e∧e≤2000000
 refine ⟨decide_eq_false ?_,h1,by omega,by omega⟩
 rcases hx with h|⟨h4,h5⟩
 · rcases F.odd with q | ⟨_,q,_⟩
   · omega
   · have hb:bl 0=0:=by decide
     rcases F.odd with r|⟨r1,r2,r3⟩
     · omega
     · subst h
       rw [hb];omega
 · omega
end
section
open Go.RowKit J
attribute [local go_sem] st_float
theorem Bl.facts9 {w:World}{g T:Nat}{a b c d e f h i j:Value}(H:Bl w g T [a,b,c,d,e,f,h,i,j]):(w.cell? ⟨g,0,none⟩=some a∧w.cell? ⟨g,1,none⟩=some b∧w.cell? ⟨g,2,none⟩=some c)∧(w.cell? ⟨g,3,none⟩=some d∧w.cell? ⟨g,4,none⟩=some e∧w.cell? ⟨g,5,none⟩=some f∧w.cell? ⟨g,6,none⟩=some h∧w.cell? ⟨g,7,none⟩=some i∧w.cell? ⟨g,8,none⟩=some j) :=
 ⟨⟨H.cell 0 _ rfl,H.cell 1 _ rfl,H.cell 2 _ rfl⟩,H.cell 3 _ rfl,H.cell 4 _ rfl,H.cell 5 _ rfl,H.cell 6 _ rfl,H.cell 7 _ rfl,H.cell 8 _ rfl⟩
theorem La.st3T {w:World}{g gq:Nat}{o p:Option (Bool×Nat×Int)}{s:Sp}(h:La w g o s) (hq:Lo w gq p) (hne:g≠gq) (x y z:Value):La (st3 w gq x y z) g o s:=by
 obtain ⟨a,c,h1,h2⟩:=h;obtain ⟨_,_,k1,_⟩:=hq;exact ⟨a,c,Bl.but h1 (st3_but12 gq w x y z) hne,h2.off12 k1 _ _ _⟩
theorem Lt.st3T {w:World}{g gq k:Nat}{o p:Option (Bool×Nat×Int)}(h:Lt w g k o) (hq:Lo w gq p) (hne:g≠gq) (x y z:Value):Lt (st3 w gq x y z) g k o:=by
 obtain ⟨a,c,h1,h2⟩:=h;obtain ⟨_,_,k1,_⟩:=hq;exact ⟨a,c,Bl.but h1 (st3_but12 gq w x y z) hne,h2.off12 k1 _ _ _⟩
theorem addW0 (W:World):Below W.heap.size W (W.alloc (Obj.cells #[.bool false,.slice none 0 0,.int .i64 0] 41)).drew:=(below_alloc W (Obj.cells #[.bool false,.slice none 0 0,.int .i64 0] 41)).trans (((Below.refl (W.alloc (Obj.cells #[.bool false,.slice none 0 0,.int .i64 0] 41)).heap.size (W.alloc (Obj.cells #[.bool false,.slice none 0 0,.int .i64 0] 41))).drew).mono (by simp))
theorem addZ {W w3:World}(hb:Below (W.alloc (Obj.cells #[.bool false,.slice none 0 0,.int .i64 0] 41)).drew.heap.size (W.alloc (Obj.cells #[.bool false,.slice none 0 0,.int .i64 0] 41)).drew w3):Lo w3 W.heap.size o00∧Below W.heap.size W w3:=by
 have h1:Lo (W.alloc (Obj.cells #[.bool false,.slice none 0 0,.int .i64 0] 41)).drew W.heap.size o00:=(Lo.zero W).below (Below.refl _ _).drew;have h2:Below W.heap.size W (W.alloc (Obj.cells #[.bool false,.slice none 0 0,.int .i64 0] 41)).drew:=addW0 W;exact ⟨h1.below hb,h2.trans (hb.mono h2.size)⟩
theorem addW (W:World):Below W.heap.size W (W.alloc (Obj.cells #[.bool false,.slice none 0 0,.int .i64 0] 41)).drew:=addW0 W
set_option maxRecDepth 100000 in
theorem rAdd7 (g:Nat) (V T:Int) (n u d m p a:Int) (k:Nat) (b:Option Addr) (cb:Nat) (w:World) (hA:La w g (exV V) ⟨n,u,d,m,p,a⟩) (hs:(Sp.mk n u d m p a).ok) (hk:k≤5) (ha:a≠1099511627776) (N:Nt 0 w (.slice b (ws (dX (exV T))).length cb) (dX (exV T))) (j:Nat) (hj:j=4238) (hV:V.natAbs<2^j) (hT:T.natAbs<2^j) (hVT:(V+T).natAbs<2^j) :
 Calls Tryz.prog 73 #[.pointer (some ⟨g,0,none⟩),.agg #[.int .i64 (k:Nat),.bool (dN (exV T)),.slice b (ws (dX (exV T))).length cb,.int .i64 (dE (exV T))]] w fun r w'=>r=.returned (.int .i64 0)∧La w' g (exV (V+T)) ((Sp.mk n u d m p a).cnt (kOf k) 1)∧But g w w':=by
 have FV:=ex_fm V j (by omega) hV
 have FT:=ex_fm T j (by omega) hT
 have FS:=ex_fm (V+T) j (by omega) hVT
 have EA:=add_ex j (by omega) hV hT
 obtain ⟨gr1,gr2,gr3,gr4⟩:=ex_great (V:=V+T) j hj hVT;have HC:=hid (fun w':World=>rcounted7 n u d m p a k hk hs w')
 obtain ⟨ov,hov⟩:∃ o,o=exV V:=⟨_,rfl⟩;obtain ⟨ot,hot⟩:∃ o,o=exV T:=⟨_,rfl⟩;obtain ⟨os,hos⟩:∃ o,o=exV (V+T):=⟨_,rfl⟩;rw [←hov] at FV EA hA;rw [←hot] at FT EA N ⊢;rw [←hos] at FS EA gr1 gr2 gr3 gr4 ⊢;obtain ⟨⟨n1,u1,d1,m1,p1,a1⟩,hs1⟩:∃ s,s=(Sp.mk n u d m p a).cnt (kOf k) 1:=⟨_,rfl⟩;rw [←hs1] at HC ⊢;unfold Sp.agg at HC;simp only at HC;have FF:=qsd (ai FV (ai FT (ai FS EA)));have GG:=qsd (ai gr1 (ai gr2 (ai gr3 gr4)));have ha':(a==1099511627776)=false:=by simpa using ha
 have glt:=hA.lt;obtain ⟨W,hW⟩:∃ W,W=w.alloc (Obj.cells #[.int .i64 (k:Nat),.bool (dN ot),.slice b (ws (dX ot)).length cb,.int .i64 (dE ot)] 95):=⟨_,rfl⟩;obtain ⟨g3,hg3⟩:∃ x,x=w.heap.size:=⟨_,rfl⟩
 have K0:Aside (La W g ov ⟨n,u,d,m,p,a⟩∧Lt W g3 k ot∧Below w.heap.size w W∧g<g3):=by
  rw [hW,hg3];exact ⟨hA.below (below_alloc _ _),Lt.new N,below_alloc _ _,glt⟩
 have HW:=qsd hW;have HG:=qsd hg3;clear FV FT FS EA gr1 gr2 gr3 gr4 hov hot hos hs1 hA N ha hV hT hVT hj hW glt hs hg3;go_enter Tryz.func73,Tryz.ntmps73
 go_upto_region 1 with fail
 rw [←HW.out,←HG.out];clear HW;obtain ⟨aV,cV,BV,NV⟩:=K0.out.1;obtain ⟨aT,cT,BT,NT⟩:=K0.out.2.1;unfold laC at BV;obtain ⟨⟨v0,v1,v2⟩,v3,v4,v5,v6,v7,v8⟩:=BV.facts9;obtain ⟨t0,t1,t2,t3⟩:=BT.four;have PB:Hid (∀ U:World,Below W.heap.size W U→Calls Tryz.prog 50 #[.agg #[.bool (dN ov),.slice aV (ws (dX ov)).length cV,.int .i64 (dE ov)],.agg #[.bool (dN ot),.slice aT (ws (dX ot)).length cT,.int .i64 (dE ot)]] U fun r w'=>(∃ v,r=.returned (.tuple #[.agg #[.bool (dN os),v,.int .i64 (dE os)],.int .i64 0])∧Nt U.heap.size w' v (dX os))∧Below U.heap.size U w'):=fun U hU=>radd12 FF.out.1 FF.out.2.1 (NV.below hU) (NT.below hU) FF.out.2.2.2 FF.out.2.2.1
 clear BV NV BT NT
 go_upto_region 3 with fail
 go_cut [5,6] from 13 to 22 (fun q e wx=>∃ gq:Nat,q=.pointer (some ⟨gq,0,none⟩)∧e=.int .i64 0∧Aside (Lo wx gq os∧La wx g ov ⟨n,u,d,m,p,a⟩∧Lt wx g3 k ot∧Below w.heap.size w wx∧g3<gq))
 case first =>
  have hgl:g<W.heap.size:=K0.out.1.lt;have hg3l:g3<W.heap.size:=by obtain ⟨_,_,h,_⟩:=K0.out.2.1;exact h.lt
  go_region_with (go_at_call 50;first
   | (refine (PB.out _ (Below.refl _ W).drew).mono ?_;rintro r w3 ⟨⟨v,rfl,hN⟩,hb3⟩;obtain ⟨a3,c3,rfl,hN0⟩:=Lo.shape FF.out.2.2.1 hN;have HQ:=qsd (ai hN0 ((Below.refl _ W).drew.trans hb3));clear hN hN0 hb3)
   | (refine (PB.out _ (addW W)).mono ?_;rintro r w3 ⟨⟨v,rfl,hN⟩,hb3⟩;obtain ⟨a3,c3,rfl,hN0⟩:=Lo.shape FF.out.2.2.1 hN;have HZ:=qsd (ai hN0 (addZ hb3));obtain ⟨zp,zq,DZ,MZ⟩:=HZ.out.2.1;obtain ⟨z0,z1,z2,zf0,zf1,zf2⟩:=DZ.facts;clear hN hN0 hb3 DZ MZ))
  all_goals
   go_wp2_with fail
   go_meet
   case rel =>
    first
     | exact ⟨w3.heap.size,rfl,rfl,Lo.new HQ.out.1,(K0.out.1.below HQ.out.2).below (below_alloc _ _),(K0.out.2.1.below HQ.out.2).below (below_alloc _ _),(K0.out.2.2.1.trans (HQ.out.2.mono K0.out.2.2.1.size)).trans ((below_alloc _ _).mono (Nat.le_trans K0.out.2.2.1.size HQ.out.2.size)),Nat.lt_of_lt_of_le hg3l HQ.out.2.size⟩
     | exact ⟨W.heap.size,rfl,rfl,HZ.out.2.1.set HZ.out.1,(K0.out.1.below HZ.out.2.2).st3T HZ.out.2.1 (by omega) _ _ _,(K0.out.2.1.below HZ.out.2.2).st3T HZ.out.2.1 (by omega) _ _ _,st3_bel12 (K0.out.2.2.1.trans (HZ.out.2.2.mono K0.out.2.2.1.size)) (Nat.le_trans K0.out.2.2.1.size HZ.out.2.2.size) K0.out.2.2.1.size _ _ _,hg3l⟩
 obtain ⟨gq,rfl,rfl,K1⟩:=hcut;obtain ⟨U,hU⟩:∃ U,U=wc:=⟨_,rfl⟩;rw [←hU] at K1 ⊢;clear hU v0 v1 v2 v3 v4 v5 v6 v7 v8 t0 t1 t2 t3 PB;obtain ⟨q0,r0,D0,M0⟩:=K1.out.1;obtain ⟨x0,x1,x2,xf0,xf1,xf2⟩:=D0.facts
 have HGr:Hid (Calls Tryz.prog 113 #[.agg #[.bool (dN os),.slice q0 (ws (dX os)).length r0,.int .i64 (dE os)]] U fun r w'=>r=.returned (.bool false)∧Below U.heap.size U w'):=by
  have:=rgreat7 (dN os) (dX os) (dE os) q0 r0 U (FF.out.2.2.1.a12 M0) GG.out.2.1 GG.out.2.2.1 GG.out.2.2.2;rw [GG.out.1] at this;exact this
 clear D0 M0
 go_wp2_with fail
 refine HGr.out.mono ?_;rintro r u2 ⟨rfl,hb⟩;have l0:=K1.out.1.below hb;have l1:=K1.out.2.1.below hb;have l2:=K1.out.2.2.1.below hb;have b2:=K1.out.2.2.2.1.trans (hb.mono K1.out.2.2.2.1.size);have hg3:=K1.out.2.2.2.2;obtain ⟨q0,r0,D0,M0⟩:=l0;obtain ⟨y0,y1,y2,yf0,yf1,yf2⟩:=D0.facts;obtain ⟨aV,cV,BV,NV⟩:=l1;unfold laC at BV;obtain ⟨⟨v0,v1,v2⟩,v3,v4,v5,v6,v7,v8⟩:=BV.facts9;have vf0:=BV.frozen 0;have vf1:=BV.frozen 1;have vf2:=BV.frozen 2;obtain ⟨U2,hU2⟩:∃ U2,U2=st3 u2 g (.bool (dN os)) (.slice q0 (ws (dX os)).length r0) (.int .i64 (dE os)):=⟨_,rfl⟩
 have K2:Aside (Bl U2 g 63 (laC os q0 r0 ⟨n,u,d,m,p,a⟩)∧Nt 0 U2 (.slice q0 (ws (dX os)).length r0) (dX os)∧Lt U2 g3 k ot∧But g w U2∧g<g3∧w.heap.size≤U2.heap.size):=by
  rw [hU2];refine ⟨((BV.set 0 _).set 1 _).set 2 _,M0.offA BV (by decide) (st3_but12 _ _ _ _ _),?_,((But.refl g w).of_bel b2).trans (st3_but12 _ _ _ _ _),K0.out.2.2.2,Nat.le_trans b2.size (by simp [st3,World.setCell])⟩
  obtain ⟨aT,cT,BT,NT⟩:=l2;exact ⟨aT,cT,Bl.but BT (st3_but12 _ _ _ _ _) (by have:=K0.out.2.2.2;omega),NT.offA BV (by decide) (st3_but12 _ _ _ _ _)⟩
 unfold st3 at hU2;have HU:=qsd hU2;clear D0 M0 BV NV l2 b2 hb hU2 HGr x0 x1 x2 xf0 xf1 xf2 K1
 go_upto_region 7 with fail
 rw [←HU.out];clear HU v0 v1 v2 v3 v4 v5 v6 v7 v8 vf0 vf1 vf2 y0 y1 y2 yf0 yf1 yf2;obtain ⟨v3,v4,v5,v6,v7,v8⟩:=(show Bl U2 g 63 [_,_,_,_,_,_,_,_,_] from K2.out.1).facts9.2
 obtain ⟨aT,cT,BT,NT⟩:=K2.out.2.2.1;have t0:=BT.cell 0 _ rfl;have HB:Hid (Bl U2 g 63 [.bool (dN os),.slice q0 (ws (dX os)).length r0,.int .i64 (dE os),.int .i64 n,.int .i64 u,.int .i64 d,.int .i64 m,.int .i64 p,.int .i64 a]):=K2.out.1;have hlt:g<U2.heap.size:=HB.out.lt;clear BT NT
 go_region_with (go_at_call 114;refine (HC.out _).mono ?_;rintro r w3 ⟨rfl,hb3⟩;have HQ:=qsd (Bl.below (w:=U2.drew) HB.out hb3 hlt);have q3:=HQ.out.cell 3 _ rfl;have q4:=HQ.out.cell 4 _ rfl;have q5:=HQ.out.cell 5 _ rfl;have q6:=HQ.out.cell 6 _ rfl;have q7:=HQ.out.cell 7 _ rfl;have q8:=HQ.out.cell 8 _ rfl;have f3:=HQ.out.frozen 3;have f4:=HQ.out.frozen 4;have f5:=HQ.out.frozen 5;have f6:=HQ.out.frozen 6;have f7:=HQ.out.frozen 7;have f8:=HQ.out.frozen 8;have HB3:=qsd hb3;clear hb3)
 all_goals
  go_wp2;go_ret;have hbd:Below U2.heap.size U2 w3:=(Below.refl _ U2).drew.trans HB3.out;refine ⟨rfl,⟨q0,r0,((((((HQ.out.set 3 _).set 4 _).set 5 _).set 6 _).set 7 _).set 8 _),?_⟩,?_⟩
  · exact (K2.out.2.1.below hbd).offA HQ.out (by decide) ((((((But.refl g w3).set 3 _).set 4 _).set 5 _).set 6 _).set 7 _ |>.set 8 _)
  · exact K2.out.2.2.2.1.trans (((But.refl g U2).of_bel hbd).trans ((((((But.refl g w3).set 3 _).set 4 _).set 5 _).set 6 _).set 7 _ |>.set 8 _))
end
section
open Go.RowKit
open Go.Proofs.YtjldfhecnaiinaaGreatDoor.B (f64bits f64frombits bw bcell)
attribute [local go_sem] f64bits f64frombits
theorem MayBe_any (n u d m p a:Int) (w:World):Calls Tryz.prog 75 #[.agg #[.int .i64 n,.int .i64 u,.int .i64 d,.int .i64 m,.int .i64 p,.int .i64 a]] w fun r w'=>r=.returned (.bool (snd n u d m p a))∧Below w.heap.size w w':=by
 have below:∀ o,Below w.heap.size w (w.alloc o):=fun o=>(Below.refl _ _).alloc (Nat.le_refl _) _
 unfold snd;have Hn:=hid (within_any n);have Hu:=hid (within_any u);have Hd:=hid (within_any d);have Hm:=hid (within_any m);have Hp:=hid (within_any p);have Ha:=hid (within_any a);have h1:(ct n=false)∨(ct n=true∧ct u=false)∨(ct n=true∧ct u=true∧ct d=false)∨(ct n=true∧ct u=true∧ct d=true):=by cases ct n <;> cases ct u <;> cases ct d <;> simp
 have h2:(ct m=false)∨(ct m=true∧ct p=false)∨(ct m=true∧ct p=true∧ct a=false)∨(ct m=true∧ct p=true∧ct a=true):=by cases ct m <;> cases ct p <;> cases ct a <;> simp
 rcases h1 with e1|⟨e1,e2⟩|⟨e1,e2,e3⟩|⟨e1,e2,e3⟩ <;> rcases h2 with g1|⟨g1,g2⟩|⟨g1,g2,g3⟩|⟨g1,g2,g3⟩
 · rw [e1,g1]
   rw [e1] at Hn;rw [g1] at Hm;clear e1 g1;go_enter Tryz.func75,Tryz.ntmps75
   go_wp2_with fail
   refine (Hn.out _).mono ?_;rintro r w1 ⟨rfl,rfl⟩
   go_wp2_with fail
   refine (Hm.out _).mono ?_;rintro r w1 ⟨rfl,rfl⟩;go_wp2;go_ret;exact ⟨by first | rfl | simp,below _⟩
 · rw [e1,g1,g2]
   rw [e1] at Hn;rw [g1] at Hm;rw [g2] at Hp;clear e1 g1 g2;go_enter Tryz.func75,Tryz.ntmps75
   go_wp2_with fail
   refine (Hn.out _).mono ?_;rintro r w1 ⟨rfl,rfl⟩
   go_wp2_with fail
   refine (Hm.out _).mono ?_;rintro r w1 ⟨rfl,rfl⟩
   go_wp2_with fail
   refine (Hp.out _).mono ?_;rintro r w1 ⟨rfl,rfl⟩;go_wp2;go_ret;exact ⟨by first | rfl | simp,below _⟩
 · rw [e1,g1,g2,g3]
   rw [e1] at Hn;rw [g1] at Hm;rw [g2] at Hp;rw [g3] at Ha;clear e1 g1 g2 g3;go_enter Tryz.func75,Tryz.ntmps75
   go_wp2_with fail
   refine (Hn.out _).mono ?_;rintro r w1 ⟨rfl,rfl⟩
   go_wp2_with fail
   refine (Hm.out _).mono ?_;rintro r w1 ⟨rfl,rfl⟩
   go_wp2_with fail
   refine (Hp.out _).mono ?_;rintro r w1 ⟨rfl,rfl⟩
   go_wp2_with fail
   refine (Ha.out _).mono ?_;rintro r w1 ⟨rfl,rfl⟩;go_wp2;go_ret;exact ⟨by first | rfl | simp,below _⟩
 · rw [e1,g1,g2,g3]
   rw [e1] at Hn;rw [g1] at Hm;rw [g2] at Hp;rw [g3] at Ha;clear e1 g1 g2 g3;go_enter Tryz.func75,Tryz.ntmps75
   go_wp2_with fail
   refine (Hn.out _).mono ?_;rintro r w1 ⟨rfl,rfl⟩
   go_wp2_with fail
   refine (Hm.out _).mono ?_;rintro r w1 ⟨rfl,rfl⟩
   go_wp2_with fail
   refine (Hp.out _).mono ?_;rintro r w1 ⟨rfl,rfl⟩
   go_wp2_with fail
   refine (Ha.out _).mono ?_;rintro r w1 ⟨rfl,rfl⟩;go_wp2;go_ret;exact ⟨by first | rfl | simp,below _⟩
 · rw [e1,e2,g1]
   rw [e1] at Hn;rw [e2] at Hu;rw [g1] at Hm;clear e1 e2 g1;go_enter Tryz.func75,Tryz.ntmps75
   go_wp2_with fail
   refine (Hn.out _).mono ?_;rintro r w1 ⟨rfl,rfl⟩
   go_wp2_with fail
   refine (Hu.out _).mono ?_;rintro r w1 ⟨rfl,rfl⟩
   go_wp2_with fail
   refine (Hm.out _).mono ?_;rintro r w1 ⟨rfl,rfl⟩;go_wp2;go_ret;exact ⟨by first | rfl | simp,below _⟩
 · rw [e1,e2,g1,g2]
   rw [e1] at Hn;rw [e2] at Hu;rw [g1] at Hm;rw [g2] at Hp;clear e1 e2 g1 g2;go_enter Tryz.func75,Tryz.ntmps75
   go_wp2_with fail
   refine (Hn.out _).mono ?_;rintro r w1 ⟨rfl,rfl⟩
   go_wp2_with fail
   refine (Hu.out _).mono ?_;rintro r w1 ⟨rfl,rfl⟩
   go_wp2_with fail
   refine (Hm.out _).mono ?_;rintro r w1 ⟨rfl,rfl⟩
   go_wp2_with fail
   refine (Hp.out _).mono ?_;rintro r w1 ⟨rfl,rfl⟩;go_wp2;go_ret;exact ⟨by first | rfl | simp,below _⟩
 · rw [e1,e2,g1,g2,g3]
   rw [e1] at Hn;rw [e2] at Hu;rw [g1] at Hm;rw [g2] at Hp;rw [g3] at Ha;clear e1 e2 g1 g2 g3;go_enter Tryz.func75,Tryz.ntmps75
   go_wp2_with fail
   refine (Hn.out _).mono ?_;rintro r w1 ⟨rfl,rfl⟩
   go_wp2_with fail
   refine (Hu.out _).mono ?_;rintro r w1 ⟨rfl,rfl⟩
   go_wp2_with fail
   refine (Hm.out _).mono ?_;rintro r w1 ⟨rfl,rfl⟩
   go_wp2_with fail
   refine (Hp.out _).mono ?_;rintro r w1 ⟨rfl,rfl⟩
   go_wp2_with fail
   refine (Ha.out _).mono ?_;rintro r w1 ⟨rfl,rfl⟩;go_wp2;go_ret;exact ⟨by first | rfl | simp,below _⟩
 · rw [e1,e2,g1,g2,g3]
   rw [e1] at Hn;rw [e2] at Hu;rw [g1] at Hm;rw [g2] at Hp;rw [g3] at Ha;clear e1 e2 g1 g2 g3;go_enter Tryz.func75,Tryz.ntmps75
   go_wp2_with fail
   refine (Hn.out _).mono ?_;rintro r w1 ⟨rfl,rfl⟩
   go_wp2_with fail
   refine (Hu.out _).mono ?_;rintro r w1 ⟨rfl,rfl⟩
   go_wp2_with fail
   refine (Hm.out _).mono ?_;rintro r w1 ⟨rfl,rfl⟩
   go_wp2_with fail
   refine (Hp.out _).mono ?_;rintro r w1 ⟨rfl,rfl⟩
   go_wp2_with fail
   refine (Ha.out _).mono ?_;rintro r w1 ⟨rfl,rfl⟩;go_wp2;go_ret;exact ⟨by first | rfl | simp,below _⟩
 · rw [e1,e2,e3,g1]
   rw [e1] at Hn;rw [e2] at Hu;rw [e3] at Hd;rw [g1] at Hm;clear e1 e2 e3 g1;go_enter Tryz.func75,Tryz.ntmps75
   go_wp2_with fail
   refine (Hn.out _).mono ?_;rintro r w1 ⟨rfl,rfl⟩
   go_wp2_with fail
   refine (Hu.out _).mono ?_;rintro r w1 ⟨rfl,rfl⟩
   go_wp2_with fail
   refine (Hd.out _).mono ?_;rintro r w1 ⟨rfl,rfl⟩
   go_wp2_with fail
   refine (Hm.out _).mono ?_;rintro r w1 ⟨rfl,rfl⟩;go_wp2;go_ret;exact ⟨by first | rfl | simp,below _⟩
 · rw [e1,e2,e3,g1,g2]
   rw [e1] at Hn;rw [e2] at Hu;rw [e3] at Hd;rw [g1] at Hm;rw [g2] at Hp;clear e1 e2 e3 g1 g2;go_enter Tryz.func75,Tryz.ntmps75
   go_wp2_with fail
   refine (Hn.out _).mono ?_;rintro r w1 ⟨rfl,rfl⟩
   go_wp2_with fail
   refine (Hu.out _).mono ?_;rintro r w1 ⟨rfl,rfl⟩
   go_wp2_with fail
   refine (Hd.out _).mono ?_;rintro r w1 ⟨rfl,rfl⟩
   go_wp2_with fail
   refine (Hm.out _).mono ?_;rintro r w1 ⟨rfl,rfl⟩
   go_wp2_with fail
   refine (Hp.out _).mono ?_;rintro r w1 ⟨rfl,rfl⟩;go_wp2;go_ret;exact ⟨by first | rfl | simp,below _⟩
 · rw [e1,e2,e3,g1,g2,g3]
   rw [e1] at Hn;rw [e2] at Hu;rw [e3] at Hd;rw [g1] at Hm;rw [g2] at Hp;rw [g3] at Ha;clear e1 e2 e3 g1 g2 g3;go_enter Tryz.func75,Tryz.ntmps75
   go_wp2_with fail
   refine (Hn.out _).mono ?_;rintro r w1 ⟨rfl,rfl⟩
   go_wp2_with fail
   refine (Hu.out _).mono ?_;rintro r w1 ⟨rfl,rfl⟩
   go_wp2_with fail
   refine (Hd.out _).mono ?_;rintro r w1 ⟨rfl,rfl⟩
   go_wp2_with fail
   refine (Hm.out _).mono ?_;rintro r w1 ⟨rfl,rfl⟩
   go_wp2_with fail
   refine (Hp.out _).mono ?_;rintro r w1 ⟨rfl,rfl⟩
   go_wp2_with fail
   refine (Ha.out _).mono ?_;rintro r w1 ⟨rfl,rfl⟩;go_wp2;go_ret;exact ⟨by first | rfl | simp,below _⟩
 · rw [e1,e2,e3,g1,g2,g3]
   rw [e1] at Hn;rw [e2] at Hu;rw [e3] at Hd;rw [g1] at Hm;rw [g2] at Hp;rw [g3] at Ha;clear e1 e2 e3 g1 g2 g3;go_enter Tryz.func75,Tryz.ntmps75
   go_wp2_with fail
   refine (Hn.out _).mono ?_;rintro r w1 ⟨rfl,rfl⟩
   go_wp2_with fail
   refine (Hu.out _).mono ?_;rintro r w1 ⟨rfl,rfl⟩
   go_wp2_with fail
   refine (Hd.out _).mono ?_;rintro r w1 ⟨rfl,rfl⟩
   go_wp2_with fail
   refine (Hm.out _).mono ?_;rintro r w1 ⟨rfl,rfl⟩
   go_wp2_with fail
   refine (Hp.out _).mono ?_;rintro r w1 ⟨rfl,rfl⟩
   go_wp2_with fail
   refine (Ha.out _).mono ?_;rintro r w1 ⟨rfl,rfl⟩;go_wp2;go_ret;exact ⟨by first | rfl | simp,below _⟩
 · rw [e1,e2,e3,g1]
   rw [e1] at Hn;rw [e2] at Hu;rw [e3] at Hd;rw [g1] at Hm;clear e1 e2 e3 g1;go_enter Tryz.func75,Tryz.ntmps75
   go_wp2_with fail
   refine (Hn.out _).mono ?_;rintro r w1 ⟨rfl,rfl⟩
   go_wp2_with fail
   refine (Hu.out _).mono ?_;rintro r w1 ⟨rfl,rfl⟩
   go_wp2_with fail
   refine (Hd.out _).mono ?_;rintro r w1 ⟨rfl,rfl⟩
   go_wp2_with fail
   refine (Hm.out _).mono ?_;rintro r w1 ⟨rfl,rfl⟩;go_wp2;go_ret;exact ⟨by first | rfl | simp,below _⟩
 · rw [e1,e2,e3,g1,g2]
   rw [e1] at Hn;rw [e2] at Hu;rw [e3] at Hd;rw [g1] at Hm;rw [g2] at Hp;clear e1 e2 e3 g1 g2;go_enter Tryz.func75,Tryz.ntmps75
   go_wp2_with fail
   refine (Hn.out _).mono ?_;rintro r w1 ⟨rfl,rfl⟩
   go_wp2_with fail
   refine (Hu.out _).mono ?_;rintro r w1 ⟨rfl,rfl⟩
   go_wp2_with fail
   refine (Hd.out _).mono ?_;rintro r w1 ⟨rfl,rfl⟩
   go_wp2_with fail
   refine (Hm.out _).mono ?_;rintro r w1 ⟨rfl,rfl⟩
   go_wp2_with fail
   refine (Hp.out _).mono ?_;rintro r w1 ⟨rfl,rfl⟩;go_wp2;go_ret;exact ⟨by first | rfl | simp,below _⟩
 · rw [e1,e2,e3,g1,g2,g3]
   rw [e1] at Hn;rw [e2] at Hu;rw [e3] at Hd;rw [g1] at Hm;rw [g2] at Hp;rw [g3] at Ha;clear e1 e2 e3 g1 g2 g3;go_enter Tryz.func75,Tryz.ntmps75
   go_wp2_with fail
   refine (Hn.out _).mono ?_;rintro r w1 ⟨rfl,rfl⟩
   go_wp2_with fail
   refine (Hu.out _).mono ?_;rintro r w1 ⟨rfl,rfl⟩
   go_wp2_with fail
   refine (Hd.out _).mono ?_;rintro r w1 ⟨rfl,rfl⟩
   go_wp2_with fail
   refine (Hm.out _).mono ?_;rintro r w1 ⟨rfl,rfl⟩
   go_wp2_with fail
   refine (Hp.out _).mono ?_;rintro r w1 ⟨rfl,rfl⟩
   go_wp2_with fail
   refine (Ha.out _).mono ?_;rintro r w1 ⟨rfl,rfl⟩;go_wp2;go_ret;exact ⟨by first | rfl | simp,below _⟩
 · rw [e1,e2,e3,g1,g2,g3]
   rw [e1] at Hn;rw [e2] at Hu;rw [e3] at Hd;rw [g1] at Hm;rw [g2] at Hp;rw [g3] at Ha;have kn:=ct_true e1;have ku:=ct_true e2;have kd:=ct_true e3;have km:=ct_true g1;have kp:=ct_true g2;have ka:=ct_true g3;clear e1 e2 e3 g1 g2 g3;go_enter Tryz.func75,Tryz.ntmps75
   go_wp2_with fail
   refine (Hn.out _).mono ?_;rintro r w1 ⟨rfl,rfl⟩
   go_wp2_with fail
   refine (Hu.out _).mono ?_;rintro r w1 ⟨rfl,rfl⟩
   go_wp2_with fail
   refine (Hd.out _).mono ?_;rintro r w1 ⟨rfl,rfl⟩
   go_wp2_with fail
   refine (Hm.out _).mono ?_;rintro r w1 ⟨rfl,rfl⟩
   go_wp2_with fail
   refine (Hp.out _).mono ?_;rintro r w1 ⟨rfl,rfl⟩
   go_wp2_with fail
   refine (Ha.out _).mono ?_;rintro r w1 ⟨rfl,rfl⟩;go_wp2;go_ret;exact ⟨by first | rfl | simp,below _⟩
end
section
open Go.RowKit
open Go.Proofs.YtjldfhecnaiinaaGreatDoor.B (f64bits f64frombits bw bcell)
attribute [local go_sem] f64bits f64frombits
open Go.RowKit
open Go.Proofs.YtjldfhecnaiinaaGreatDoor.B (f64bits f64frombits bw bcell)
attribute [local go_sem] f64bits f64frombits
theorem rNought_any (n u d m p l mode:Int) (w:World):Calls Tryz.prog 78 #[.agg #[.int .i64 n,.int .i64 u,.int .i64 d,.int .i64 m,.int .i64 p,.int .i64 l],.int .i64 mode] w fun r w'=>r=.returned (.float .f64 (nt (snd n u d m p l) n u d m p l mode))∧Below w.heap.size w w':=by
 have HS:=hid (MayBe_any n u d m p l);have HM:=hid (minus_any);have HT:=hid (Zero_any true);have HF:=hid (Zero_any false)
 rcases hs:snd n u d m p l with _|_
 · rw [hs] at HS
   have hv:nt false n u d m p l mode=0:=if_pos rfl;rw [hv];clear hs hv;go_enter Tryz.func78,Tryz.ntmps78
   go_wp2_with fail
   refine (HS.out _).mono ?_;rintro r w1 ⟨rfl,hb1⟩;have hz1:=hb1.size;simp at hz1;obtain ⟨hc1,hf1⟩:=bcell hb1;have B1:=qsd hb1;clear hb1
   go_wp2_with fail
   refine (HF.out _).mono ?_;rintro r w3 ⟨rfl,rfl⟩;go_wp2;go_ret;exact ⟨by first | rfl | simp,((Below.refl _ w).alloc (Nat.le_refl _) _).trans (B1.out.mono (by simp))⟩
 have bd:=snd_bd hs;rw [hs] at HS;obtain ⟨f,hf⟩:∃ f,l-n-u-d=f:=⟨_,rfl⟩;have hfb:-9223372036854775808≤f∧f≤9223372036854775807:=by omega
 have hb1:0≤n∧n≤1099511627776:=bd.1;have hb2:0≤u∧u≤1099511627776:=bd.2.1;have hb3:0≤d∧d≤1099511627776:=bd.2.2.1;have hb4:0≤l∧l≤1099511627776:=bd.2.2.2;unfold nt;rw [if_neg (by decide),hf]
 clear hs bd
 by_cases p1:f=0
 · rw [if_pos p1]
   have q1:(f==0)=true:=by rw [beq_iff_eq];exact p1
   clear p1;go_enter Tryz.func78,Tryz.ntmps78
   go_wp2_with fail
   refine (HS.out _).mono ?_;rintro r w1 ⟨rfl,hb1⟩;have hz1:=hb1.size;simp at hz1;obtain ⟨hc1,hf1⟩:=bcell hb1;have B1:=qsd hb1;clear hb1
   go_wp2_with fail
   refine (HF.out _).mono ?_;rintro r w3 ⟨rfl,rfl⟩;go_wp2;go_ret;exact ⟨by first | rfl | simp,((Below.refl _ w).alloc (Nat.le_refl _) _).trans (B1.out.mono (by simp))⟩
 rw [if_neg p1];have q1:(f==0)=false:=by rw [beq_eq_false_iff_ne];exact p1
 clear p1
 by_cases p2:m=f
 · rw [if_pos p2]
   have q2:(m==f)=true:=by rw [beq_iff_eq];exact p2
   clear p2;go_enter Tryz.func78,Tryz.ntmps78
   go_wp2_with fail
   refine (HS.out _).mono ?_;rintro r w1 ⟨rfl,hb1⟩;have hz1:=hb1.size;simp at hz1;obtain ⟨hc1,hf1⟩:=bcell hb1;have B1:=qsd hb1;clear hb1
   go_wp2_with fail
   refine (HT.out _).mono ?_;rintro r w3 ⟨rfl,rfl⟩;go_wp2;go_ret;exact ⟨by first | rfl | simp,((Below.refl _ w).alloc (Nat.le_refl _) _).trans (B1.out.mono (by simp))⟩
 rw [if_neg p2];have q2:(m==f)=false:=by rw [beq_eq_false_iff_ne];exact p2
 clear p2
 by_cases p3:p=f
 · rw [if_pos p3]
   have q3:(p==f)=true:=by rw [beq_iff_eq];exact p3
   clear p3;go_enter Tryz.func78,Tryz.ntmps78
   go_wp2_with fail
   refine (HS.out _).mono ?_;rintro r w1 ⟨rfl,hb1⟩;have hz1:=hb1.size;simp at hz1;obtain ⟨hc1,hf1⟩:=bcell hb1;have B1:=qsd hb1;clear hb1
   go_wp2_with fail
   refine (HF.out _).mono ?_;rintro r w3 ⟨rfl,rfl⟩;go_wp2;go_ret;exact ⟨by first | rfl | simp,((Below.refl _ w).alloc (Nat.le_refl _) _).trans (B1.out.mono (by simp))⟩
 rw [if_neg p3];have q3:(p==f)=false:=by rw [beq_eq_false_iff_ne];exact p3
 clear p3
 by_cases p4:mode=3
 · rw [if_pos p4]
   subst p4;go_enter Tryz.func78,Tryz.ntmps78
   go_wp2_with fail
   refine (HS.out _).mono ?_;rintro r w1 ⟨rfl,hb1⟩;have hz1:=hb1.size;simp at hz1;obtain ⟨hc1,hf1⟩:=bcell hb1;have B1:=qsd hb1;clear hb1
   go_wp2_with fail
   refine (HT.out _).mono ?_;rintro r w3 ⟨rfl,rfl⟩;go_wp2;go_ret;exact ⟨by first | rfl | simp,((Below.refl _ w).alloc (Nat.le_refl _) _).trans (B1.out.mono (by simp))⟩
 · rw [if_neg p4]
   have q4:(mode==3)=false:=by rw [beq_eq_false_iff_ne];exact p4
   clear p4;go_enter Tryz.func78,Tryz.ntmps78
   go_wp2_with fail
   refine (HS.out _).mono ?_;rintro r w1 ⟨rfl,hb1⟩;have hz1:=hb1.size;simp at hz1;obtain ⟨hc1,hf1⟩:=bcell hb1;have B1:=qsd hb1;clear hb1
   go_wp2_with fail
   refine (HF.out _).mono ?_;rintro r w3 ⟨rfl,rfl⟩;go_wp2;go_ret;exact ⟨by first | rfl | simp,((Below.refl _ w).alloc (Nat.le_refl _) _).trans (B1.out.mono (by simp))⟩
end
section
open Go.RowKit J
attribute [local go_sem] st_float
theorem bd12 {V:Int}(n:Nat) (hn:n≤65536) (h:-((n*QB:Nat):Int)≤V∧V≤((n*QB:Nat):Int)) (j:Nat) (hj:j=4238):V.natAbs<2^j:=by
 rw [←HB_two j hj,QB_HB];have h3:n*QB≤65536*QB:=Nat.mul_le_mul_right _ hn;have h5:=QB_pos;omega
end
section
open Go.RowKit J
attribute [local go_sem] st_float
theorem kd_neg {x:Nat}(hx:x<18446744073709551616):(kd x=4→negW x=true)∧(kd x=3→negW x=false)∧(kd x=1→negW x=true)∧(kd x=2→negW x=false):=by
 have e2:negW x=decide (9223372036854775808≤x):=rfl;rw [e2];unfold kd
 by_cases h1:9218868437227405312<x%9223372036854775808
 · rw [if_pos h1];omega
 · rw [if_neg h1]
   by_cases h2:x%9223372036854775808=9218868437227405312
   · rw [if_pos h2]
     by_cases h3:x/9223372036854775808=1
     · rw [if_pos h3]
       exact ⟨fun _=>decide_eq_true (by omega),(fun h=>by omega),(fun h=>by omega),(fun h=>by omega)⟩
     · rw [if_neg h3]
       exact ⟨(fun h=>by omega),fun _=>decide_eq_false (by omega),(fun h=>by omega),(fun h=>by omega)⟩
   · rw [if_neg h2]
     by_cases h4:x%9223372036854775808=0
     · rw [if_pos h4]
       by_cases h3:x/9223372036854775808=1
       · rw [if_pos h3]
         exact ⟨(fun h=>by omega),(fun h=>by omega),fun _=>decide_eq_true (by omega),(fun h=>by omega)⟩
       · rw [if_neg h3]
         exact ⟨(fun h=>by omega),(fun h=>by omega),(fun h=>by omega),fun _=>decide_eq_false (by omega)⟩
     · rw [if_neg h4];omega
theorem ex_fo {V:Int}(m:Nat) (hm:m≤10000) (hV:V.natAbs<2^m) (k:Nat) (hk:k=1074):exV (V*((2^k:Nat):Int))=fo8 V:=by
 have hb:(V*((2^k:Nat):Int)).natAbs<2^(m+k):=by
  rw [Int.natAbs_mul,Int.natAbs_natCast,Nat.pow_add];exact Nat.mul_lt_mul_of_pos_right hV (Nat.two_pow_pos k)
 have F:=ex_fm _ (m+k) (by omega) hb
 have G:=fo_fm V m (by omega) hV
 refine valO_inj F G ?_;rw [val_ex F,val_fo G,YX k hk,Int.natCast_mul,Int.mul_assoc]
theorem one7 {x:Nat}(hx:x<18446744073709551616):kOf (kd x)=pK x 4607182418800017408∧oZ x=exV (pT x 4607182418800017408)∧kd x≤5:=by
 have h1:(4607182418800017408:Nat)<18446744073709551616:=by decide
 have k1:kd 4607182418800017408=0:=by decide +kernel
 have n1:negW 4607182418800017408=false:=by decide +kernel
 obtain ⟨p1,p2,p3,p4⟩:=prod7 hx h1;obtain ⟨q4,q3,q1,q2⟩:=kd_neg hx;unfold na7 at p1 p2 p3 p4;rw [k1,n1] at *;refine ⟨?_,?_,kd_le12 x⟩
 · rcases cls_kd hx with ⟨k,c⟩ | ⟨k,c,n⟩ | ⟨k,c,n,f,v⟩ | ⟨k,c,n,f⟩
   · rw [(p1 (by rw [k];rfl)).1,k];rfl
   · rcases k with k | k
     · rw [(p2 (by rw [k];rfl) (by rw [k];rfl)).2.1,q3 k,k];rfl
     · rw [(p2 (by rw [k];rfl) (by rw [k];rfl)).2.1,q4 k,k];rfl
   · rcases k with k | k
     · rw [(p3 (by rw [k];rfl) (by rw [k];rfl) (by rw [k];rfl)).2.1,q1 k,k];rfl
     · rw [(p3 (by rw [k];rfl) (by rw [k];rfl) (by rw [k];rfl)).2.1,q2 k,k];rfl
   · rw [(p4 (by rw [k];rfl) (by rw [k];rfl) (by rw [k];rfl)).2.2,k];rfl
 · rcases cls_kd hx with ⟨k,c⟩ | ⟨k,c,n⟩ | ⟨k,c,n,f,v⟩ | ⟨k,c,n,f⟩
   · rw [(p1 (by rw [k];rfl)).2,ex_zero]
     exact oZ_odd (by intro f;rcases (fin_parts hx f).2.2.2 with q | q <;> omega)
   · have e:pT x 4607182418800017408=0:=by
      rcases k with k|k
      · exact (p2 (by rw [k];rfl) (by rw [k];rfl)).2.2
      · exact (p2 (by rw [k];rfl) (by rw [k];rfl)).2.2
     rw [e,ex_zero];exact oZ_odd (by intro f;rcases (fin_parts hx f).2.2.2 with q | q <;> omega)
   · have e:pT x 4607182418800017408=0:=by
      rcases k with k|k
      · exact (p3 (by rw [k];rfl) (by rw [k];rfl) (by rw [k];rfl)).2.2
      · exact (p3 (by rw [k];rfl) (by rw [k];rfl) (by rw [k];rfl)).2.2
     rw [e,ex_zero];exact oZ_zero f v
   · obtain ⟨z,hz⟩:∃ z,z=2098:=⟨_,rfl⟩
     obtain ⟨i,hi⟩:∃ i,i=1074:=⟨_,rfl⟩;have fo:finW 4607182418800017408:=by decide
     rw [(pT_mul hx h1 f fo).1,f1 i hi,Nat.one_mul,ex_fo z (by omega) (top_fv hx f z hz) i hi,oZ_fin f]
     rfl
def st9 (w:World) (g:Nat) (a b c d e f h i j:Value):World:=((((((((w.setCell ⟨g,0,none⟩ a).setCell ⟨g,1,none⟩ b).setCell ⟨g,2,none⟩ c).setCell ⟨g,3,none⟩ d).setCell ⟨g,4,none⟩ e).setCell ⟨g,5,none⟩ f).setCell ⟨g,6,none⟩ h).setCell ⟨g,7,none⟩ i).setCell ⟨g,8,none⟩ j
theorem Bl.st9 {w:World}{g T:Nat}{a' b' c' d' e' f' h' i' j':Value}(H:Bl w g T [a',b',c',d',e',f',h',i',j']) (a b c d e f h i j:Value):Bl (st9 w g a b c d e f h i j) g T [a,b,c,d,e,f,h,i,j] :=
 ((((((((H.set 0 a).set 1 b).set 2 c).set 3 d).set 4 e).set 5 f).set 6 h).set 7 i).set 8 j
theorem st9_but (w:World) (g:Nat) (a b c d e f h i j:Value):But g w (st9 w g a b c d e f h i j):=(((((((((But.refl g w).set 0 a).set 1 b).set 2 c).set 3 d).set 4 e).set 5 f).set 6 h).set 7 i).set 8 j
set_option maxRecDepth 100000 in
theorem rWhole12 (xs:List Nat) (a:Option Addr) (n c:Nat) (w:World) (hn:n=xs.length) (hF:Fs w.heap.size w a xs) (hW:W64 xs) (hm:n≤65536) :
 Calls Tryz.prog 36 #[.slice a n c] w fun r w'=>(∃ p q,r=.returned (.agg #[.bool (dN (exV (vS xs))),.slice p (ws (dX (exV (vS xs)))).length q,.int .i64 (dE (exV (vS xs))),.int .i64 (sS xs).n,.int .i64 (sS xs).u,.int .i64 (sS xs).d,.int .i64 (sS xs).m,.int .i64 (sS xs).p,.int .i64 (sS xs).a])∧Nt 0 w' (.slice p (ws (dX (exV (vS xs)))).length q) (dX (exV (vS xs))))∧Below w.heap.size w w':=by
 obtain ⟨ov,hov⟩:∃ o,o=exV (vS xs):=⟨_,rfl⟩;obtain ⟨⟨fn,fu,fd,fm,fp,fa⟩,hs0⟩:∃ s,s=sS xs:=⟨_,rfl⟩;rw [←hov,←hs0];simp only;have OV:=qsd (ai hov hs0);clear hov hs0;obtain ⟨W,hWW⟩:∃ W,W=(w.alloc (Obj.cells #[.bool false,.slice none 0 0,.int .i64 0,.int .i64 0,.int .i64 0,.int .i64 0,.int .i64 0,.int .i64 0,.int .i64 0] 63)).alloc (Obj.cells #[.bool false,.slice none 0 0,.int .i64 0,.int .i64 0,.int .i64 0,.int .i64 0,.int .i64 0,.int .i64 0,.int .i64 0] 63):=⟨_,rfl⟩;obtain ⟨g2,hg2⟩:∃ x,x=w.heap.size:=⟨_,rfl⟩
 have H0:Aside (La W (g2+1) o00 ⟨0,0,0,0,0,0⟩∧Bl W g2 63 [.bool false,.slice none 0 0,.int .i64 0,.int .i64 0,.int .i64 0,.int .i64 0,.int .i64 0,.int .i64 0,.int .i64 0]∧Below w.heap.size w W∧w.heap.size≤g2):=by
  rw [hWW,hg2];refine ⟨⟨none,0,?_,?_⟩,(Bl.new w 63 [_,_,_,_,_,_,_,_,_]).alloc _,(bel_alloc _ _).trans ((bel_alloc _ _).mono (by simp)),Nat.le_refl _⟩
  · unfold laC
    rw [len00];exact Bl.new' (w.alloc _) 63 _ [_,_,_,_,_,_,_,_,_] (by simp)
  · rw [len00];exact Nt.nil _ _
 have HW2:=qsd hWW;have HG:=qsd hg2;have PP:=qsd (ai hn (ai hF (ai hW (show xs.length≤65536 by omega))))
 clear hWW hg2 hn hF hW;go_enter Tryz.func36,Tryz.ntmps36;go_wp2;rw [←HW2.out,←HG.out];clear HW2 HG
 go_loopg [4] n (fun gk i wr=>∃ k:Nat,gk+k=n∧i=.int .i64 (k:Nat)∧Aside (La wr (g2+1) (exV (vS (xs.take k))) (sS (xs.take k))∧Bl wr g2 63 [.bool false,.slice none 0 0,.int .i64 0,.int .i64 0,.int .i64 0,.int .i64 0,.int .i64 0,.int .i64 0,.int .i64 0]∧Below w.heap.size w wr∧w.heap.size≤g2))
 case atStart=>exact ⟨0,by omega,by simp,by rw [List.take_zero,show vS []=0 from rfl,show sS []=⟨0,0,0,0,0,0⟩ from rfl,ex_zero];exact H0.out⟩
 case round =>
  clear H0;obtain ⟨k,hgk,rfl,HL⟩:=hrel
  by_cases hk:k<n
  · obtain ⟨b,off,rfl,hcx⟩:=PP.out.2.1.at HL.out.2.2.1 k (by rw [←PP.out.1];exact hk)
    have hln:=PP.out.1;have e1:=vS_take xs k (by omega)
    have e2:=sS_take xs k (by omega)
    have hx64:=PP.out.2.2.1.get k;obtain ⟨x,hx⟩:∃ x,x=xs.getD k 0:=⟨_,rfl⟩;rw [←hx] at hcx e1 e2 hx64;obtain ⟨o1,o2,o3⟩:=one7 hx64;obtain ⟨j,hj⟩:∃ j,j=4238:=⟨_,rfl⟩;have v0:=bd12 k (by omega) (vS_bound xs PP.out.2.2.1 k (by omega)) j hj
    have v2:=bd12 (k+1) (by omega) (vS_bound xs PP.out.2.2.1 (k+1) (by omega)) j hj
    have sp:=sS_pos xs k (by omega)
    have vT:(pT x 4607182418800017408).natAbs<2^j:=bd12 1 (by omega) (by rw [Nat.one_mul];exact pT_small x _ hx64 (by decide)) j hj
    rw [e1] at v2;obtain ⟨V0,hV0⟩:∃ V,V=vS (xs.take k):=⟨_,rfl⟩;obtain ⟨⟨sn,su,sd,sm,sp',sa⟩,hs0⟩:∃ s,s=sS (xs.take k):=⟨_,rfl⟩;rw [←hV0] at v0 v2 e1;rw [←hs0] at sp e2;have HL':=HL;rw [←hV0,←hs0] at HL';obtain ⟨⟨s1,s2,s3,s4,s5,s6'⟩,sa'⟩:=sp;simp only at s1 s2 s3 s4 s5 s6' sa';have HP:=hid (fun u:World=>rOf7x x u hx64)
    have FX:=qsd (oZ_iv x hx64).fm
    have HA:Hid (∀ (U:World) (q:Option Addr) (cq:Nat),La U (g2+1) (exV V0) ⟨sn,su,sd,sm,sp',sa⟩→Nt 0 U (.slice q (ws (dX (oZ x))).length cq) (dX (oZ x))→Calls Tryz.prog 73 #[.pointer (some ⟨g2+1,0,none⟩),.agg #[.int .i64 (kd x:Nat),.bool (dN (oZ x)),.slice q (ws (dX (oZ x))).length cq,.int .i64 (dE (oZ x))]] U fun r w'=>r=.returned (.int .i64 0)∧La w' (g2+1) (exV (V0+pT x 4607182418800017408)) ((Sp.mk sn su sd sm sp' sa).cnt (pK x 4607182418800017408) 1)∧But (g2+1) U w'):=fun U q cq hLa hNt=>by
     rw [o2] at hNt ⊢;have:=rAdd7 (g2+1) V0 (pT x 4607182418800017408) sn su sd sm sp' sa (kd x) q cq U hLa (by unfold Sp.ok;simp only;omega) o3 (by omega) hNt j hj v0 vT v2
     rw [o1] at this;exact this
    have EE:=qsd (ai e1 e2);have hkb:k<4611686018427387904:=by omega
    obtain ⟨ox,hox⟩:∃ o,o=oZ x:=⟨_,rfl⟩;obtain ⟨jx,hjx⟩:∃ j:Nat,j=kd x:=⟨_,rfl⟩;rw [←hox,←hjx] at HP HA;rw [←hox] at FX;clear hx hj v0 v2 vT e1 e2 hV0 hs0 HL hln hx64 s1 s2 s3 s4 s5 s6' sa' o1 o2 o3 hox hjx;have hd1:decide ((k:Int)<(n:Nat))=true:=by simp;omega
    go_wp2_with fail
    refine (HP.out wr).mono ?_;rintro r u ⟨⟨v,rfl,hN⟩,hb⟩;obtain ⟨a1,c1,rfl,hN0⟩:=Lo.shape FX.out hN;have HA1:=hid (HA.out u a1 c1 (HL'.out.1.below hb) hN0);have K1:Aside (Bl u g2 63 [.bool false,.slice none 0 0,.int .i64 0,.int .i64 0,.int .i64 0,.int .i64 0,.int .i64 0,.int .i64 0,.int .i64 0]∧Below w.heap.size w u∧w.heap.size≤g2):=⟨HL'.out.2.1.below hb HL'.out.2.1.lt,HL'.out.2.2.1.trans (hb.mono HL'.out.2.2.1.size),HL'.out.2.2.2⟩;clear hN hN0 hb HP HA HL' hcx
    go_wp2_with fail
    refine HA1.out.mono ?_;rintro r u2 ⟨rfl,hla,hbt⟩
    have H4:Aside (La u2 (g2+1) (exV (vS (xs.take (k+1)))) (sS (xs.take (k+1)))∧Bl u2 g2 63 [.bool false,.slice none 0 0,.int .i64 0,.int .i64 0,.int .i64 0,.int .i64 0,.int .i64 0,.int .i64 0,.int .i64 0]∧Below w.heap.size w u2∧w.heap.size≤g2):=by
     rw [EE.out.1,EE.out.2];exact ⟨hla,Bl.but K1.out.1 hbt (by omega),But.below K1.out.2.1 hbt K1.out.2.1.size (by have:=K1.out.2.2;omega),K1.out.2.2⟩
    clear hla hbt K1 EE HA1;go_wp2
    go_roundg (gk-1)
    case measure=>omega
    case rel=>exact ⟨k+1,by omega,by first | rfl | simp,H4.out⟩
  · obtain rfl:n=k:=by omega
    have hd1:decide ((n:Int)<(n:Nat))=false:=by simp
    have e:xs.take n=xs:=List.take_of_length_le (by rw [←PP.out.1];omega)
    rw [e] at HL;rw [←OV.out.1,←OV.out.2] at HL;obtain ⟨p,q,BV,NV⟩:=HL.out.1;unfold laC at BV;simp only at BV;obtain ⟨⟨v0,v1,v2⟩,v3,v4,v5,v6,v7,v8⟩:=BV.facts9;have hB2:=HL.out.2.1;obtain ⟨⟨y0,y1,y2⟩,y3,y4,y5,y6,y7,y8⟩:=hB2.facts9;have f0:=hB2.frozen 0;have f1:=hB2.frozen 1;have f2:=hB2.frozen 2;have f3:=hB2.frozen 3;have f4:=hB2.frozen 4;have f5:=hB2.frozen 5;have f6:=hB2.frozen 6;have f7:=hB2.frozen 7;have f8:=hB2.frozen 8
    have HF:Aside (Bl (st9 wr g2 (.bool (dN ov)) (.slice p (ws (dX ov)).length q) (.int .i64 (dE ov)) (.int .i64 fn) (.int .i64 fu) (.int .i64 fd) (.int .i64 fm) (.int .i64 fp) (.int .i64 fa)) g2 63 [.bool (dN ov),.slice p (ws (dX ov)).length q,.int .i64 (dE ov),.int .i64 fn,.int .i64 fu,.int .i64 fd,.int .i64 fm,.int .i64 fp,.int .i64 fa]∧Nt 0 (st9 wr g2 (.bool (dN ov)) (.slice p (ws (dX ov)).length q) (.int .i64 (dE ov)) (.int .i64 fn) (.int .i64 fu) (.int .i64 fd) (.int .i64 fm) (.int .i64 fp) (.int .i64 fa)) (.slice p (ws (dX ov)).length q) (dX ov)∧Below w.heap.size w (st9 wr g2 (.bool (dN ov)) (.slice p (ws (dX ov)).length q) (.int .i64 (dE ov)) (.int .i64 fn) (.int .i64 fu) (.int .i64 fd) (.int .i64 fm) (.int .i64 fp) (.int .i64 fa))) :=
     ⟨hB2.st9 _ _ _ _ _ _ _ _ _,NV.offA hB2 (by decide) (st9_but _ _ _ _ _ _ _ _ _ _ _),But.below HL.out.2.2.1 (st9_but _ _ _ _ _ _ _ _ _ _ _) HL.out.2.2.1.size HL.out.2.2.2⟩
    unfold st9 at HF;clear BV NV hB2 e HL OV;go_wp2;obtain ⟨⟨t0,t1,t2⟩,t3,t4,t5,t6,t7,t8⟩:=HF.out.1.facts9;exact bodyPost_ret (v:=.agg #[.bool (dN ov),.slice p (ws (dX ov)).length q,.int .i64 (dE ov),.int .i64 fn,.int .i64 fu,.int .i64 fd,.int .i64 fm,.int .i64 fp,.int .i64 fa]) (by simp [results,Tryz.results36,go_sem,t0,t1,t2,t3,t4,t5,t6,t7,t8]) rfl ⟨⟨p,q,rfl,HF.out.2.1⟩,HF.out.2.2⟩
end
section
open Go.RowKit J
attribute [local go_sem] st_float
theorem Fm.al13 {w:World}{p:Option Addr}{c:Nat}{o:Option (Bool×Nat×Int)}(F:Fm o) (N:Nt 0 w (.slice p (ws (dX o)).length c) (dX o)):Al w (.slice p (ws (dX o)).length c) (dX o):=⟨p,_,c,ws (dX o),rfl,F.a12 N,val_ws _,Nat.le_trans F.len (by decide)⟩
theorem no13 (e:Int) (w:World):Calls Tryz.prog 35 #[.int .i64 e] w fun r w'=>r=.returned (.tuple #[.float .f64 0,.int .i64 e])∧w'=w:=by
 have H:=hid (rOf10z w);go_enter Tryz.func35,Tryz.ntmps35
 go_wp2_with fail
 refine H.out.mono ?_;rintro r v ⟨rfl,hv⟩;rw [hv];clear hv v H;go_wp2;exact bodyPost_ret (v:=.tuple #[.float .f64 0,.int .i64 e]) (by simp [results,Tryz.results35,go_sem]) rfl ⟨rfl,rfl⟩
theorem cls_fin {x:Nat}(hx:x<18446744073709551616):(finW x→clW x≤2)∧(¬ finW x→2<clW x):=by
 constructor
 · intro fx
   rcases (fin_parts hx fx).2.2.2 with q|q <;> omega
 · intro nx
   rcases Nat.lt_trichotomy 9218868437227405312 (magW x) with h|h|h
   · rw [cl_nan h];decide
   · rw [(cl_inf h.symm).1];decide
   · exact absurd h nx
theorem rClass13 {x:Nat}(hx:x<18446744073709551616) (w:World):Calls Tryz.prog 89 #[.float .f64 x] w fun r w'=>r=.returned (.int .i64 (clW x))∧Below w.heap.size w w':=by
 obtain ⟨h1,h2,h3⟩:=bw_parts x hx;have:=B.rClass_any (sW x) (eW x) (fW x) h2 h3 w;rw [←h1] at this;exact this
theorem rFinite13 (xs:List Nat) (a:Option Addr) (n c:Nat) (w:World) (hn:n=xs.length) (hF:Fs w.heap.size w a xs) (hW:W64 xs) (hl:n≤35184372088832) (t:Bool) (ht:t=true↔∀ x ∈ xs,finW x) :
 Calls Tryz.prog 47 #[.slice a n c] w fun r w'=>r=.returned (.bool t)∧Below w.heap.size w w':=by
 have HX:=(qsd (ai hn (ai hF (ai hW ht))));clear hn hF hW ht;go_enter Tryz.func47,Tryz.ntmps47;go_wp2
 go_loopg [3] n (fun gk i wr=>∃ k:Nat,gk+k=n∧i=.int .i64 (k:Nat)∧Aside (Below w.heap.size w wr∧∀ j,j<k→finW (xs.getD j 0)))
 case atStart=>exact ⟨0,by omega,by simp,Below.refl _ _,fun j hj=>absurd hj (by omega)⟩
 case round =>
  obtain ⟨k,hgk,rfl,HA⟩:=hrel
  by_cases hk:k<n
  · obtain ⟨b,off,rfl,hc⟩:=HX.out.2.1.at HA.out.1 k (by rw [←HX.out.1];exact hk)
    obtain ⟨x,hx⟩:∃ x,x=xs.getD k 0:=⟨_,rfl⟩;rw [←hx] at hc;have hx64:x<18446744073709551616:=by rw [hx];exact HX.out.2.2.1.get k
    have C:=hid (rClass13 hx64 wr);obtain ⟨f1,f2⟩:=cls_fin hx64;obtain ⟨cl,hcl⟩:∃ c,clW x=c:=⟨_,rfl⟩;rw [hcl] at C f1 f2;have HF:=(qsd (ai f1 (ai f2 hx)));clear hx hcl f1 f2 hx64;have hkb:k<4611686018427387904:=by omega
    have hd:decide ((k:Int)<n)=true:=by simp;omega
    go_wp2_with fail
    refine C.out.mono ?_;rintro r v ⟨rfl,hb⟩;have HB:=qsd (HA.out.1.trans (hb.mono HA.out.1.size));clear hb C hc
    by_cases hc2:2<cl
    · have d1:decide (2<cl)=true:=decide_eq_true hc2
      have hnf:¬ finW x:=fun h=>by have:=HF.out.1 h;omega
      have HT:Aside (t=false):=by
       cases ht:t with
       | false=>rfl
       | true =>
         exfalso
         have:=HX.out.2.2.2.1 ht (xs.getD k 0) (by rw [List.getD_eq_getElem?_getD,List.getElem?_eq_getElem (show k<xs.length by rw [←HX.out.1];exact hk)];exact List.getElem_mem _)
         rw [←HF.out.2.2] at this;exact hnf this
      clear hnf;go_wp2;go_ret;exact ⟨by rw [HT.out];rfl,HB.out⟩
    · have d1:decide (2<cl)=false:=decide_eq_false hc2
      have hf:Aside (finW x):=by
       by_cases h:finW x
       · exact h
       · exact absurd (HF.out.2.1 h) hc2
      go_wp2
      go_roundg (gk-1)
      case measure=>omega
      case rel =>
       refine ⟨k+1,by omega,by first | rfl | simp,HB.out,fun j hj=>?_⟩
       by_cases e:j=k
       · subst e;rw [←HF.out.2.2];exact hf.out
       · exact HA.out.2 j (by omega)
  · obtain rfl:n=k:=by omega
    have hd:decide ((n:Int)<n)=false:=by simp
    have HT:Aside (t=true):=by
     refine HX.out.2.2.2.2 fun x hx=>?_
     obtain ⟨j,hj,rfl⟩:=List.mem_iff_getElem.1 hx;have:=HA.out.2 j (by rw [HX.out.1];exact hj)
     rw [List.getD_eq_getElem?_getD,List.getElem?_eq_getElem hj] at this
     exact this
    go_wp2;go_ret;exact ⟨by rw [HT.out];rfl,HA.out.1⟩
noncomputable def toR (V:Int) (n:Nat) (s:Sp) (mode:Int):Nat×Int:=if V=0 then (nt (snd s.n s.u s.d s.m s.p s.a) s.n s.u s.d s.m s.p s.a mode,0) else qnR V n mode
theorem lev_to {xs:List Nat}(hne:xs≠[]) (s:Sp) (mode:Int):levR xs s mode=toR (vS xs) xs.length s mode:=by unfold levR toR;rw [if_neg hne]
theorem rTold13 (V:Int) (p:Option Addr) (q n:Nat) (sn su sd sm sp sa mode:Int) (w:World) (k:Nat) (hk:k≤90000) (hb:V.natAbs<2^k) (hN:Nt 0 w (.slice p (ws (dX (exV V))).length q) (dX (exV V))) (hn:n≤1099511627776) (z:Nat×Int) (hz:toR V n ⟨sn,su,sd,sm,sp,sa⟩ mode=z) :
 Calls Tryz.prog 39 #[.agg #[.bool (dN (exV V)),.slice p (ws (dX (exV V))).length q,.int .i64 (dE (exV V))],.int .i64 (n:Nat),.agg #[.int .i64 sn,.int .i64 su,.int .i64 sd,.int .i64 sm,.int .i64 sp,.int .i64 sa],.int .i64 mode] w fun r w'=>r=.returned (.tuple #[.float .f64 z.1,.int .i64 z.2])∧Below w.heap.size w w':=by
 obtain ⟨X,E⟩:=z;simp only;unfold toR at hz;have Fv:=qsd (ex_fm V k (by omega) hb)
 have hl0:(V=0→(ws (dX (exV V))).length=0)∧(V≠0→(ws (dX (exV V))).length≠0):=by
  constructor
  · rintro rfl;rw [ex_zero];exact len00
  · intro h
    obtain ⟨X,e,ho,hX,_⟩:=ex_parts13 h k hk hb;rw [ho];intro h2;have:ws X=[]:=List.eq_nil_of_length_eq_zero h2;have h3:=val_ws X;rw [this] at h3;simp [val] at h3;omega
 obtain ⟨ov,hov⟩:∃ o,exV V=o:=⟨_,rfl⟩;rw [hov] at hN Fv hl0 ⊢;obtain ⟨W,hWW⟩:∃ W,W=(w.alloc (Obj.cells #[.bool (dN ov),.slice p (ws (dX ov)).length q,.int .i64 (dE ov)] 41)).alloc (Obj.cells #[.int .i64 sn,.int .i64 su,.int .i64 sd,.int .i64 sm,.int .i64 sp,.int .i64 sa] 51):=⟨_,rfl⟩
 have B0:Aside (Dk W w.heap.size (dN ov) (.slice p (ws (dX ov)).length q) (dE ov)∧Bl W (w.heap.size+1) 51 [.int .i64 sn,.int .i64 su,.int .i64 sd,.int .i64 sm,.int .i64 sp,.int .i64 sa]∧Below w.heap.size w W∧Nt 0 W (.slice p (ws (dX ov)).length q) (dX ov)):=by
  rw [hWW];have z2:=Bl.new (w.alloc (Obj.cells #[.bool (dN ov),.slice p (ws (dX ov)).length q,.int .i64 (dE ov)] 41)) 51 [.int .i64 sn,.int .i64 su,.int .i64 sd,.int .i64 sm,.int .i64 sp,.int .i64 sa];rw [World.size_alloc] at z2;exact ⟨(Dk.new w _ _ _).below (below_alloc _ _),z2,(below_alloc _ _).trans ((below_alloc _ _).mono (by simp)),(hN.below (below_alloc _ _)).below (below_alloc _ _)⟩
 obtain ⟨gd,hgd⟩:∃ g,w.heap.size=g:=⟨_,rfl⟩;obtain ⟨gs,hgs⟩:∃ g,w.heap.size+1=g:=⟨_,rfl⟩;have HG:=(qsd (ai hgd hgs));rw [hgs] at B0;have B1:Aside (Dk W gd (dN ov) (.slice p (ws (dX ov)).length q) (dE ov)):=by rw [←hgd];exact B0.out.1
 have HWW:=qsd hWW;have HL0:=qsd hl0;obtain ⟨y0,y1,y2,yf0,yf1,yf2⟩:=B1.out.facts;clear hN hWW hgd hgs hl0 hb hk;go_enter Tryz.func39,Tryz.ntmps39
 go_upto_region 1 with fail
 rw [←HWW.out,HG.out.2,HG.out.1];clear HWW
 by_cases hv0:V=0
 · rw [if_pos hv0] at hz
   obtain ⟨hX,hE⟩:=Prod.mk.inj hz;have hl:=HL0.out.1 hv0;have hl2:(((ws (dX ov)).length:Int)==0)=true:=by rw [hl];rfl
   have HNo:=hid (fun u:World=>rNought_any sn su sd sm sp sa mode u)
   rw [hX] at HNo;subst hE;have q0:=B0.out.2.1.cell 0 _ rfl;have q1:=B0.out.2.1.cell 1 _ rfl;have q2:=B0.out.2.1.cell 2 _ rfl;have q3:=B0.out.2.1.cell 3 _ rfl;have q4:=B0.out.2.1.cell 4 _ rfl;have q5:=B0.out.2.1.cell 5 _ rfl;obtain ⟨ln,hln⟩:∃ l,(ws (dX ov)).length=l:=⟨_,rfl⟩;rw [hln] at y1 hl hl2 ⊢;subst hl;clear hX hz HL0 hv0 hln
   go_wp2_with fail
   refine (HNo.out _).mono ?_;rintro r u2 ⟨rfl,hb⟩;have B3:=qsd (B0.out.2.2.1.trans (hb.mono B0.out.2.2.1.size));clear hb HNo q0 q1 q2 q3 q4 q5;go_wp2;exact bodyPost_ret (v:=.tuple #[.float .f64 X,.int .i64 0]) (by simp [results,Tryz.results39,go_sem]) rfl ⟨rfl,B3.out⟩
 · rw [if_neg hv0] at hz
   have hl:=HL0.out.2 hv0;have hl2:(((ws (dX ov)).length:Int)==0)=false:=by rw [beq_eq_false_iff_ne];omega
   have hnN:n<2^41:=by omega
   have F1:=qsd (int_fm n hnN)
   have HI:Hid (∀ u:World,Calls Tryz.prog 60 #[.int .i64 (n:Nat)] u fun r w'=>(∃ v,r=.returned (.agg #[.bool (dN (mkS false n 0)),v,.int .i64 (dE (mkS false n 0))])∧Nt u.heap.size w' v (dX (mkS false n 0)))∧Below u.heap.size u w'):=fun u=>by
    have:=rInt_any (n:Nat) u (by omega) (by omega)
    rw [decide_eq_false (by omega),Int.natAbs_natCast] at this
    exact this
   have HR:Hid (∀ (u:World) (p q:Option Addr) (cp cq:Nat),Nt 0 u (.slice p (ws (dX ov)).length cp) (dX ov)→Nt 0 u (.slice q (ws (dX (mkS false n 0))).length cq) (dX (mkS false n 0))→Calls Tryz.prog 52 #[.agg #[.bool (dN ov),.slice p (ws (dX ov)).length cp,.int .i64 (dE ov),.bool (dN (mkS false n 0)),.slice q (ws (dX (mkS false n 0))).length cq,.int .i64 (dE (mkS false n 0))],.int .i64 mode] u fun r w'=>r=.returned (.tuple #[.float .f64 X,.int .i64 E])∧Below u.heap.size u w'):=fun u p q cp cq n1 n2=>by
    have:=docQuot (w:=u) mode (Fv.out.al13 n1) (F1.out.al13 n2) Fv.out.rng (n:=dN ov) (m:=dN (mkS false n 0)) (f:=dE (mkS false n 0)) F1.out.rng;rw [show quoR rndS ⟨dN ov,.slice p (ws (dX ov)).length cp,dX ov,dE ov,dN (mkS false n 0),.slice q (ws (dX (mkS false n 0))).length cq,dX (mkS false n 0),dE (mkS false n 0)⟩ mode=(X,E) from (by rw [←hov,←hz];rfl)] at this
    exact this
   obtain ⟨ow,how⟩:∃ o,mkS false n 0=o:=⟨_,rfl⟩;rw [how] at HR HI F1;clear hz how hov hv0 hnN HL0 hl
   go_upto_region 3 with fail
   have hdr:=(Below.refl W.heap.size W).drew;have BD:=qsd (ai (B0.out.2.2.1.trans (hdr.mono B0.out.2.2.1.size)) (ai (B1.out.below hdr) (B0.out.2.2.2.below hdr)));clear hdr B0 B1 y0 y1 y2 yf0 yf1 yf2;have kS:=qsd (ai BD.out.2.1.facts.1 (ai BD.out.2.1.facts.2.1 BD.out.2.1.facts.2.2.1))
   go_region_held3 (fun w'=>w'.cell? ⟨gd,0,none⟩=some (.bool (dN ov))∧w'.cell? ⟨gd,1,none⟩=some (.slice p (ws (dX ov)).length q)∧w'.cell? ⟨gd,2,none⟩=some (.int .i64 (dE ov))) (with_reducible exact kS.out) (first
    | (go_at_call 52
       with_reducible refine (HR.out _ p a2 q c2 BD.out.2.2 Q2.out).mono ?_
       rintro r v ⟨rfl,hb⟩;have BD:=qsd (ai (BD.out.1.trans (hb.mono BD.out.1.size)) (ai (BD.out.2.1.below hb) (BD.out.2.2.below hb)));have kS:=qsd (ai BD.out.2.1.facts.1 (ai BD.out.2.1.facts.2.1 BD.out.2.1.facts.2.2.1));clear hb)
    | (go_at_call 60
       with_reducible refine (HI.out _).mono ?_
       rintro r v ⟨⟨pp,rfl,hN⟩,hb⟩;obtain ⟨a2,c2,rfl,hN0⟩:=Lo.shape F1.out hN;have BD:=qsd (ai (BD.out.1.trans (hb.mono BD.out.1.size)) (ai (BD.out.2.1.below hb) (BD.out.2.2.below hb)));have Q2:=qsd hN0;have kS:=qsd (ai BD.out.2.1.facts.1 (ai BD.out.2.1.facts.2.1 BD.out.2.1.facts.2.2.1));clear hb hN hN0))
   clear kS Q2 HR HI;go_wp2;exact bodyPost_ret (v:=.tuple #[.float .f64 X,.int .i64 E]) (by simp [results,Tryz.results39,go_sem]) rfl ⟨rfl,BD.out.1⟩
end
section
open Go.RowKit J
attribute [local go_sem] st_float
def plE (xs:List Nat):Int:=if 65536<xs.length then 2 else if 0<(sS xs).n∨0<(sS xs).u+(sS xs).d then 30 else 0
theorem sf22 (xs:List Nat):(sfE 2 2 xs=0∧plE xs=0)∨(sfE 2 2 xs=2∧plE xs=2)∨((sfE 2 2 xs=60∨sfE 2 2 xs=61)∧plE xs=30):=by
 have hm:may 2 2=true:=by decide
 unfold sfE plE Ps.rf;rw [hm,if_neg (by decide)]
 by_cases hl:65536<xs.length
 · rw [if_pos hl,if_pos hl];exact .inr (.inl ⟨rfl,rfl⟩)
 · rw [if_neg hl,if_neg hl]
   by_cases h1:0<(sS xs).n
   · rw [if_pos ⟨h1,rfl⟩,if_pos (.inl h1)];exact .inr (.inr ⟨.inl rfl,rfl⟩)
   · rw [if_neg (fun h=>h1 h.1)]
     by_cases h2:0<(sS xs).u+(sS xs).d
     · rw [if_pos ⟨h2,rfl⟩,if_pos (.inr h2)];exact .inr (.inr ⟨.inr rfl,rfl⟩)
     · rw [if_neg (fun h=>h2 h.1),if_neg (by omega)];exact .inl ⟨rfl,rfl⟩
theorem close6 {fn:Func}{p q:Tmp}(hfn:fn.results=#[.cell p 51,.tmp q]) {tmps:Array Value}{w:World}{g:Nat}{t1 t2 t3 t4 t5 t6 e:Int}{R:Ending→World→Prop}
 (h1:tmps.getD p undef=.pointer (some ⟨g,0,none⟩)) (h2:tmps.getD q undef=.int .i64 e) (hB:Bl w g 51 [.int .i64 t1,.int .i64 t2,.int .i64 t3,.int .i64 t4,.int .i64 t5,.int .i64 t6])
 (hR:R (.returned (.tuple #[.agg #[.int .i64 t1,.int .i64 t2,.int .i64 t3,.int .i64 t4,.int .i64 t5,.int .i64 t6],.int .i64 e])) w) :
 bodyPost Tryz.prog fn R .ret ⟨tmps,[]⟩ w:=by
 have c0:=hB.cell 0 _ rfl;have c1:=hB.cell 1 _ rfl;have c2:=hB.cell 2 _ rfl;have c3:=hB.cell 3 _ rfl;have c4:=hB.cell 4 _ rfl;have c5:=hB.cell 5 _ rfl;rw [Array.getD_eq_getD_getElem?] at h1 h2;exact bodyPost_ret (v:=.tuple #[.agg #[.int .i64 t1,.int .i64 t2,.int .i64 t3,.int .i64 t4,.int .i64 t5,.int .i64 t6],.int .i64 e]) (by simp [results,hfn,go_sem,Ps.csetm,h1,h2,c0,c1,c2,c3,c4,c5]) rfl hR
theorem plain13 (xs:List Nat) (a:Option Addr) (n c:Nat) (w:World) (hn:n=xs.length) (hF:Fs w.heap.size w a xs) (hW:W64 xs) (hl:n≤35184372088832) :
 Calls Tryz.prog 54 #[.slice a n c] w fun r w'=>((plE xs≠0∧r=.returned (.tuple #[agg0,.int .i64 (plE xs)]))∨(plE xs=0∧r=.returned (.tuple #[(sS xs).agg,.int .i64 0])))∧Below w.heap.size w w':=by
 obtain ⟨W,hWW⟩:∃ W,W=w.alloc (Obj.cells #[.int .i64 0,.int .i64 0,.int .i64 0,.int .i64 0,.int .i64 0,.int .i64 0] 51):=⟨_,rfl⟩
 have B0:Aside (Bl W w.heap.size 51 [.int .i64 0,.int .i64 0,.int .i64 0,.int .i64 0,.int .i64 0,.int .i64 0]∧Below w.heap.size w W):=by
  rw [hWW];exact ⟨Bl.new _ 51 [_,_,_,_,_,_],bel_alloc _ _⟩
 have HS:=hid (Sift13 xs a n c 2 2 W hn hl ((hF.below B0.out.2).mono B0.out.2.size) hW);have hsf:=sf22 xs;obtain ⟨es,hes⟩:∃ e,sfE 2 2 xs=e:=⟨_,rfl⟩;obtain ⟨ep,hep⟩:∃ e,plE xs=e:=⟨_,rfl⟩;obtain ⟨⟨sn,su,sd,sm,sp,sa⟩,hs⟩:∃ s,sS xs=s:=⟨_,rfl⟩;obtain ⟨fl,hfl⟩:∃ f,Ps.fin xs=f:=⟨_,rfl⟩;rw [hs,hes,hfl] at HS;rw [hes,hep] at hsf;rw [hep,hs];simp only [Sp.agg] at HS ⊢;have HSF:=qsd hsf;have HWW:=qsd hWW;clear hn hF hW hl hWW hes hep hs hfl hsf;go_enter Tryz.func54,Tryz.ntmps54
 go_wp2_with fail
 rw [←HWW.out];clear HWW;refine HS.out.mono ?_;rintro r v ⟨hr,hb⟩;have B1:Aside (Bl v w.heap.size 51 [.int .i64 0,.int .i64 0,.int .i64 0,.int .i64 0,.int .i64 0,.int .i64 0]∧Below w.heap.size w v):=⟨B0.out.1.below hb B0.out.1.lt,B0.out.2.trans (hb.mono B0.out.2.size)⟩
 have BU:Aside (∀ (t1 t2 t3 t4 t5 t6:Int) (U:World),U=v.alloc (Obj.cells #[.int .i64 t1,.int .i64 t2,.int .i64 t3,.int .i64 t4,.int .i64 t5,.int .i64 t6] 51) →
  Bl U w.heap.size 51 [.int .i64 0,.int .i64 0,.int .i64 0,.int .i64 0,.int .i64 0,.int .i64 0]∧Bl U v.heap.size 51 [.int .i64 t1,.int .i64 t2,.int .i64 t3,.int .i64 t4,.int .i64 t5,.int .i64 t6]∧Below w.heap.size w U∧w.heap.size<v.heap.size):=by
  intro t1 t2 t3 t4 t5 t6 U hU;rw [hU];exact ⟨B1.out.1.alloc _,Bl.new _ 51 [_,_,_,_,_,_],B1.out.2.trans ((bel_alloc _ _).mono B1.out.2.size),B1.out.1.lt⟩
 clear hb B0 HS
 rcases hr with ⟨he,a',c',rfl⟩|⟨he,a',c',rfl,hF',hlo⟩
 · unfold agg0
   obtain ⟨U,hU⟩:∃ U,U=v.alloc (Obj.cells #[.int .i64 0,.int .i64 0,.int .i64 0,.int .i64 0,.int .i64 0,.int .i64 0] 51):=⟨_,rfl⟩;obtain ⟨u1,u2,u3,u4⟩:=BU.out _ _ _ _ _ _ _ hU;obtain ⟨gs,hgs⟩:∃ g,v.heap.size=g:=⟨_,rfl⟩;rw [hgs] at u2 u4;have B3:=(qsd (ai u1 (ai u2 (ai u3 u4))));have s0:=u2.cell 0 _ rfl;have s1:=u2.cell 1 _ rfl;have s2:=u2.cell 2 _ rfl;have s3:=u2.cell 3 _ rfl;have s4:=u2.cell 4 _ rfl;have s5:=u2.cell 5 _ rfl;have z0:=u1.cell 0 _ rfl;have z1:=u1.cell 1 _ rfl;have z2:=u1.cell 2 _ rfl;have z3:=u1.cell 3 _ rfl;have z4:=u1.cell 4 _ rfl;have z5:=u1.cell 5 _ rfl;have y0:=u1.frozen 0;have y1:=u1.frozen 1;have y2:=u1.frozen 2;have y3:=u1.frozen 3;have y4:=u1.frozen 4;have y5:=u1.frozen 5;have HGS:=qsd hgs;have HU:=qsd hU;clear u1 u2 u3 u4 hU BU hgs
   go_upto_region 2 with fail
   rw [←HU.out,HGS.out];clear HU HGS;obtain ⟨h1,h2⟩|⟨h1,h2⟩|⟨h1|h1,h2⟩:=HSF.out
   · exact absurd h1 he
   all_goals
    subst h1 h2;clear he HSF;go_wp2;refine close6 Tryz.results54 ?_ ?_ ((((((B3.out.1.set 0 _).set 1 _).set 2 _).set 3 _).set 4 _).set 5 _) ⟨by first | exact .inl ⟨by decide,rfl⟩ | rfl,?_⟩
    · rfl
    · rfl
    · exact But.below B3.out.2.2.1 (Ps.But.set6 (But.refl w.heap.size _) _ _ _ _ _ _) B3.out.2.2.1.size (Nat.le_refl _)
 · subst he
   obtain rfl:ep=0:=by rcases HSF.out with ⟨h1,h2⟩|⟨h1,h2⟩|⟨h1|h1,h2⟩ <;> omega
   obtain ⟨U,hU⟩:∃ U,U=v.alloc (Obj.cells #[.int .i64 sn,.int .i64 su,.int .i64 sd,.int .i64 sm,.int .i64 sp,.int .i64 sa] 51):=⟨_,rfl⟩;obtain ⟨u1,u2,u3,u4⟩:=BU.out _ _ _ _ _ _ _ hU;obtain ⟨gs,hgs⟩:∃ g,v.heap.size=g:=⟨_,rfl⟩;rw [hgs] at u2 u4;have B3:=(qsd (ai u1 (ai u2 (ai u3 u4))));have s0:=u2.cell 0 _ rfl;have s1:=u2.cell 1 _ rfl;have s2:=u2.cell 2 _ rfl;have s3:=u2.cell 3 _ rfl;have s4:=u2.cell 4 _ rfl;have s5:=u2.cell 5 _ rfl;have z0:=u1.cell 0 _ rfl;have z1:=u1.cell 1 _ rfl;have z2:=u1.cell 2 _ rfl;have z3:=u1.cell 3 _ rfl;have z4:=u1.cell 4 _ rfl;have z5:=u1.cell 5 _ rfl;have y0:=u1.frozen 0;have y1:=u1.frozen 1;have y2:=u1.frozen 2;have y3:=u1.frozen 3;have y4:=u1.frozen 4;have y5:=u1.frozen 5;have HGS:=qsd hgs;have HU:=qsd hU;clear u1 u2 u3 u4 hU BU hgs hF' hlo
   go_upto_region 2 with fail
   rw [←HU.out,HGS.out];clear HU HGS HSF;go_wp2;refine close6 Tryz.results54 ?_ ?_ ((((((B3.out.1.set 0 _).set 1 _).set 2 _).set 3 _).set 4 _).set 5 _) ⟨by first | exact .inr ⟨rfl,rfl⟩ | rfl,?_⟩
   · rfl
   · rfl
   · exact But.below B3.out.2.2.1 (Ps.But.set6 (But.refl w.heap.size _) _ _ _ _ _ _) B3.out.2.2.1.size (Nat.le_refl _)
end
section
open Go.RowKit J
attribute [local go_sem] st_float
abbrev ClD (f:FuncId):Prop:=∀ (gx ge x:Nat) (e:Int) (w:World),w.cell? ⟨gx,0,none⟩=some (.float .f64 x)→w.cell? ⟨ge,0,none⟩=some (.int .i64 e)→w.frozen? ⟨gx,0,none⟩=false→∀ (u:FrameMode),
 CallsD Tryz.prog f #[.pointer (some ⟨ge,0,none⟩),.pointer (some ⟨gx,0,none⟩)] u w fun r u' w'=>u'=u∧(r=.returned (.tuple #[])∧w'=w.setCell ⟨gx,0,none⟩ (.float .f64 (bsd e x)))
theorem early13 {fn:Func}{f:FuncId}{px pe:Tmp}(hres:fn.results=#[.cell px 24,.cell pe 25]) (HC:ClD f) {tmps:Array Value}{gx ge x X:Nat}{e E:Int}{w v:World}
 (b1:Bl v gx 24 [.float .f64 x]) (b2:Bl v ge 25 [.int .i64 e]) (hb:Below w.heap.size w v) (hgx:w.heap.size≤gx) (hne:ge≠gx) (hX:bsd e x=X) (hE:e=E)
 (hi:(callFunc f #[.pointer (some ⟨ge,0,none⟩),.pointer (some ⟨gx,0,none⟩)]).run Tryz.prog v=.ok (.enter f #[.pointer (some ⟨ge,0,none⟩),.pointer (some ⟨gx,0,none⟩)]) v)
 (h1:tmps.getD px undef=.pointer (some ⟨gx,0,none⟩)) (h2:tmps.getD pe undef=.pointer (some ⟨ge,0,none⟩)) :
 Leaves Tryz.prog fn tmps (fun r w'=>r=.returned (.tuple #[.float .f64 X,.int .i64 E])∧Below w.heap.size w w') [{ target:=.fn (.func f) #[.pointer (some ⟨ge,0,none⟩),.pointer (some ⟨gx,0,none⟩)],args:=#[] }] .returning v:=by
 subst hX hE;refine door13 hres hi (HC gx ge x e v (b1.cell 0 _ rfl) (b2.cell 0 _ rfl) (b1.frozen 0)) h1 h2 (b1.cell 0 _ rfl) (b2.cell 0 _ rfl) hne ?_;have kb:But gx v (v.setCell ⟨gx,0,none⟩ (.float .f64 (bsd e x))):=(But.refl gx _).set 0 _;exact ⟨rfl,But.below hb kb hb.size hgx⟩
theorem finish13 {fn:Func}{f:FuncId}{px pe:Tmp}(hres:fn.results=#[.cell px 24,.cell pe 25]) (HC:ClD f) {tmps:Array Value}{gx ge x0 x X:Nat}{e0 e E:Int}{w v:World}
 (b1:Bl v gx 24 [.float .f64 x0]) (b2:Bl v ge 25 [.int .i64 e0]) (hb:Below w.heap.size w v) (hgx:w.heap.size≤gx) (hge:w.heap.size≤ge) (hne:ge≠gx) (hX:bsd e x=X) (hE:e=E)
 (hi:∀ v:World,(callFunc f #[.pointer (some ⟨ge,0,none⟩),.pointer (some ⟨gx,0,none⟩)]).run Tryz.prog v=.ok (.enter f #[.pointer (some ⟨ge,0,none⟩),.pointer (some ⟨gx,0,none⟩)]) v)
 (h1:tmps.getD px undef=.pointer (some ⟨gx,0,none⟩)) (h2:tmps.getD pe undef=.pointer (some ⟨ge,0,none⟩)) :
 Leaves Tryz.prog fn tmps (fun r w'=>r=.returned (.tuple #[.float .f64 X,.int .i64 E])∧Below w.heap.size w w') [{ target:=.fn (.func f) #[.pointer (some ⟨ge,0,none⟩),.pointer (some ⟨gx,0,none⟩)],args:=#[] }] .returning ((v.setCell ⟨gx,0,none⟩ (.float .f64 x)).setCell ⟨ge,0,none⟩ (.int .i64 e)):=by
 have bt:But gx v (v.setCell ⟨gx,0,none⟩ (.float .f64 x)):=(But.refl _ _).set 0 _;have be:But ge (v.setCell ⟨gx,0,none⟩ (.float .f64 x)) ((v.setCell ⟨gx,0,none⟩ (.float .f64 x)).setCell ⟨ge,0,none⟩ (.int .i64 e)):=(But.refl _ _).set 0 _;have k0:=But.below hb bt hb.size hgx;exact early13 hres HC ((b1.set 0 (.float .f64 x)).but be (fun h=>hne h.symm)) ((b2.but bt hne).set 0 (.int .i64 e)) (But.below k0 be k0.size hge) hgx hne hX hE (hi _) h1 h2
theorem two13 (w:World):Bl ((w.alloc (Obj.cells #[.float .f64 0] 24)).alloc (Obj.cells #[.int .i64 0] 25)) w.heap.size 24 [.float .f64 0]∧Bl ((w.alloc (Obj.cells #[.float .f64 0] 24)).alloc (Obj.cells #[.int .i64 0] 25)) (w.heap.size+1) 25 [.int .i64 0]∧Below w.heap.size w ((w.alloc (Obj.cells #[.float .f64 0] 24)).alloc (Obj.cells #[.int .i64 0] 25)):=by
 have z2:=Bl.new (w.alloc (Obj.cells #[.float .f64 0] 24)) 25 [.int .i64 0];rw [World.size_alloc] at z2;exact ⟨(Bl.new w 24 [_]).below (bel_alloc _ _) (by simp),z2,(bel_alloc _ _).trans ((bel_alloc _ _).mono (by simp))⟩
theorem seterr13 {w v:World}{gx ge x:Nat}{e0:Int}(e:Int) (b1:Bl v gx 24 [.float .f64 x]) (b2:Bl v ge 25 [.int .i64 e0]) (hb:Below w.heap.size w v) (hge:w.heap.size≤ge) (hne:ge≠gx) :
 Bl (v.setCell ⟨ge,0,none⟩ (.int .i64 e)) gx 24 [.float .f64 x]∧Bl (v.setCell ⟨ge,0,none⟩ (.int .i64 e)) ge 25 [.int .i64 e]∧Below w.heap.size w (v.setCell ⟨ge,0,none⟩ (.int .i64 e)):=by
 have be:But ge v (v.setCell ⟨ge,0,none⟩ (.int .i64 e)):=(But.refl _ _).set 0 _;exact ⟨b1.but be (fun h=>hne h.symm),b2.set 0 _,But.below hb be hb.size hge⟩
theorem stored13 {w v:World}{gx ge x:Nat}{e0:Int}{ao:Option Addr}{xs:List Nat}(b1:Bl v gx 24 [.float .f64 x]) (b2:Bl v ge 25 [.int .i64 e0]) (hb:Below w.heap.size w v) (hge:w.heap.size≤ge) (hne:ge≠gx) (hT:Tab w) (hF:Fs v.heap.size v ao xs) (hg:∀ b o p,ao=some ⟨b,o,p⟩→b≠ge) (e t1 t2 t3 t4 t5 t6:Int) (Z:World) (hZ:Z=(v.setCell ⟨ge,0,none⟩ (.int .i64 e)).alloc (Obj.cells #[.int .i64 t1,.int .i64 t2,.int .i64 t3,.int .i64 t4,.int .i64 t5,.int .i64 t6] 51)) :
 Bl Z gx 24 [.float .f64 x]∧Bl Z ge 25 [.int .i64 e]∧Bl Z v.heap.size 51 [.int .i64 t1,.int .i64 t2,.int .i64 t3,.int .i64 t4,.int .i64 t5,.int .i64 t6]∧Below w.heap.size w Z∧Tab Z∧Fs Z.heap.size Z ao xs:=by
 obtain ⟨k1,k2,k3⟩:=seterr13 (w:=w) e b1 b2 hb hge hne;have be:But ge v (v.setCell ⟨ge,0,none⟩ (.int .i64 e)):=(But.refl _ _).set 0 _;have hsz:(v.setCell ⟨ge,0,none⟩ (.int .i64 e)).heap.size=v.heap.size:=by simp
 have z1:=Bl.new (v.setCell ⟨ge,0,none⟩ (.int .i64 e)) 51 [.int .i64 t1,.int .i64 t2,.int .i64 t3,.int .i64 t4,.int .i64 t5,.int .i64 t6];rw [hsz] at z1;rw [hZ];have hbb:=k3.trans ((bel_alloc (v.setCell ⟨ge,0,none⟩ (.int .i64 e)) (Obj.cells #[.int .i64 t1,.int .i64 t2,.int .i64 t3,.int .i64 t4,.int .i64 t5,.int .i64 t6] 51)).mono k3.size);exact ⟨k1.alloc _,k2.alloc _,z1,hbb,hT.belows hbb,((hF.but' be hg).below ((bel_alloc _ _).mono (by simp))).mono (by simp)⟩
noncomputable def plnR (xs:List Nat) (mode:Int):Nat×Int:=if plE xs=0 then (bsd (levR xs (sS xs) mode).2 (levR xs (sS xs) mode).1,(levR xs (sS xs) mode).2) else (0,plE xs)
noncomputable def midR (x y:Nat) (mode:Int):Nat×Int:=if askE mode=0 then plnR [x,y] mode else (0,askE mode)
theorem fs_two (w:World) (x y:Nat):Fs (w.alloc (Obj.cells #[.float .f64 x,.float .f64 y] 24)).heap.size (w.alloc (Obj.cells #[.float .f64 x,.float .f64 y] 24)) (some ⟨w.heap.size,0,none⟩) [x,y]:=by
 intro _;refine ⟨w.heap.size,0,by simp,rfl,fun i hi=>?_⟩
 have hB:=Bl.new w 24 [.float .f64 x,.float .f64 y]
 match i,hi with
 | 0,_=>exact hB.cell 0 _ rfl
 | 1,_=>exact hB.cell 1 _ rfl
theorem Middle13 (x y:Nat) (hx:x<18446744073709551616) (hy:y<18446744073709551616) (mode:Int) (w:World) (hT:Tab w) (z:Nat×Int) (hz:midR x y mode=z) :
 Calls Tryz.prog 17 #[.float .f64 x,.float .f64 y,.int .i64 mode] w fun r w'=>r=.returned (.tuple #[.float .f64 z.1,.int .i64 z.2])∧Below w.heap.size w w':=by
 obtain ⟨X,E⟩:=z;simp only;have hmf:∀ (fn:Fn) (first cap:Array Value) (w:World),(Instr.makeFunc fn first cap).run Tryz.prog w=.ok (.func fn first cap) w:=fun _ _ _ _=>rfl
 have HA:=hid (fun u:World=>asked13 mode u)
 unfold midR at hz;obtain ⟨ea,hea⟩:∃ e,askE mode=e:=⟨_,rfl⟩;rw [hea] at HA hz;obtain ⟨W,hWW⟩:∃ W,W=(w.alloc (Obj.cells #[.float .f64 0] 24)).alloc (Obj.cells #[.int .i64 0] 25):=⟨_,rfl⟩;obtain ⟨gx,hgx⟩:∃ g,g=w.heap.size:=⟨_,rfl⟩;obtain ⟨ge,hge⟩:∃ g,g=w.heap.size+1:=⟨_,rfl⟩;have HG:Aside (gx=w.heap.size∧ge=w.heap.size+1∧w.heap.size≤gx∧w.heap.size≤ge∧ge≠gx):=⟨hgx,hge,by omega,by omega,by omega⟩
 have B0:=two13 w;rw [←hWW,←hge] at B0;have B1:=qsd (seterr13 ea (show Bl W gx 24 [.float .f64 0] by rw [hgx];exact B0.1) B0.2.1 B0.2.2 HG.out.2.2.2.1 HG.out.2.2.2.2)
 have c1:=B0.2.1.cell 0 _ rfl;have f1:=B0.2.1.frozen 0;have HWW:=qsd hWW;have HX:=qsd (ai hx (ai hy hT));clear hx hy hT hWW hea hgx hge B0;go_enter_defers Tryz.func17,Tryz.ntmps17
 go_wp2_with fail
 rw [←HWW.out]
 try rw [show w.heap.size+1=ge by have:=HG.out;omega]
 try rw [show w.heap.size=gx by have:=HG.out;omega]
 clear HWW;refine (HA.out _).mono ?_;rintro r v ⟨rfl,hv⟩;rw [hv];clear hv v
 by_cases h0:ea=0
 · subst h0
   rw [if_pos rfl] at hz;obtain ⟨V,hV⟩:∃ V,V=W.setCell ⟨ge,0,none⟩ (.int .i64 0):=⟨_,rfl⟩;rw [←hV] at B1;have r1:=B1.out.2.1.cell 0 _ rfl;obtain ⟨U,hU⟩:∃ U,U=V.alloc (Obj.cells #[.float .f64 x,.float .f64 y] 24):=⟨_,rfl⟩;obtain ⟨ga,hga⟩:∃ g,V.heap.size=g:=⟨_,rfl⟩
   have B2:Aside (Bl U gx 24 [.float .f64 0]∧Bl U ge 25 [.int .i64 0]∧Below w.heap.size w U∧Fs U.heap.size U (some ⟨ga,0,none⟩) [x,y]∧Tab U∧W64 [x,y]):=by
    have hbU:Below w.heap.size w U:=by rw [hU];exact B1.out.2.2.trans ((bel_alloc _ _).mono B1.out.2.2.size)
    refine ⟨by rw [hU];exact B1.out.1.alloc _,by rw [hU];exact B1.out.2.1.alloc _,hbU,by rw [hU,←hga];exact fs_two V x y,HX.out.2.2.belows hbU,?_⟩
    intro q hq;simp at hq
    rcases hq with rfl|rfl
    · exact HX.out.1
    · exact HX.out.2.1
   have HP:=hid (plain13 [x,y] (some ⟨ga,0,none⟩) 2 2 U rfl B2.out.2.2.2.1 B2.out.2.2.2.2.2 (by decide))
   have HW2:=qsd B2.out.2.2.2.2.2;have HGN:Aside (ga≠ge):=by have:=B1.out.2.1.lt;rw [Aside,←hga];omega
   obtain ⟨ep,hep⟩:∃ e,plE [x,y]=e:=⟨_,rfl⟩;obtain ⟨⟨sn,su,sd,sm,sp,sa⟩,hs⟩:∃ s,sS [x,y]=s:=⟨_,rfl⟩;unfold plnR at hz;rw [hep,hs] at HP hz;simp only [Sp.agg] at HP;have HV:=qsd hV;have HU:=qsd hU;have HGA:=qsd hga;clear hV hU hga hep hs HA
   go_upto_region 3 with fail
   rw [←HV.out];clear HV
   go_upto_region 5 with fail
   rw [←HU.out,HGA.out];clear HU HGA
   go_wp2_with fail
   refine HP.out.mono ?_;rintro r v ⟨hr,hb⟩;have B3:Aside (Bl v gx 24 [.float .f64 0]∧Bl v ge 25 [.int .i64 0]∧Below w.heap.size w v∧Fs v.heap.size v (some ⟨ga,0,none⟩) [x,y]∧ga≠ge):=⟨B2.out.1.below hb B2.out.1.lt,B2.out.2.1.below hb B2.out.2.1.lt,B2.out.2.2.1.trans (hb.mono B2.out.2.2.1.size),(B2.out.2.2.2.1.below hb).mono hb.size,HGN.out⟩;have q1:=B3.out.2.1.cell 0 _ rfl;have q2:=B3.out.2.1.frozen 0;have hlt:=B3.out.2.1.lt;have BU:=qsd (stored13 B3.out.1 B3.out.2.1 B3.out.2.2.1 HG.out.2.2.2.1 HG.out.2.2.2.2 HX.out.2.2 B3.out.2.2.2.1 (fun b o p h=>by cases h;exact B3.out.2.2.2.2))
   clear hb HP B2
   rcases hr with ⟨he,rfl⟩|⟨he,rfl⟩
   · unfold agg0
     rw [if_neg he] at hz;have HXE:=qsd (Prod.mk.inj hz);have h1:(ep==0)=false:=by simp [he]
     obtain ⟨Z,hZ⟩:∃ U,U=(v.setCell ⟨ge,0,none⟩ (.int .i64 ep)).alloc (Obj.cells #[.int .i64 0,.int .i64 0,.int .i64 0,.int .i64 0,.int .i64 0,.int .i64 0] 51):=⟨_,rfl⟩;have B4:=qsd (BU.out _ _ _ _ _ _ _ _ hZ);have r1:=B4.out.2.1.cell 0 _ rfl;have HZ:=qsd hZ;clear hZ BU hz
     go_upto_region 6 with fail
     rw [←HZ.out];clear HZ;go_wp2;refine early13 Tryz.results17 Middle1_d B4.out.1 B4.out.2.1 B4.out.2.2.2.1 HG.out.2.2.1 HG.out.2.2.2.2 ((bsd_zero _).trans HXE.out.1) HXE.out.2 (by simp [go_sem]) ?_ ?_ <;> rfl
   · subst he
     rw [if_pos rfl] at hz;obtain ⟨Z,hZ⟩:∃ U,U=(v.setCell ⟨ge,0,none⟩ (.int .i64 0)).alloc (Obj.cells #[.int .i64 sn,.int .i64 su,.int .i64 sd,.int .i64 sm,.int .i64 sp,.int .i64 sa] 51):=⟨_,rfl⟩;have B4:=qsd (BU.out _ _ _ _ _ _ _ _ hZ);obtain ⟨gs,hgs⟩:∃ g,v.heap.size=g:=⟨_,rfl⟩;rw [hgs] at B4;have r1:=B4.out.2.1.cell 0 _ rfl;have s0:=B4.out.2.2.1.cell 0 _ rfl;have s1:=B4.out.2.2.1.cell 1 _ rfl;have s2:=B4.out.2.2.1.cell 2 _ rfl;have s3:=B4.out.2.2.1.cell 3 _ rfl;have s4:=B4.out.2.2.1.cell 4 _ rfl;have s5:=B4.out.2.2.1.cell 5 _ rfl;obtain ⟨⟨xl,el⟩,hl⟩:∃ z,levR [x,y] ⟨sn,su,sd,sm,sp,sa⟩ mode=z:=⟨_,rfl⟩;rw [hl] at hz;have hz1:(bsd el xl,el)=(X,E):=hz;obtain ⟨hX,hE⟩:=Prod.mk.inj hz1;have HL:=hid (level13 [x,y] (some ⟨ga,0,none⟩) 2 2 sn su sd sm sp sa mode Z rfl B4.out.2.2.2.2.2 HW2.out B4.out.2.2.2.2.1 (by decide) (xl,el) hl)
     simp only at HL;have HXE:=qsd (ai hX hE);have HZ:=qsd hZ;have HGS:=qsd hgs;clear hZ BU hz hz1 hX hE hl hgs
     go_upto_region 6 with fail
     rw [←HZ.out,HGS.out];clear HZ HGS q1 q2 hlt
     go_wp2_with fail
     refine HL.out.mono ?_;rintro r v4 ⟨rfl,hb⟩
     have B6:Aside (Bl v4 gx 24 [.float .f64 0]∧Bl v4 ge 25 [.int .i64 0]∧Below w.heap.size w v4) :=
      ⟨B4.out.1.below hb B4.out.1.lt,B4.out.2.1.below hb B4.out.2.1.lt,B4.out.2.2.2.1.trans (hb.mono B4.out.2.2.2.1.size)⟩
     have t1:=B6.out.1.cell 0 _ rfl;have t2:=B6.out.1.frozen 0;have t3:=B6.out.2.1.cell 0 _ rfl;have t4:=B6.out.2.1.frozen 0;have hne1:ge≠gx:=HG.out.2.2.2.2;have hne2:gx≠ge:=fun h=>HG.out.2.2.2.2 h.symm
     clear hb B4 HL s0 s1 s2 s3 s4 s5;go_wp2;refine finish13 Tryz.results17 Middle1_d B6.out.1 B6.out.2.1 B6.out.2.2 HG.out.2.2.1 HG.out.2.2.2.1 HG.out.2.2.2.2 HXE.out.1 HXE.out.2 (fun _=>by simp [go_sem]) ?_ ?_ <;> rfl
 · rw [if_neg h0] at hz
   have HXE:=qsd (Prod.mk.inj hz);have h1:(ea==0)=false:=by simp [h0]
   clear hz HA;go_wp2;refine early13 Tryz.results17 Middle1_d B1.out.1 B1.out.2.1 B1.out.2.2 HG.out.2.2.1 HG.out.2.2.2.2 ((bsd_zero _).trans HXE.out.1) HXE.out.2 (by simp [go_sem]) ?_ ?_ <;> rfl
end
section
open Go.RowKit J
attribute [local go_sem] st_float
theorem calm13 {P:Program}{c:Code}{K:Act→World→Prop}{Q:Exit→Act→World→Prop}{a:Act}{w:World}(h:c.wp P (Exit.then K (fun _ _ _=>False)) a w):c.wp P (Exit.then K Q) a w :=
 wp_mono h (fun e a w h=>by cases e <;> first | exact h | exact False.elim h)
end
end Go.Proofs.YtjldfhecnaiinaaGreatDoor
