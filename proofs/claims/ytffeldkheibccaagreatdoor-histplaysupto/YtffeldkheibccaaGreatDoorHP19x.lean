import Derived.Test.YtffeldkheibccaaGreatDoorHP6x
import Derived.Lib.AppendZeros
import Derived.Test.YtffeldkheibccaaGreatDoorZ9x
set_option linter.unusedVariables false
set_option linter.unusedSimpArgs false
set_option maxHeartbeats 16000000
set_option maxRecDepth 20000
namespace Go.Proofs.YtffeldkheibccaaGreatDoor
namespace J
end J
section
open Go Go.RowKit J
structure Tc17 (hi:Nat) (w:World) (told:Value) (vs:List Value) (f:Nat→List Int) (i:Nat):Prop where
 row:Rt17 hi w told vs
 ls:∀ j,i≤j→j<vs.length→∃ g cap,vs.getD j nil17=.slice (some ⟨g,0,none⟩) (f j).length cap∧0<(f j).length∧(f j).length≤2000∧Ro17 hi w g (f j).length cap (f j)
 df:∀ i j,i<j→j<vs.length→(vs.getD i nil17).ownBlock≠(vs.getD j nil17).ownBlock
 ro:∀ i,i<vs.length→(vs.getD i nil17).ownBlock≠told.ownBlock
theorem Td17.tc {hi:Nat}{w:World}{told:Value}{vs:List Value}(h:Td17 hi w told vs):∃ f,Tc17 hi w told vs f 0:=by
 have key:∀ j,∃ F:List Int,j<vs.length→∃ g cap,vs.getD j nil17=.slice (some ⟨g,0,none⟩) F.length cap∧0<F.length∧F.length≤2000∧Ro17 hi w g F.length cap F:=by
  intro j
  by_cases hj:j<vs.length
  · obtain ⟨L,h1,h2,h3⟩:=h.ls j hj
    have hm:L.map Iw15=(L.map (fun n:Nat=>(n:Int))).map Iz:=by rw [List.map_map];rfl
    refine ⟨L.map (fun n:Nat=>(n:Int)),fun _=>?_⟩
    rcases h3.2 with ⟨_,h0⟩|⟨g,cap,cur,e,_⟩
    · omega
    · rw [e] at h3
      refine ⟨g,cap,by rw [List.length_map];exact e,by rw [List.length_map];exact h1,by rw [List.length_map];omega,by rw [List.length_map],?_⟩
      rw [List.length_map,←hm];exact h3
  · exact ⟨[],fun h=>absurd h hj⟩
 exact ⟨fun j=>Classical.choose (key j),h.row,fun j _ hj=>Classical.choose_spec (key j) hj,h.df,h.ro⟩
theorem Tc17.keep {hi:Nat}{w w':World}{told:Value}{vs:List Value}{f:Nat→List Int}{i:Nat}(h:Tc17 hi w told vs f i) (h1:∀ k,k<w.heap.size→told.ownBlock=some k→w'.heap[k]?=w.heap[k]?) (h2:∀ j k,i≤j→j<vs.length→k<w.heap.size→(vs.getD j nil17).ownBlock=some k→w'.heap[k]?=w.heap[k]?):Tc17 hi w' told vs f i :=
 ⟨own_keep17 h.row (fun k e hk=>h1 k hk e),fun j hj hv=>by
  obtain ⟨g,cap,e,p1,p2,p3⟩:=h.ls j hj hv;exact ⟨g,cap,e,p1,p2,p3.keep (h2 j g hj hv p3.lt.2 (by rw [e];rfl))⟩,h.df,h.ro⟩
theorem Tc17.up {hi:Nat}{w:World}{told:Value}{vs:List Value}{f:Nat→List Int}{i i':Nat}(h:Tc17 hi w told vs f i) (hle:i≤i'):Tc17 hi w told vs f i':=⟨h.row,fun j hj hv=>h.ls j (by omega) hv,h.df,h.ro⟩
theorem Tc17.lt {hi:Nat}{w:World}{told:Value}{vs:List Value}{f:Nat→List Int}{i:Nat}(h:Tc17 hi w told vs f i) {k:Nat}(e:told.ownBlock=some k):hi≤k∧k<w.heap.size:=World.ownsRow.lt h.row k e
theorem Tc17.ltl {hi:Nat}{w:World}{told:Value}{vs:List Value}{f:Nat→List Int}{i:Nat}(h:Tc17 hi w told vs f i) {j k:Nat}(hj:i≤j) (hv:j<vs.length) (e:(vs.getD j nil17).ownBlock=some k):hi≤k∧k<w.heap.size:=by
 obtain ⟨g,cap,e2,_,_,p⟩:=h.ls j hj hv;rw [e2] at e;simp [Value.ownBlock] at e;rw [←e];exact p.lt
theorem Tc17.put {hi:Nat}{w:World}{told:Value}{vs:List Value}{f:Nat→List Int}{j0 g cap:Nat}(h:Tc17 hi w told vs f 0) (hj:j0<vs.length) (e0:vs.getD j0 nil17=.slice (some ⟨g,0,none⟩) (f j0).length cap) (k:Nat) (y:Int) :
 Tc17 hi (w.setCell ⟨g,k,none⟩ (.int .i64 y)) told vs (fun j=>if j=j0 then (f j0).set k y else f j) 0:=by
 obtain ⟨g',cap',e1,p1,p2,p3⟩:=h.ls j0 (Nat.zero_le _) hj;have hb0:(vs.getD j0 nil17).ownBlock=some g:=by rw [e0];rfl
 rw [e0] at e1
 injection e1 with e2 _ e3
 injection e2 with e2
 injection e2 with e2
 subst e2;subst e3
 have oth:∀ q,q≠g→(w.setCell ⟨g,k,none⟩ (.int .i64 y)).heap[q]?=w.heap[q]?:=fun q hq=>by
  simp only [World.setCell,Array.getElem?_modify];rw [if_neg (fun e:g=q=>hq e.symm)]
 refine ⟨own_keep17 h.row (fun q e _=>oth q (fun e2=>h.ro j0 hj (by rw [hb0,e,e2]))),fun j _ hv=>?_,h.df,h.ro⟩
 by_cases e:j=j0
 · subst e
   refine ⟨g,cap,?_,?_,?_,?_⟩ <;> simp only [if_true,List.length_set]
   · exact e0
   · exact p1
   · exact p2
   · exact p3.set k y
 · obtain ⟨g2,cap2,e4,q1,q2,q3⟩:=h.ls j (Nat.zero_le _) hv
   have hne:g2≠g:=by
    intro e5;have hb:(vs.getD j nil17).ownBlock=some g:=by rw [e4,e5];rfl
    rcases Nat.lt_or_gt_of_ne e with hlt|hlt
    · exact h.df j j0 hlt hj (by rw [hb,hb0])
    · exact h.df j0 j hlt hv (by rw [hb,hb0])
   simp only [if_neg e];exact ⟨g2,cap2,e4,q1,q2,q3.keep (oth g2 hne)⟩
structure Q17 (hi:Nat) (w wr:World) (told:Value) (vs:List Value) (f:Nat→List Int) (va:Value) (As:List Value) (i:Nat):Prop where
 tc:Tc17 hi wr told vs f i
 al:∀ j,i≤j→j<vs.length→∀ x ∈ f j,x=-1-(j:Int)
 all:Rt17 hi wr va As
 av:∀ j g,i≤j→j<vs.length→va.ownBlock=some g→(vs.getD j nil17).ownBlock≠some g
 at':∀ g,va.ownBlock=some g→told.ownBlock≠some g
 en:∀ m,m<As.length→∃ g len cap,As.getD m nil17=.slice (some ⟨g,0,none⟩) len cap∧len≤cap∧g<wr.heap.size∧va.ownBlock≠some g∧(∀ j,i≤j→j<vs.length→(vs.getD j nil17).ownBlock≠some g)∧len≤3000∧∀ q,q<len→wr.cell? ⟨g,q,none⟩=some (.int .i64 (-1-((m/4:Nat):Int)))
 bel:Below hi w wr
structure X17 (hi:Nat) (wr:World) (told:Value) (vs:List Value) (va:Value) (As:List Value) (i gx nx cx:Nat):Prop where
 ro:∃ L:List Int,Ro17 hi wr gx nx cx L∧∀ x ∈ L,x=-1-(i:Int)
 va:va.ownBlock≠some gx
 tl:told.ownBlock≠some gx
 vs:∀ j,i<j→j<vs.length→(vs.getD j nil17).ownBlock≠some gx
 en:∀ m g len cap,m<As.length→As.getD m nil17=.slice (some ⟨g,0,none⟩) len cap→g=gx→len≤nx
theorem Q17.take {hi:Nat}{w wr:World}{told va:Value}{vs As:List Value}{f:Nat→List Int}{i:Nat}(h:Q17 hi w wr told vs f va As i) (hi':i<vs.length):∃ g n cap,vs.getD i nil17=.slice (some ⟨g,0,none⟩) n cap∧n≤2000∧Q17 hi w wr told vs f va As (i+1)∧X17 hi wr told vs va As i g n cap:=by
 obtain ⟨g,cap,e,p1,p2,p3⟩:=h.tc.ls i (Nat.le_refl _) hi';have hb:(vs.getD i nil17).ownBlock=some g:=by rw [e];rfl
 refine ⟨g,_,cap,e,p2,⟨h.tc.up (by omega),fun j hj hv=>h.al j (by omega) hv,h.all,fun j g hj hv=>h.av j g (by omega) hv,h.at',fun m hm=>?_,h.bel⟩,⟨⟨f i,p3,h.al i (Nat.le_refl _) hi'⟩,fun e2=>h.av i g (Nat.le_refl _) hi' e2 hb,fun e2=>h.tc.ro i hi' (by rw [hb,e2]),fun j hj hv e2=>h.tc.df i j hj hv (by rw [hb,e2]),fun m g2 len cap2 hm e2 e3=>?_⟩⟩
 · obtain ⟨g2,len,cap2,q1,q2,q3,q4,q5,q6,q7⟩:=h.en m hm
   exact ⟨g2,len,cap2,q1,q2,q3,q4,fun j hj hv=>q5 j (by omega) hv,q6,q7⟩
 · obtain ⟨g4,len4,cap4,q1,q2,q3,q4,q5,q6,q7⟩:=h.en m hm
   rw [e2] at q1
   injection q1 with q1
   injection q1 with q1
   injection q1 with q1
   exact absurd (by rw [hb,←e3,q1]) (q5 i (Nat.le_refl _) hi')
theorem grown_none17 {w w' W:World}{o:Obj}{r:Option Nat}(hW:W=w.alloc o) (h:W.grownBy w' r):w.grownBy w' r:=by
 subst hW;have h0:=World.grownBy_alloc w o none;exact ⟨h.os.trans h0.os,h.tape.trans h0.tape,h.output.trans h0.output,Nat.le_trans h0.size h.size,fun i hi2 hne=>(h.block i (by have:=h0.size;omega) hne).trans (h0.block i hi2 (by simp))⟩
theorem below_grown17 {hi:Nat}{w wr w':World}{r:Option Nat}(h:Below hi w wr) (hg:wr.grownBy w' r) (hs:hi≤wr.heap.size) (hr:∀ k,r=some k→hi≤k):Below hi w w' :=
 ⟨hg.os.trans h.os,hg.tape.trans h.tape,hg.output.trans h.output,Nat.le_trans h.size hg.size,fun k hk=>(hg.block k (by omega) (fun e=>by have:=hr k e.symm;omega)).trans (h.block k hk)⟩
theorem Q17.stepA {hi:Nat}{w wr w':World}{told va v':Value}{vs As:List Value}{f:Nat→List Int}{i gx nx cx:Nat}(h:Q17 hi w wr told vs f va As (i+1)) (x:X17 hi wr told vs va As i gx nx cx) (hs:hi≤wr.heap.size) (hm:As.length/4=i) (hnx:nx≤3000)
 (r1:Rt17 hi w' v' (As++[.slice (some ⟨gx,0,none⟩) nx cx])) (r2:wr.grownBy w' va.ownBlock) (r3:v'.ownBlock=va.ownBlock∨∃ k,v'.ownBlock=some k∧wr.heap.size≤k) :
 Q17 hi w w' told vs f v' (As++[.slice (some ⟨gx,0,none⟩) nx cx]) (i+1)∧X17 hi w' told vs v' (As++[.slice (some ⟨gx,0,none⟩) nx cx]) i gx nx cx:=by
 obtain ⟨L,hL,hLx⟩:=x.ro
 have fresh:∀ g,g<wr.heap.size→va.ownBlock≠some g→v'.ownBlock≠some g:=fun g hg hv e=>by
  rcases r3 with e2|⟨k,e2,hk⟩
  · exact hv (by rw [←e2,e])
  · rw [e2] at e;injection e with e;omega
 have same:∀ g,g<wr.heap.size→va.ownBlock≠some g→w'.heap[g]?=wr.heap[g]?:=fun g hg hv=>r2.block g hg (fun e=>hv e.symm)
 have hL':=hL.keep (same gx hL.lt.2 x.va);refine ⟨⟨h.tc.keep (fun k hk e=>same k hk (fun e2=>h.at' k e2 e)) (fun j k hj hv hk e=>same k hk (fun e2=>h.av j k hj hv e2 e)),h.al,r1,fun j g hj hv e e2=>?_,fun g e e2=>?_,fun m hmm=>?_,below_grown17 h.bel r2 hs (fun k e=>(World.ownsRow.lt h.all k e).1)⟩,⟨⟨L,hL',hLx⟩,fresh gx hL.lt.2 x.va,x.tl,x.vs,fun m g len cap hmm e1 e2=>?_⟩⟩
 · exact fresh g (h.tc.ltl hj hv e2).2 (fun e3=>h.av j g hj hv e3 e2) e
 · exact fresh g (h.tc.lt e2).2 (fun e3=>h.at' g e3 e2) e
 · rw [List.length_append,List.length_singleton] at hmm
   by_cases hml:m<As.length
   · obtain ⟨g,len,cap,q1,q2,q3,q4,q5,q6,q7⟩:=h.en m hml
     rw [getD_left17 hml];exact ⟨g,len,cap,q1,q2,Nat.lt_of_lt_of_le q3 r2.size,fresh g q3 q4,q5,q6,fun q hq=>(World.cell?_of_block (a:=⟨g,q,none⟩) (same g q3 q4)).trans (q7 q hq)⟩
   · rw [getD_last17 (by omega)]
     refine ⟨gx,nx,cx,rfl,hL.cap,Nat.lt_of_lt_of_le hL.lt.2 r2.size,fresh gx hL.lt.2 x.va,fun j hj hv=>x.vs j (by omega) hv,hnx,fun q hq=>?_⟩
     rw [hL'.cell hq];have hql:q<L.length:=by have:=hL.1;omega
     have:L.getD q 0=-1-(i:Int):=hLx _ (by rw [List.getD_eq_getElem?_getD,List.getElem?_eq_getElem hql];exact List.getElem_mem hql)
     rw [this,show m=As.length from by omega,hm]
 · rw [List.length_append,List.length_singleton] at hmm
   by_cases hml:m<As.length
   · rw [getD_left17 hml] at e1;exact x.en m g len cap hml e1 e2
   · rw [getD_last17 (by omega)] at e1
     injection e1 with _ e1;omega
theorem Q17.stepB {hi:Nat}{w wr w':World}{told va:Value}{vs As:List Value}{f:Nat→List Int}{i gx nx cx g' cx':Nat}(h:Q17 hi w wr told vs f va As (i+1)) (x:X17 hi wr told vs va As i gx nx cx) (hs:hi≤wr.heap.size)
 (r1:∀ L,Ro17 hi wr gx nx cx L→Ro17 hi w' g' (nx+1) cx' (L++[-1-(i:Int)])) (r2:wr.grownBy w' (some gx)) (r3:g'=gx∨wr.heap.size≤g') (r4:∀ k,k<nx→w'.cell? ⟨gx,k,none⟩=wr.cell? ⟨gx,k,none⟩) :
 Q17 hi w w' told vs f va As (i+1)∧X17 hi w' told vs va As i g' (nx+1) cx':=by
 obtain ⟨L,hL,hLx⟩:=x.ro;have same:∀ g,g<wr.heap.size→g≠gx→w'.heap[g]?=wr.heap[g]?:=fun g hg hv=>r2.block g hg (fun e=>hv (by injection e))
 refine ⟨⟨h.tc.keep (fun k hk e=>same k hk (fun e2=>x.tl (by rw [e,e2]))) (fun j k hj hv hk e=>same k hk (fun e2=>x.vs j (by omega) hv (by rw [e,e2]))),h.al,own_keep17 h.all (fun k e hk=>same k hk (fun e2=>x.va (by rw [e,e2]))),h.av,h.at',fun m hmm=>?_,below_grown17 h.bel r2 hs (fun k e=>by injection e with e;rw [←e];exact hL.lt.1)⟩,⟨⟨_,r1 L hL,fun y hy=>?_⟩,fun e=>?_,fun e=>?_,fun j hj hv e=>?_,fun m g len cap hmm e1 e2=>?_⟩⟩
 · obtain ⟨g,len,cap,q1,q2,q3,q4,q5,q6,q7⟩:=h.en m hmm
   refine ⟨g,len,cap,q1,q2,Nat.lt_of_lt_of_le q3 r2.size,q4,q5,q6,fun q hq=>?_⟩
   by_cases e:g=gx
   · have hlen:=x.en m g len cap hmm q1 e
     subst e;rw [r4 q (by omega)];exact q7 q hq
   · exact (World.cell?_of_block (a:=⟨g,q,none⟩) (same g q3 e)).trans (q7 q hq)
 · rcases List.mem_append.1 hy with hy | hy
   · exact hLx y hy
   · simpa using hy
 · rcases r3 with e2 | e2
   · exact x.va (by rw [e,e2])
   · have:=(World.ownsRow.lt h.all g' e).2;omega
 · rcases r3 with e2 | e2
   · exact x.tl (by rw [e,e2])
   · have:=(h.tc.lt e).2;omega
 · rcases r3 with e2 | e2
   · exact x.vs j hj hv (by rw [e,e2])
   · have:=(h.tc.ltl (by omega) hv e).2;omega
 · rcases r3 with e3 | e3
   · have:=x.en m g len cap hmm e1 (by omega);omega
   · obtain ⟨g4,len4,cap4,q1,q2,q3,_⟩:=h.en m hmm
     rw [e1] at q1
     injection q1 with q1
     injection q1 with q1
     injection q1 with q1
     omega
end
section
open Go Go.RowKit J
attribute [local go_sem] st_float
theorem owned17 {w:World}{gw hi:Nat}{vh vr told:Value}{vs:List Value}(hbl:Bl w gw 30 [vh,vr,told]) (ht:Td17 hi w told vs) (hv:vs.length≤1100000) (hgw:gw<hi) (hs:hi≤w.heap.size) :
 Calls Tryz.prog 15 #[.pointer (some ⟨gw,0,none⟩)] w fun r w'=>r=.returned (.bool true)∧∃ wr,Below hi w wr∧w'=wr.setCell ⟨gw,2,none⟩ nil17:=by
 obtain ⟨ta,ct,rfl,hct,htf⟩:=rt_form ht.row;obtain ⟨f0,hf0⟩:=ht.tc;obtain ⟨N,hN⟩:∃ N,N=vs.length:=⟨_,rfl⟩;rw [←hN] at hbl hct hv hf0;have Z:=(qsd (ai hbl (ai hf0 (ai hN (ai hgw hs)))));clear ht htf hbl hf0 hN;go_enter Tryz.func15,Tryz.ntmps15;go_wp2
 go_loopw [3,17] (fun i _ wr=>∃ k:Nat,k≤N∧i=.int .i64 k∧Aside (∃ f,Tc17 hi wr (.slice ta N ct) vs f 0∧(∀ j,j<k→∀ x ∈ f j,x=-1-(j:Int))∧Below hi w wr)) (fun i _ _=>N-(intOf i).toNat)
 case atStart=>exact ⟨0,Nat.zero_le _,rfl,qsd ⟨f0,Z.out.2.1,fun j hj=>absurd hj (by omega),Below.refl _ _⟩⟩
 case round =>
  obtain ⟨i,hi',rfl,HR⟩:=hrel
  have t2:wr.cell? ⟨gw,2,none⟩=some (.slice ta N ct):=by
   obtain ⟨f,_,_,hb⟩:=HR.out;exact (World.cell?_of_block (a:=⟨gw,2,none⟩) (hb.block gw Z.out.2.2.2.1)).trans (Z.out.1.cell 2 _ rfl)
  by_cases hin:i<N
  · have d1:decide ((i:Int)<(N:Int))=true:=by simp;omega
    have hiv:i<vs.length:=by have:=Z.out.2.2.1;omega
    have hlen:∃ n,Aside (∃ f,Tc17 hi wr (.slice ta N ct) vs f 0∧(∀ j,j<i→∀ x ∈ f j,x=-1-(j:Int))∧Below hi w wr∧(f i).length=n∧∀ x ∈ (f i).take 0,x=-1-(i:Int)):=by
     obtain ⟨f,h1,h2,h3⟩:=HR.out;exact ⟨_,f,h1,h2,h3,rfl,fun x hx=>by simp at hx⟩
    obtain ⟨n,HF⟩:=hlen
    have hei:∃ g cap,vs.getD i nil17=.slice (some ⟨g,0,none⟩) n cap∧n≤2000:=by
     obtain ⟨f,h1,h2,h3,h4,_⟩:=HF.out;obtain ⟨g,cap,e,_,e2,_⟩:=h1.ls i (Nat.zero_le _) hiv;rw [h4] at e e2;exact ⟨g,cap,e,e2⟩
    obtain ⟨g,cap,egi,hn2⟩:=hei
    have hgt:∃ gt,ta=some ⟨gt,0,none⟩:=by
     obtain ⟨f,h1,_⟩:=HF.out;obtain ⟨a,c,e,_,h⟩:=rt_form h1.row
     injection e with e
     obtain ⟨gt,e2,_⟩:=h (by rintro rfl;simp at hiv)
     exact ⟨gt,by rw [e,e2]⟩
    obtain ⟨gt,rfl⟩:=hgt
    have rd:∀ u f,Tc17 hi u (.slice (some ⟨gt,0,none⟩) N ct) vs f 0→u.cell? ⟨gt,i,none⟩=some (.slice (some ⟨g,0,none⟩) n cap):=by
     intro u f h1;obtain ⟨a,c,e,_,h⟩:=rt_form h1.row
     injection e with e
     obtain ⟨gt',e2,_,_,h9⟩:=h (by rintro rfl;simp at hiv)
     rw [e2] at e;injection e with e;injection e with e
     rw [e,h9 i hiv,egi]
    have RD:=qsd rd;have i0:(0:Int)≤(i:Int):=by omega
    have i1:(i:Int)<(N:Int):=by omega
    have YE:=(qsd (ai egi hiv));clear rd egi HR;go_wp2
    go_loopw [4,29] (fun kv _ wr=>∃ k:Nat,k≤n∧kv=.int .i64 k∧Aside (∃ f,Tc17 hi wr (.slice (some ⟨gt,0,none⟩) N ct) vs f 0∧(∀ j,j<i→∀ x ∈ f j,x=-1-(j:Int))∧Below hi w wr∧(f i).length=n∧∀ x ∈ (f i).take k,x=-1-(i:Int))) (fun kv _ _=>n-(intOf kv).toNat)
    case atStart=>exact ⟨0,Nat.zero_le _,rfl,HF⟩
    case round =>
     obtain ⟨k,hk,rfl,HK⟩:=hrel;clear HF t2
     have t2:wr.cell? ⟨gw,2,none⟩=some (.slice (some ⟨gt,0,none⟩) N ct):=by
      obtain ⟨f,_,_,hb,_⟩:=HK.out;exact (World.cell?_of_block (a:=⟨gw,2,none⟩) (hb.block gw Z.out.2.2.2.1)).trans (Z.out.1.cell 2 _ rfl)
     have t3:wr.cell? ⟨gt,i,none⟩=some (.slice (some ⟨g,0,none⟩) n cap):=by
      obtain ⟨f,h1,_⟩:=HK.out;exact RD.out _ f h1
     by_cases hkn:k<n
     · have d2:decide ((k:Int)<(n:Int))=true:=by simp;omega
       have k0:(0:Int)≤(k:Int):=by omega
       have k1:(k:Int)<(n:Int):=by omega
       have hcf:(∃ y,wr.cell? ⟨g,k,none⟩=some (.int .i64 y))∧wr.frozen? ⟨g,k,none⟩=false:=by
        obtain ⟨f,h1,_,_,h4,_⟩:=HK.out;obtain ⟨g',cap',e,_,_,p⟩:=h1.ls i (Nat.zero_le _) YE.out.2;rw [YE.out.1] at e
        injection e with e _ e3
        injection e with e
        injection e with e
        subst e;rw [h4] at p;exact ⟨⟨_,p.cell hkn⟩,World.ownsRow.frozenAt p.2 k⟩
       obtain ⟨⟨y,c0⟩,f0'⟩:=hcf;go_wp2
       go_roundw
       case rel =>
        obtain ⟨f,h1,h2,h3,h4,h5⟩:=HK.out;have hput:=h1.put YE.out.2 (by rw [h4];exact YE.out.1) k (-1-(i:Int))
        have hgB:=(h1.ltl (Nat.zero_le _) YE.out.2 (k:=g) (by rw [YE.out.1];rfl))
        refine ⟨k+1,by omega,by first | rfl | simp,qsd ⟨_,hput,fun j hj x hx=>?_,?_,?_,fun x hx=>?_⟩⟩
        · rw [if_neg (by omega)] at hx;exact h2 j hj x hx
        · refine ⟨h3.os,h3.tape,h3.output,by simp [World.setCell];exact h3.size,fun q hq=>?_⟩
          rw [←h3.block q hq];simp only [World.setCell,Array.getElem?_modify];rw [if_neg (fun e:g=q=>by omega)]
        · rw [if_pos rfl,List.length_set];exact h4
        · rw [if_pos rfl,List.take_add_one] at hx
          rcases List.mem_append.1 hx with hx|hx
          · rw [List.take_set_of_le (Nat.le_refl _)] at hx;exact h5 x hx
          · rw [List.getElem?_set_self (by omega)] at hx;simpa using hx
       case measure=>first | (simp [intOf];omega) | omega
     · have d2:decide ((k:Int)<(n:Int))=false:=by simp;omega
       go_wp2
       go_roundw
       case rel =>
        obtain ⟨f,h1,h2,h3,h4,h5⟩:=HK.out;refine ⟨i+1,by omega,by first | rfl | simp,qsd ⟨f,h1,fun j hj x hx=>?_,h3⟩⟩
        by_cases e:j=i
        · subst e;exact h5 x (by rw [List.take_of_length_le (by omega)];exact hx)
        · exact h2 j (by omega) x hx
       case measure=>first | (simp [intOf];omega) | omega
  · have d1:decide ((i:Int)<(N:Int))=false:=by simp;omega
    have HQ:Aside (∃ f,Q17 hi w wr (.slice ta N ct) vs f nil17 [] 0):=by
     obtain ⟨f,h1,h2,h3⟩:=HR.out;exact qsd ⟨f,h1,fun j _ hj=>h2 j (by have:=Z.out.2.2.1;omega),Rt17.nil _ _,(fun j g _ _ e=>by cases e),(fun g e=>by cases e),(fun m hm=>by simp at hm),h3⟩
    have ei:i=N:=by omega
    subst ei;clear HR d1 hin;go_wp2
    go_loopw [5,6] (fun va iv wr=>∃ q:Nat,q≤i∧iv=.int .i64 q∧Aside (∃ f As,Q17 hi w wr (.slice ta i ct) vs f va As q∧As.length=4*q)) (fun _ iv _=>i-(intOf iv).toNat)
    case atStart=>obtain ⟨f,h⟩:=HQ.out;exact ⟨0,Nat.zero_le _,rfl,qsd ⟨f,[],h,rfl⟩⟩
    case round =>
     obtain ⟨q,hq,rfl,HR⟩:=hrel;clear HQ t2;obtain ⟨f,As,hQ,hAl⟩:=HR.out;have hbl2:=Z.out.1.below hQ.bel Z.out.2.2.2.1;have t2:wr.cell? ⟨gw,2,none⟩=some (.slice ta i ct):=hbl2.cell 2 _ rfl;clear HR
     by_cases hqn:q<i
     · have d1:decide ((q:Int)<(i:Int))=true:=by simp;omega
       have hqv:q<vs.length:=by have:=Z.out.2.2.1;omega
       obtain ⟨g,n,cap,eg,hn2,hQ1,hX1⟩:=hQ.take hqv;obtain ⟨a,c,e,_,h9⟩:=rt_form hQ.tc.row;obtain ⟨gt,e2,_,_,h10⟩:=h9 (by rintro rfl;simp at hqv)
       injection e with e e5 e6
       rw [e2] at e;clear e5 e6;subst e;have t3:wr.cell? ⟨gt,q,none⟩=some (.slice (some ⟨g,0,none⟩) n cap):=by rw [h10 q hqv,eg]
       have i0:(0:Int)≤(q:Int):=by omega
       have i1:(q:Int)<(i:Int):=by omega
       have HX:Aside (∃ f As,Q17 hi w wr (.slice (some ⟨gt,0,none⟩) i ct) vs f u5 As (q+1)∧X17 hi wr (.slice (some ⟨gt,0,none⟩) i ct) vs u5 As q g n cap∧As.length=4*q+0):=⟨f,As,hQ1,hX1,hAl⟩;clear hQ hQ1 hX1 hAl h9 h10 eg hbl2 e2;go_wp2
       go_loopw [5,7,8] (fun va xv kv wr=>∃ k:Nat,k≤4∧kv=.int .i64 k∧∃ gx nx cx,xv=.slice (some ⟨gx,0,none⟩) nx cx∧nx≤2000+k∧Aside (∃ f As,Q17 hi w wr (.slice (some ⟨gt,0,none⟩) i ct) vs f va As (q+1)∧X17 hi wr (.slice (some ⟨gt,0,none⟩) i ct) vs va As q gx nx cx∧As.length=4*q+k)) (fun _ _ kv _=>4-(intOf kv).toNat)
       case atStart=>exact ⟨0,by omega,rfl,g,n,cap,rfl,by omega,HX⟩
       case round =>
        obtain ⟨k,hk,rfl,gx,nx,cx,rfl,hnx,HK⟩:=hrel;clear HX t2 t3;obtain ⟨f,As,hQ,hX,hAl⟩:=HK.out;clear HK
        by_cases hk4:k<4
        · have d2:decide ((k:Int)<4)=true:=by simp;omega
          have hsr:hi≤wr.heap.size:=Nat.le_trans Z.out.2.2.2.2 hQ.bel.size;obtain ⟨va',w1,r1,r2,r3,r4⟩:=append_t17 hi u5 As (some ⟨gx,0,none⟩) nx cx wr hQ.all hsr (by omega)
          have g1:=grown_none17 rfl r3
          have hA:=hQ.stepA hX hsr (by omega) (by omega) r2 g1 (by rcases r4 with r4 | r4;· exact .inl r4
                                                                   · exact .inr ⟨_,r4,by omega⟩)
          obtain ⟨hQ2,hX2⟩:=hA;have hs1:hi≤w1.heap.size:=Nat.le_trans hsr g1.size;obtain ⟨L,hL,hLx⟩:=hX2.ro;obtain ⟨g',cx',w2,s1,s2,s3,s4,s5⟩:=append_o17 (-1-(q:Int)) hL hs1 (by omega)
          have hB:=hQ2.stepB hX2 hs1 (fun L' hL'=>by
           have e1:L'=L:=by
            have h1:=hL'.2.1
            have h2:L'.map Iz=L.map Iz:=by
             apply List.ext_getElem?
             intro z
             by_cases hz:z<nx
             · rw [←World.ownsRow.cellAt hL'.2 z (by omega),←World.ownsRow.cellAt hL.2 z (by omega)]
             · rw [List.getElem?_eq_none (by rw [List.length_map,←hL'.1];omega),List.getElem?_eq_none (by rw [List.length_map,←hL.1];omega)]
            exact (List.map_inj_right (fun a b h=>by injection h)).1 h2
           rw [e1];exact s2) s3 s4 s5
          have HY:Aside (∃ f As,Q17 hi w w2 (.slice (some ⟨gt,0,none⟩) i ct) vs f va' As (q+1)∧X17 hi w2 (.slice (some ⟨gt,0,none⟩) i ct) vs va' As q g' (nx+1) cx'∧As.length=4*q+(k+1)):=⟨f,_,hB.1,hB.2,by rw [List.length_append,hAl];rfl⟩
          have R1:=qsd r1;have S1:=qsd s1;clear hQ hX hQ2 hX2 hB hL hLx s1 s2 s3 s4 s5 r1 r2 r3 r4 g1 hAl
          go_wp2_with (at_builtin;first | (with_reducible refine Lib.wpList_append_run _ rfl _ _ _ _ rfl _ _ rfl rfl _ _ R1.out ?_) | (with_reducible refine Lib.wpList_append_run _ rfl _ _ _ _ rfl _ _ rfl rfl _ _ S1.out ?_) | (refine Lib.wpList_append_run _ rfl _ _ _ _ rfl _ _ rfl rfl _ _ R1.out ?_) | (refine Lib.wpList_append_run _ rfl _ _ _ _ rfl _ _ rfl rfl _ _ S1.out ?_))
          go_roundw
          case rel=>exact ⟨k+1,by omega,by first | rfl | simp,g',nx+1,cx',by first | rfl | simp,by omega,HY⟩
          case measure=>first | (simp [intOf];omega) | omega
        · have d2:decide ((k:Int)<4)=false:=by simp;omega
          have HY:Aside (∃ f As,Q17 hi w wr (.slice (some ⟨gt,0,none⟩) i ct) vs f u5 As (q+1)∧As.length=4*(q+1)):=⟨f,As,hQ,by omega⟩
          clear hQ hX hAl;go_wp2
          go_roundw
          case rel=>exact ⟨q+1,by omega,by first | rfl | simp,HY⟩
          case measure=>first | (simp [intOf];omega) | omega
     · have d1:decide ((q:Int)<(i:Int))=false:=by simp;omega
       obtain ⟨aA,cA,rfl,hcA,hAf⟩:=rt_form hQ.all;obtain ⟨M,hM⟩:∃ M,M=As.length:=⟨_,rfl⟩;have hMl:M≤4400000:=by omega
       rw [←hM] at hcA ⊢;have f2:=hbl2.frozen 2;have Y:=(qsd (ai hQ (ai hAf hM)));have HW:Aside (Below hi w wr):=qsd hQ.bel;clear hQ hAf hAl hM hbl2;obtain ⟨W,hW⟩:∃ W,W=wr:=⟨_,rfl⟩;subst hW;go_wp2
       go_loopw [9,75] (fun mv _ wr=>∃ m:Nat,m≤M∧mv=.int .i64 m∧wr=W) (fun mv _ _=>M-(intOf mv).toNat)
       case atStart=>exact ⟨0,Nat.zero_le _,rfl,rfl⟩
       case round =>
        obtain ⟨m,hm,rfl,hwr⟩:=hrel;subst hwr
        by_cases hmM:m<M
        · have d2:decide ((m:Int)<(M:Int))=true:=by simp;omega
          have hma:m<As.length:=by have:=Y.out.2.2;omega
          obtain ⟨gA,e1,_,_,h10⟩:=Y.out.2.1 (by rintro rfl;simp at hma)
          subst e1;obtain ⟨g,len,cap,q1,q2,q3,q4,q5,q6,q7⟩:=Y.out.1.en m hma;have c0:wr.cell? ⟨gA,m,none⟩=some (.slice (some ⟨g,0,none⟩) len cap):=by rw [h10 m hma,q1]
          have i0:(0:Int)≤(m:Int):=by omega
          have i1:(m:Int)<(M:Int):=by omega
          have e4:(m:Int).tdiv 4=((m/4:Nat):Int):=by rw [Int.tdiv_eq_ediv_of_nonneg (by omega)];omega
          obtain ⟨m4,hm4⟩:∃ m4,m4=m/4:=⟨_,rfl⟩;rw [←hm4] at e4 q7;have hm4l:m4≤4400000:=by omega
          have V:=qsd q7;clear h10 q1 q3 q4 q5 q7 hm4;go_wp2
          go_loopw [10,84] (fun kv _ wx=>∃ k:Nat,k≤len∧kv=.int .i64 k∧wx=wr) (fun kv _ _=>len-(intOf kv).toNat)
          case atStart=>exact ⟨0,Nat.zero_le _,rfl,rfl⟩
          case round =>
           obtain ⟨k,hk,rfl,hwx⟩:=hrel;subst hwx
           by_cases hkl:k<len
           · have d3:decide ((k:Int)<(len:Int))=true:=by simp;omega
             have k0:(0:Int)≤(k:Int):=by omega
             have k1:(k:Int)<(len:Int):=by omega
             have c1:=V.out k hkl;have w4:IntKind.i64.wrap (-1-(m4:Int))=-1-(m4:Int):=by rw [IntKind.wrap_i64];omega
             go_wp2
             go_roundw
             case rel=>exact ⟨k+1,by omega,by first | rfl | simp,trivial⟩
             case measure=>first | (simp [intOf];omega) | omega
           · have d3:decide ((k:Int)<(len:Int))=false:=by simp;omega
             go_wp2
             go_roundw
             case rel=>exact ⟨m+1,by omega,by first | rfl | simp,trivial⟩
             case measure=>first | (simp [intOf];omega) | omega
        · have d2:decide ((m:Int)<(M:Int))=false:=by simp;omega
          go_wp2;go_ret;exact ⟨rfl,wr,HW.out,rfl⟩
end
section
open Go Go.RowKit J
attribute [local go_sem] st_float B.f64bits
theorem asLent17k (xs:List Nat) (ao:Option Addr) (n cap B g:Nat) (w:World) (hn:n=xs.length) (hm:n≤17592186043904) (hR:Fs B w ao xs) (hB:B≤g) (hO:OwnF w g (xs++[4634696597773484032,4634766966517661696])) :
 Calls Tryz.prog 12 #[.slice (some ⟨g,0,none⟩) n (n+2),.slice ao n cap] w fun r w'=>r=.returned (.bool true)∧But g w w':=by
 obtain ⟨n2,hn2⟩:∃ m,m=n+2:=⟨_,rfl⟩;obtain ⟨n1,hn1⟩:∃ m,m=n+1:=⟨_,rfl⟩;rw [←hn2];have hwn2:IntKind.i64.wrap ((n:Int)+2)=(n2:Int):=wrapY (by omega) (by omega)
 have hwn1:IntKind.i64.wrap ((n:Int)+1)=(n1:Int):=wrapY (by omega) (by omega)
 have hgl:=hO.lt;have hlen:(xs++[4634696597773484032,4634766966517661696]).length=n2:=by simp;omega
 have x0:=hO.cell n (by rw [hlen];omega)
 rw [lent17_get0 xs n _ _ hn] at x0;have x1:=hO.cell n1 (by rw [hlen];omega)
 rw [hn1,lent17_get1 xs n _ _ hn,←hn1] at x1;have b0:(n:Int)<(n2:Int):=by omega
 have b1:(n1:Int)<(n2:Int):=by omega
 have b2:(n2:Int)≤(n2:Int):=by omega
 have b3:n2≤n2:=by omega
 have dn:((n:Int)==(n:Int))=true:=by simp
 have HX:=(qsd (ai hn (ai hR (ai hB (ai hO (ai hlen (ai hgl hn2)))))));clear hn hR hB hO hlen hgl hn2 hn1;go_enter Tryz.func12,Tryz.ntmps12;go_wp2
 go_loopg [6,7] n2 (fun gk fv iv wr=>∃ k:Nat,gk+k=n2∧fv=.bool true∧iv=.int .i64 (k:Nat)∧Aside (∃ L,OwnF wr g L∧L.length=n2∧L.drop k=(xs++[4634696597773484032,4634766966517661696]).drop k∧But g w wr))
 case atStart=>exact ⟨0,by omega,by first | rfl | simp,by first | rfl | simp,_,HX.out.2.2.2.1,HX.out.2.2.2.2.1,rfl,But.refl _ _⟩
 case round =>
  obtain ⟨k,hgk,rfl,rfl,HA⟩:=hrel
  by_cases hk2:k<n2
  · have hdk:decide ((k:Int)<(n2:Int))=true:=by simp;omega
    have lk:(k:Int)<(n2:Int):=by omega
    have lk0:(0:Int)≤(k:Int):=by omega
    obtain ⟨k1,hk1⟩:∃ x,x=k+1:=⟨_,rfl⟩;have wk:IntKind.i64.wrap ((k:Int)+1)=(k1:Int):=wrapY (by have:=HX.out.2.2.2.2.2.2;omega) (by have:=HX.out.2.2.2.2.2.2;omega)
    obtain ⟨L,hO,hl,hd,hbt⟩:=HA.out;have cg:=hO.cell k (by omega)
    rw [getD_drop17 hd] at cg;have fz:=hO.frozen k;have HK:=qsd hk1
    have HN:Aside (∀ q,∃ L,OwnF ((wr.drewN q).setCell ⟨g,k,none⟩ (.float .f64 4635541022703616000)) g L∧L.length=n2∧L.drop k1=(xs++[4634696597773484032,4634766966517661696]).drop k1∧But g w ((wr.drewN q).setCell ⟨g,k,none⟩ (.float .f64 4635541022703616000))):=fun q=>by
     have hOq:OwnF (wr.drewN q) g L:=hO;refine ⟨_,hOq.set k _,by rw [List.length_set];exact hl,by rw [hk1];exact drop_set17 hd,?_⟩
     have hbq:But g w (wr.drewN q):=⟨hbt.os,hbt.tape,hbt.output,hbt.size,hbt.block⟩;exact hbq.set k _
    by_cases hk:k<n
    · have hge:decide ((n:Int)≤(k:Int))=false:=by simp;omega
      have lkn:(k:Int)<(n:Int):=by omega
      have hkx:k<xs.length:=by have:=HX.out.1;omega
      have e1:(xs++[4634696597773484032,4634766966517661696]).getD k 0=xs.getD k 0:=by
       rw [List.getD_eq_getElem?_getD,List.getElem?_append_left hkx,List.getD_eq_getElem?_getD]
      rw [e1] at cg;obtain ⟨b,off,rfl,hcl⟩:=(HX.out.2.1.but hbt (by have:=HX.out.2.2.1;have:=HX.out.2.2.2.2.2.1;omega) HX.out.2.2.1).at (Below.refl _ _) k hkx
      obtain ⟨x,hx⟩:∃ x,x=xs.getD k 0:=⟨_,rfl⟩;rw [←hx] at cg hcl;have dx:(((x:Nat):Int)==((x:Nat):Int))=true:=by simp
      clear hx e1 hO hl hd hbt HA hk1 hkx
      go_wp2_with fail
      go_quiet (fail)
      go_wp2
      go_roundg (n2-k1)
      case measure=>have:=HK.out;omega
      case rel=>exact ⟨k1,by have:=HK.out;omega,by first | rfl | simp,by first | rfl | simp,HN.out _⟩
    · have hge:decide ((n:Int)≤(k:Int))=true:=by simp;omega
      obtain ⟨x,hx⟩:∃ x,x=(xs++[4634696597773484032,4634766966517661696]).getD k 0:=⟨_,rfl⟩;rw [←hx] at cg;clear hx hO hl hd hbt HA hk1
      go_wp2_with fail
      go_quiet (fail)
      go_wp2
      go_roundg (n2-k1)
      case measure=>have:=HK.out;omega
      case rel=>exact ⟨k1,by have:=HK.out;omega,by first | rfl | simp,by first | rfl | simp,HN.out _⟩
  · have hdk:decide ((k:Int)<(n2:Int))=false:=by simp;omega
    have HF:Aside (But g w wr):=by
     obtain ⟨L,hO,hl,hd,hbt⟩:=HA.out;exact hbt
    clear HA;go_wp2;go_ret;exact ⟨rfl,HF.out⟩
theorem lent_fs17 {w:World}{g B:Nat}{xs:List Nat}{x y:Nat}(h:OwnF w g (xs++[x,y])) (hg:g<B):Fs B w (some ⟨g,0,none⟩) xs:=by
 have:=h.fs hg xs.length;rwa [List.take_left] at this
theorem Hm.low {w w':World}{g gE gC cE hi:Nat}{E:List Nat}{s:Hs}(h:Hm w g gE gC cE E s) (hs:w.heap.size≤w'.heap.size) (hb:∀ k,k<w.heap.size→(k=g∨k=gE∨k=gC)→w'.heap[k]?=w.heap[k]?):Hm w' g gE gC cE E s where
 bl:=by have:=h.bl;unfold Bl at this ⊢;rw [hb g (Array.getElem?_eq_some_iff.1 this).1 (.inl rfl)];exact this
 cs:=by have:=h.cs;unfold OwnI at this ⊢;rw [hb gC (Array.getElem?_eq_some_iff.1 this).1 (.inr (.inr rfl))];exact this
 es:=h.es.re17 hs (fun hl=>hb gE hl (.inr (.inl rfl)))
 n1:=h.n1
 n2:=h.n2
 n3:=h.n3
 ed:=h.ed
 wE:=h.wE
 le:=h.le
 mx:=h.mx
theorem Rm.low {w w':World}{g gE gC cE hi:Nat}{E:List Nat}{s:Hs}(h:Rm w g gE gC cE E s) (hs:w.heap.size≤w'.heap.size) (hb:∀ k,k<w.heap.size→(k=g∨k=gE∨k=gC)→w'.heap[k]?=w.heap[k]?):Rm w' g gE gC cE E s where
 bl:=by have:=h.bl;unfold Bl at this ⊢;rw [hb g (Array.getElem?_eq_some_iff.1 this).1 (.inl rfl)];exact this
 cs:=by have:=h.cs;unfold OwnI at this ⊢;rw [hb gC (Array.getElem?_eq_some_iff.1 this).1 (.inr (.inr rfl))];exact this
 es:=h.es.re17 hs (fun hl=>hb gE hl (.inr (.inl rfl)))
 n1:=h.n1
 n2:=h.n2
 n3:=h.n3
 ed:=h.ed
 wE:=h.wE
 le:=h.le
 mx:=h.mx
theorem Pq17.low {w w':World}{lo hi:Nat}{a:At17}{E:List Nat}{s:Hs}(p:Pq17 w lo hi a E s) (hs:w.heap.size≤w'.heap.size) (hb:∀ k,k<w.heap.size→lo≤k→k<hi→w'.heap[k]?=w.heap[k]?):Pq17 w' lo hi a E s:=by
 have i1:=p.i1;have i2:=p.i2;exact { p with h:=p.h.low (hi:=0) hs (fun k hk e=>hb k hk (by omega) (by omega)),m:=p.m.low (hi:=0) hs (fun k hk e=>hb k hk (by omega) (by omega)) }
theorem Pq17.wide {w:World}{lo hi lo' hi':Nat}{a:At17}{E:List Nat}{s:Hs}(p:Pq17 w lo hi a E s) (h1:lo'≤lo) (h2:hi≤hi'):Pq17 w lo' hi' a E s:=by
 have i1:=p.i1;have i2:=p.i2;exact { p with i1:=by omega,i2:=by omega }
theorem ownedS {w:World}{gw gh gr ch cr lo mi hi n:Nat}{a b:At17}{E F:List Nat}(h:Sd17 w gw gh gr ch cr lo mi hi a b E F n) (hn:n≤1100000) :
 Calls Tryz.prog 15 #[.pointer (some ⟨gw,0,none⟩)] w fun r w'=>r=.returned (.bool true)∧Sd17 w' gw gh gr ch cr lo mi hi a b E F 0∧Below gw w w':=by
 obtain ⟨⟨told,vs,s,t,hw,hd,ht,hv⟩,k1,k2,k3,k4,k6⟩:=h;refine (owned17 hw.bl ht (by omega) (by omega) (by omega)).mono ?_
 rintro r w' ⟨rfl,wr,hb,rfl⟩
 have oth:∀ q,q≠gw→(wr.setCell ⟨gw,2,none⟩ nil17).heap[q]?=wr.heap[q]?:=fun q hq=>by
  simp only [World.setCell,Array.getElem?_modify];rw [if_neg (fun e:gw=q=>hq e.symm)]
 have sz:(wr.setCell ⟨gw,2,none⟩ nil17).heap.size=wr.heap.size:=by simp [World.setCell]
 have low:∀ k,k<hi→k≠gw→(wr.setCell ⟨gw,2,none⟩ nil17).heap[k]?=w.heap[k]?:=fun k hk hne=>(oth k hne).trans (hb.block k hk)
 have hbl:Bl (wr.setCell ⟨gw,2,none⟩ nil17) gw 30 [.slice (some ⟨gh,0,none⟩) 2 ch,.slice (some ⟨gr,0,none⟩) 2 cr,nil17]:=(hw.bl.below hb (by omega)).set 2 nil17
 refine ⟨rfl,⟨⟨nil17,[],s,t,⟨hbl,?_,?_,?_,?_,?_,?_⟩,⟨hd.p.low (by rw [sz];exact hb.size) (fun k _ h1 h2=>low k (by omega) (by omega)),hd.q.low (by rw [sz];exact hb.size) (fun k _ h1 h2=>low k (by omega) (by omega))⟩,Td17.nil _ _,Nat.le_refl _⟩,k1,k2,k3,⟨k4.1,k4.2.1,by rw [sz];exact Nat.le_trans k4.2.2 hb.size⟩,k6⟩,⟨hb.os,hb.tape,hb.output,by rw [sz];exact hb.size,fun k hk=>low k (by omega) (by omega)⟩⟩
 · exact (World.cell?_of_block (a:=⟨gh,0,none⟩) (low gh (by omega) k6.1)).trans hw.h0
 · exact (World.cell?_of_block (a:=⟨gh,1,none⟩) (low gh (by omega) k6.1)).trans hw.h1
 · exact (World.cell?_of_block (a:=⟨gr,0,none⟩) (low gr (by omega) k6.2)).trans hw.r0
 · exact (World.cell?_of_block (a:=⟨gr,1,none⟩) (low gr (by omega) k6.2)).trans hw.r1
 · rw [sz];exact Nat.lt_of_lt_of_le hw.lh hb.size
 · rw [sz];exact Nat.lt_of_lt_of_le hw.lr hb.size
theorem Tryz.und_ph17:Tryz.prog.underlying 26=some (.slice 33):=by kernel_rfl
theorem Tryz.info_ph17:(Tryz.prog.info? 33).map (fun i=>(i.zero,i.size,i.bytes))=some (some (.pointer none),1,8):=by kernel_rfl
theorem Tryz.und_pr17:Tryz.prog.underlying 27=some (.slice 38):=by kernel_rfl
theorem Tryz.info_pr17:(Tryz.prog.info? 38).map (fun i=>(i.zero,i.size,i.bytes))=some (some (.pointer none),1,8):=by kernel_rfl
theorem append_p17 {T e:TypeId}(hT:Tryz.prog.underlying T=some (.slice e)) (hI:(Tryz.prog.info? e).map (fun i=>(i.zero,i.size,i.bytes))=some (some (.pointer none),1,8)) (lo:Nat) (v:Value) (K:List Value) (p:Option Addr) (w:World) (hb:w.ownsRow lo e 1 v K.length K) (hlo:lo≤w.heap.size) (hk:K.length≤10) :
 ∃ v' w',(Builtin.append_ #[T,T] T #[v,.slice (some ⟨w.heap.size,0,none⟩) 1 1]).run Tryz.prog (w.alloc (.cells #[.pointer p] e))=.ok v' w'∧w'.ownsRow lo e 1 v' (K.length+1) (K++[.pointer p])∧w.grownBy w' v.ownBlock∧(v'.ownBlock=v.ownBlock∨v'.ownBlock=some (w.heap.size+1))∧v'≠nil17:=by
 obtain ⟨i0,hi,hz0,hz1,hz2⟩:=info_parts hI;obtain ⟨W,hW⟩:∃ W,W=w.alloc (.cells #[.pointer p] e):=⟨_,rfl⟩;have hcx:W.cell? ⟨w.heap.size,0,none⟩=some (.pointer p):=by subst hW;unfold World.cell?;simp only [heap_alloc_new];rfl
 have hWb:W.ownsRow lo e 1 v K.length K:=by subst hW;exact World.ownsRow.alloc hb _
 have hWs:W.heap.size=w.heap.size+1:=by subst hW;simp
 obtain ⟨v',w',r1,r2,r3,r4,r5⟩:=run_append_own_at (P:=Tryz.prog) W lo T T e i0 (.pointer none) 1 8 hT hi hz0 hz1 hz2 rfl (by decide) v K.length K hWb ⟨w.heap.size,0,none⟩ 1 1 [.pointer p] rfl (by
  intro j u hj
  match j,hj with
  | 0,hj=>simp at hj;subst hj;simpa [Addr.add] using hcx) (by intro u hu;simp at hu;subst hu;rfl) (by unfold maxLen;omega) (by omega) (by omega)
 rw [←hW];exact ⟨v',w',r1,r2,grown_none17 hW r3,by rw [←hWs];exact r5,fun e2=>absurd (r4.1 e2).2 (by decide)⟩
end
section
open Go Go.RowKit J
abbrev pt17 (g:Nat):Value:=.pointer (some ⟨g,0,none⟩)
structure Gs17 (w wr:World) (gw ge:Nat) (vh vr:Value) (Kh Kr:List Value) (v1 v2:Value):Prop where
 bl:Bl wr gw 30 [vh,vr,nil17]
 hh:wr.ownsRow (ge+1) 33 1 vh Kh.length Kh
 hr:wr.ownsRow (ge+1) 38 1 vr Kr.length Kr
 e0:wr.cell? ⟨ge,0,none⟩=some v1
 e1:wr.cell? ⟨ge,1,none⟩=some v2
 le:w.heap.size≤gw∧gw<ge∧ge<wr.heap.size
 ne:∀ g,vh.ownBlock=some g→vr.ownBlock≠some g
 bel:Below w.heap.size w wr
def Pr17 (i:Nat) (wr:World) (lo:Nat) (vh vr:Value) (Kh Kr:List Value):Prop :=
 (i=0∧Kh=[]∧Kr=[]∧vh=nil17∧vr=nil17) ∨
 (i=1∧∃ a E s mi,Kh=[pt17 a.g]∧Kr=[pt17 a.r]∧Pq17 wr lo mi a E s∧(∀ g,vh.ownBlock=some g→mi≤g)∧(∀ g,vr.ownBlock=some g→mi≤g)∧mi≤wr.heap.size∧lo≤mi) ∨
 (i=2∧∃ a b E F s t mi m2 hi,Kh=[pt17 a.g,pt17 b.g]∧Kr=[pt17 a.r,pt17 b.r]∧Pq17 wr lo mi a E s∧Pq17 wr m2 hi b F t∧(∀ g,vh.ownBlock=some g→(mi≤g∧g<m2)∨hi≤g)∧(∀ g,vr.ownBlock=some g→(mi≤g∧g<m2)∨hi≤g)∧lo≤mi∧mi≤m2∧m2≤hi∧hi≤wr.heap.size)
theorem set_oth17 (w:World) (p:Addr) (v:Value) {k:Nat}(h:k≠p.block):(w.setCell p v).heap[k]?=w.heap[k]?:=by
 simp only [World.setCell,Array.getElem?_modify];rw [if_neg (fun e=>h e.symm)]
theorem own_same17 {lo e:Nat}{w w':World}{v:Value}{n:Nat}{L:List Value}(h:w.ownsRow lo e 1 v n L) (hb:∀ k,k<w.heap.size→v.ownBlock=some k→w'.heap[k]?=w.heap[k]?):w'.ownsRow lo e 1 v n L:=own_keep17 h (fun k e hk=>hb k hk e)
theorem grow17 {w wr v:World}{gw ge i:Nat}{vh vr v1 v2:Value}{Kh Kr:List Value}{a:At17}{E:List Nat}{s:Hs}(G:Gs17 w wr gw ge vh vr Kh Kr v1 v2) (P:Pr17 i wr (ge+1) vh vr Kh Kr) (hi2:i<2) (q:Pq17 v wr.heap.size v.heap.size a E s) (hb:Below wr.heap.size wr v) :
 v.cell? ⟨gw,0,none⟩=some vh∧∃ vh' u1,(Builtin.append_ #[26,26] 26 #[vh,.slice (some ⟨v.heap.size,0,none⟩) 1 1]).run Tryz.prog (v.alloc (.cells #[pt17 a.g] 33))=.ok vh' u1∧u1.cell? ⟨gw,0,none⟩=some vh∧u1.frozen? ⟨gw,0,none⟩=false ∧
  (u1.setCell ⟨gw,0,none⟩ vh').cell? ⟨gw,1,none⟩=some vr∧(u1.setCell ⟨gw,0,none⟩ vh').heap.size=u1.heap.size∧(∃ b' n' c',vh'=.slice b' n' c')∧∃ vr' u2,(Builtin.append_ #[27,27] 27 #[vr,.slice (some ⟨(u1.setCell ⟨gw,0,none⟩ vh').heap.size,0,none⟩) 1 1]).run Tryz.prog ((u1.setCell ⟨gw,0,none⟩ vh').alloc (.cells #[pt17 a.r] 38))=.ok vr' u2 ∧
   u2.cell? ⟨gw,1,none⟩=some vr∧u2.frozen? ⟨gw,1,none⟩=false∧(∃ b' n' c',vr'=.slice b' n' c')∧Aside (Gs17 w (u2.setCell ⟨gw,1,none⟩ vr') gw ge vh' vr' (Kh++[pt17 a.g]) (Kr++[pt17 a.r]) v1 v2∧Pr17 (i+1) (u2.setCell ⟨gw,1,none⟩ vr') (ge+1) vh' vr' (Kh++[pt17 a.g]) (Kr++[pt17 a.r])):=by
 have le:=G.le;have hbs:=hb.size
 have hKl:Kh.length≤1∧Kr.length≤1:=by
  rcases P with ⟨_,h1,h2,_⟩|⟨_,a',E',s',mi,h1,h2,_⟩|⟨h0,_⟩
  · rw [h1,h2];exact ⟨by simp,by simp⟩
  · rw [h1,h2];exact ⟨by simp,by simp⟩
  · omega
 have hhlt:∀ g,vh.ownBlock=some g→ge+1≤g∧g<wr.heap.size:=fun g e=>World.ownsRow.lt G.hh g e
 have hrlt:∀ g,vr.ownBlock=some g→ge+1≤g∧g<wr.heap.size:=fun g e=>World.ownsRow.lt G.hr g e
 have blv:Bl v gw 30 [vh,vr,nil17]:=G.bl.below hb (by omega)
 have hhv:v.ownsRow (ge+1) 33 1 vh Kh.length Kh:=own_same17 G.hh (fun k hk _=>hb.block k hk)
 have hrv:v.ownsRow (ge+1) 38 1 vr Kr.length Kr:=own_same17 G.hr (fun k hk _=>hb.block k hk)
 obtain ⟨vh',u1,r1,r2,r3,r4,r5⟩:=append_p17 Tryz.und_ph17 Tryz.info_ph17 (ge+1) vh Kh (some ⟨a.g,0,none⟩) v hhv (by omega) (by omega)
 have s1:∀ k,k<v.heap.size→vh.ownBlock≠some k→u1.heap[k]?=v.heap[k]?:=fun k hk hne=>r3.block k hk (fun e=>hne e.symm)
 have z1:=r3.size;have bl1:Bl u1 gw 30 [vh,vr,nil17]:=by unfold Bl at blv ⊢;rw [s1 gw (by omega) (fun e=>by have:=hhlt gw e;omega)];exact blv
 have bl2:Bl (u1.setCell ⟨gw,0,none⟩ vh') gw 30 [vh',vr,nil17]:=bl1.set 0 vh';have z2:(u1.setCell ⟨gw,0,none⟩ vh').heap.size=u1.heap.size:=by simp [World.setCell]
 have s2:∀ k,k≠gw→(u1.setCell ⟨gw,0,none⟩ vh').heap[k]?=u1.heap[k]?:=fun k hk=>set_oth17 _ _ _ hk
 have hr2:(u1.setCell ⟨gw,0,none⟩ vh').ownsRow (ge+1) 38 1 vr Kr.length Kr:=own_same17 hrv (fun k hk e=>by
  have:=hrlt k e;rw [s2 k (by omega),s1 k hk (fun e2=>G.ne k e2 e)])
 obtain ⟨vr',u2,t1,t2,t3,t4,t5⟩:=append_p17 Tryz.und_pr17 Tryz.info_pr17 (ge+1) vr Kr (some ⟨a.r,0,none⟩) (u1.setCell ⟨gw,0,none⟩ vh') hr2 (by omega) (by omega)
 have z3:=t3.size;have s3:∀ k,k<u1.heap.size→vr.ownBlock≠some k→u2.heap[k]?=(u1.setCell ⟨gw,0,none⟩ vh').heap[k]?:=fun k hk hne=>t3.block k (by omega) (fun e=>hne e.symm)
 have bl3:Bl u2 gw 30 [vh',vr,nil17]:=by unfold Bl at bl2 ⊢;rw [s3 gw (by omega) (fun e=>by have:=hrlt gw e;omega)];exact bl2
 have bl4:Bl (u2.setCell ⟨gw,1,none⟩ vr') gw 30 [vh',vr',nil17]:=bl3.set 1 vr';have z4:(u2.setCell ⟨gw,1,none⟩ vr').heap.size=u2.heap.size:=by simp [World.setCell]
 have s4:∀ k,k≠gw→(u2.setCell ⟨gw,1,none⟩ vr').heap[k]?=u2.heap[k]?:=fun k hk=>set_oth17 _ _ _ hk
 have all:∀ k,k<v.heap.size→k≠gw→vh.ownBlock≠some k→vr.ownBlock≠some k→(u2.setCell ⟨gw,1,none⟩ vr').heap[k]?=v.heap[k]?:=fun k hk h1 h2 h3=>by
  rw [s4 k h1,s3 k (by omega) h3,s2 k h1,s1 k hk h2]
 have fh:∀ g,vh'.ownBlock=some g→vh.ownBlock=some g∨g=v.heap.size+1:=fun g e=>by
  rcases r4 with h|h
  · exact .inl (by rw [←h,e])
  · rw [h] at e;injection e with e;exact .inr e.symm
 have fr:∀ g,vr'.ownBlock=some g→vr.ownBlock=some g∨g=u1.heap.size+1:=fun g e=>by
  rcases t4 with h|h
  · exact .inl (by rw [←h,e])
  · rw [h,z2] at e;injection e with e;exact .inr e.symm
 have hvlt:∀ g,vh'.ownBlock=some g→g<u1.heap.size:=fun g e=>(World.ownsRow.lt r2 g e).2
 have hh4:(u2.setCell ⟨gw,1,none⟩ vr').ownsRow (ge+1) 33 1 vh' (Kh++[pt17 a.g]).length (Kh++[pt17 a.g]):=by
  rw [List.length_append]
  exact own_same17 r2 (fun k hk e=>by
   have hk1:=(World.ownsRow.lt r2 k e).1;rw [s4 k (by omega),s3 k hk (fun e2=>?_),s2 k (by omega)]
   rcases fh k e with h|h
   · exact G.ne k h e2
   · have:=(hrlt k e2).2;omega)
 have hr4:(u2.setCell ⟨gw,1,none⟩ vr').ownsRow (ge+1) 38 1 vr' (Kr++[pt17 a.r]).length (Kr++[pt17 a.r]):=by
  rw [List.length_append]
  exact own_same17 t2 (fun k hk e=>by
   have hk1:=(World.ownsRow.lt t2 k e).1;rw [s4 k (by omega)])
 have e0:v.cell? ⟨ge,0,none⟩=some v1:=(World.cell?_of_block (a:=⟨ge,0,none⟩) (hb.block ge le.2.2)).trans G.e0;have e1:v.cell? ⟨ge,1,none⟩=some v2:=(World.cell?_of_block (a:=⟨ge,1,none⟩) (hb.block ge le.2.2)).trans G.e1;have hge:=all ge (by omega) (by omega) (fun e=>by have:=hhlt ge e;omega) (fun e=>by have:=hrlt ge e;omega)
 have q1:=q.i1;have q2:=q.i2;refine ⟨blv.cell 0 _ rfl,vh',u1,r1,bl1.cell 0 _ rfl,bl1.frozen 0,bl2.cell 1 _ rfl,z2,?_,vr',u2,t1,bl3.cell 1 _ rfl,bl3.frozen 1,?_,qsd ⟨⟨bl4,hh4,hr4,(World.cell?_of_block (a:=⟨ge,0,none⟩) hge).trans e0,(World.cell?_of_block (a:=⟨ge,1,none⟩) hge).trans e1,⟨le.1,le.2.1,by omega⟩,fun g e e2=>?_,?_⟩,?_⟩⟩
 · rcases r2.2 with ⟨h,_⟩ | ⟨g,cap,cur,h,_⟩ <;> exact ⟨_,_,_,h⟩
 · rcases t2.2 with ⟨h,_⟩ | ⟨g,cap,cur,h,_⟩ <;> exact ⟨_,_,_,h⟩
 · rcases fr g e2 with h | h
   · rcases fh g e with h' | h'
     · exact G.ne g h' h
     · have:=(hrlt g h).2;omega
   · have:=hvlt g e;omega
 · refine ⟨?_,?_,?_,by have:=G.bel.size;omega,fun k hk=>?_⟩
   · show u2.os=w.os;rw [t3.os];show u1.os=w.os;rw [r3.os,hb.os,G.bel.os]
   · show u2.tape=w.tape;rw [t3.tape];show u1.tape=w.tape;rw [r3.tape,hb.tape,G.bel.tape]
   · show u2.output=w.output;rw [t3.output];show u1.output=w.output;rw [r3.output,hb.output,G.bel.output]
   · have hsz:=G.bel.size
     rw [all k (by omega) (by omega) (fun e=>by have:=hhlt k e;omega) (fun e=>by have:=hrlt k e;omega),hb.block k (by omega),G.bel.block k hk]
 · rcases P with ⟨rfl,k1,k2,k3,k4⟩ | ⟨rfl,a',E',s',mi,k1,k2,k3,k4,k5,k6,k7⟩ | ⟨h0,_⟩
   · refine .inr (.inl ⟨rfl,a,E,s,v.heap.size,by rw [k1];rfl,by rw [k2];rfl,?_,fun g e=>?_,fun g e=>?_,by omega,by omega⟩)
     · refine (q.wide (by omega) (Nat.le_refl _)).low (by omega) (fun k hk h1 h2=>all k hk (by omega) ?_ ?_)
       · rw [k3];exact fun e=>by cases e
       · rw [k4];exact fun e=>by cases e
     · rcases fh g e with h | h
       · rw [k3] at h;cases h
       · omega
     · rcases fr g e with h | h
       · rw [k4] at h;cases h
       · omega
   · refine .inr (.inr ⟨rfl,a',a,E',E,s',s,mi,wr.heap.size,v.heap.size,by rw [k1];rfl,by rw [k2];rfl,?_,?_,fun g e=>?_,fun g e=>?_,k7,k6,by omega,by omega⟩)
     · exact (k3.low hbs (fun k hk _ _=>hb.block k hk)).low (by omega) (fun k hk h1 h2=>all k hk (by omega) (fun e=>by have:=k4 k e;omega) (fun e=>by have:=k5 k e;omega))
     · exact q.low (by omega) (fun k hk h1 h2=>all k hk (by omega) (fun e=>by have:=hhlt k e;omega) (fun e=>by have:=hrlt k e;omega))
     · rcases fh g e with h | h
       · exact .inl ⟨k4 g h,(hhlt g h).2⟩
       · exact .inr (by omega)
     · rcases fr g e with h | h
       · exact .inl ⟨k5 g h,(hrlt g h).2⟩
       · exact .inr (by omega)
   · omega
theorem stand17 {w wr:World}{gw ge:Nat}{vh vr v1 v2:Value}{Kh Kr:List Value}(G:Gs17 w wr gw ge vh vr Kh Kr v1 v2) (P:Pr17 2 wr (ge+1) vh vr Kh Kr):∃ gh gr ch cr lo mi hi a b E F,Sd17 wr gw gh gr ch cr lo mi hi a b E F 0:=by
 rcases P with ⟨h0,_⟩|⟨h0,_⟩|⟨_,a,b,E,F,s,t,mi,m2,hi,rfl,rfl,k3,k4,k5,k6,k7,k8,k9,k10⟩
 · omega
 · omega
 · have le:=G.le
   rcases G.hh.2 with ⟨_,h⟩|⟨gh,ch,cur,e1,p1,p2,_⟩
   · simp at h
   rcases G.hr.2 with ⟨_,h⟩|⟨gr,cr,cur',e2,p3,p4,_⟩
   · simp at h
   have hh:=G.hh;have hr:=G.hr;have bl:=G.bl;rw [e1] at hh bl k5;rw [e2] at hr bl k6;have x1:=k5 gh rfl;have x2:=k6 gr rfl;have l1:=(Array.getElem?_eq_some_iff.1 p2).1;have l2:=(Array.getElem?_eq_some_iff.1 p4).1;have y1:=k3.i1;have y2:=k3.i2;have y3:=k4.i1;have y4:=k4.i2;have c0:=World.ownsRow.cellAt hh 0 (by simp)
   have c1:=World.ownsRow.cellAt hh 1 (by simp)
   have d0:=World.ownsRow.cellAt hr 0 (by simp)
   have d1:=World.ownsRow.cellAt hr 1 (by simp)
   exact ⟨gh,gr,ch,cr,ge+1,m2,wr.heap.size,a,b,E,F,⟨nil17,[],s,t,⟨bl,c0,c1,d0,d1,l1,l2⟩,⟨k3.wide (Nat.le_refl _) k8,k4.wide (Nat.le_refl _) k10⟩,Td17.nil _ _,Nat.le_refl _⟩,by omega,by omega,by omega,by omega,by omega⟩
end
section
open Go Go.RowKit J
attribute [local go_sem] st_float
def Os17 (B:Nat) (w:World) (ao:Option Addr) (ops:List (Int×Int×Nat)):Prop :=
 ops≠[]→∃ b off,b<B∧ao=some ⟨b,off,none⟩∧∀ i,i<ops.length→w.cell? ⟨b,off+i*3,none⟩=some (.int .i64 (ops.getD i (0,0,0)).1)∧w.cell? ⟨b,off+i*3+1,none⟩=some (.int .i64 (ops.getD i (0,0,0)).2.1)∧w.cell? ⟨b,off+i*3+2,none⟩=some (.float .f64 (ops.getD i (0,0,0)).2.2)
structure CameO (w:World) (a:Option Addr) (n c:Nat) (ops:List (Int×Int×Nat)):Prop where
 len:n=ops.length
 cap:n≤c
 wf:∀ o ∈ ops,o.2.2<18446744073709551616
 rd:Os17 w.heap.size w a ops
theorem edg01:Edg [0,4607182418800017408]:=by
 refine ⟨by decide,by decide,fun x hx=>?_,fun i hi=>?_⟩
 · simp at hx;rcases hx with rfl | rfl <;> decide
 · have:i=0:=by simp at hi;omega
   subst this;decide
theorem fs01 (w:World):Fs (w.alloc (.cells #[.float .f64 0,.float .f64 4607182418800017408] 41)).heap.size (w.alloc (.cells #[.float .f64 0,.float .f64 4607182418800017408] 41)) (some ⟨w.heap.size,0,none⟩) [0,4607182418800017408]:=by
 intro _;refine ⟨w.heap.size,0,by simp,rfl,fun i hi=>?_⟩
 match i,hi with
 | 0,_=>simp
 | 1,_=>simp
theorem low_of17 {a b:World}{B:Nat}(h:Below a.heap.size a b) (hB:B≤a.heap.size):Below B a b:=⟨h.os,h.tape,h.output,h.size,fun k hk=>h.block k (by omega)⟩
theorem walk_HistPlays (a1:Option Addr) (n1 c1:Nat) (xs:List Nat) (a2:Option Addr) (n2 c2:Nat) (ys:List Nat) (a3:Option Addr) (n3 c3:Nat) (ops:List (Int×Int×Nat)) (w:World) (hT:Tab w) (h1:CameF w a1 n1 c1 xs) (b1:n1≤17592186043904) (h2:CameF w a2 n2 c2 ys) (b2:n2≤17592186043904) (h3:CameO w a3 n3 c3 ops) (b3:n3≤1048576) :
 Calls Tryz.prog 3 #[.slice a1 n1 c1,.slice a2 n2 c2,.slice a3 n3 c3] w fun r w'=>r=.returned (.bool true)∧Below w.heap.size w w':=by
 have HA:=hid (awake17 w hT);have X1:=qsd h1;have X2:=qsd h2;have X3:=qsd h3;clear h1 h2 h3 hT;go_enter Tryz.func3,Tryz.ntmps3
 go_wp2_with fail
 refine HA.out.mono ?_;rintro r w1 ⟨rfl,hb1⟩;obtain ⟨W0,hW0⟩:∃ W,W=(w1.alloc (.cells #[nil17,nil17,nil17] 30)).alloc (.cells #[.slice a1 n1 c1,.slice a2 n2 c2] 22):=⟨_,rfl⟩;obtain ⟨gw,hgw⟩:∃ g,g=w1.heap.size:=⟨_,rfl⟩;obtain ⟨ge,hge⟩:∃ g,g=w1.heap.size+1:=⟨_,rfl⟩
 have G0:Aside (Gs17 w W0 gw ge nil17 nil17 [] [] (.slice a1 n1 c1) (.slice a2 n2 c2)):=by
  have e1:=Bl.new (w1) 30 [nil17,nil17,nil17];have e2:=Bl.new (w1.alloc (.cells #[nil17,nil17,nil17] 30)) 22 [.slice a1 n1 c1,.slice a2 n2 c2];have hs:(w1.alloc (.cells #[nil17,nil17,nil17] 30)).heap.size=ge:=by rw [hge];simp
  rw [hs] at e2;rw [←hgw] at e1;have e3:Bl W0 ge 22 [.slice a1 n1 c1,.slice a2 n2 c2]:=by rw [hW0];exact e2
  have e4:Bl W0 gw 30 [nil17,nil17,nil17]:=by rw [hW0];exact Bl.alloc e1 _
  have hz:W0.heap.size=ge+1:=by rw [hW0];simp [hge]
  have hbs:=hb1.size;exact ⟨e4,World.ownsRow_nil _ _ _ _,World.ownsRow_nil _ _ _ _,e3.cell 0 _ rfl,e3.cell 1 _ rfl,by omega,(fun g e=>by cases e),by rw [hW0];exact (hb1.alloc hbs _).alloc (by simp;omega) _⟩
 have hz0:Aside (W0.heap.size=ge+1∧W0.heap.size=ge+1):=by rw [hW0];simp [hge];trivial
 clear HA hb1;go_wp2;rw [←hge,←hW0];clear hge hW0;rw [←hgw];clear hgw
 go_loopw [10,30] (fun iv _ wr=>∃ i:Nat,i≤2∧iv=.int .i64 i∧Aside (∃ vh vr Kh Kr,Gs17 w wr gw ge vh vr Kh Kr (.slice a1 n1 c1) (.slice a2 n2 c2)∧Pr17 i wr (ge+1) vh vr Kh Kr)) (fun iv _ _=>2-(intOf iv).toNat)
 case atStart=>exact ⟨0,by omega,rfl,qsd ⟨_,_,_,_,G0.out,.inl ⟨rfl,rfl,rfl,rfl,rfl⟩⟩⟩
 case round =>
  obtain ⟨i,hi,rfl,HR⟩:=hrel;clear G0 hz0;obtain ⟨vh,vr,Kh,Kr,G,P⟩:=HR.out;clear HR
  by_cases hi2:i<2
  · have d1:decide ((i:Int)<2)=true:=by simp;omega
    have hc:∃ ao n c zs,CameF w ao n c zs∧n≤17592186043904∧wr.cell? ⟨ge,i,none⟩=some (.slice ao n c):=by
     match i,hi2 with
     | 0,_=>exact ⟨a1,n1,c1,xs,X1.out,b1,G.e0⟩
     | 1,_=>exact ⟨a2,n2,c2,ys,X2.out,b2,G.e1⟩
    obtain ⟨ao,n,c,zs,hC,hn,ec⟩:=hc;have i0:(0:Int)≤(i:Int):=by omega
    have i1:(i:Int)<2:=by omega
    have le:=G.le;have hbs:=G.bel.size;have C1:=hid (lent17 zs ao n c w.heap.size wr hC.len hn (hC.rd.below G.bel) hbs);have GP:=(qsd (ai G (ai P (ai hC (ai le hbs)))));clear G P hC le hbs
    go_wp2_with fail
    refine C1.out.mono ?_;rintro r v1 ⟨rfl,hO1,hv1⟩;have ec1:v1.cell? ⟨ge,i,none⟩=some (.slice ao n c):=(hv1.cell (p:=⟨ge,i,none⟩) GP.out.2.2.2.1.2.2).trans ec;have F1:=lent_fs17 hO1 hO1.lt;have Y1:=(qsd (ai hO1 hv1));clear hO1 hv1 ec C1
    by_cases hE:Edg zs
    · have C2:=hid (New17 zs _ n (n+2) v1 F1 GP.out.2.2.1.len hn GP.out.2.2.1.wf hE)
      clear F1
      go_wp2_with fail
      refine C2.out.mono ?_;rintro r v2 ⟨⟨g,gE,gC,cE,rfl,hH,p1,p2,p3⟩,hv2⟩;have hb2:Below wr.heap.size wr v2:=Y1.out.2.trans (low_of17 hv2 Y1.out.2.size);have ec2:v2.cell? ⟨ge,i,none⟩=some (.slice ao n c):=(hv2.cell (p:=⟨ge,i,none⟩) (by have:=GP.out.2.2.2.1;have:=Y1.out.2.size;show ge<_;omega)).trans ec1
      have C3:=hid (asLent17k zs ao n c w.heap.size wr.heap.size v2 GP.out.2.2.1.len hn (GP.out.2.2.1.rd.below (GP.out.1.bel.trans (low_of17 hb2 GP.out.2.2.2.2))) GP.out.2.2.2.2 (Y1.out.1.below hv2 Y1.out.1.lt));have Y2:=(qsd (ai hH (ai p1 (ai p2 (ai p3 (ai hv2 hb2))))));clear hH p1 p2 p3 hv2 hb2 ec1 C2
      go_wp2_with fail
      refine C3.out.mono ?_;rintro r v3 ⟨rfl,hv3⟩;have hb3:Below wr.heap.size wr v3:=But.below Y2.out.2.2.2.2.2 hv3 Y2.out.2.2.2.2.2.size (Nat.le_refl _);have ec3:v3.cell? ⟨ge,i,none⟩=some (.slice ao n c):=(World.cell?_of_block (a:=⟨ge,i,none⟩) (hv3.block ge (by have:=GP.out.2.2.2.1;have:=Y2.out.2.2.2.2.2.size;omega) (by have:=GP.out.2.2.2.1;omega))).trans ec2
      have C4:=hid (rNew17 zs ao n c v3 (GP.out.2.2.1.rd.below (GP.out.1.bel.trans (low_of17 hb3 GP.out.2.2.2.2)) |>.mono (Nat.le_trans GP.out.2.2.2.2 hb3.size)) GP.out.2.2.1.len hn GP.out.2.2.1.wf hE)
      have Y3:=(qsd (ai hv3 hb3));clear hv3 hb3 ec2 C3
      go_wp2_with fail
      refine C4.out.mono ?_;rintro r v4 ⟨⟨r',rE,rC,dE,rfl,hR,p4,p5,p6⟩,hv4⟩
      have HQ:Pq17 v4 wr.heap.size v4.heap.size ⟨g,gE,gC,cE,r',rE,rC,dE⟩ zs ⟨List.replicate (n-1) 0,0,0,0⟩∧Below wr.heap.size wr v4:=by
       have z1:=Y1.out.2.size;have z2:=Y2.out.2.2.2.2.1.size;have z3:=Y3.out.1.size;have z4:=hv4.size;have l1:=Y2.out.1.bl.lt;have l2:=Y2.out.1.cs.lt;have l3:=Fs.lt17 Y2.out.1.es (by have:=hE.1;rintro rfl;simp at this)
       have l4:=hR.bl.lt;have l5:=hR.cs.lt;have l6:=Fs.lt17 hR.es (by have:=hE.1;rintro rfl;simp at this)
       have hlo:=Y1.out.1.lt;have hH3:Hm v3 g gE gC cE zs ⟨List.replicate (n-1) 0,0,0,0⟩:=Y2.out.1.low (hi:=0) z3 (fun k hk e=>Y3.out.1.block k hk (by have:=Y2.out.2.1;have:=Y2.out.2.2.1;have:=Y2.out.2.2.2.1;omega))
       have hH4:=hH3.below hv4
       have hq:Pq17 v4 wr.heap.size v4.heap.size ⟨g,gE,gC,cE,r',rE,rC,dE⟩ zs ⟨List.replicate (n-1) 0,0,0,0⟩:=by
        have q1:=Y2.out.2.1;have q2:=Y2.out.2.2.1;have q3:=Y2.out.2.2.2.1;exact ⟨hH4,hR,by show _;refine ⟨?_,?_,?_,?_,?_,?_⟩ <;> (show _;simp only;omega),by show _;refine ⟨?_,?_,?_,?_,?_,?_⟩ <;> (show _;simp only;omega),by constructor <;> (simp only;omega),by constructor <;> (simp only;omega),by constructor <;> (simp only;omega),by constructor <;> (simp only;omega)⟩
       exact ⟨hq,Y3.out.2.trans (low_of17 hv4 Y3.out.2.size)⟩
      have GG:=grow17 GP.out.1 GP.out.2.1 hi2 HQ.1 HQ.2;clear hR p4 p5 p6 hv4 ec3 C4 HQ;obtain ⟨y0,vh',u1,r1,y1,y2,y3,y4,⟨bh,nh,kh,eh⟩,vr',u2,t1,y5,y6,⟨br,nr,kr,er⟩,HG⟩:=GG;rw [y4] at t1;clear y4;have R1:=qsd r1;have T1:=qsd t1;clear r1 t1;subst eh;subst er
      go_wp2_with (at_builtin;first | (refine Lib.wpList_append_run _ rfl _ _ 26 26 rfl _ _ rfl rfl _ _ R1.out ?_) | (refine Lib.wpList_append_run _ rfl _ _ 27 27 rfl _ _ rfl rfl _ _ T1.out ?_))
      go_roundw
      case rel=>exact ⟨i+1,by omega,by first | rfl | simp,qsd ⟨_,_,_,_,HG.out.1,HG.out.2⟩⟩
      case measure=>first | (simp [intOf];omega) | omega
    · have C2:=hid (NewNo17 zs _ n (n+2) v1 F1 GP.out.2.2.1.len hn GP.out.2.2.1.wf hE)
      clear F1
      go_wp2_with fail
      refine C2.out.mono ?_;rintro r v2 ⟨rfl,hv2⟩;have hb2:Below wr.heap.size wr v2:=Y1.out.2.trans (low_of17 hv2 Y1.out.2.size);have ec2:v2.cell? ⟨ge,i,none⟩=some (.slice ao n c):=(hv2.cell (p:=⟨ge,i,none⟩) (by have:=GP.out.2.2.2.1;have:=Y1.out.2.size;show ge<_;omega)).trans ec1
      have C3:=hid (asLent17k zs ao n c w.heap.size wr.heap.size v2 GP.out.2.2.1.len hn (GP.out.2.2.1.rd.below (GP.out.1.bel.trans (low_of17 hb2 GP.out.2.2.2.2))) GP.out.2.2.2.2 (Y1.out.1.below hv2 Y1.out.1.lt));have Y2:=qsd hb2;clear hv2 hb2 ec1 C2
      go_wp2_with fail
      refine C3.out.mono ?_;rintro r v3 ⟨rfl,hv3⟩;have hb3:Below wr.heap.size wr v3:=But.below Y2.out hv3 Y2.out.size (Nat.le_refl _);have ec3:v3.cell? ⟨ge,i,none⟩=some (.slice ao n c):=(World.cell?_of_block (a:=⟨ge,i,none⟩) (hv3.block ge (by have:=GP.out.2.2.2.1;have:=Y2.out.size;omega) (by have:=GP.out.2.2.2.1;omega))).trans ec2
      have C4:=hid (rNewNo17 zs ao n c v3 (GP.out.2.2.1.rd.below (GP.out.1.bel.trans (low_of17 hb3 GP.out.2.2.2.2)) |>.mono (Nat.le_trans GP.out.2.2.2.2 hb3.size)) GP.out.2.2.1.len hn GP.out.2.2.1.wf hE)
      have Y3:=qsd hb3;clear hv3 hb3 ec2 C3
      go_wp2_with fail
      refine C4.out.mono ?_;rintro r v4 ⟨rfl,hv4⟩;have Y4:=qsd (Y3.out.trans (low_of17 hv4 Y3.out.size));have C5:=hid (New17 [0,4607182418800017408] _ 2 2 _ (fs01 v4) rfl (by decide) (by intro x hx;simp at hx;rcases hx with rfl | rfl <;> decide) edg01)
      clear hv4 ec3 C4
      go_wp2_with fail
      refine C5.out.mono ?_;rintro r v5 ⟨⟨g,gE,gC,cE,rfl,hH,p1,p2,p3⟩,hv5⟩;have hb5:Below wr.heap.size wr v5:=(Y4.out.alloc Y4.out.size _).trans (low_of17 hv5 (by have:=Y4.out.size;simp;omega))
      have C6:=hid (rNew17 [0,4607182418800017408] _ 2 2 _ (fs01 v5) rfl (by decide) (by intro x hx;simp at hx;rcases hx with rfl | rfl <;> decide) edg01)
      have Y5:=(qsd (ai hH (ai p1 (ai p2 (ai p3 (ai hv5 hb5))))));clear hH p1 p2 p3 hv5 hb5 C5
      go_wp2_with fail
      refine C6.out.mono ?_;rintro r v6 ⟨⟨r',rE,rC,dE,rfl,hR,p4,p5,p6⟩,hv6⟩
      have HQ:Pq17 v6 wr.heap.size v6.heap.size ⟨g,gE,gC,cE,r',rE,rC,dE⟩ [0,4607182418800017408] ⟨List.replicate (2-1) 0,0,0,0⟩∧Below wr.heap.size wr v6:=by
       have z5:=Y5.out.2.2.2.2.2.size;have z4:=Y4.out.size;have z6:=hv6.size;have zz:(v5.alloc (.cells #[.float .f64 0,.float .f64 4607182418800017408] 41)).heap.size=v5.heap.size+1:=by simp
       have zy:(v4.alloc (.cells #[.float .f64 0,.float .f64 4607182418800017408] 41)).heap.size=v4.heap.size+1:=by simp
       have l1:=Y5.out.1.bl.lt;have l2:=Y5.out.1.cs.lt;have l3:=Fs.lt17 Y5.out.1.es (by simp)
       have l4:=hR.bl.lt;have l5:=hR.cs.lt;have l6:=Fs.lt17 hR.es (by simp)
       have hH6:=(Y5.out.1.below (w':=v5.alloc (.cells #[.float .f64 0,.float .f64 4607182418800017408] 41)) ((Below.refl _ _).alloc (Nat.le_refl _) _)).below hv6
       have hq:Pq17 v6 wr.heap.size v6.heap.size ⟨g,gE,gC,cE,r',rE,rC,dE⟩ [0,4607182418800017408] ⟨List.replicate (2-1) 0,0,0,0⟩:=by
        have q1:=Y5.out.2.1;have q2:=Y5.out.2.2.1;have q3:=Y5.out.2.2.2.1;exact ⟨hH6,hR,by refine ⟨?_,?_,?_,?_,?_,?_⟩ <;> (simp only;omega),by refine ⟨?_,?_,?_,?_,?_,?_⟩ <;> (simp only;omega),by constructor <;> (simp only;omega),by constructor <;> (simp only;omega),by constructor <;> (simp only;omega),by constructor <;> (simp only;omega)⟩
       exact ⟨hq,(Y5.out.2.2.2.2.2.alloc z5 _).trans (low_of17 hv6 (by omega))⟩
      have GG:=grow17 GP.out.1 GP.out.2.1 hi2 HQ.1 HQ.2;clear hR p4 p5 p6 hv6 C6 HQ;obtain ⟨y0,vh',u1,r1,y1,y2,y3,y4,⟨bh,nh,kh,eh⟩,vr',u2,t1,y5,y6,⟨br,nr,kr,er⟩,HG⟩:=GG;rw [y4] at t1;clear y4;have R1:=qsd r1;have T1:=qsd t1;clear r1 t1;subst eh;subst er
      go_wp2_with (at_builtin;first | (refine Lib.wpList_append_run _ rfl _ _ 26 26 rfl _ _ rfl rfl _ _ R1.out ?_) | (refine Lib.wpList_append_run _ rfl _ _ 27 27 rfl _ _ rfl rfl _ _ T1.out ?_))
      go_roundw
      case rel=>exact ⟨i+1,by omega,by first | rfl | simp,qsd ⟨_,_,_,_,HG.out.1,HG.out.2⟩⟩
      case measure=>first | (simp [intOf];omega) | omega
  · have d1:decide ((i:Int)<2)=false:=by simp;omega
    have P2:Pr17 2 wr (ge+1) vh vr Kh Kr:=by
     have ei:i=2:=by omega
     rw [←ei];exact P
    obtain ⟨gh,gr,ch,cr,lo,mi,hi',a,b,E,F,hS⟩:=stand17 G P2;have HS:=(qsd (ai hS (ai G.bel G.le)));clear hS G P P2 hi hi2;go_wp2
    go_loopw [17,113] (fun kv _ wr=>∃ k:Nat,k≤n3∧kv=.int .i64 k∧Aside (Sd17 wr gw gh gr ch cr lo mi hi' a b E F k∧Below w.heap.size w wr)) (fun kv _ _=>n3-(intOf kv).toNat)
    case atStart=>exact ⟨0,Nat.zero_le _,rfl,qsd ⟨HS.out.1,HS.out.2.1⟩⟩
    case round =>
     obtain ⟨k,hk,rfl,HK⟩:=hrel
     by_cases hkn:k<n3
     · have d2:decide ((k:Int)<(n3:Int))=true:=by simp;omega
       have hko:k<ops.length:=by have:=X3.out.len;omega
       obtain ⟨b0,off,hb0,rfl,hcs⟩:=X3.out.rd (by rintro rfl;simp at hko)
       obtain ⟨c0,c1',c2'⟩:=hcs k hko;have hbk:=HK.out.2;have c0:wr.cell? ⟨b0,off+k*3,none⟩=_:=(hbk.cell (p:=⟨b0,off+k*3,none⟩) hb0).trans c0;have c1':wr.cell? ⟨b0,off+k*3+1,none⟩=_:=(hbk.cell (p:=⟨b0,off+k*3+1,none⟩) hb0).trans c1';have c2':wr.cell? ⟨b0,off+k*3+2,none⟩=_:=(hbk.cell (p:=⟨b0,off+k*3+2,none⟩) hb0).trans c2';have hxw:=X3.out.wf (ops.getD k (0,0,0)) (by rw [List.getD_eq_getElem?_getD,List.getElem?_eq_getElem hko];exact List.getElem_mem hko)
       generalize ops.getD k (0,0,0)=o at c0 c1' c2' hxw;obtain ⟨kd,z,x⟩:=o;simp only at c0 c1' c2' hxw;have C:=hid (step17 (kd:=kd) (z:=z) HK.out.1 hxw (by omega))
       have i0:(0:Int)≤(k:Int):=by omega
       have i1:(k:Int)<(n3:Int):=by omega
       clear hcs hbk hxw
       go_wp2_with fail
       refine C.out.mono ?_;rintro r v ⟨rfl,hS,hb⟩;have HK1:Aside (Sd17 v gw gh gr ch cr lo mi hi' a b E F (k+1)∧Below w.heap.size w v):=⟨hS,HK.out.2.trans ⟨hb.os,hb.tape,hb.output,hb.size,fun q hq=>hb.block q (by have:=HS.out.2.2;omega)⟩⟩
       clear hS hb C c0 c1' c2';go_wp2
       go_roundw
       case rel=>exact ⟨k+1,by omega,by first | rfl | simp,HK1⟩
       case measure=>first | (simp [intOf];omega) | omega
     · have d2:decide ((k:Int)<(n3:Int))=false:=by simp;omega
       have HT:Aside (∃ m,m≤1048576∧Sd17 wr gw gh gr ch cr lo mi hi' a b E F m∧Below w.heap.size w wr):=⟨k,by omega,HK.out.1,HK.out.2⟩
       clear HK;go_wp2
       go_loopw [19,125] (fun tv _ wr=>∃ t:Nat,t≤2∧tv=.int .i64 t∧Aside (∃ m,m≤1048576∧Sd17 wr gw gh gr ch cr lo mi hi' a b E F m∧Below w.heap.size w wr)) (fun tv _ _=>2-(intOf tv).toNat)
       case atStart=>exact ⟨0,by omega,rfl,HT⟩
       case round =>
        obtain ⟨t,ht,rfl,HR⟩:=hrel;clear HT
        by_cases ht2:t<2
        · have d3:decide ((t:Int)<2)=true:=by simp;omega
          have HI:Aside (∃ m,m≤1048576+0∧Sd17 wr gw gh gr ch cr lo mi hi' a b E F m∧Below w.heap.size w wr):=HR;clear HR;go_wp2
          go_loopw [20,129] (fun jv _ wr=>∃ j:Nat,j≤6∧jv=.int .i64 j∧Aside (∃ m,m≤1048576+j∧Sd17 wr gw gh gr ch cr lo mi hi' a b E F m∧Below w.heap.size w wr)) (fun jv _ _=>6-(intOf jv).toNat)
          case atStart=>exact ⟨0,by omega,rfl,HI⟩
          case round =>
           obtain ⟨j,hj,rfl,HJ⟩:=hrel;clear HI;obtain ⟨m,hm,hS,hB⟩:=HJ.out;clear HJ
           by_cases hj6:j<6
           · have d4:decide ((j:Int)<6)=true:=by simp;omega
             have C:=hid (fun kd z=>step17 (kd:=kd) (z:=z) (x:=0) hS (by decide) (by omega))
             have HBB:=qsd hB;clear hS hB
             go_wp2_with fail
             refine (C.out _ _).mono ?_;rintro r v ⟨rfl,hS,hb⟩;have HK1:Aside (∃ m,m≤1048576+(j+1)∧Sd17 v gw gh gr ch cr lo mi hi' a b E F m∧Below w.heap.size w v):=⟨m+1,by omega,hS,HBB.out.trans ⟨hb.os,hb.tape,hb.output,hb.size,fun q hq=>hb.block q (by have:=HS.out.2.2;omega)⟩⟩
             clear hS hb C;go_wp2
             go_roundw
             case rel=>exact ⟨j+1,by omega,by first | rfl | simp,HK1⟩
             case measure=>first | (simp [intOf];omega) | omega
           · have d4:decide ((j:Int)<6)=false:=by simp;omega
             have C:=hid (ownedS hS (by omega))
             have HBB:=qsd hB;clear hS hB
             go_wp2_with fail
             refine C.out.mono ?_;rintro r v ⟨rfl,hS,hb⟩;have HK1:Aside (∃ m,m≤1048576∧Sd17 v gw gh gr ch cr lo mi hi' a b E F m∧Below w.heap.size w v):=⟨0,by omega,hS,HBB.out.trans ⟨hb.os,hb.tape,hb.output,hb.size,fun q hq=>hb.block q (by have:=HS.out.2.2;omega)⟩⟩
             clear hS hb C;go_wp2
             go_roundw
             case rel=>exact ⟨t+1,by omega,by first | rfl | simp,HK1⟩
             case measure=>first | (simp [intOf];omega) | omega
        · have d3:decide ((t:Int)<2)=false:=by simp;omega
          have HF:Aside (Below w.heap.size w wr):=by obtain ⟨m,_,_,h⟩:=HR.out;exact h
          clear HR;go_wp2;go_ret;exact ⟨rfl,HF.out⟩
end
section
open Go.ChangeShapes Go.WideShapes Go.ChangeAt Go.RowKit
theorem Tryz.cellsO17:Tryz.prog.cellsOf 44=3:=by kernel_rfl
theorem op_of17 {H:Type}{enc:TypeId×Value→H}{W:World}{m:Nat}{cs:List Value}{y:DataW H×List MemPlace}(hl3:cs.length=3) (h:DataW.trod enc Tryz.prog W 0 (fun _=>true) true m 44 cs=some y) :
 ∃ (kd z:Int) (x:Nat),cs=[.int .i64 kd,.int .i64 z,.float .f64 x]∧x<18446744073709551616:=by
 have c3:Tryz.prog.cellsOf 3=1:=by kernel_rfl
 have cF:Tryz.prog.cellsOf 41=1:=by kernel_rfl
 obtain ⟨xs,k,rfl,hx,hl,hxl,hfs⟩:=DataW.trod_struct Tryz.underlying44 h
 match cs,hl3 with
 | [c0,c1,c2],_ =>
   have h0:DataW.trod enc Tryz.prog W 0 (fun _=>true) true k 3 (List.take (Tryz.prog.cellsOf 3) (List.drop 0 [c0,c1,c2]))=xs[0]?:=hfs 0 _ rfl
   have h1:DataW.trod enc Tryz.prog W 0 (fun _=>true) true k 3 (List.take (Tryz.prog.cellsOf 3) (List.drop 1 [c0,c1,c2]))=xs[1]?:=hfs 1 _ rfl
   have h2:DataW.trod enc Tryz.prog W 0 (fun _=>true) true k 41 (List.take (Tryz.prog.cellsOf 41) (List.drop 2 [c0,c1,c2]))=xs[2]?:=hfs 2 _ rfl
   rw [c3] at h0 h1;rw [cF] at h2
   match xs,hxl with
   | [x0,x1,x2],_ =>
     obtain ⟨a,e1,_⟩:=DataW.trod_int Tryz.underlying3 h0;obtain ⟨b,e2,_⟩:=DataW.trod_int Tryz.underlying3 h1;obtain ⟨c,e3,_,hw⟩:=trodF Tryz.underlying41 h2;simp only [List.drop_zero,List.take_succ_cons,List.take_zero,List.drop_succ_cons,List.cons.injEq,and_true] at e1 e2 e3;exact ⟨a,b,c,by rw [e1,e2,e3],of_decide_eq_true hw⟩
theorem cameO_of {H:Type}{enc:TypeId×Value→H}{W:World}{a:Option Addr}{n c:Nat}{d:DataW H}{p:List MemPlace}(h:DataW.Trod enc Tryz.prog W 0 (fun _=>true) true 23 (.slice a n c) d p) :
 ∃ ops,CameO W a n c ops∧((d=.nil∧c=0)∨∃ elems spare:List (DataW H),d=.slice elems spare∧elems.length+spare.length=c):=by
 obtain ⟨fuel,hf⟩:=h
 rcases DataW.trod_slice Tryz.underlying23 hf with ⟨hcs,hx⟩|⟨x,l,cp,elems,rest,m,_,hcs,hx,hb,hl,hm,hlen,hel,hsp,hns⟩
 · simp [Value.cells] at hcs
   obtain ⟨rfl,rfl,rfl⟩:=hcs;exact ⟨[],⟨rfl,Nat.le_refl _,(fun x hx=>by cases hx),(fun h=>absurd rfl h)⟩,.inl ⟨(Prod.mk.inj hx).1,rfl⟩⟩
 · simp [Value.cells] at hcs
   obtain ⟨rfl,rfl,rfl⟩:=hcs
   have each:∀ i,∃ o:Int×Int×Nat,i<n→o.2.2<18446744073709551616∧W.cell? ((x.add (i*3)).add 0)=some (.int .i64 o.1)∧W.cell? ((x.add (i*3)).add 1)=some (.int .i64 o.2.1)∧W.cell? ((x.add (i*3)).add 2)=some (.float .f64 o.2.2):=by
    intro i
    by_cases hi:i<n
    · have hb':=hel i hi
      rw [List.getElem?_eq_getElem (show i<elems.length by omega),Tryz.cellsO17,Option.bind_eq_some_iff] at hb'
      obtain ⟨cs',hcs,hy'⟩:=hb';have hcl:=World.cells?_some hcs;obtain ⟨kd,z,v,rfl,hw⟩:=op_of17 hcl.2.1 hy';exact ⟨(kd,z,v),fun _=>⟨hw,hcl.2.2 0 (by omega),hcl.2.2 1 (by omega),hcl.2.2 2 (by omega)⟩⟩
    · exact ⟨(0,0,0),fun h=>absurd h hi⟩
   have hg:∀ i,i<n→((List.range n).map (fun i=>Classical.choose (each i))).getD i (0,0,0)=Classical.choose (each i):=fun i hi=>by
    rw [List.getD_eq_getElem?_getD,List.getElem?_map,List.getElem?_range hi];rfl
   refine ⟨(List.range n).map (fun i=>Classical.choose (each i)),⟨by simp,hl,fun o ho=>?_,fun hne=>?_⟩,.inr ⟨_,_,(Prod.mk.inj hx).1,?_⟩⟩
   · obtain ⟨i,hi,rfl⟩:=List.mem_map.1 ho
     exact (Classical.choose_spec (each i) (List.mem_range.1 hi)).1
   · have hn0:0<n:=by
      rcases Nat.eq_zero_or_pos n with h0|h0
      · subst h0;simp at hne
      · exact h0
     obtain ⟨b,off,spot⟩:=x;have hc0:=(Classical.choose_spec (each 0) hn0).2.1;have hspot:spot=none:=by simpa [Addr.add] using World.cell?_spot hc0
     subst hspot;refine ⟨b,off,World.block_lt_of_cell? W _ (by simpa [Addr.add] using hc0),rfl,fun i hi=>?_⟩
     rw [List.length_map,List.length_range] at hi;rw [hg i hi];have q:=Classical.choose_spec (each i) hi;generalize Classical.choose (each i)=o at q ⊢;rw [add_noneF,add_noneF,add_noneF,add_noneF] at q;exact q.2
   · have hr:=(hsp rfl).1
     simp only [List.length_map];omega
end
end Go.Proofs.YtffeldkheibccaaGreatDoor
