import Derived.Test.YtihjfhpoiheomaaGreatDoorRB6x
import Derived.ArgAppend
import Derived.Maps.AppendAt
import Derived.WalkMore
import Derived.Laws.Cover2
import Derived.BigQuiet
import Derived.Test.YtihjfhpoiheomaaGreatDoorD30x
set_option linter.unusedVariables false
set_option linter.unusedSimpArgs false
set_option maxHeartbeats 16000000
set_option maxRecDepth 20000
namespace Go.Proofs.YtihjfhpoiheomaaGreatDoor
namespace J
end J
namespace PB
open Go.RowKit
abbrev Rw (lo:Nat) (w:World) (v:Value) (n:Nat) (ys:List Value):Prop:=w.ownsRow lo 40 1 v n ys
def Keep (w w':World):Prop:=∀ (g:Nat) (cur:Array Value) (e:TypeId),e≠22→e≠32→w.heap[g]?=some (.cells cur e (0,0))→w'.heap[g]?=some (.cells cur e (0,0))
theorem Keep.trans {a b c:World}(h:Keep a b) (k:Keep b c):Keep a c:=fun g cur t h1 h2 e=>k g cur t h1 h2 (h g cur t h1 h2 e)
theorem Keep.row {w w':World}{lo:Nat}{v:Value}{n:Nat}{ys:List Value}(h:Rw lo w v n ys) (k:Keep w w'):Rw lo w' v n ys:=by
 refine ⟨h.1,?_⟩
 rcases h.2 with hn|⟨g,cap,cur,rfl,hlo,hg,rest⟩
 · exact .inl hn
 · exact .inr ⟨g,cap,cur,rfl,hlo,k _ _ _ (by decide) (by decide) hg,rest⟩
theorem Tryz.info22:(Tryz.prog.info? 22).map (fun i=>(i.zero,i.size,i.bytes))=some (some (.slice none 0 0),1,24):=by kernel_rfl
theorem row_other {w w':World}{lo e s:Nat}{v:Value}{n:Nat}{ys:List Value}(h:w.ownsRow lo e s v n ys) (hb:∀ g,v.ownBlock=some g→w'.heap[g]?=w.heap[g]?):w'.ownsRow lo e s v n ys:=by
 refine ⟨h.1,?_⟩
 rcases h.2 with hn|⟨g,cap,cur,rfl,hlo,hg,rest⟩
 · exact .inl hn
 · refine .inr ⟨g,cap,cur,rfl,hlo,?_,rest⟩
   rw [hb g rfl];exact hg
theorem row_set {w:World}{lo g n cap:Nat}{ys:List Value}(h:Rw lo w (.slice (some ⟨g,0,none⟩) n cap) n ys) (k:Nat) (hk:k<n) (u:Value) :
 Rw lo (w.setCell ⟨g,k,none⟩ u) (.slice (some ⟨g,0,none⟩) n cap) n (ys.set k u):=by
 refine ⟨by simpa using h.1,?_⟩
 rcases h.2 with ⟨e,hn⟩|⟨g',cap',cur,e,hlo,hg,hnc,hm,hs,ht⟩
 · omega
 · cases e
   refine .inr ⟨g,cap,cur.set! k u,rfl,hlo,?_,hnc,hm,by simpa using hs,?_⟩
   · simp only [World.setCell,Array.getElem?_modify,hg]
     simp
   · rw [←ht]
     simp [List.take_set]
theorem row_setOther {w:World}{lo e s:Nat}{v:Value}{n:Nat}{ys:List Value}(h:w.ownsRow lo e s v n ys) (a:Addr) (u:Value) (ha:v.ownBlock≠some a.block):(w.setCell a u).ownsRow lo e s v n ys :=
 row_other h fun g hg=>Below.heap_setCell _ _ _ _ (fun e=>ha (by rw [hg,e]))
theorem append_word (w:World) (lo:Nat) (v:Value) (n:Nat) (ys:List Value) (x:Value) (s:Nat) (ty:TypeId) (hown:Rw lo w v n ys) (hx:w.cell? ⟨s,0,none⟩=some x) (h1:x.oneCell'=true)
 (hbig:n+1≤17592186044416) (hlo:lo≤w.heap.size) :
 ∃ v' w',(Builtin.append_ #[22,22] ty #[v,.slice (some ⟨s,0,none⟩) 1 1]).run Tryz.prog w=.ok v' w'∧Rw lo w' v' (n+1) (ys++[x])∧w.grownBy w' v.ownBlock ∧
   (v'.ownBlock=v.ownBlock∨∃ g,v'.ownBlock=some g∧w.heap.size≤g)∧(∀ (u:Value) (k:Nat) (zs:List Value),Rw lo w u k zs→(u.ownBlock=v.ownBlock→k≤n)→Rw lo w' u k zs):=by
 obtain ⟨i0,hi,hz0,hz1,hz2⟩:=info_parts Tryz.info40
 have hnews:∀ j u,[x][j]?=some u→w.cell? ((⟨s,0,none⟩:Addr).add j)=some u:=by
  intro j u hj
  match j,hj with
  | 0,hj=>simp at hj;subst hj;simpa [Addr.add] using hx
 have h1':∀ u ∈ [x],u.oneCell'=true:=by intro u hu;simp at hu;subst hu;exact h1
 have keep:∀ w',w.grownBy w' none→∀ (u:Value) (k:Nat) (zs:List Value),Rw lo w u k zs→Rw lo w' u k zs:=by
  intro w' hg u k zs hr
  rcases hr.2 with hn|⟨g,cap,cur,rfl,hl,hgb,rest⟩
  · exact ⟨hr.1,.inl hn⟩
  · refine ⟨hr.1,.inr ⟨g,cap,cur,rfl,hl,?_,rest⟩⟩
    rw [hg.block g (Array.getElem?_eq_some_iff.1 hgb).1 (by simp)];exact hgb
 have newb:∀ (v':Value) (w':World) (m:Nat) (zs:List Value),w'.ownsRow w.heap.size 40 1 v' (m+1) zs→∃ g,v'.ownBlock=some g∧w.heap.size≤g:=by
  intro v' w' m zs h
  rcases h.2 with ⟨_,h0⟩|⟨g,cap,cur,rfl,hl,_⟩
  · omega
  · exact ⟨g,rfl,hl⟩
 have mono:∀ (v':Value) (w':World) (m:Nat) (zs:List Value),w'.ownsRow w.heap.size 40 1 v' m zs→Rw lo w' v' m zs:=by
  intro v' w' m zs h;refine ⟨h.1,?_⟩
  rcases h.2 with hn|⟨g,cap,cur,rfl,hl,rest⟩
  · exact .inl hn
  · exact .inr ⟨g,cap,cur,rfl,by omega,rest⟩
 rcases hown.2 with ⟨rfl,rfl⟩|⟨g,cap,cur,rfl,hlg,hg,hnc,hm,hs,ht⟩
 · obtain ⟨v',w',r1,r2,r3,_,_⟩:=run_append_own_at (P:=Tryz.prog) w w.heap.size 22 ty 40 i0 (.float .f64 0) 1 8 Tryz.underlying22 hi hz0 hz1 hz2 rfl (by decide) (.slice none 0 0) 0 [] (World.ownsRow_nil _ _ _ _) ⟨s,0,none⟩ 1 1 [x] rfl hnews h1' (by unfold maxLen;omega) (by omega) (Nat.le_refl _)
   have hy:ys=[]:=List.eq_nil_of_length_eq_zero (by simpa using hown.1)
   subst hy;exact ⟨v',w',r1,mono _ _ _ _ (by simpa using r2),r3,.inr (newb _ _ 0 _ (by simpa using r2)),fun u k zs hr _=>keep _ r3 u k zs hr⟩
 · by_cases hroom:n+1≤cap
   · have hr:=run_append_room (P:=Tryz.prog) w 22 ty 40 i0 Tryz.underlying22 hi g n cap cur hg ⟨s,0,none⟩ 1 1 [x] (by rw [hz1];rfl) hnews h1' hroom (by rw [hz1,hs];simp;omega)
     rw [hz1] at hr;refine ⟨_,_,hr,⟨by simpa using hown.1,.inr ⟨g,cap,_,rfl,hlg,setRow_heap w g cur _ 40 _ hg,hroom,hm,?_,?_⟩⟩,⟨rfl,rfl,rfl,by simp,fun k _ hk=>setRow_other w g k _ (fun e=>hk (by simp [Value.ownBlock,e]))⟩,.inl rfl,?_⟩
     · simp only [List.size_toArray,List.length_append,List.length_take,List.length_drop,Array.length_toList,List.length_cons,List.length_nil]
       omega
     · rw [ht]
       have hyl:ys.length=n:=by simpa using hown.1
       simp only [Nat.mul_one,List.append_assoc];rw [←List.append_assoc];rw [List.take_append_of_le_length (by simp [hyl])]
       rw [List.take_of_length_le (by simp [hyl])]
     · intro u k zs hr2 hle
       rcases hr2.2 with hn|⟨g2,cap2,cur2,rfl,hl2,hg2,hnc2,hm2,hs2,ht2⟩
       · exact ⟨hr2.1,.inl hn⟩
       · by_cases he:g2=g
         · subst he
           rw [hg] at hg2
           cases hg2
           have hk:=hle rfl;refine ⟨hr2.1,.inr ⟨g2,cap2,_,rfl,hl2,setRow_heap w g2 cur _ 40 _ hg,hnc2,hm2,?_,?_⟩⟩
           · simp only [List.size_toArray,List.length_append,List.length_take,List.length_drop,Array.length_toList,List.length_cons,List.length_nil]
             omega
           · have hcl:cur.toList.length=cap2:=by simpa using hs2
             rw [←ht2];simp only [Nat.mul_one,List.append_assoc];rw [List.take_append_of_le_length (by rw [List.length_take];omega),List.take_take,Nat.min_eq_left hk]
         · refine ⟨hr2.1,.inr ⟨g2,cap2,cur2,rfl,hl2,?_,hnc2,hm2,hs2,ht2⟩⟩
           rw [setRow_other w g g2 _ he];exact hg2
   · obtain ⟨v',w',r1,r2,r3⟩:=run_append_arg_grows (P:=Tryz.prog) w 22 ty 40 i0 (.float .f64 0) 1 8 Tryz.underlying22 hi hz0 hz1 hz2 rfl (by decide) ⟨g,0,none⟩ n cap ys (by simpa using hown.1) (fun j u hj=>hown.cells (g:=g) (by simp [Value.ownBlock]) j u hj) ⟨s,0,none⟩ 1 1 [x] rfl hnews (by omega) (by unfold maxLen;omega) (by omega)
     exact ⟨v',w',r1,mono _ _ _ _ r2,⟨r3.os,r3.tape,r3.output,r3.size,fun k hk _=>r3.block k hk (by simp)⟩,.inr (newb _ _ n _ r2),fun u k zs hr _=>keep _ r3 u k zs hr⟩
theorem append_nat (w:World) (lo:Nat) (v:Value) (n:Nat) (vs:List Value) (x:Value) (s:Nat) (ty:TypeId) (hown:w.ownsRow lo 22 1 v n vs) (hx:w.cell? ⟨s,0,none⟩=some x) (h1:x.oneCell'=true)
 (hbig:n+1≤1000000) (hlo:lo≤w.heap.size) :
 ∃ g cap w',(Builtin.append_ #[30,30] ty #[v,.slice (some ⟨s,0,none⟩) 1 1]).run Tryz.prog w=.ok (.slice (some ⟨g,0,none⟩) (n+1) cap) w'∧w'.ownsRow lo 22 1 (.slice (some ⟨g,0,none⟩) (n+1) cap) (n+1) (vs++[x])∧w.grownBy w' v.ownBlock∧Keep w w':=by
 obtain ⟨i0,hi,hz0,hz1,hz2⟩:=info_parts Tryz.info22
 have hnews:∀ j u,[x][j]?=some u→w.cell? ((⟨s,0,none⟩:Addr).add j)=some u:=by
  intro j u hj
  match j,hj with
  | 0,hj=>simp at hj;subst hj;simpa [Addr.add] using hx
 have h1':∀ u ∈ [x],u.oneCell'=true:=by intro u hu;simp at hu;subst hu;exact h1
 obtain ⟨v',w',r1,r2,r3,_,_⟩:=run_append_own_at (P:=Tryz.prog) w lo 30 ty 22 i0 (.slice none 0 0) 1 24 Tryz.underlying30 hi hz0 hz1 hz2 rfl (by decide) v n vs hown ⟨s,0,none⟩ 1 1 [x] rfl hnews h1' (by unfold maxLen;omega) (by omega) hlo
 have hk:Keep w w':=by
  intro g cur te ht1 ht2 hg;rw [r3.block g (Array.getElem?_eq_some_iff.1 hg).1]
  · exact hg
  · intro e
    rcases hown.2 with ⟨rfl,_⟩|⟨g2,cap2,cur2,rfl,_,hg2,_⟩
    · simp [Value.ownBlock] at e
    · simp [Value.ownBlock] at e
      subst e;rw [hg] at hg2
      cases hg2
      exact ht1 rfl
 rcases r2.2 with ⟨_,h0⟩|⟨g,cap,cur,rfl,rest⟩
 · omega
 · exact ⟨g,cap,w',r1,r2,r3,hk⟩
theorem wpList_append_run2 {w:World}{ops:Array Oper}{rest:List Oper}{o:Oper}{a:Act}{Q:Exit→Act→World→Prop}(hgd:o.guard=none) (s x:Operand) (t:TypeId)
 (ho:o.op=.call { callee:=.builtin .append,args:=#[s,x],argTypes:=#[t,t] }) (v u:Value) (hs:a.eval s=v) (hx:a.eval x=u) (v':Value) (w':World)
 (hrun:(Builtin.append_ #[t,t] o.type #[v,u]).run Tryz.prog w=.ok v' w') (h:wpList Tryz.prog ops Q rest (a.put o.dst v') w'):wpList Tryz.prog ops Q (o::rest) a w:=by
 refine wpList_plain hgd fun K hK=>?_
 unfold Oper.wp;simp [execOp,ho,resolve,invoke,builtin,hs,hx,hrun,Result.andThen];exact hK _ _ h
def Bk (lo:Nat) (w:World) (h:Nat) (vs:List Value):Prop:=lo≤h∧∃ v,w.heap[h]?=some (.cells #[v] 32 (0,0))∧w.ownsRow lo 22 1 v vs.length vs
theorem Bk.made (lo:Nat) (w:World) (hlo:lo≤w.heap.size):Bk lo (w.alloc (.cells #[.slice none 0 0] 32)) w.heap.size [] :=
 ⟨hlo,_,heap_alloc_new w _,World.ownsRow_nil _ _ _ _⟩
theorem take_any (lo h:Nat) (vs:List Value) (ao:Option Addr) (n cap:Nat) (w:World) (hB:Bk lo w h vs) (hlen:vs.length≤1000) (hlo:lo≤w.heap.size) :
 Calls Tryz.prog 16 #[.pointer (some ⟨h,0,none⟩),.slice ao n cap] w fun r w'=>r=.returned (.tuple #[])∧Bk lo w' h (vs++[.slice ao n cap])∧Keep w w'∧Below lo w w'∧w.heap.size≤w'.heap.size:=by
 obtain ⟨hlh,v,hv,hrow⟩:=hB;have hhl:=(Array.getElem?_eq_some_iff.1 hv).1;have hc:w.cell? ⟨h,0,none⟩=some v:=by simp [World.cell?,hv]
 have hrow1:(w.alloc (.cells #[.slice ao n cap] 22)).ownsRow lo 22 1 v vs.length vs:=hrow.alloc _;obtain ⟨g,cap',w',hap,hown,hgrow,hkeep⟩:=append_nat (w.alloc (.cells #[.slice ao n cap] 22)) lo v vs.length vs (.slice ao n cap) w.heap.size 30 hrow1 (by unfold World.cell?;simp only [heap_alloc_new];rfl) rfl (by omega) (by simp;omega)
 have hvh:v.ownBlock≠some h:=by
  intro e
  rcases hrow.2 with ⟨rfl,_⟩|⟨g2,cap2,cur2,rfl,_,hg2,_⟩
  · simp [Value.ownBlock] at e
  · simp [Value.ownBlock] at e
    subst e;rw [hv] at hg2
    cases hg2
 have hh':w'.heap[h]?=some (.cells #[v] 32 (0,0)):=by
  rw [hgrow.block h (by simp;omega) (fun e=>hvh e.symm),Below.heap_alloc _ _ _ hhl];exact hv
 have hf':w'.frozen? ⟨h,0,none⟩=false:=by simp [World.frozen?,hh']
 have hc':w'.cell? ⟨h,0,none⟩=some v:=by simp [World.cell?,hh']
 have hgh:g≠h:=by
  intro e;subst e
  rcases hown.2 with ⟨e,_⟩|⟨g2,cap2,cur2,e,_,hg2,_⟩
  · cases e
  · cases e
    rw [hh'] at hg2
    cases hg2
 have hbel:Below lo w w':=((Below.refl lo w).alloc hlo _).grown hgrow (by simp;omega) (fun k hk=>by
  rcases hrow.2 with ⟨rfl,_⟩|⟨g2,cap2,cur2,rfl,hl2,_⟩
  · simp [Value.ownBlock] at hk
  · simp [Value.ownBlock] at hk;omega)
 have hsz:w.heap.size≤w'.heap.size:=by have:=hgrow.size;simp at this;omega
 have HX:=(qsd (ai hown (ai hkeep (ai hh' (ai hgh (ai hbel (ai hlh hsz)))))));clear hown hkeep hh' hgh hbel hlh hsz hgrow hvh hrow1 hrow hv hhl;have HAP:=hid hap;clear hap;go_enter Tryz.func16,Tryz.ntmps16
 go_wp2_with (at_builtin;refine wpList_append_run2 rfl (.tmp 8) (.tmp 10) 30 rfl _ _ rfl rfl _ _ HAP.out ?_)
 go_end0
 obtain ⟨hown,hkeep,hh',hgh,hbel,hlh,hsz⟩:=HX.out;refine ⟨rfl,⟨hlh,.slice (some ⟨g,0,none⟩) (vs.length+1) cap',?_,?_⟩,?_,?_,by simpa [World.setCell] using hsz⟩
 · simp only [World.setCell,Array.getElem?_modify,hh']
   simp
 · have h1:=row_setOther hown ⟨h,0,none⟩ (.slice (some ⟨g,0,none⟩) (vs.length+1) cap') (by simp [Value.ownBlock];exact hgh)
   simpa using h1
 · intro b cur te ht1 ht2 hb
   have h1:(w.alloc (.cells #[.slice ao n cap] 22)).heap[b]?=some (.cells cur te (0,0)):=by rw [Below.heap_alloc _ _ _ (Array.getElem?_eq_some_iff.1 hb).1];exact hb
   have h2:=hkeep b cur te ht1 ht2 h1
   rw [Below.heap_setCell _ _ _ _ (fun e=>by
    subst e;rw [hh'] at h2
    cases h2
    exact ht2 rfl)]
   exact h2
 · exact hbel.trans ⟨rfl,rfl,rfl,by simp [World.setCell],fun k hk=>Below.heap_setCell _ _ _ _ (by simp;omega)⟩
end PB
namespace PB
open Go.RowKit
def slen:Value→Nat
 | .slice _ n _=>n
 | _=>0
def nth (vs:List Value) (i:Nat):Value:=vs.getD i (.slice none 0 0)
theorem Rw.len {lo:Nat}{w:World}{v:Value}{n:Nat}{ys:List Value}(h:Rw lo w v n ys):slen v=n:=by
 rcases h.2 with ⟨rfl,h0⟩|⟨g,cap,cur,rfl,_⟩
 · exact h0.symm
 · rfl
theorem Rw.lt {lo:Nat}{w:World}{v:Value}{n:Nat}{ys:List Value}(h:Rw lo w v n ys) (b:Nat) (hb:v.ownBlock=some b):lo≤b∧b<w.heap.size∧∃ cur,w.heap[b]?=some (.cells cur 40 (0,0)):=by
 rcases h.2 with ⟨rfl,h0⟩|⟨g,cap,cur,rfl,hlo,hg,_⟩
 · cases hb
 · cases hb
   exact ⟨hlo,(Array.getElem?_eq_some_iff.1 hg).1,cur,hg⟩
theorem Rw.noneLen {lo:Nat}{w:World}{v:Value}{n:Nat}{ys:List Value}(h:Rw lo w v n ys) (hb:v.ownBlock=none):n=0:=by
 rcases h.2 with ⟨rfl,h0⟩|⟨g,cap,cur,rfl,_⟩
 · exact h0
 · cases hb
structure Nice (lo:Nat) (w:World) (vs:List Value):Prop where
 rows:∀ i,i<vs.length→∃ ys,Rw lo w (nth vs i) (slen (nth vs i)) ys
 small:∀ i,i<vs.length→slen (nth vs i)≤17592186043904
 apart:∀ i j,i<vs.length→j<vs.length→i≠j→∀ b,(nth vs i).ownBlock=some b→(nth vs j).ownBlock≠some b
def mrk (i:Nat):Value:=.float .f64 (floatOfInt .f64 (1000+(i:Int)))
theorem mrk_ord (q:Nat) (h:q≤100):FloatKind.f64.format.order (floatOfInt .f64 (1000+(q:Int))) (floatOfInt .f64 (1000+(q:Int)))=some .eq:=by
 have h1:∀ j:_root_.Fin 101,FloatKind.f64.format.order (floatOfInt .f64 (1000+(j.val:Int))) (floatOfInt .f64 (1000+(j.val:Int)))=some .eq:=by decide +kernel
 exact h1 ⟨q,by omega⟩
structure P1 (lo h:Nat) (v:Value) (vs:List Value) (w:World) (i k:Nat) (wr:World):Prop where
 book:wr.heap[h]?=some (.cells #[v] 32 (0,0))
 list:wr.ownsRow lo 22 1 v vs.length vs
 below:Below lo w wr
 size:wr.heap.size=w.heap.size
 rows:∀ j,j<vs.length→∃ ys,Rw lo wr (nth vs j) (slen (nth vs j)) ys∧(j<i→ys=List.replicate (slen (nth vs j)) (mrk j))∧(j=i→ys.take k=List.replicate k (mrk i))
 oth:∀ (g:Nat) (cur:Array Value),w.heap[g]?=some (Obj.cells cur 3 (0,0))→wr.heap[g]?=some (Obj.cells cur 3 (0,0))
theorem P1.start {lo h:Nat}{v:Value}{vs:List Value}{w:World}(hv:w.heap[h]?=some (.cells #[v] 32 (0,0))) (hl:w.ownsRow lo 22 1 v vs.length vs) (hN:Nice lo w vs):P1 lo h v vs w 0 0 w :=
 ⟨hv,hl,Below.refl _ _,rfl,fun j hj=>by
  obtain ⟨ys,hy⟩:=hN.rows j hj;exact ⟨ys,hy,fun h=>absurd h (by omega),fun _=>by simp⟩,fun _ _ e=>e⟩
theorem P1.next {lo h:Nat}{v:Value}{vs:List Value}{w wr:World}{i:Nat}(H:P1 lo h v vs w i (slen (nth vs i)) wr):P1 lo h v vs w (i+1) 0 wr :=
 ⟨H.book,H.list,H.below,H.size,fun j hj=>by
  obtain ⟨ys,hy,a,b⟩:=H.rows j hj;refine ⟨ys,hy,fun h=>?_,fun _=>by simp⟩
  by_cases e:j=i
  · subst e
    have h1:=b rfl;have hl:ys.length=slen (nth vs j):=by simpa using hy.1
    rwa [←hl,List.take_length,hl] at h1
  · exact a (by omega),H.oth⟩
theorem P1.step {lo h:Nat}{v:Value}{vs:List Value}{w wr:World}{i k g n cap:Nat}(H:P1 lo h v vs w i k wr) (hN:Nice lo w vs) (hi:i<vs.length) (hV:nth vs i=.slice (some ⟨g,0,none⟩) n cap) (hk:k<n) :
 P1 lo h v vs w i (k+1) (wr.setCell ⟨g,k,none⟩ (mrk i)):=by
 obtain ⟨ys0,hy0,_,_⟩:=H.rows i hi;obtain ⟨hlg,_,cur,hcur⟩:=hy0.lt g (by rw [hV];rfl)
 have hgh:h≠g:=by intro e;subst e;rw [H.book] at hcur;cases hcur
 have hvg:v.ownBlock≠some g:=by
  intro e
  rcases H.list.2 with ⟨rfl,_⟩|⟨g2,cap2,cur2,rfl,_,hg2,_⟩
  · cases e
  · cases e;rw [hcur] at hg2;cases hg2
 refine ⟨?_,row_setOther H.list _ _ hvg,H.below.trans ⟨rfl,rfl,rfl,by simp [World.setCell],fun b hb=>Below.heap_setCell _ _ _ _ (by simp;omega)⟩,by simpa [World.setCell] using H.size,fun j hj=>?_,fun b cur' e=>by
  have h9:=H.oth b cur' e;have hbg:b≠g:=by intro e9;subst e9;rw [h9] at hcur;cases hcur
  rw [Below.heap_setCell _ _ _ _ hbg];exact h9⟩
 · rw [Below.heap_setCell _ _ _ _ hgh];exact H.book
 · obtain ⟨ys,hy,a,b⟩:=H.rows j hj
   by_cases e:j=i
   · subst e
     rw [hV] at hy ⊢;have h1:=row_set hy k hk (mrk j);have hl:ys.length=n:=by simpa [slen] using hy.1
     refine ⟨ys.set k (mrk j),h1,fun h=>absurd h (by omega),fun _=>?_⟩
     rw [List.take_succ_eq_append_getElem (by simp;omega),List.take_set_of_le (Nat.le_refl _),b rfl,List.replicate_succ']
     simp
   · refine ⟨ys,row_setOther hy _ _ (fun e2=>hN.apart i j hi hj (fun e3=>e e3.symm) g (by rw [hV];rfl) e2),a,fun h=>absurd h e⟩
structure P2 (lo h:Nat) (v:Value) (vs:List Value) (w:World) (i c d:Nat) (av:Value) (es:List Value) (x:Value) (wr:World):Prop where
 book:wr.heap[h]?=some (.cells #[v] 32 (0,0))
 list:wr.ownsRow lo 22 1 v vs.length vs
 below:Below lo w wr
 size:w.heap.size≤wr.heap.size
 all:wr.ownsRow w.heap.size 22 1 av es.length es
 len:es.length=5*i+d
 come:∀ j,i<j→j<vs.length→Rw lo wr (nth vs j) (slen (nth vs j)) (List.replicate (slen (nth vs j)) (mrk j))
 old:∀ j,j<es.length→Rw lo wr (nth es j) (slen (nth es j)) (List.replicate (slen (nth es j)) (mrk (j/5)))
 row:Rw lo wr x (slen x) (List.replicate (slen x) (mrk i))
 more:slen x=slen (nth vs i)+c
 less:∀ j,j<es.length→(nth es j).ownBlock=x.ownBlock→slen (nth es j)≤slen x
 off:∀ j,i<j→j<vs.length→∀ b,(nth vs j).ownBlock=some b→x.ownBlock≠some b∧∀ k,k<es.length→(nth es k).ownBlock≠some b
 oth:∀ (g:Nat) (cur:Array Value),w.heap[g]?=some (Obj.cells cur 3 (0,0))→wr.heap[g]?=some (Obj.cells cur 3 (0,0))
structure P2o (lo h:Nat) (v:Value) (vs:List Value) (w:World) (i:Nat) (av:Value) (es:List Value) (wr:World):Prop where
 book:wr.heap[h]?=some (.cells #[v] 32 (0,0))
 list:wr.ownsRow lo 22 1 v vs.length vs
 below:Below lo w wr
 size:w.heap.size≤wr.heap.size
 all:wr.ownsRow w.heap.size 22 1 av es.length es
 len:es.length=5*i
 come:∀ j,i≤j→j<vs.length→Rw lo wr (nth vs j) (slen (nth vs j)) (List.replicate (slen (nth vs j)) (mrk j))
 old:∀ j,j<es.length→Rw lo wr (nth es j) (slen (nth es j)) (List.replicate (slen (nth es j)) (mrk (j/5)))
 off:∀ j,i≤j→j<vs.length→∀ b,(nth vs j).ownBlock=some b→∀ k,k<es.length→(nth es k).ownBlock≠some b
 oth:∀ (g:Nat) (cur:Array Value),w.heap[g]?=some (Obj.cells cur 3 (0,0))→wr.heap[g]?=some (Obj.cells cur 3 (0,0))
theorem P2o.start {lo h:Nat}{v:Value}{vs:List Value}{w wr:World}(H:P1 lo h v vs w vs.length 0 wr):P2o lo h v vs w 0 (.slice none 0 0) [] wr :=
 ⟨H.book,H.list,H.below,by rw [H.size];exact Nat.le_refl _,World.ownsRow_nil _ _ _ _,rfl,fun j _ hj=>by
  obtain ⟨ys,hy,a,_⟩:=H.rows j hj;rw [←a hj];exact hy,fun j hj=>absurd hj (by simp),fun _ _ _ _ _ k hk=>absurd hk (by simp),H.oth⟩
theorem P2o.enter {lo h:Nat}{v:Value}{vs:List Value}{w wr:World}{i:Nat}{av:Value}{es:List Value}(H:P2o lo h v vs w i av es wr) (hN:Nice lo w vs) (hi:i<vs.length) :
 P2 lo h v vs w i 0 0 av es (nth vs i) wr :=
 ⟨H.book,H.list,H.below,H.size,H.all,H.len,fun j h1 h2=>H.come j (by omega) h2,H.old,H.come i (Nat.le_refl _) hi,rfl,fun j hj e=>by
  rcases hb:(nth vs i).ownBlock with _|b
  · rw [hb] at e
    have:=(H.old j hj).noneLen e;omega
  · rw [hb] at e
    exact absurd e (H.off i (Nat.le_refl _) hi b hb j hj),fun j h1 h2 b hb=>⟨fun e=>hN.apart i j hi h2 (by omega) b e hb,H.off j (by omega) h2 b hb⟩,H.oth⟩
theorem P2.leave {lo h:Nat}{v:Value}{vs:List Value}{w wr:World}{i:Nat}{av x:Value}{es:List Value}{c:Nat}(H:P2 lo h v vs w i c 5 av es x wr):P2o lo h v vs w (i+1) av es wr :=
 ⟨H.book,H.list,H.below,H.size,H.all,by rw [H.len];omega,fun j h1 h2=>H.come j (by omega) h2,H.old,fun j h1 h2 b hb=>(H.off j (by omega) h2 b hb).2,H.oth⟩
theorem nth_append_lt (es:List Value) (x:Value) (j:Nat) (h:j<es.length):nth (es++[x]) j=nth es j:=by
 simp [nth,List.getD_eq_getElem?_getD,List.getElem?_append_left h]
theorem nth_append_eq (es:List Value) (x:Value):nth (es++[x]) es.length=x:=by
 simp [nth,List.getD_eq_getElem?_getD]
theorem P2.take {lo h:Nat}{v:Value}{vs:List Value}{w wr w':World}{i c d:Nat}{av av' x:Value}{es:List Value}(H:P2 lo h v vs w i c d av es x wr) (hd:d<5) (hlo:lo≤w.heap.size) (hh:h<w.heap.size) (hvl:∀ b,v.ownBlock=some b→b<w.heap.size) (o:Obj)
 (hown:w'.ownsRow w.heap.size 22 1 av' (es.length+1) (es++[x])) (hgrow:(wr.alloc o).grownBy w' av.ownBlock) (hkeep:Keep (wr.alloc o) w') :
 P2 lo h v vs w i c (d+1) av' (es++[x]) x w':=by
 have hs:=H.size
 have hav:∀ b,av.ownBlock=some b→w.heap.size≤b:=by
  intro b hb
  rcases H.all.2 with ⟨rfl,_⟩|⟨g,cap,cur,rfl,hl,_⟩
  · cases hb
  · cases hb;exact hl
 have hblk:∀ b,b<w.heap.size→w'.heap[b]?=wr.heap[b]?:=by
  intro b hb;rw [hgrow.block b (by simp;omega) (fun e=>by have:=hav b e.symm;omega),Below.heap_alloc _ _ _ (by omega)]
 have hk:Keep wr w':=Keep.trans (fun g cur _ _ _ e=>by rw [Below.heap_alloc _ _ _ (Array.getElem?_eq_some_iff.1 e).1];exact e) hkeep
 refine ⟨by rw [hblk h hh];exact H.book,row_other H.list (fun g hg=>hblk g (hvl g hg)),?_,by have:=hgrow.size;simp at this;omega,by simpa using hown,by simp [H.len];omega,fun j h1 h2=>Keep.row (H.come j h1 h2) hk,?_,Keep.row H.row hk,H.more,?_,?_,fun b cur e=>by rw [hblk b (Array.getElem?_eq_some_iff.1 e).1];exact H.oth b cur e⟩
 · exact ((H.below.alloc (by omega) o).grown hgrow (by simp;omega) (fun k hk=>by have:=hav k hk;omega))
 · intro j hj
   by_cases e:j=es.length
   · subst e
     rw [nth_append_eq,show es.length/5=i by rw [H.len];omega]
     exact Keep.row H.row hk
   · simp at hj
     rw [nth_append_lt _ _ _ (by omega)]
     exact Keep.row (H.old j (by omega)) hk
 · intro j hj e2
   by_cases e:j=es.length
   · subst e
     rw [nth_append_eq];exact Nat.le_refl _
   · simp at hj
     rw [nth_append_lt _ _ _ (by omega)] at e2 ⊢
     exact H.less j (by omega) e2
 · intro j h1 h2 b hb
   obtain ⟨a1,a2⟩:=H.off j h1 h2 b hb;refine ⟨a1,fun k hk2=>?_⟩
   by_cases e:k=es.length
   · subst e
     rw [nth_append_eq];exact a1
   · simp at hk2
     rw [nth_append_lt _ _ _ (by omega)]
     exact a2 k (by omega)
theorem P2.grow {lo h:Nat}{v:Value}{vs:List Value}{w wr w':World}{i c d:Nat}{av x x':Value}{es:List Value}(H:P2 lo h v vs w i c d av es x wr) (hlo:lo≤w.heap.size) (o:Obj)
 (hown:Rw lo w' x' (slen x+1) (List.replicate (slen x) (mrk i)++[mrk i])) (hgrow:(wr.alloc o).grownBy w' x.ownBlock) (hpl:x'.ownBlock=x.ownBlock∨∃ g,x'.ownBlock=some g∧(wr.alloc o).heap.size≤g)
 (hkeep:∀ (u:Value) (k:Nat) (zs:List Value),Rw lo (wr.alloc o) u k zs→(u.ownBlock=x.ownBlock→k≤slen x)→Rw lo w' u k zs) :
 P2 lo h v vs w i (c+1) d av es x' w':=by
 have hs:=H.size;have hl':=hown.len;have hxb:∀ b,x.ownBlock=some b→∃ cur,wr.heap[b]?=some (.cells cur 40 (0,0)):=fun b hb=>(H.row.lt b hb).2.2
 have hblk:∀ b,b<wr.heap.size→x.ownBlock≠some b→w'.heap[b]?=wr.heap[b]?:=by
  intro b hb hx;rw [hgrow.block b (by simp;omega) (fun e=>hx e.symm),Below.heap_alloc _ _ _ hb]
 have hnb:∀ b,wr.heap[b]?=some (.cells #[v] 32 (0,0))→x.ownBlock≠some b:=by
  intro b hb e;obtain ⟨cur,hc⟩:=hxb b e;rw [hb] at hc;cases hc
 have hrow24:∀ (l:Nat) (u:Value) (n:Nat) (zs:List Value),wr.ownsRow l 22 1 u n zs→w'.ownsRow l 22 1 u n zs:=by
  intro l u n zs hr;refine row_other hr fun g hg=>?_
  rcases hr.2 with ⟨rfl,_⟩|⟨g2,cap,cur,rfl,_,hg2,_⟩
  · cases hg
  · cases hg
    refine hblk g2 (Array.getElem?_eq_some_iff.1 hg2).1 (fun e=>?_)
    obtain ⟨cur',hc⟩:=hxb g2 e;rw [hg2] at hc;cases hc
 have hlow:∀ b,x.ownBlock=some b→lo≤b:=fun b hb=>(H.row.lt b hb).1
 refine ⟨by rw [hblk h (Array.getElem?_eq_some_iff.1 H.book).1 (hnb h H.book)];exact H.book,hrow24 _ _ _ _ H.list,?_,by have:=hgrow.size;simp at this;omega,hrow24 _ _ _ _ H.all,H.len,?_,?_,?_,by rw [hl',H.more];omega,?_,?_,fun b cur e=>by
  have h9:=H.oth b cur e;rw [hblk b (Array.getElem?_eq_some_iff.1 h9).1 (fun e9=>by obtain ⟨c9,h10⟩:=hxb b e9;rw [h9] at h10;cases h10)];exact h9⟩
 · exact ((H.below.alloc (by omega) o).grown hgrow (by simp;omega) hlow)
 · intro j h1 h2
   refine hkeep _ _ _ ((H.come j h1 h2).alloc o) (fun e=>?_)
   rcases hb:(nth vs j).ownBlock with _|b
   · have:=(H.come j h1 h2).noneLen hb
     omega
   · exact absurd (by rw [←e,hb]) (H.off j h1 h2 b hb).1
 · intro j hj
   exact hkeep _ _ _ ((H.old j hj).alloc o) (fun e=>H.less j hj e)
 · rw [hl',List.replicate_succ']
   exact hown
 · intro j hj e
   rw [hl']
   rcases hpl with h1|⟨g,h1,h2⟩
   · have:=H.less j hj (e.trans h1);omega
   · have:=(H.old j hj).lt g (e.trans h1)
     simp at h2;omega
 · intro j h1 h2 b hb
   obtain ⟨a1,a2⟩:=H.off j h1 h2 b hb;refine ⟨?_,a2⟩
   rcases hpl with h3|⟨g,h3,h4⟩
   · rw [h3];exact a1
   · rw [h3]
     intro e
     cases e
     have:=(H.come j h1 h2).lt _ hb;simp at h4;omega
end PB
namespace PB
open Go.RowKit
theorem list_shape {lo:Nat}{w:World}{v:Value}{vs:List Value}(h:w.ownsRow lo 22 1 v vs.length vs) (hm:0<vs.length) :
 ∃ g cap,v=.slice (some ⟨g,0,none⟩) vs.length cap∧vs.length≤cap:=by
 rcases h.2 with ⟨_,h0⟩|⟨g,cap,cur,rfl,_,_,hn,_⟩
 · omega
 · exact ⟨g,cap,rfl,hn⟩
theorem list_cell {lo:Nat}{w:World}{g n cap:Nat}{vs:List Value}(h:w.ownsRow lo 22 1 (.slice (some ⟨g,0,none⟩) n cap) vs.length vs) (i:Nat) (hi:i<vs.length):w.cell? ⟨g,i,none⟩=some (nth vs i):=by
 have h1:=h.cells (g:=g) (by simp [Value.ownBlock]) i (nth vs i) (by simp [nth,hi])
 have e:(⟨g,0,none⟩:Addr).add i=⟨g,i,none⟩:=by unfold Addr.add;split <;> simp_all
 rw [e] at h1;exact h1
theorem Rw.cell {lo:Nat}{w:World}{g n cap:Nat}{ys:List Value}(h:Rw lo w (.slice (some ⟨g,0,none⟩) n cap) n ys) (k:Nat) (u:Value) (hk:ys[k]?=some u):w.cell? ⟨g,k,none⟩=some u:=by
 have h1:=h.cells (g:=g) (by simp [Value.ownBlock]) k u hk
 have e:(⟨g,0,none⟩:Addr).add k=⟨g,k,none⟩:=by unfold Addr.add;split <;> simp_all
 rw [e] at h1;exact h1
theorem Rw.frozen {lo:Nat}{w:World}{g n cap:Nat}{ys:List Value}(h:Rw lo w (.slice (some ⟨g,0,none⟩) n cap) n ys) (k:Nat):w.frozen? ⟨g,k,none⟩=false:=by
 rcases h.2 with ⟨e,_⟩|⟨g2,cap2,cur2,e,_,hg2,_⟩
 · cases e
 · cases e
   simp [World.frozen?,hg2]
theorem Rw.shape {lo:Nat}{w:World}{v:Value}{n:Nat}{ys:List Value}(h:Rw lo w v n ys):∃ ao cap,v=.slice ao n cap∧n≤cap∧cap≤maxLen∧(0<n→∃ g,ao=some ⟨g,0,none⟩):=by
 rcases h.2 with ⟨rfl,h0⟩|⟨g,cap,cur,rfl,_,_,hn,hm,_⟩
 · exact ⟨none,0,by rw [h0],by omega,by unfold maxLen;omega,fun h=>absurd h (by omega)⟩
 · exact ⟨_,cap,rfl,hn,hm,fun _=>⟨g,rfl⟩⟩
theorem st_float5 {P:Program}{w:World}(a:Addr) (k:FloatKind) (n:Nat) (m:Mode):(store a (.float k n) m).run P w=stored P w a (.float k n) m:=run_store P w a _ m rfl
attribute [local go_sem] st_float5
set_option maxRecDepth 100000 in
theorem owned_any (lo h:Nat) (vs:List Value) (w:World) (hB:Bk lo w h vs) (hN:Nice lo w vs) (hm:0<vs.length) (hm2:vs.length≤100) (hlo:lo≤w.heap.size) :
 Calls Tryz.prog 17 #[.pointer (some ⟨h,0,none⟩)] w fun r w'=>r=.returned (.bool true)∧Below lo w w'∧∀ (g:Nat) (cur:Array Value),w.heap[g]?=some (Obj.cells cur 3 (0,0))→w'.heap[g]?=some (Obj.cells cur 3 (0,0)):=by
 obtain ⟨hlh,v,hv,hrow⟩:=hB;have hhl:=(Array.getElem?_eq_some_iff.1 hv).1;obtain ⟨gv,capv,rfl,hcapv⟩:=list_shape hrow hm
 have hvl:∀ b,(Value.slice (some ⟨gv,0,none⟩) vs.length capv).ownBlock=some b→b<w.heap.size:=by
  intro b hb
  rcases hrow.2 with ⟨e,_⟩|⟨g2,cap2,cur2,e,_,hg2,_⟩
  · cases e
  · cases e;cases hb;exact (Array.getElem?_eq_some_iff.1 hg2).1
 have H0:=P1.start hv hrow hN;obtain ⟨m,hmm⟩:∃ m,vs.length=m:=⟨_,rfl⟩;have HX:=(qsd (ai hlh (ai hlo (ai hhl (ai hvl (ai hN (ai hmm H0)))))));rw [hmm] at hm hm2 hcapv;clear hlh hlo hhl hvl hN hv hrow H0;go_enter Tryz.func17,Tryz.ntmps17;go_wp2
 go_loopg [3] m (fun gk iv wr=>∃ (i:Nat),gk+i=m∧iv=.int .i64 (i:Nat)∧Aside (P1 lo h (.slice (some ⟨gv,0,none⟩) vs.length capv) vs w i 0 wr))
 case atStart=>exact ⟨0,by omega,rfl,HX.out.2.2.2.2.2.2⟩
 case round =>
  obtain ⟨i,hi,rfl,HA⟩:=hrel;have hcb:wr.cell? ⟨h,0,none⟩=some (.slice (some ⟨gv,0,none⟩) vs.length capv):=by simp [World.cell?,HA.out.book]
  rw [hmm] at hcb
  by_cases him:i=m
  · obtain rfl:gk=0:=by omega
    have him2:m=i:=him.symm
    have H2:Aside (P2o lo h (.slice (some ⟨gv,0,none⟩) vs.length capv) vs w 0 (.slice none 0 0) [] wr):=by
     have h1:=HA.out;rw [him,←hmm] at h1;exact P2o.start h1
    clear HA hi him;subst him2;go_wp2;clear hcb
    go_loopg [5,6] m (fun gk av iv w2=>∃ (i:Nat) (es:List Value),gk+i=m∧iv=.int .i64 (i:Nat)∧Aside (P2o lo h (.slice (some ⟨gv,0,none⟩) vs.length capv) vs w i av es w2))
    case atStart=>exact ⟨0,[],by omega,rfl,H2⟩
    case round =>
     obtain ⟨i,es,hi,rfl,HA⟩:=hrel;clear H2;have hcb:wr.cell? ⟨h,0,none⟩=some (.slice (some ⟨gv,0,none⟩) vs.length capv):=by simp [World.cell?,HA.out.book]
     rw [hmm] at hcb
     by_cases him:i=m
     · obtain rfl:gk=0:=by omega
       have hel:es.length=5*m:=by rw [HA.out.len,him]
       obtain ⟨ga,capa,hav,hcapa⟩:=list_shape HA.out.all (by omega)
       rw [hel] at hav hcapa;subst hav;have HA2:=HA;have him2:m=i:=him.symm;clear HA him hi;subst him2;obtain ⟨W3,hW3⟩:∃ W,W=wr:=⟨_,rfl⟩;go_wp2
       go_loopg [9] (5*m) (fun gk jv w3=>∃ (j:Nat),gk+j=5*m∧jv=.int .i64 (j:Nat)∧w3=W3)
       case atStart=>exact ⟨0,by omega,rfl,hW3.symm⟩
       case round =>
        obtain ⟨j,hj,rfl,rfl⟩:=hrel;subst hW3
        by_cases hjm:j=5*m
        · obtain rfl:gk=0:=by omega
          have hjm2:(j:Int)=5*(m:Int):=by omega
          go_wp2;go_ret;exact ⟨rfl,HA2.out.below,HA2.out.oth⟩
        · have hjl:j<5*m:=by omega
          have hcj:=list_cell HA2.out.all j (by omega)
          have hold:=HA2.out.old j (by omega)
          obtain ⟨ao,cap,hsh,hnc,hcm,hg⟩:=hold.shape;obtain ⟨n,hn⟩:∃ n,slen (nth es j)=n:=⟨_,rfl⟩;obtain ⟨q,hq⟩:∃ q,j/5=q:=⟨_,rfl⟩;have hq2:(j:Int)/5=(q:Int):=by omega
          have hq3:q≤100:=by omega
          rw [hn] at hsh hnc hg hold;rw [hq] at hold;rw [hsh] at hcj hold;have HO:=hid hold;clear hold hsh hn hq;unfold maxLen at hcm;go_wp2
          go_loopg [10] n (fun gk kv w3=>∃ (k:Nat),gk+k=n∧kv=.int .i64 (k:Nat)∧w3=wr)
          case atStart=>exact ⟨0,by omega,rfl,rfl⟩
          case round =>
           obtain ⟨k,hk,rfl,rfl⟩:=hrel
           by_cases hkn:k=n
           · obtain rfl:gk=0:=by omega
             subst hkn;go_wp2
             go_roundg (5*m-(j+1))
             case measure=>omega
             case rel=>exact ⟨j+1,by omega,by first | go_num | (congr 1;omega),rfl⟩
           · have hkl:k<n:=by omega
             obtain ⟨g,rfl⟩:=hg (by omega)
             have hck:=Rw.cell HO.out k (mrk q) (by simp [hkl])
             unfold mrk at hck;have hord:=mrk_ord q hq3;obtain ⟨mq,hmq⟩:∃ mq,floatOfInt .f64 (1000+(q:Int))=mq:=⟨_,rfl⟩;rw [hmq] at hck hord;go_wp2
             go_roundg (gk-1)
             case measure=>omega
             case rel=>exact ⟨k+1,by omega,by first | go_num | (congr 1;omega),rfl⟩
     · have hil:i<m:=by omega
       have hil2:i<vs.length:=by omega
       have hcv:=list_cell HA.out.list i hil2;obtain ⟨hlh,hlo,hhl,hvl,hN,_,_⟩:=HX.out;obtain ⟨ao,cap,hsh,hnc,hcm,hg⟩:=(HA.out.come i (Nat.le_refl _) hil2).shape;obtain ⟨n,hn⟩:∃ n,slen (nth vs i)=n:=⟨_,rfl⟩;have HS:Aside (slen (nth vs i)≤17592186043904):=hN.small i hil2;have HE:Aside (P2 lo h (.slice (some ⟨gv,0,none⟩) vs.length capv) vs w i 0 0 u5 es (nth vs i) wr):=P2o.enter HA.out hN hil2;rw [hn] at hsh hnc;rw [hsh] at hcv;have hsh2:=qsd hsh;clear hlh hlo hhl hvl hN hsh hn HA hg;unfold maxLen at hcm;go_wp2
       go_loopg [5,7,8] 5 (fun gk av xv kv w2=>∃ (c:Nat) (es:List Value),gk+c=5∧kv=.int .i64 (c:Nat)∧Aside (P2 lo h (.slice (some ⟨gv,0,none⟩) vs.length capv) vs w i c c av es xv w2))
       case atStart=>exact ⟨0,es,by omega,rfl,by rw [←hsh2.out];exact HE⟩
       case round =>
        obtain ⟨c,es,hc,rfl,HA⟩:=hrel;clear hcb hcv HE
        by_cases hc5:c=5
        · obtain rfl:gk=0:=by omega
          subst hc5;have HL:=qsd (P2.leave HA.out);clear HA;go_wp2
          go_roundg (m-(i+1))
          case measure=>omega
          case rel=>exact ⟨i+1,_,by omega,by first | go_num | (congr 1;omega),HL⟩
        · have hcl:c<5:=by omega
          obtain ⟨hlh,hlo,hhl,hvl,hN,_,_⟩:=HX.out;obtain ⟨ao,cap,hsh,_,_,_⟩:=HA.out.row.shape;obtain ⟨n,hn⟩:∃ n,slen u7=n:=⟨_,rfl⟩;have hns:n≤17592186043909:=by have h1:=HA.out.more;have h2:=HS.out;omega
          rw [hn] at hsh;have H1:=HA.out;subst hsh;obtain ⟨ga,capa,w1,hap1,hown1,hgrow1,hkeep1⟩:=append_nat (wr.alloc (.cells #[.slice ao n cap] 22)) w.heap.size u5 es.length es (.slice ao n cap) wr.heap.size 30 (H1.all.alloc _) (by unfold World.cell?;simp only [heap_alloc_new];rfl) rfl (by have:=H1.len;omega) (by have:=H1.size;simp;omega)
          have H3:=P2.take H1 hcl hlo hhl hvl _ hown1 hgrow1 hkeep1;obtain ⟨x',w2,hap2,hown2,hgrow2,hpl2,hkeep2⟩:=append_word (w1.alloc (.cells #[mrk i] 40)) lo (.slice ao n cap) n (List.replicate n (mrk i)) (mrk i) w1.heap.size 22 (H3.row.alloc _) (by unfold World.cell?;simp only [heap_alloc_new];rfl) rfl (by omega) (by have:=H3.size;simp;omega)
          have H4:=qsd (P2.grow H3 hlo _ hown2 hgrow2 hpl2 hkeep2);unfold mrk at hap2;have HAP1:=hid hap1;have HAP2:=hid hap2;clear hap1 hap2 hown1 hgrow1 hkeep1 H3 hown2 hgrow2 hpl2 hkeep2 H1 HA hlh hlo hhl hvl hN hc5
          go_wp2_with (first | (at_builtin;refine wpList_append_run2 rfl (.tmp 64) (.tmp 66) 30 rfl _ _ rfl rfl _ _ HAP1.out ?_) | (at_builtin;refine wpList_append_run2 rfl (.tmp 68) (.tmp 72) 22 rfl _ _ rfl rfl _ _ HAP2.out ?_))
          go_roundg (gk-1)
          case measure=>omega
          case rel=>exact ⟨c+1,_,by omega,by first | go_num | (congr 1;omega),H4⟩
  · have hil:i<m:=by omega
    have hil2:i<vs.length:=by omega
    obtain ⟨ys,hy,_,_⟩:=HA.out.rows i hil2;obtain ⟨ao,cap,hsh,hnc,hcm,hg⟩:=hy.shape;obtain ⟨n,hn⟩:∃ n,slen (nth vs i)=n:=⟨_,rfl⟩;have hns:n≤17592186043904:=hn ▸ HX.out.2.2.2.2.1.small i hil2;rw [hn] at hsh hnc hg;clear hy;go_wp2
    go_loopg [4] n (fun gk2 kv w2=>∃ (k:Nat),gk2+k=n∧kv=.int .i64 (k:Nat)∧Aside (P1 lo h (.slice (some ⟨gv,0,none⟩) vs.length capv) vs w i k w2))
    case atStart=>exact ⟨0,by omega,rfl,HA.out⟩
    case round =>
     obtain ⟨k,hk,rfl,HB⟩:=hrel;have hcb2:wr.cell? ⟨h,0,none⟩=some (.slice (some ⟨gv,0,none⟩) vs.length capv):=by simp [World.cell?,HB.out.book]
     have hcv:=list_cell HB.out.list i hil2;rw [hsh] at hcv;rw [hmm] at hcb2
     by_cases hkn:k=n
     · obtain rfl:gk=0:=by omega
       have HC:Aside (P1 lo h (.slice (some ⟨gv,0,none⟩) vs.length capv) vs w (i+1) 0 wr):=by
        have h1:=HB.out;rw [hkn,←hn] at h1;exact P1.next h1
       clear hn hsh hmm hcb;subst hkn;go_wp2
       go_roundg (m-(i+1))
       case measure=>omega
       case rel=>exact ⟨i+1,by omega,by first | go_num | (congr 1;omega),HC⟩
     · have hkl:k<n:=by omega
       obtain ⟨g,rfl⟩:=hg (by omega)
       obtain ⟨ys2,hy2,_,_⟩:=HB.out.rows i hil2;rw [hsh] at hy2;have hl2:ys2.length=n:=by simpa [slen] using hy2.1
       obtain ⟨yk,hyk⟩:∃ y,ys2[k]?=some y:=⟨ys2[k]'(by omega),by simp⟩
       have hgc:=Rw.cell hy2 k yk hyk;have hgf:=Rw.frozen hy2 k;have HC:Aside (P1 lo h (.slice (some ⟨gv,0,none⟩) vs.length capv) vs w i (k+1) (wr.setCell ⟨g,k,none⟩ (mrk i))):=P1.step HB.out HX.out.2.2.2.2.1 hil2 hsh hkl;clear hy2 hyk hn hsh hmm hcb hkn him;go_wp2
       go_roundg (gk-1)
       case measure=>omega
       case rel =>
        refine ⟨k+1,by omega,by first | go_num | (congr 1;omega),?_⟩
        exact HC
end PB
section
open Go Go.RowKit J
attribute [local go_sem] st_float
theorem alikeLists15 (xs:List Nat) (ao bo:Option Addr) (n cap cap':Nat) (w:World) (hn:n=xs.length) (hm:n≤35184372088832) (hR:Fs w.heap.size w ao xs) (hR':Fs w.heap.size w bo xs) :
 Calls Tryz.prog 14 #[.slice ao n cap,.slice bo n cap'] w fun r w'=>r=.returned (.bool true)∧Below w.heap.size w w':=by
 have HX:=(qsd (ai hn (ai hR hR')));clear hn hR hR';go_enter Tryz.func14,Tryz.ntmps14;go_wp2
 go_loopg [5] n (fun gk iv wr=>∃ (i:Nat),gk+i=n∧iv=.int .i64 (i:Nat)∧Aside (Below w.heap.size w wr∧wr.heap=w.heap))
 case atStart=>exact ⟨0,by omega,rfl,Below.refl _ _,rfl⟩
 case round =>
  obtain ⟨i,hi,rfl,HA⟩:=hrel
  by_cases hin:i=n
  · obtain rfl:gk=0:=by omega
    subst hin;go_wp2;go_ret;exact ⟨rfl,HA.out.1⟩
  · have hil:i<n:=by omega
    obtain ⟨hn,hR,hR'⟩:=HX.out;have hne:xs≠[]:=by intro e;rw [e] at hn;simp at hn;omega
    obtain ⟨b1,o1,_,rfl,hc1⟩:=hR hne;obtain ⟨b2,o2,_,rfl,hc2⟩:=hR' hne;have hcw:∀ a,wr.cell? a=w.cell? a:=fun a=>by simp only [World.cell?,HA.out.2]
    have h1:wr.cell? ⟨b1,o1+i,none⟩=_:=(hcw _).trans (hc1 i (by omega))
    have h2:wr.cell? ⟨b2,o2+i,none⟩=_:=(hcw _).trans (hc2 i (by omega))
    obtain ⟨x,hx⟩:∃ x,xs.getD i 0=x:=⟨_,rfl⟩;rw [hx] at h1 h2;clear hn hR hR' hne hc1 hc2 hcw hx;go_wp2
    go_quiet (first | (go_at_call 26;exact Calls.quiet_of_same (alike15 x _)))
    go_wp2
    go_roundg (gk-1)
    case measure=>omega
    case rel=>exact ⟨i+1,by omega,by first | go_num | (congr 1;omega),⟨HA.out.1.os,HA.out.1.tape,HA.out.1.output,HA.out.1.size,HA.out.1.block⟩,HA.out.2⟩
theorem OwnF.row15 {w:World}{lo g n:Nat}{L:List Nat}(h:OwnF w g L) (hn:n=L.length) (hl:lo≤g) (hm:n≤17592186043904):w.ownsRow lo 40 1 (.slice (some ⟨g,0,none⟩) n n) n (L.map Fw10):=by
 unfold OwnF at h;refine ⟨by simp [hn],.inr ⟨g,n,(L.map Fw10).toArray,rfl,hl,h,Nat.le_refl _,by unfold maxLen;omega,by simp [hn],?_⟩⟩
 simp [hn];exact List.take_of_length_le (by simp)
end
namespace PB
open Go.RowKit Go.Proofs.YtihjfhpoiheomaaGreatDoor
end PB
section
open Go Go.RowKit J
attribute [local go_sem] st_float
theorem lt15 {w:World}{lo g n:Nat}{L:List Nat}(h:OwnF w g L) (hn:n=L.length) (hl:lo≤g) (hm:n≤17592186043904):PB.Lt lo w (.slice (some ⟨g,0,none⟩) n n) L:=by
 have:=h.row15 hn hl hm;rw [hn] at this ⊢;exact this
structure T15 (s2 s3 s4:Nat) (w u:World) (va vb vc:Value) (A B C:List Nat):Prop where
 bel:Below w.heap.size w u
 ra:PB.Lt s2 u va A
 rb:PB.Lt s3 u vb B
 rc:PB.Lt s4 u vc C
theorem T15.below {s2 s3 s4:Nat}{w u u':World}{va vb vc:Value}{A B C:List Nat}(h:T15 s2 s3 s4 w u va vb vc A B C) (hb:Below u.heap.size u u'):T15 s2 s3 s4 w u' va vb vc A B C :=
 ⟨h.bel.trans (hb.mono h.bel.size),h.ra.below hb,h.rb.below hb,h.rc.below hb⟩
theorem T15.but {s2 s3 s4 g:Nat}{w u u':World}{va vb vc:Value}{A B C:List Nat}(h:T15 s2 s3 s4 w u va vb vc A B C) (hb:But g u u') (h0:w.heap.size≤g) (h1:g<s2) (h2:g<s3) (h3:g<s4):T15 s2 s3 s4 w u' va vb vc A B C :=
 ⟨But.below h.bel hb h.bel.size h0,PB.row_other h.ra fun b e=>by have:=PB.Rw.lt h.ra b e;exact hb.block b this.2.1 (by omega),PB.row_other h.rb fun b e=>by have:=PB.Rw.lt h.rb b e;exact hb.block b this.2.1 (by omega),PB.row_other h.rc fun b e=>by have:=PB.Rw.lt h.rc b e;exact hb.block b this.2.1 (by omega)⟩
theorem T15.keep {s2 s3 s4:Nat}{w u u':World}{va vb vc:Value}{A B C:List Nat}(h:T15 s2 s3 s4 w u va vb vc A B C) (hk:PB.Keep u u') (hb:Below w.heap.size u u'):T15 s2 s3 s4 w u' va vb vc A B C :=
 ⟨h.bel.trans hb,PB.Keep.row h.ra hk,PB.Keep.row h.rb hk,PB.Keep.row h.rc hk⟩
theorem lt_fs15 {w:World}{lo n c:Nat}{a:Option Addr}{L:List Nat}(h:PB.Lt lo w (.slice a n c) L):n=L.length∧Fs w.heap.size w a L:=by
 obtain ⟨ao,cap,e,_,_,hr⟩:=PB.Lt.shape h
 cases e
 exact ⟨rfl,hr⟩
end
section
open Go Go.RowKit J
attribute [local go_sem] st_float
theorem own_isnF {w:World}{lo n:Nat}{v:Value}{xs:List Nat}(h:w.ownsRow lo 3 1 v n (xs.map Iw15)) (hn:n=xs.length):∃ a c,v=.slice a n c∧n≤c∧(a=none→c=0)∧Is15 w.heap.size w a xs∧(∀ b o,a=some ⟨b,o,none⟩→lo≤b):=by
 obtain ⟨a,c,rfl,h2,h3⟩:=own_is15 h hn;refine ⟨a,c,rfl,h2,fun e=>?_,h3,fun b o e=>?_⟩
 · subst e
   rcases h.2 with ⟨e,_⟩|⟨g,cap,cur,e,_⟩
   · cases e;rfl
   · cases e
 · subst e
   rcases h.2 with ⟨e,_⟩|⟨g,cap,cur,e,hg,_⟩
   · cases e
   · cases e;exact hg
def RowDF (xs:List Nat) (ao:Option Addr) (n cap:Nat) (is:List Nat):Prop:=∀ (a:Option Addr) (c:Nat) (w:World),is.length≤c→(a=none→c=0)→Fs w.heap.size w ao xs→Is15 w.heap.size w a is →
 Calls Tryz.prog 52 #[.slice ao n cap,.slice a is.length c] w fun r w'=>(∃ a' c',r=.returned (.slice a' is.length c')∧is.length≤c'∧(a'=none→c'=0)∧Is15 w'.heap.size w' a' (rowI xs is)∧(is.length<2→a'=a)∧(2≤is.length→∀ b o,a'=some ⟨b,o,none⟩→w.heap.size≤b))∧Below w.heap.size w w'
theorem row_fewF (xs:List Nat) (ao:Option Addr) (n cap:Nat) (is:List Nat) (h:is.length<2):RowDF xs ao n cap is:=by
 intro a c w hc hn hF hI
 have e:rowI xs is=is:=by
  rcases is with _|⟨x,l⟩
  · unfold rowI;simp
  · rcases l with _ | ⟨y,l⟩
    · exact rowI_one xs x
    · simp at h;omega
 rw [e];obtain ⟨m,hm⟩:∃ m,m=is.length:=⟨_,rfl⟩;rw [←hm] at hc h ⊢;have d:decide ((m:Int)<2)=true:=by simp;omega
 have HX:=(qsd (ai hc (ai hn (ai hI h))));clear hc hn hF hI e h hm;go_enter Tryz.func52,Tryz.ntmps52;go_wp2;go_ret;exact ⟨⟨a,c,rfl,HX.out.1,HX.out.2.1,HX.out.2.2.1,fun _=>rfl,fun q=>absurd q (by have:=HX.out.2.2.2;omega)⟩,Below.refl _ _⟩
theorem row_twoF (xs:List Nat) (ao:Option Addr) (n cap:Nat) (is:List Nat) (hnx:n=xs.length) (hW:W64 xs) (hi:∀ i ∈ is,i<n) (hp:is.Pairwise (·<·)) (h2:2≤is.length) (hl:is.length≤17592186043904) (hn6:n≤4611686018427387904)
 (H1:RowDF xs ao n cap (is.take (is.length/2))) (H2:RowDF xs ao n cap (is.drop (is.length/2))):RowDF xs ao n cap is:=by
 intro a c w hc hnil hF hI;obtain ⟨m,hm⟩:∃ m,m=is.length:=⟨_,rfl⟩;rw [←hm] at hc h2 hl H1 H2 ⊢;obtain ⟨b,off,hb,rfl,hcell⟩:=hI (by intro e;rw [e] at hm;simp at hm;omega)
 have l1:(is.take (m/2)).length=m/2:=by rw [List.length_take];omega
 have l2:(is.drop (m/2)).length=m-m/2:=by rw [List.length_drop];omega
 have F1:Is15 w.heap.size w (some ⟨b,off,none⟩) (is.take (m/2)):=fun _=>⟨b,off,hb,rfl,fun i hi=>by
  rw [hcell i (by omega),List.getD_eq_getElem?_getD,List.getD_eq_getElem?_getD,List.getElem?_take,if_pos (by omega)]⟩
 have F2:Is15 w.heap.size w (some ⟨b,off+m/2,none⟩) (is.drop (m/2)):=fun _=>⟨b,off+m/2,hb,rfl,fun i hi=>by
  rw [Nat.add_assoc,hcell (m/2+i) (by omega),List.getD_eq_getElem?_getD,List.getD_eq_getElem?_getD,List.getElem?_drop]⟩
 have C1:=hid (H1 (some ⟨b,off,none⟩) c w (by omega) (fun h=>by cases h) hF F1)
 have C2:=hid (fun (u:World) (hb:Below w.heap.size w u)=>H2 (some ⟨b,off+m/2,none⟩) (c-m/2) u (by omega) (fun h=>by cases h) ((hF.below hb).mono hb.size) ((F2.below hb).mono hb.size))
 rw [l1] at C1;rw [l2] at C2
 have HS:Aside (∀ i ∈ rowI xs (is.take (m/2)),∀ j ∈ rowI xs (is.drop (m/2)),i<j∧i<n∧j<n):=fun i h1 j h2=>by
  have a1:=(rowI_perm xs _).mem_iff.1 h1;have a2:=(rowI_perm xs _).mem_iff.1 h2;refine ⟨?_,hi i (List.mem_of_mem_take a1),hi j (List.mem_of_mem_drop a2)⟩;have e:is.take (m/2)++is.drop (m/2)=is:=List.take_append_drop _ _;rw [←e] at hp;exact (List.pairwise_append.1 hp).2.2 i a1 j a2
 have HMg:Aside (List.merge (rowI xs (is.take (m/2))) (rowI xs (is.drop (m/2))) (leI xs)=rowI xs is):=qsd (rowI_merge xs is (m/2));have m1:(rowI xs (is.take (m/2))).length=m/2:=by rw [rowI_len,l1]
 have m2:(rowI xs (is.drop (m/2))).length=m-m/2:=by rw [rowI_len,l2]
 have m3:(rowI xs is).length=m:=by rw [rowI_len,hm]
 obtain ⟨A,hA⟩:∃ A,rowI xs (is.take (m/2))=A:=⟨_,rfl⟩;obtain ⟨Bs,hB⟩:∃ Bs,rowI xs (is.drop (m/2))=Bs:=⟨_,rfl⟩;obtain ⟨R,hR⟩:∃ R,rowI xs is=R:=⟨_,rfl⟩;rw [hA] at C1 HS HMg m1;rw [hB] at HS HMg m2;simp only [hB] at C2;rw [hR] at HMg m3 ⊢;obtain ⟨nb,hnb⟩:∃ nb,m-m/2=nb:=⟨_,rfl⟩;rw [hnb] at m2 C2;have d2:decide ((m:Int)<2)=false:=by simp;omega
 have hhc:m/2<c:=by omega
 have hmc:m≤c:=hc;have hm6:m≤17592186043904:=hl;have HN:=(qsd (ai m1 (ai m2 (ai m3 (ai hnb (ai hnx (ai hW hF)))))));have H2M:=qsd h2;clear hF hcell F1 F2 l1 l2 m1 m2 m3 hA hB hR H1 H2 hW hi hp hnb hnx hm hb hnil hl h2 hc;go_enter Tryz.func52,Tryz.ntmps52
 go_upto_region 3 with fail
 clear d2
 go_wp2_with fail
 refine C1.out.mono ?_;rintro r u1 ⟨⟨a1,q1,rfl,hq1,hz1,hI1,_,_⟩,hb1⟩;have B1:=(qsd (ai hb1 (ai hI1 (ai hz1 hq1))));clear hb1 hI1 C1 hz1 hq1;replace C2:=hid (C2.out u1 B1.out.1)
 go_upto_region 4 with fail
 go_wp2_with fail
 rw [HN.out.2.2.2.1];refine C2.out.mono ?_;rintro r u2 ⟨⟨a2,q2,rfl,hq2,hz2,hI2,_,_⟩,hb2⟩;obtain ⟨na,hna⟩:∃ na,m/2=na:=⟨_,rfl⟩;have B2:Aside (Below w.heap.size w u2∧Is15 u2.heap.size u2 a1 A∧Is15 u2.heap.size u2 a2 Bs∧(a1=none→q1=0)∧na≤q1):=⟨B1.out.1.trans (hb2.mono B1.out.1.size),(B1.out.2.1.below hb2).mono hb2.size,hI2,B1.out.2.2.1,by rw [←hna];exact B1.out.2.2.2⟩
 have HD:Aside (na+nb=m∧A.length=na∧Bs.length=nb∧R.length=m):=by
  have:=HN.out.2.2.2.1;exact ⟨by omega,HN.out.1.trans hna,HN.out.2.1,HN.out.2.2.1⟩
 have H1N:Aside (1≤na):=qsd (by have:=H2M.out;omega)
 have HNA:=qsd hna;have hna6:na≤17592186043904:=by omega
 have hnb6:nb≤17592186043904:=by have:=HD.out.1;omega
 have HX:Aside (∀ u:World,Below u2.heap.size u2 u→Is15 u2.heap.size u a1 A∧Is15 u2.heap.size u a2 Bs∧Fs w.heap.size u ao xs):=fun u hu=>⟨B2.out.2.1.below hu,B2.out.2.2.1.below hu,HN.out.2.2.2.2.2.2.below (B2.out.1.trans (hu.mono B2.out.1.size))⟩
 have HBw:=qsd B2.out.1.size;clear hb2 hI2 hq2 hz2 C2 B1 hna hhc;go_wp2;rw [HNA.out];clear HNA
 go_loopg [7,8,9] nb (fun gk ov iv kv wr=>∃ (i k:Nat) (O:List Nat) (v:Value),gk+k=nb∧i≤na∧iv=.int .i64 (i:Nat)∧kv=.int .i64 (k:Nat)∧ov=v∧Aside (wr.ownsRow u2.heap.size 3 1 v O.length (O.map Iw15)∧Below w.heap.size w wr∧Below u2.heap.size u2 wr∧O++List.merge (A.drop i) (Bs.drop k) (leI xs)=R∧O.length=i+k))
 case atStart=>exact ⟨0,0,[],.slice none 0 0,by omega,by omega,by first | rfl | simp,by first | rfl | simp,rfl,World.ownsRow_nil _ _ _ _,B2.out.1,Below.refl _ _,by simpa using HMg.out,rfl⟩
 case round =>
  obtain ⟨i0,k,O0,v0,hgk,hi0,rfl,rfl,hv,HA⟩:=hrel;have hv':=hv.symm;clear hv;subst hv';have hkb:k≤nb:=by omega
  by_cases hk:k<nb
  · have e2:decide ((k:Int)<nb)=true:=by simp;omega
    have bk:(k:Int)<(nb:Int):=by omega
    obtain ⟨k1,hk1⟩:∃ x,x=k+1:=⟨_,rfl⟩;have wk:IntKind.i64.wrap ((k:Int)+1)=(k1:Int):=wrapZ (by omega) (by omega)
    obtain ⟨wo,hwo⟩:∃ W,W=wr:=⟨_,rfl⟩;rw [←hwo] at HA ⊢;clear hwo;have HG:=(qsd (ai hk1 hgk));clear hk1 hgk;go_wp2
    go_loopg [7,8] (na-i0) (fun gq ov iv wr=>∃ (i:Nat) (O:List Nat) (v:Value),gq+i=na∧iv=.int .i64 (i:Nat)∧ov=v∧Aside (wr.ownsRow u2.heap.size 3 1 v O.length (O.map Iw15)∧Below w.heap.size w wr∧Below u2.heap.size u2 wr∧O++List.merge (A.drop i) (Bs.drop k) (leI xs)=R∧O.length=i+k))
    case atStart=>exact ⟨i0,O0,_,by omega,by first | rfl | simp,rfl,HA.out⟩
    case round =>
     clear HA;obtain ⟨i,O,v,hgq,rfl,hv,HA⟩:=hrel;have hv':=hv.symm;clear hv;subst hv';obtain ⟨hIA,hIB,hFx⟩:=HX.out _ HA.out.2.2.1;obtain ⟨b2,o2,hb2,rfl,hcB⟩:=hIB (by intro e;have:=HD.out.2.2.1;rw [e] at this;simp at this;omega)
     have cB:=hcB k (by rw [HD.out.2.2.1];exact hk)
     obtain ⟨jb,hjb⟩:∃ j,j=Bs.getD k 0:=⟨_,rfl⟩;rw [←hjb] at cB
     have HDr:Aside (∀ mm,(wr.drewN mm).ownsRow u2.heap.size 3 1 v O.length (O.map Iw15)∧Below w.heap.size w (wr.drewN mm)∧Below u2.heap.size u2 (wr.drewN mm)):=fun mm=>by
      obtain ⟨h1,h2,h3,_⟩:=HA.out;exact ⟨h1,⟨h2.os,h2.tape,h2.output,h2.size,h2.block⟩,⟨h3.os,h3.tape,h3.output,h3.size,h3.block⟩⟩
     by_cases hia:i<na
     · have hda:decide (i<na)=true:=by simp;omega
       have bi:(i:Int)<(na:Int):=by omega
       obtain ⟨b1,o1,hb1,rfl,hcA⟩:=hIA (by intro e;have:=HD.out.2.1;rw [e] at this;simp at this;omega)
       have cA:=hcA i (by rw [HD.out.2.1];exact hia)
       obtain ⟨ja,hja⟩:∃ j,j=A.getD i 0:=⟨_,rfl⟩;rw [←hja] at cA;have hmA:ja ∈ A:=by rw [hja];exact getD_mem15 (by rw [HD.out.2.1];exact hia)
       have hmB:jb ∈ Bs:=by rw [hjb];exact getD_mem15 (by rw [HD.out.2.2.1];exact hk)
       obtain ⟨hab,han,hbn⟩:=HS.out ja hmA jb hmB;obtain ⟨hnx,hW⟩:n=xs.length∧W64 xs:=⟨HN.out.2.2.2.2.1,HN.out.2.2.2.2.2.1⟩;obtain ⟨b3,o3,rfl,d1⟩:=hFx.at (Below.refl _ _) ja (by omega)
       obtain ⟨b4,o4,e,d2⟩:=hFx.at (Below.refl _ _) jb (by omega)
       obtain ⟨rfl,rfl⟩:b3=b4∧o3=o4:=by simpa using e
       have hx:xs.getD ja 0<18446744073709551616:=hW _ (getD_mem15 (by omega))
       have hy:xs.getD jb 0<18446744073709551616:=hW _ (getD_mem15 (by omega))
       have hle:=leI_oc (xs:=xs) hab;have ian:(ja:Int)<(n:Int):=by omega
       have ibn:(jb:Int)<(n:Int):=by omega
       obtain ⟨x,hxx⟩:∃ x,x=xs.getD ja 0:=⟨_,rfl⟩;obtain ⟨y,hyy⟩:∃ x,x=xs.getD jb 0:=⟨_,rfl⟩;rw [←hxx] at d1 hx hle;rw [←hyy] at d2 hy hle;have CO:=hid (fun u:World=>rOrder15 hx hy u)
       obtain ⟨z,hz⟩:∃ z,z=B.oc (tk x) (tk y):=⟨_,rfl⟩;rw [←hz] at CO hle;have HL:=qsd HA.out.2.2.2.2;have hgn:na-(i+1)<gk:=by omega
       obtain ⟨i1,hi1⟩:∃ x,x=i+1:=⟨_,rfl⟩;have wi:IntKind.i64.wrap ((i:Int)+1)=(i1:Int):=wrapZ (by omega) (by omega)
       by_cases hl:leI xs ja jb=true
       · rw [hl] at hle
         have HMx:Aside ((O++[ja])++List.merge (A.drop (i+1)) (Bs.drop k) (leI xs)=R∧(O++[ja]).length=i+1+k):=by
          refine ⟨?_,by rw [List.length_append,HA.out.2.2.2.2];simp;omega⟩
          have h1:=HA.out.2.2.2.1;rw [mgA15 (le:=leI xs) (by rw [HD.out.2.1];exact hia) (.inr ⟨by rw [HD.out.2.2.1];exact hk,by rw [←hja,←hjb];exact hl⟩),←hja] at h1
          rw [←h1];simp
         have HI:=(qsd (ai hi1 (ai hgq hia)));clear HA hIA hIB hFx hcA hcB hja hjb hmA hmB hab han hbn hnx hW e hx hy hxx hyy hz hl hgq hi1
         go_wp2_with fail
         go_quiet (first | (go_at_call 27;exact Calls.quiet_of_same (CO.out _)))
         obtain ⟨v',w',r1,r2,r3,r4⟩:=appendI15 u2.heap.size v O ja (wr.drewN nq) (HDr.out nq).1 (HDr.out nq).2.2.size (by have:=HL.out;have:=HD.out.1;omega)
         have HR:=qsd r1;have HNx:Aside (w'.ownsRow u2.heap.size 3 1 v' (O++[ja]).length ((O++[ja]).map Iw15)∧Below w.heap.size w w'∧Below u2.heap.size u2 w'):=⟨r2,(HDr.out nq).2.1.trans (r3.mono HBw.out),(HDr.out nq).2.2.trans r3⟩;clear r1 r2 r3 r4
         go_wp2_with (at_builtin;refine wpList_append10 rfl (.tmp 56) (.tmp 61) 25 rfl _ _ rfl rfl _ _ HR.out ?_)
         go_roundg (na-i1)
         case measure=>have:=HI.out;omega
         case rel=>exact ⟨i1,O++[ja],v',by have:=HI.out;omega,by first | rfl | simp,rfl,HNx.out.1,HNx.out.2.1,HNx.out.2.2,by rw [HI.out.1];exact HMx.out.1,by rw [HI.out.1];exact HMx.out.2⟩
       · have hl':leI xs ja jb=false:=by simpa using hl
         rw [hl'] at hle
         have HMx:Aside ((O++[jb])++List.merge (A.drop i) (Bs.drop k1) (leI xs)=R∧(O++[jb]).length=i+k1):=by
          have e1:=HG.out.1;refine ⟨?_,by rw [List.length_append,HA.out.2.2.2.2];simp;omega⟩
          have h1:=HA.out.2.2.2.1;rw [mgB15 (le:=leI xs) (by rw [HD.out.2.2.1];exact hk) (.inr ⟨by rw [HD.out.2.1];exact hia,by rw [←hja,←hjb];exact hl'⟩),←hjb] at h1
          rw [←h1,e1];simp
         clear HA hIA hIB hFx hcA hcB hja hjb hmA hmB hab han hbn hnx hW e hx hy hxx hyy hz hl hl' hgq hi1 wi
         go_wp2_with fail
         go_quiet (first | (go_at_call 27;exact Calls.quiet_of_same (CO.out _)))
         obtain ⟨v',w',r1,r2,r3,r4⟩:=appendI15 u2.heap.size v O jb (wr.drewN nq) (HDr.out nq).1 (HDr.out nq).2.2.size (by have:=HL.out;have:=HD.out.1;omega)
         have HR:=qsd r1;have HNx:Aside (w'.ownsRow u2.heap.size 3 1 v' (O++[jb]).length ((O++[jb]).map Iw15)∧Below w.heap.size w w'∧Below u2.heap.size u2 w'):=⟨r2,(HDr.out nq).2.1.trans (r3.mono HBw.out),(HDr.out nq).2.2.trans r3⟩;clear r1 r2 r3 r4
         go_wp2_with (at_builtin;refine wpList_append10 rfl (.tmp 65) (.tmp 70) 25 rfl _ _ rfl rfl _ _ HR.out ?_)
         go_roundg (nb-k1)
         case measure=>have:=HG.out;omega
         case rel=>exact ⟨i,k1,O++[jb],v',by have:=HG.out;omega,by omega,by first | rfl | simp,by first | rfl | simp,rfl,HNx.out.1,HNx.out.2.1,HNx.out.2.2,HMx.out.1,HMx.out.2⟩
     · have hle:i≤na:=by omega
       obtain rfl:i=na:=by omega
       have hda:decide (i<i)=false:=by simp
       have HL:=qsd HA.out.2.2.2.2
       have HMx:Aside ((O++[jb])++List.merge (A.drop i) (Bs.drop k1) (leI xs)=R∧(O++[jb]).length=i+k1):=by
        have e1:=HG.out.1;refine ⟨?_,by rw [List.length_append,HA.out.2.2.2.2];simp;omega⟩
        have h1:=HA.out.2.2.2.1;rw [mgB15 (le:=leI xs) (by rw [HD.out.2.2.1];exact hk) (.inl HD.out.2.1.symm),←hjb] at h1
        rw [←h1,e1];simp
       clear HA hIA hIB hFx hcB hjb hgq hia
       go_wp2_with fail
       go_quiet (fail)
       obtain ⟨v',w',r1,r2,r3,r4⟩:=appendI15 u2.heap.size v O jb (wr.drewN nq) (HDr.out nq).1 (HDr.out nq).2.2.size (by have:=HL.out;have:=HD.out.1;omega)
       have HR:=qsd r1;have HNx:Aside (w'.ownsRow u2.heap.size 3 1 v' (O++[jb]).length ((O++[jb]).map Iw15)∧Below w.heap.size w w'∧Below u2.heap.size u2 w'):=⟨r2,(HDr.out nq).2.1.trans (r3.mono HBw.out),(HDr.out nq).2.2.trans r3⟩;clear r1 r2 r3 r4
       go_wp2_with (at_builtin;refine wpList_append10 rfl (.tmp 65) (.tmp 70) 25 rfl _ _ rfl rfl _ _ HR.out ?_)
       go_roundg (nb-k1)
       case measure=>have:=HG.out;omega
       case rel=>exact ⟨i,k1,O++[jb],v',by have:=HG.out;omega,by omega,by first | rfl | simp,by first | rfl | simp,rfl,HNx.out.1,HNx.out.2.1,HNx.out.2.2,HMx.out.1,HMx.out.2⟩
  · obtain rfl:k=nb:=by omega
    have e2:decide ((k:Int)<(k:Int))=false:=by simp
    obtain ⟨hIA,_,_⟩:=HX.out _ HA.out.2.2.1;obtain ⟨b1,o1,hb1,rfl,hcA⟩:=hIA (by intro e;have:=HD.out.2.1;have:=H1N.out;rw [e] at *;simp at *;omega)
    have hq:=B2.out.2.2.2.2;have hO:O0.length+(A.drop i0).length≤17592186043904:=by rw [List.length_drop,HA.out.2.2.2.2,HD.out.2.1];have:=HD.out.1;omega
    have eR:O0++A.drop i0=R:=by
     have h1:=HA.out.2.2.2.1;rw [List.drop_of_length_le (l:=Bs) (by rw [HD.out.2.2.1];exact Nat.le_refl _),List.merge_right] at h1
     exact h1
    have hi0':(i0:Int)≤(na:Int):=by omega
    by_cases hcap:q1=i0
    · have hda:A.drop i0=[]:=List.drop_of_length_le (by rw [HD.out.2.1];omega)
      rw [hda] at hO;obtain ⟨v',w',r1,r2,r3⟩:=appendIs15 (B:=u2.heap.size) u2.heap.size v0 O0 [] (some ⟨b1,o1,none⟩) 0 0 wr HA.out.1 rfl (fun h=>absurd rfl h) (fun h=>by cases h) HA.out.2.2.1.size hO (Nat.le_refl _)
      have HR:=qsd r1;rw [hda,List.append_nil] at eR;rw [List.append_nil] at r2
      have HNx:Aside (w'.ownsRow w.heap.size 3 1 v' m (R.map Iw15)∧Below w.heap.size w w'):=by
       rw [eR] at r2;rw [HD.out.2.2.2] at r2;exact ⟨own_baseI r2 HBw.out,HA.out.2.1.trans (r3.mono HBw.out)⟩
      obtain rfl:i0=na:=by omega
      subst hcap;clear r1 r2 r3 HA hIA hcA hO hda eR
      go_wp2_with (at_builtin;refine wpList_append10 rfl (.tmp 72) (.tmp 75) 25 rfl _ _ rfl (by simp [Act.eval]) _ _ HR.out ?_)
      go_ret;obtain ⟨a3,c3,rfl,h1,h2,h3,h4⟩:=own_isnF HNx.out.1 HD.out.2.2.2.symm;exact ⟨⟨a3,c3,rfl,h1,h2,h3,fun q=>absurd q (by have:=H2M.out;omega),fun _=>h4⟩,HNx.out.2⟩
    · have hF:Is15 u2.heap.size wr (some ⟨b1,o1+i0,none⟩) (A.drop i0):=fun _=>⟨b1,o1+i0,hb1,rfl,fun j hj=>by
       rw [List.length_drop] at hj;rw [Nat.add_assoc,hcA (i0+j) (by omega),List.getD_eq_getElem?_getD,List.getD_eq_getElem?_getD,List.getElem?_drop]⟩
      obtain ⟨v',w',r1,r2,r3⟩:=appendIs15 (B:=u2.heap.size) u2.heap.size v0 O0 (A.drop i0) (some ⟨b1,o1+i0,none⟩) (na-i0) (q1-i0) wr HA.out.1 (by rw [List.length_drop,HD.out.2.1]) hF (fun h=>by cases h) HA.out.2.2.1.size hO (by omega)
      have HR:=qsd r1;rw [eR] at r2
      have HNx:Aside (w'.ownsRow w.heap.size 3 1 v' m (R.map Iw15)∧Below w.heap.size w w'):=by
       rw [HD.out.2.2.2] at r2;exact ⟨own_baseI r2 HBw.out,HA.out.2.1.trans (r3.mono HBw.out)⟩
      have hlt:i0<q1:=by omega
      clear r1 r2 r3 HA hIA hcA hO eR hF hcap
      go_wp2_with (at_builtin;refine wpList_append10 rfl (.tmp 72) (.tmp 75) 25 rfl _ _ rfl (by simp [Act.eval]) _ _ HR.out ?_)
      go_ret;obtain ⟨a3,c3,rfl,h1,h2,h3,h4⟩:=own_isnF HNx.out.1 HD.out.2.2.2.symm;exact ⟨⟨a3,c3,rfl,h1,h2,h3,fun q=>absurd q (by have:=H2M.out;omega),fun _=>h4⟩,HNx.out.2⟩
theorem row_allF (xs:List Nat) (ao:Option Addr) (n cap:Nat) (hnx:n=xs.length) (hW:W64 xs) (hn6:n≤4611686018427387904):∀ (N:Nat) (is:List Nat),is.length≤N→(∀ i ∈ is,i<n)→is.Pairwise (·<·)→is.length≤17592186043904→RowDF xs ao n cap is
 | 0,is,h,_,_,_=>row_fewF xs ao n cap is (by omega)
 | N+1,is,h,hi,hp,hl=>by
   by_cases h2:is.length<2
   · exact row_fewF xs ao n cap is h2
   · refine row_twoF xs ao n cap is hnx hW hi hp (by omega) hl hn6 ?_ ?_
     · exact row_allF xs ao n cap hnx hW hn6 N _ (by rw [List.length_take];omega) (fun i h=>hi i (List.mem_of_mem_take h)) (List.Pairwise.sublist (List.take_sublist _ _) hp) (by rw [List.length_take];omega)
     · exact row_allF xs ao n cap hnx hW hn6 N _ (by rw [List.length_drop];omega) (fun i h=>hi i (List.mem_of_mem_drop h)) (List.Pairwise.sublist (List.drop_sublist _ _) hp) (by rw [List.length_drop];omega)
theorem rRowF15 (xs:List Nat) (ao:Option Addr) (n cap:Nat) (w:World) (hF:Fs w.heap.size w ao xs) (hn:n=xs.length) (hl:n≤17592186043904) (hW:W64 xs) :
 Calls Tryz.prog 34 #[.slice ao n cap] w fun r w'=>(∃ a c,r=.returned (.slice a n c)∧Is15 w'.heap.size w' a (rowL xs)∧(∀ b o,a=some ⟨b,o,none⟩→w.heap.size≤b))∧Below w.heap.size w w':=by
 have HR0:=hid (row_allF xs ao n cap hn hW (by omega) n (List.range n) (by simp) (fun i h=>List.mem_range.1 h) List.pairwise_lt_range (by simpa using hl))
 have HN:=(qsd (ai hF hn));clear hF hn hW;go_enter Tryz.func34,Tryz.ntmps34;go_wp2
 go_loopg [3,4] n (fun gk ov iv wr=>∃ (i:Nat) (v:Value),gk+i=n∧iv=.int .i64 (i:Nat)∧ov=v∧Aside (wr.ownsRow w.heap.size 3 1 v (List.range i).length ((List.range i).map Iw15)∧Below w.heap.size w wr))
 case atStart=>exact ⟨0,.slice none 0 0,by omega,by first | rfl | simp,rfl,World.ownsRow_nil _ _ _ _,Below.refl _ _⟩
 case round =>
  obtain ⟨i,v,hgk,rfl,hv,HA⟩:=hrel;have hv':=hv.symm;clear hv;subst hv'
  by_cases hk:i<n
  · have hdk:decide ((i:Int)<(n:Int))=true:=by simp;omega
    obtain ⟨i1,hi1⟩:∃ x,x=i+1:=⟨_,rfl⟩;have wk:IntKind.i64.wrap ((i:Int)+1)=(i1:Int):=wrapZ (by omega) (by omega)
    obtain ⟨v',w',r1,r2,r3,r4⟩:=appendI15 w.heap.size v (List.range i) i wr HA.out.1 HA.out.2.size (by simp;omega)
    have e9:List.range i++[i]=List.range i1:=by rw [hi1,List.range_succ]
    rw [e9] at r2;have HR:=qsd r1;have HX:=(qsd (ai r2 (ai (HA.out.2.trans r3) hi1)));clear r1 r2 r3 r4 hi1 HA e9
    go_wp2_with (at_builtin;refine wpList_append10 rfl (.tmp 11) (.tmp 13) 25 rfl _ _ rfl rfl _ _ HR.out ?_)
    go_roundg (gk-1)
    case measure=>omega
    case rel=>exact ⟨i1,v',by have:=HX.out.2.2;omega,by first | rfl | simp,rfl,HX.out.1,HX.out.2.1⟩
  · obtain rfl:i=n:=by omega
    have hdk:decide ((i:Int)<(i:Int))=false:=by simp
    obtain ⟨a,c,rfl,h1,h2,h3,h4⟩:=own_isnF HA.out.1 rfl;rw [List.length_range] at h1 ⊢;have C:=hid (HR0.out a c wr (by rw [List.length_range];exact h1) h2 ((HN.out.1.below HA.out.2).mono HA.out.2.size) h3)
    rw [List.length_range] at C;have HB:=qsd HA.out.2;have H4:=qsd h4;clear HR0 HA h1 h2 h3 h4
    go_wp2_with fail
    refine C.out.mono ?_;rintro r u ⟨⟨a',c',rfl,_,_,hI,k1,k2⟩,hb⟩
    have HX:Aside (Is15 u.heap.size u a' (rowL xs)∧(∀ b o,a'=some ⟨b,o,none⟩→w.heap.size≤b)∧Below w.heap.size w u):=⟨by rw [HN.out.2] at hI;exact hI,fun b o e=>by
     by_cases q:i<2
     · exact H4.out b o ((k1 q).symm.trans e)
     · exact Nat.le_trans HB.out.size (k2 (by omega) b o e),HB.out.trans (hb.mono HB.out.size)⟩
    clear C hI hb k1 k2 H4;go_wp2;go_ret;exact ⟨⟨a',c',rfl,HX.out.1,HX.out.2.1⟩,HX.out.2.2⟩
end
section
open Go Go.RowKit J
attribute [local go_sem] st_float
theorem appendF15 (lo:Nat) (v:Value) (K:List Nat) (x:Nat) (w:World) (hb:w.ownsRow lo 40 1 v K.length (K.map Fw10)) (hlo:lo≤w.heap.size) (hk:K.length≤17592186043904) :
 ∃ v' w',(Builtin.append_ #[22,22] 22 #[v,.slice (some ⟨w.heap.size,0,none⟩) 1 1]).run Tryz.prog (w.alloc (.cells #[.float .f64 x] 40))=.ok v' w'∧w'.ownsRow lo 40 1 v' (K++[x]).length ((K++[x]).map Fw10)∧Below lo w w'∧w.heap.size≤w'.heap.size:=by
 obtain ⟨i0,hi,hz0,hz1,hz2⟩:=info_parts Tryz.info_f64;obtain ⟨W,hW⟩:∃ W,W=w.alloc (.cells #[.float .f64 x] 40):=⟨_,rfl⟩;have hcx:W.cell? ⟨w.heap.size,0,none⟩=some (.float .f64 x):=by subst hW;unfold World.cell?;simp only [heap_alloc_new];rfl
 have hWb:W.ownsRow lo 40 1 v K.length (K.map Fw10):=by subst hW;exact World.ownsRow.alloc hb _
 have hWs:w.heap.size≤W.heap.size:=by subst hW;simp
 obtain ⟨v',w',r1,r2,r3,_,r5⟩:=run_append_own_at (P:=Tryz.prog) W lo 22 22 40 i0 (.float .f64 0) 1 8 Tryz.und_floats hi hz0 hz1 hz2 rfl (by decide) v K.length (K.map Fw10) hWb ⟨w.heap.size,0,none⟩ 1 1 [.float .f64 x] rfl (by
  intro j u hj
  match j,hj with
  | 0,hj=>simp at hj;subst hj;simpa [Addr.add] using hcx) (by intro u hu;simp at hu;subst hu;rfl) (by unfold maxLen;omega) (by omega) (by omega)
 rw [←hW];refine ⟨v',w',r1,?_,?_,?_⟩
 · rw [List.length_append,List.map_append];exact r2
 · have hlw:Below lo w W:=by subst hW;exact (Below.refl _ _).alloc hlo _
   refine ⟨r3.os.trans hlw.os,r3.tape.trans hlw.tape,r3.output.trans hlw.output,Nat.le_trans hlw.size r3.size,fun k hkl=>?_⟩
   rw [r3.block k (by omega) (fun e=>by
    rcases hWb.2 with ⟨e2,_⟩|⟨g,cap,cur,e2,hlo2,_⟩
    · rw [e2] at e;simp [Value.ownBlock] at e
    · rw [e2] at e;simp [Value.ownBlock] at e;omega)]
   exact hlw.block k hkl
 · exact Nat.le_trans hWs r3.size
theorem rSortL15 (xs:List Nat) (ao:Option Addr) (n cap:Nat) (w:World) (hF:Fs w.heap.size w ao xs) (hn:n=xs.length) (hl:n≤17592186043904) (hW:W64 xs) :
 Calls Tryz.prog 12 #[.slice ao n cap] w fun r w'=>(∃ a c,r=.returned (.slice a n c)∧n≤c∧Fs w'.heap.size w' a (sortL xs))∧Below w.heap.size w w':=by
 have C:=hid (rRow15 xs ao n cap w hF hn (by omega) hW)
 have HN:=(qsd (ai hF (ai hn hW)));clear hF hn hW;go_enter Tryz.func12,Tryz.ntmps12
 go_wp2_with fail
 refine C.out.mono ?_;rintro r u ⟨⟨ar,cr,rfl,hI⟩,hb⟩;have HX:Aside (∀ z:World,Below u.heap.size u z→Is15 z.heap.size z ar (rowL xs)∧Fs z.heap.size z ao xs):=fun z hz=>⟨(hI.below hz).mono hz.size,(HN.out.1.below (hb.trans (hz.mono hb.size))).mono (Nat.le_trans hb.size hz.size)⟩
 have HB:=qsd hb;clear C hI hb;go_wp2
 go_loopg [3,5] n (fun gk ov iv wr=>∃ (i:Nat) (v:Value),gk+i=n∧iv=.int .i64 (i:Nat)∧ov=v∧Aside (wr.ownsRow u.heap.size 40 1 v ((sortL xs).take i).length (((sortL xs).take i).map Fw10)∧Below u.heap.size u wr))
 case atStart=>exact ⟨0,.slice none 0 0,by omega,by first | rfl | simp,rfl,by simpa using World.ownsRow_nil _ _ _ _,Below.refl _ _⟩
 case round =>
  obtain ⟨i,v,hgk,rfl,hv,HA⟩:=hrel;have hv':=hv.symm;clear hv;subst hv'
  by_cases hk:i<n
  · have hdk:decide ((i:Int)<(n:Int))=true:=by simp;omega
    have bk:(i:Int)<(n:Int):=by omega
    obtain ⟨i1,hi1⟩:∃ x,x=i+1:=⟨_,rfl⟩;have wk:IntKind.i64.wrap ((i:Int)+1)=(i1:Int):=wrapZ (by omega) (by omega)
    obtain ⟨hF,hn,hW⟩:=HN.out;have hix:i<xs.length:=by omega
    obtain ⟨hI,hFx⟩:=HX.out _ HA.out.2;obtain ⟨b1,o1,_,rfl,hc1⟩:=hI (by intro e;have:=rowL_len xs;rw [e] at this;simp at this;omega)
    have c1:=hc1 i (row_len hix);obtain ⟨j,hj⟩:∃ j,j=(rowL xs).getD i 0:=⟨_,rfl⟩;rw [←hj] at c1;have hjn:j<xs.length:=by rw [hj];exact rowL_lt hix
    have bj:(j:Int)<(n:Int):=by omega
    obtain ⟨b2,o2,rfl,c2⟩:=hFx.at (Below.refl _ _) j hjn;have hx:xs.getD j 0<18446744073709551616:=hW _ (getD_mem15 hjn);have es:(sortL xs).getD i 0=nrm (xs.getD j 0):=by rw [hj];exact sortL_get hix
    obtain ⟨x,hxx⟩:∃ x,x=xs.getD j 0:=⟨_,rfl⟩;rw [←hxx] at c2 hx es;have D:=hid (rtold15 hx wr);obtain ⟨y,hy⟩:∃ y,y=nrm x:=⟨_,rfl⟩;rw [←hy] at D es;have et:(sortL xs).take i1=(sortL xs).take i++[y]:=by rw [hi1,take_snoc15 (by rw [sortL_len];exact hix),es]
    have HK:=(qsd (ai hi1 (ai et hgk)));have HA2:=qsd HA.out;have hi6:i≤17592186043904:=by omega
    clear hF hn hW hix hI hFx hc1 hj hjn hx es hxx hy et hi1 HA hgk
    go_wp2_with fail
    refine D.out.mono ?_;rintro r z ⟨rfl,hz⟩;have q1:z.ownsRow u.heap.size 40 1 v ((sortL xs).take i).length (((sortL xs).take i).map Fw10):=own_below10 HA2.out.1 hz;obtain ⟨v',w',r1,r2,r3,r4⟩:=appendF15 u.heap.size v ((sortL xs).take i) y z q1 (Nat.le_trans HA2.out.2.size hz.size) (by rw [List.length_take];omega)
    rw [←HK.out.2.1] at r2;have HR:=qsd r1;have HX2:Aside (w'.ownsRow u.heap.size 40 1 v' ((sortL xs).take i1).length (((sortL xs).take i1).map Fw10)∧Below u.heap.size u w'):=⟨r2,(HA2.out.2.trans (hz.mono HA2.out.2.size)).trans r3⟩;clear r1 r2 r3 r4 q1 hz D HA2
    go_wp2_with (at_builtin;refine wpList_append10 rfl (.tmp 14) (.tmp 23) 22 rfl _ _ rfl rfl _ _ HR.out ?_)
    go_roundg (n-i1)
    case measure=>have:=HK.out;omega
    case rel=>exact ⟨i1,v',by have:=HK.out;omega,by first | rfl | simp,rfl,HX2.out.1,HX2.out.2⟩
  · obtain rfl:i=n:=by omega
    have hdk:decide ((i:Int)<(i:Int))=false:=by simp
    have hl2:(sortL xs).take i=sortL xs:=List.take_of_length_le (by rw [sortL_len];have:=HN.out.2.1;omega)
    have HO:=HA.out.1;rw [hl2,sortL_len,←HN.out.2.1] at HO;obtain ⟨a,c,rfl,hc,hf⟩:=own_fs10 HO (by rw [sortL_len];exact HN.out.2.1)
    have HF:=(qsd (ai hf (ai (HB.out.trans (HA.out.2.mono HB.out.size)) hc)));clear HO hf HA hc;go_wp2;go_ret;exact ⟨⟨a,c,rfl,HF.out.2.2,HF.out.1⟩,HF.out.2.1⟩
theorem sameInts15 (xs:List Nat) (ao bo:Option Addr) (n cap cap':Nat) (w:World) (hn:n=xs.length) (hm:n≤35184372088832) (hR:Is15 w.heap.size w ao xs) (hR':Is15 w.heap.size w bo xs) :
 Calls Tryz.prog 15 #[.slice ao n cap,.slice bo n cap'] w fun r w'=>r=.returned (.bool true)∧w'.heap=w.heap∧Below w.heap.size w w':=by
 have HX:=(qsd (ai hn (ai hR hR')));have nn:((n:Int) != n)=false:=by simp
 clear hn hR hR';go_enter Tryz.func15,Tryz.ntmps15;go_wp2
 go_loopg [5] n (fun gk iv wr=>∃ (i:Nat),gk+i=n∧iv=.int .i64 (i:Nat)∧Aside (Below w.heap.size w wr∧wr.heap=w.heap))
 case atStart=>exact ⟨0,by omega,rfl,Below.refl _ _,rfl⟩
 case round =>
  obtain ⟨i,hi,rfl,HA⟩:=hrel
  by_cases hin:i=n
  · obtain rfl:gk=0:=by omega
    subst hin;go_wp2;go_ret;exact ⟨rfl,HA.out.2,HA.out.1⟩
  · have hil:i<n:=by omega
    obtain ⟨hn,hR,hR'⟩:=HX.out;have hne:xs≠[]:=by intro e;rw [e] at hn;simp at hn;omega
    obtain ⟨b1,o1,_,rfl,hc1⟩:=hR hne;obtain ⟨b2,o2,_,rfl,hc2⟩:=hR' hne;have hcw:∀ a,wr.cell? a=w.cell? a:=fun a=>by simp only [World.cell?,HA.out.2]
    have h1:wr.cell? ⟨b1,o1+i,none⟩=_:=(hcw _).trans (hc1 i (by omega))
    have h2:wr.cell? ⟨b2,o2+i,none⟩=_:=(hcw _).trans (hc2 i (by omega))
    obtain ⟨x,hx⟩:∃ x,xs.getD i 0=x:=⟨_,rfl⟩;rw [hx] at h1 h2;have n2:((x:Int) != x)=false:=by simp
    obtain ⟨i1,hi1⟩:∃ x,x=i+1:=⟨_,rfl⟩;have wi:IntKind.i64.wrap ((i:Int)+1)=(i1:Int):=wrapZ (by omega) (by omega)
    have HI:=(qsd (ai hi1 hi));clear hn hR hR' hne hc1 hc2 hcw hx hi1
    go_wp2_with fail
    go_quiet (fail)
    go_wp2
    go_roundg (gk-1)
    case measure=>omega
    case rel=>exact ⟨i1,by have:=HI.out;omega,by first | rfl | simp,⟨HA.out.1.os,HA.out.1.tape,HA.out.1.output,HA.out.1.size,HA.out.1.block⟩,HA.out.2⟩
end
section
open Go Go.RowKit J
attribute [local go_sem] st_float
theorem rPlaces15 (xs:List Nat) (ao:Option Addr) (n cap:Nat) (w:World) (hF:Fs w.heap.size w ao xs) (hn:n=xs.length) (hl:n≤17592186043904) (hW:W64 xs) :
 Calls Tryz.prog 13 #[.slice ao n cap] w fun r w'=>r=.returned (.slice (some ⟨w.heap.size,0,none⟩) n n)∧OwnI w' w.heap.size (eachL xs fun k=>k)∧Below w.heap.size w w':=by
 have mk:=make_ints n n rfl (by omega)
 obtain ⟨W1,hW1⟩:∃ W,W=w.alloc (Obj.cells (madeCells #[Value.int .i64 0] n) 3):=⟨_,rfl⟩
 have o1:OwnI W1 w.heap.size (eachTo xs (fun k=>k) 0 0):=by
  rw [hW1,eachTo_zero,←hn];exact OwnI.made w n
 have o2:Below w.heap.size w W1:=by
  rw [hW1];exact (Below.refl w.heap.size w).alloc (Nat.le_refl _) _
 have C:=hid (rRowF15 xs ao n cap W1 ((hF.below o2).mono o2.size) hn hl hW);obtain ⟨g,hg⟩:∃ G,G=w.heap.size:=⟨_,rfl⟩;rw [←hg] at o1 ⊢;have hgl:g<W1.heap.size:=o1.lt;have HG:=qsd hg;have HW1:=qsd hW1;have HN:=(qsd (ai hn (ai o1 (ai o2 hgl))));clear hF hn hW o1 o2 hgl hW1 hg;go_enter Tryz.func13,Tryz.ntmps13
 go_upto_region 2 with fail
 rw [←HW1.out,←HG.out];clear mk
 go_wp2_with fail
 refine C.out.mono ?_;rintro r V ⟨⟨ar,cr,rfl,hI,hfr⟩,hv⟩
 have HX:Aside (∀ u:World,But g V u→Below w.heap.size w u∧(0<n→∃ b o,ar=some ⟨b,o,none⟩∧∀ i,i<n→u.cell? ⟨b,o+i,none⟩=some (.int .i64 (((rowL xs).getD i 0:Nat):Int)))):=fun u hu=>by
  have hgw:=HG.out;have hB:=But.below (HN.out.2.2.1.trans (hv.mono HN.out.2.2.1.size)) hu (HN.out.2.2.1.trans (hv.mono HN.out.2.2.1.size)).size (by omega)
  refine ⟨hB,fun hp=>?_⟩
  obtain ⟨b,o,hbl,e,hc⟩:=hI (by intro e;have:=rowL_len xs;rw [e] at this;simp at this;have:=HN.out.1;omega)
  have hne:b≠g:=by
   have:=hfr b o e;have:=HN.out.2.2.2;omega
  exact ⟨b,o,e,fun i hi=>(World.cell?_of_block (a:=⟨b,o+i,none⟩) (hu.block b hbl hne)).trans (hc i (by rw [rowL_len];have:=HN.out.1;omega))⟩
 have HA:Aside (OwnI V g (eachTo xs (fun k=>k) 0 0)∧But g V V):=⟨HN.out.2.1.below hv HN.out.2.2.2,But.refl _ _⟩
 clear C hI hv hfr;go_wp2
 go_loopg [5] n (fun gk iv wr=>∃ k:Nat,gk+k=n∧iv=.int .i64 (k:Nat)∧Aside (OwnI wr g (eachTo xs (fun k=>k) 0 k)∧But g V wr))
 case atStart=>exact ⟨0,by omega,by first | rfl | simp,HA.out⟩
 case round =>
  clear HA;obtain ⟨k,hgk,rfl,HK⟩:=hrel
  by_cases hk:k<n
  · have hdk:decide ((k:Int)<(n:Int))=true:=by simp;omega
    have bk:(k:Int)<(n:Int):=by omega
    obtain ⟨k1,hk1⟩:∃ x,x=k+1:=⟨_,rfl⟩;have wk:IntKind.i64.wrap ((k:Int)+1)=(k1:Int):=wrapZ (by omega) (by omega)
    obtain ⟨hB,hat⟩:=HX.out _ HK.out.2;obtain ⟨b,o,rfl,hc⟩:=hat (by omega)
    have hnx:=HN.out.1;obtain ⟨j,hj⟩:∃ i,i=(rowL xs).getD k 0:=⟨_,rfl⟩;have c1:=hc k hk;rw [←hj] at c1;have hjn:j<n:=by rw [hj,hnx];exact rowL_lt (by omega)
    have bj:(j:Int)<(n:Int):=by omega
    obtain ⟨y,hy⟩:∃ y,y=(eachTo xs (fun k=>k) 0 k).getD j 0:=⟨_,rfl⟩
    have c2:=HK.out.1.cell j (by rw [eachTo_len,←hnx];exact hjn)
    rw [←hy] at c2;have c3:=HK.out.1.frozen j
    have HY:Aside (OwnI (wr.setCell ⟨g,j,none⟩ (.int .i64 (k:Nat))) g (eachTo xs (fun k=>k) 0 k1)∧But g V (wr.setCell ⟨g,j,none⟩ (.int .i64 (k:Nat)))):=by
     refine ⟨?_,HK.out.2.set _ _⟩;have:=HK.out.1.set j k;have e:=eachTo_succ xs (fun k=>k) 0 (k:=k) (by omega)
     rw [hj,e,←hk1] at this;rw [hj];exact this
    have HZ:=qsd hk1;clear hB hat hc hj hy HK hnx hk1 hjn;go_wp2
    go_roundg (n-k1)
    case measure=>have:=HZ.out;omega
    case rel=>exact ⟨k1,by have:=HZ.out;omega,by first | rfl | simp,HY.out⟩
  · obtain rfl:k=n:=by omega
    have hdk:decide ((k:Int)<(k:Int))=false:=by simp
    have HF:Aside (OwnI wr g (eachL xs fun k=>k)∧Below w.heap.size w wr):=by
     have h1:=HK.out.1;rw [HN.out.1,eachTo_all] at h1;exact ⟨h1,(HX.out _ HK.out.2).1⟩
    clear HK;go_wp2;go_ret;exact ⟨rfl,HF.out.1,by rw [HG.out];exact HF.out.2⟩
theorem full15 (mark:Int) (ao:Option Addr) (n cap:Nat) (w:World) (hm:n≤35184372088832) (hc:0<n→∃ b o,ao=some ⟨b,o,none⟩∧∀ i,i<n→w.cell? ⟨b,o+i,none⟩=some (.int .i64 mark)) :
 Calls Tryz.prog 19 #[.slice ao n cap,.int .i64 mark] w fun r w'=>r=.returned (.bool true)∧w'=w:=by
 have HX:=qsd hc;have nn:((mark:Int) != mark)=false:=by simp
 clear hc;go_enter Tryz.func19,Tryz.ntmps19;go_wp2
 go_loopg [5] n (fun gk iv wr=>∃ (i:Nat),gk+i=n∧iv=.int .i64 (i:Nat)∧wr=w)
 case atStart=>exact ⟨0,by omega,rfl,rfl⟩
 case round =>
  obtain ⟨i,hi,rfl,rfl⟩:=hrel
  by_cases hin:i<n
  · have hdk:decide ((i:Int)<(n:Int))=true:=by simp;omega
    have bk:(i:Int)<(n:Int):=by omega
    obtain ⟨b,o,rfl,hc⟩:=HX.out (by omega)
    have c1:=hc i hin;obtain ⟨i1,hi1⟩:∃ x,x=i+1:=⟨_,rfl⟩;have wi:IntKind.i64.wrap ((i:Int)+1)=(i1:Int):=wrapZ (by omega) (by omega)
    have HI:=(qsd (ai hi1 hi));clear hc hi1;go_wp2
    go_roundg (n-i1)
    case measure=>have:=HI.out;omega
    case rel=>exact ⟨i1,by have:=HI.out;omega,by first | rfl | simp,rfl⟩
  · obtain rfl:i=n:=by omega
    have hdk:decide ((i:Int)<(i:Int))=false:=by simp
    go_wp2;go_ret;exact ⟨rfl,rfl⟩
end
section
open Go Go.RowKit J
attribute [local go_sem] st_float
def OwnV (w:World) (g:Nat) (L:List Int):Prop:=w.heap[g]?=some (.cells (L.map fun x=>Value.int .i64 x).toArray 3 (0,0))
theorem OwnV.lt {w:World}{g:Nat}{L:List Int}(h:OwnV w g L):g<w.heap.size:=(Array.getElem?_eq_some_iff.1 h).1
theorem OwnV.cell {w:World}{g:Nat}{L:List Int}(h:OwnV w g L) (i:Nat) (hi:i<L.length):w.cell? ⟨g,i,none⟩=some (.int .i64 (L.getD i 0)):=by
 unfold OwnV at h;simp [World.cell?,h,hi]
theorem OwnV.frozen {w:World}{g:Nat}{L:List Int}(h:OwnV w g L) (i:Nat):w.frozen? ⟨g,i,none⟩=false:=by
 unfold OwnV at h;simp [World.frozen?,h]
theorem OwnV.set {w:World}{g:Nat}{L:List Int}(h:OwnV w g L) (i:Nat) (x:Int):OwnV (w.setCell ⟨g,i,none⟩ (.int .i64 x)) g (L.set i x):=by
 unfold OwnV at h ⊢;simp only [World.setCell,Array.getElem?_modify,h];simp [List.map_set]
theorem OwnV.bel {w w':World}{g:Nat}{L:List Int}(h:OwnV w g L) (hb:Below w.heap.size w w'):OwnV w' g L:=by
 have hl:=h.lt;unfold OwnV at h ⊢;rw [hb.block g hl];exact h
theorem OwnI.toV {w:World}{g:Nat}{L:List Nat}(h:OwnI w g L):OwnV w g (L.map fun x:Nat=>((x:Nat):Int)):=by
 unfold OwnI at h;unfold OwnV;rw [h,List.map_map];rfl
def Iv15 (x:Int):Value:=.int .i64 x
theorem growV15 (g n:Nat) (K:List Int) (x:Int) (w:World) (hO:OwnV w g K) (hK:K.length=n) (hn:n≤17592186043904) :
 ∃ v' w',(Builtin.append_ #[25,25] 25 #[.slice (some ⟨g,0,none⟩) n n,.slice (some ⟨w.heap.size,0,none⟩) 1 1]).run Tryz.prog (w.alloc (.cells #[.int .i64 x] 3))=.ok v' w'∧w'.ownsRow w.heap.size 3 1 v' (K++[x]).length ((K++[x]).map Iv15)∧Below w.heap.size w w':=by
 obtain ⟨i0,hi,hz0,hz1,hz2⟩:=info_parts Tryz.info_int15;obtain ⟨W,hW⟩:∃ W,W=w.alloc (.cells #[.int .i64 x] 3):=⟨_,rfl⟩;have hcx:W.cell? ⟨w.heap.size,0,none⟩=some (.int .i64 x):=by subst hW;unfold World.cell?;simp only [heap_alloc_new];rfl
 have hlw:Below w.heap.size w W:=by subst hW;exact (Below.refl _ _).alloc (Nat.le_refl _) _
 have hOW:=hO.bel hlw
 obtain ⟨v',w',r1,r2,r3⟩:=run_append_arg_grows (P:=Tryz.prog) (w:=W) 25 25 3 i0 (.int .i64 0) 1 8 Tryz.und_ints hi hz0 hz1 hz2 rfl (by decide) ⟨g,0,none⟩ n n (K.map Iv15) (by rw [List.length_map,hK,Nat.mul_one]) (fun j u hj=>by
  have hjl:j<K.length:=by
   have:=List.getElem?_eq_some_iff.1 hj;obtain ⟨q,_⟩:=this;rwa [List.length_map] at q
  have e:=hOW.cell j hjl;rw [List.getElem?_map,List.getElem?_eq_getElem hjl] at hj
  rw [Addr.add_lit,Nat.zero_add,e,List.getD_eq_getElem?_getD,List.getElem?_eq_getElem hjl]
  exact hj) ⟨w.heap.size,0,none⟩ 1 1 [.int .i64 x] rfl (by
  intro j u hj
  match j,hj with
  | 0,hj=>simp at hj;subst hj;simpa [Addr.add] using hcx) (by omega) (by unfold maxLen;omega) (by omega)
 rw [←hW];refine ⟨v',w',r1,?_,?_⟩
 · rw [List.length_append,hK,List.map_append];exact own_baseI r2 hlw.size
 · exact ⟨r3.os.trans hlw.os,r3.tape.trans hlw.tape,r3.output.trans hlw.output,Nat.le_trans hlw.size r3.size,fun k hkl=>by
    rw [r3.block k (by have:=hlw.size;omega) (by simp)]
    exact hlw.block k hkl⟩
theorem appendV15 (lo:Nat) (v:Value) (K:List Int) (x:Int) (w:World) (hb:w.ownsRow lo 3 1 v K.length (K.map Iv15)) (hlo:lo≤w.heap.size) (hk:K.length≤17592186043910) :
 ∃ v' w',(Builtin.append_ #[25,25] 25 #[v,.slice (some ⟨w.heap.size,0,none⟩) 1 1]).run Tryz.prog (w.alloc (.cells #[.int .i64 x] 3))=.ok v' w'∧w'.ownsRow lo 3 1 v' (K++[x]).length ((K++[x]).map Iv15)∧Below lo w w':=by
 obtain ⟨i0,hi,hz0,hz1,hz2⟩:=info_parts Tryz.info_int15;obtain ⟨W,hW⟩:∃ W,W=w.alloc (.cells #[.int .i64 x] 3):=⟨_,rfl⟩;have hcx:W.cell? ⟨w.heap.size,0,none⟩=some (.int .i64 x):=by subst hW;unfold World.cell?;simp only [heap_alloc_new];rfl
 have hWb:W.ownsRow lo 3 1 v K.length (K.map Iv15):=by subst hW;exact World.ownsRow.alloc hb _
 have hWs:w.heap.size≤W.heap.size:=by subst hW;simp
 obtain ⟨v',w',r1,r2,r3,_,r5⟩:=run_append_own_at (P:=Tryz.prog) W lo 25 25 3 i0 (.int .i64 0) 1 8 Tryz.und_ints hi hz0 hz1 hz2 rfl (by decide) v K.length (K.map Iv15) hWb ⟨w.heap.size,0,none⟩ 1 1 [.int .i64 x] rfl (by
  intro j u hj
  match j,hj with
  | 0,hj=>simp at hj;subst hj;simpa [Addr.add] using hcx) (by intro u hu;simp at hu;subst hu;rfl) (by unfold maxLen;omega) (by omega) (by omega)
 rw [←hW];refine ⟨v',w',r1,?_,?_⟩
 · rw [List.length_append,List.map_append];exact r2
 · have hlw:Below lo w W:=by subst hW;exact (Below.refl _ _).alloc hlo _
   refine ⟨r3.os.trans hlw.os,r3.tape.trans hlw.tape,r3.output.trans hlw.output,Nat.le_trans hlw.size r3.size,fun k hkl=>?_⟩
   rw [r3.block k (by omega) (fun e=>by
    rcases hWb.2 with ⟨e2,_⟩|⟨g,cap,cur,e2,hlo2,_⟩
    · rw [e2] at e;simp [Value.ownBlock] at e
    · rw [e2] at e;simp [Value.ownBlock] at e;omega)]
   exact hlw.block k hkl
end
end Go.Proofs.YtihjfhpoiheomaaGreatDoor
