import Derived.Test.YtepkabljmpbmaaaGreatDoorW13x
import Derived.BigQuiet
import Derived.ArgAppend
import Derived.Maps.AppendAt
import Derived.WalkMore
import Derived.Test.YtepkabljmpbmaaaGreatDoorBIeeex
import Derived.WalkLawsBesides
import Derived.ProofKit
import Derived.OpenShut
import Derived.ChangeOld
import Derived.SizedLaws
set_option linter.unusedVariables false
set_option linter.unusedSimpArgs false
set_option maxHeartbeats 16000000
set_option maxRecDepth 20000
namespace Go.Proofs.YtepkabljmpbmaaaGreatDoor
section
open Go.RowKit
theorem append_words (w:World) (lo:Nat) (v:Value) (n:Nat) (xs src:List Nat) (ao:Option Addr) (m c B:Nat) (ty:TypeId) (hown:w.ownsRow lo 81 1 v n (xs.map U)) (hm:m=src.length) (hR:Rd B w ao src)
 (hnil:ao=none→c=0) (hbig:n+m≤35184372088832) (hlo:lo≤w.heap.size) :
 ∃ v' w',(Builtin.append_ #[68,68] ty #[v,.slice ao m c]).run Tryz.prog w=.ok v' w'∧w'.ownsRow lo 81 1 v' (n+m) ((xs++src).map U)∧w.grownBy w' v.ownBlock:=by
 obtain ⟨i0,hi,hz0,hz1,hz2⟩:=info_parts Tryz.info81;subst hm;rcases hao:ao with _|a
 · have h0:src=[]:=by
    by_cases h:src=[]
    · exact h
    · obtain ⟨b,off,_,e,_⟩:=hR h;rw [hao] at e;cases e
   subst h0;have hc:=hnil hao;subst hc;exact ⟨v,w,run_append_owned_none (P:=Tryz.prog) w lo 68 ty 81 i0 1 Tryz.underlying68 hi v n _ hown,by simpa using hown,World.grownBy.refl _ _⟩
 · obtain ⟨v',w',h1,h2,h3,_⟩:=run_append_own (P:=Tryz.prog) w lo 68 ty 81 i0 (.int .u32 0) 1 4 Tryz.underlying68 hi hz0 hz1 hz2 rfl (by decide) v n (xs.map U) hown a src.length c (src.map U) (by simp) (by
    intro j u hj;have hj2:j<src.length:=by have:=(List.getElem?_eq_some_iff.1 hj).1;simpa using this
    obtain ⟨b,off,_,e,hc⟩:=hR (by intro e;subst e;simp at hj2);rw [hao] at e
    cases e
    have hadd:(⟨b,off,none⟩:Addr).add j=⟨b,off+j,none⟩:=by unfold Addr.add;split <;> simp_all
    rw [hadd,hc j hj2];simp [hj2,U] at hj
    simp [hj2,←hj]) (by
    intro u hu;obtain ⟨x,_,rfl⟩:=List.mem_map.1 hu
    rfl) (by unfold maxLen;omega) (by omega) hlo
   exact ⟨v',w',h1,by rw [List.map_append];exact h2,h3⟩
theorem wpList_append_run {w:World}{ops:Array Oper}{rest:List Oper}{o:Oper}{a:Act}{Q:Exit→Act→World→Prop}(hgd:o.guard=none) (s x:Operand)
 (ho:o.op=.call { callee:=.builtin .append,args:=#[s,x],argTypes:=#[68,68] }) (v u:Value) (hs:a.eval s=v) (hx:a.eval x=u) (v':Value) (w':World)
 (hrun:(Builtin.append_ #[68,68] o.type #[v,u]).run Tryz.prog w=.ok v' w') (h:wpList Tryz.prog ops Q rest (a.put o.dst v') w'):wpList Tryz.prog ops Q (o::rest) a w:=by
 refine wpList_plain hgd fun K hK=>?_;unfold Oper.wp;simp [execOp,ho,resolve,invoke,builtin,hs,hx,hrun,Result.andThen];exact hK _ _ h
theorem rNorm_any (xs:List Nat) (ao:Option Addr) (n cap B:Nat) (w:World) (hn:n=xs.length) (hc:n≤cap) (hm:n≤35184372088832) (hx:Wf xs) (hR:Rd B w ao xs) (hnil:ao=none→cap=0) :
 Calls Tryz.prog 127 #[.slice ao n cap] w fun r w'=>∃ v,r=.returned v∧Nt w.heap.size w' v (val xs)∧Below w.heap.size w w':=by
 have S:=hid (size_any xs ao n cap B w hn (by omega) hR);have hl:=nl_le xs;have hf:=form_eq xs hx;obtain ⟨v',w',hap,hown,hgrow⟩:=append_words w w.heap.size (.slice none 0 0) 0 [] (xs.take (nl xs)) ao (nl xs) cap B 68 (World.ownsRow_nil _ _ _ _) (by rw [List.length_take];omega) (hR.take _) hnil (by omega) (Nat.le_refl _)
 have hN:Nt w.heap.size w' v' (val xs):=by
  unfold Nt;rw [←hf];simpa [Nat.min_eq_left hl] using hown
 have hb:Below w.heap.size w w':=(Below.refl _ _).grown hgrow (Nat.le_refl _) (fun k hk=>by simp [Value.ownBlock] at hk);have HN:=(qsd (ai hN hb));obtain ⟨k,hk⟩:∃ k,nl xs=k:=⟨_,rfl⟩;rw [hk] at S hap hl;have hkn:k≤n:=by omega
 have HZ:Aside (n=0→val xs=0):=by intro h0;have:xs=[]:=List.length_eq_zero_iff.1 (by omega);rw [this];rfl
 clear hN hb hown hgrow hf hl hn hx hR hk;rcases hao:ao with _|a
 · have hc0:=hnil hao;subst hc0;subst hao;obtain rfl:n=0:=by omega
   obtain rfl:k=0:=by omega
   go_enter Tryz.func127,Tryz.ntmps127;go_wp2_with fail;refine S.out.mono ?_;rintro r w1 ⟨rfl,rfl⟩;go_wp2;go_ret;rw [HZ.out (by trivial)];exact ⟨_,rfl,Nt.nil _ _,Below.refl _ _⟩
 · subst hao;go_enter Tryz.func127,Tryz.ntmps127;go_wp2_with fail;refine S.out.mono ?_;rintro r w1 ⟨rfl,rfl⟩;have HAP:=hid hap;clear hap
   go_wp2_with (at_builtin;refine wpList_append_run rfl (.tmp 4) (.tmp 8) rfl _ _ rfl rfl _ _ HAP.out ?_)
   go_ret;exact ⟨_,rfl,HN.out.1,HN.out.2⟩
theorem bl_half (x:Nat) (h:x≠0):bl x=bl (x/2)+1:=by
 by_cases h1:x=1
 · subst h1;decide
 · have hx2:x/2≠0:=by omega
   obtain ⟨c,hc⟩:∃ c,bl (x/2)=c+1:=⟨bl (x/2)-1,by have:=bl_pos _ hx2;omega⟩;have a:=bl_ge _ hx2;have b:=bl_lt (x/2);rw [hc] at a b ⊢;rw [Nat.add_sub_cancel] at a;exact bl_eq x (c+1) (by rw [Nat.pow_succ];omega) (by rw [Nat.pow_succ];omega)
theorem rLen_any (xs:List Nat) (ao:Option Addr) (n cap B:Nat) (w:World) (hn:n=xs.length) (hm:n≤70368744177664) (hx:Wf xs) (hR:Rd B w ao xs) :
 Calls Tryz.prog 125 #[.slice ao n cap] w fun r w'=>r=.returned (.int .i64 (bl (val xs):Nat))∧w'=w:=by
 have H:=hid (size_any xs ao n cap B w hn (by omega) hR);have hl:=nl_le xs;rcases hk:nl xs with _|k
 · rw [(nl_zero_iff xs).1 hk,bl_zero];rw [hk] at H;clear hk hl hn hx hR;go_enter Tryz.func125,Tryz.ntmps125;go_wp2_with fail;refine H.out.mono ?_;rintro r w1 ⟨rfl,rfl⟩;go_wp2;go_ret;exact ⟨rfl,rfl⟩
 · have hbw:=bl_words xs hx k hk;rw [hk] at H hl;obtain ⟨e,hlt,h0,hl2⟩:=form_top xs hx k hk;obtain ⟨b,off,hB,rfl,hcell⟩:=hR (by intro e;subst e;simp at hl);have hck:=hcell k hl2;obtain ⟨t,ht⟩:∃ t,xs.getD k 0=t:=⟨_,rfl⟩;have htl:t<4294967296:=ht ▸ hx.get k;rw [ht] at hck hbw;have hb:=bl_le32 t htl;have hkn:k<n:=by omega
   have HB:=(qsd (ai hbw hb));clear hk hl hn hx hR e hlt h0 hl2 hcell ht hbw hb;go_enter Tryz.func125,Tryz.ntmps125;go_wp2_with fail;refine H.out.mono ?_;rintro r w1 ⟨rfl,rfl⟩;go_wp2
   go_loopg [4,5] t (fun gk bv xv wr=>∃ c:Nat,bv=.int .i64 (c:Nat)∧xv=.int .u32 (gk:Nat)∧gk≤t∧c≤32*k+32∧wr=w1∧Aside (c+bl gk=32*k+bl t))
   case atStart=>exact ⟨32*k,by first | go_num | (congr 1;omega),rfl,Nat.le_refl _,by omega,rfl,rfl⟩
   case round =>
    obtain ⟨c,rfl,rfl,hgt,hc,rfl,HA⟩:=hrel
    by_cases hg0:gk=0
    · subst hg0;go_wp2;go_ret;have h1:=HA.out;rw [bl_zero,Nat.add_zero] at h1;rw [HB.out.1,←h1];exact ⟨rfl,rfl⟩
    · have hg1:(0:Int)<(gk:Int):=by omega
      obtain ⟨g2,hg2⟩:∃ g,g=gk/2:=⟨_,rfl⟩;have e2:(gk:Int)/2=(g2:Int):=by omega
      have HX:=(qsd (ai hg2 hg0));clear hg2 hg0;go_wp2;go_roundg g2
      case measure=>obtain ⟨hg2,hg0⟩:=HX.out;omega
      case rel =>
       obtain ⟨hg2,hg0⟩:=HX.out;have h1:=HA.out;have h2:=bl_half gk hg0;rw [←hg2] at h2;have h3:=HB.out.2;exact ⟨c+1,by go_num,by first | rfl | rw [e2],by omega,by omega,rfl,by rw [Aside];omega⟩
end
section
open Go.RowKit
theorem But.drewN {g:Nat}{a w:World}(h:But g a w) (n:Nat):But g a (w.drewN n):=⟨h.os,h.tape,h.output,h.size,h.block⟩
end
section
open Go.RowKit
abbrev Rw (lo:Nat) (w:World) (v:Value) (n:Nat) (ys:List Value):Prop:=w.ownsRow lo 81 1 v n ys
theorem row_other {w w':World}{lo e s:Nat}{v:Value}{n:Nat}{ys:List Value}(h:w.ownsRow lo e s v n ys) (hb:∀ g,v.ownBlock=some g→w'.heap[g]?=w.heap[g]?):w'.ownsRow lo e s v n ys:=by
 refine ⟨h.1,?_⟩;rcases h.2 with hn|⟨g,cap,cur,rfl,hlo,hg,rest⟩
 · exact .inl hn
 · refine .inr ⟨g,cap,cur,rfl,hlo,?_,rest⟩;rw [hb g rfl];exact hg
theorem append_word (w:World) (lo:Nat) (v:Value) (n:Nat) (ys:List Value) (x:Value) (s:Nat) (ty:TypeId) (hown:Rw lo w v n ys) (hx:w.cell? ⟨s,0,none⟩=some x) (h1:x.oneCell'=true)
 (hbig:n+1≤35184372088832) (hlo:lo≤w.heap.size) :
 ∃ v' w',(Builtin.append_ #[68,68] ty #[v,.slice (some ⟨s,0,none⟩) 1 1]).run Tryz.prog w=.ok v' w'∧Rw lo w' v' (n+1) (ys++[x])∧w.grownBy w' v.ownBlock ∧
   (v'.ownBlock=v.ownBlock∨∃ g,v'.ownBlock=some g∧w.heap.size≤g)∧(∀ (u:Value) (k:Nat) (zs:List Value),Rw lo w u k zs→(u.ownBlock=v.ownBlock→k≤n)→Rw lo w' u k zs):=by
 obtain ⟨i0,hi,hz0,hz1,hz2⟩:=info_parts Tryz.info81
 have hnews:∀ j u,[x][j]?=some u→w.cell? ((⟨s,0,none⟩:Addr).add j)=some u:=by
  intro j u hj
  match j,hj with
  | 0,hj=>simp at hj;subst hj;simpa [Addr.add] using hx
 have h1':∀ u ∈ [x],u.oneCell'=true:=by intro u hu;simp at hu;subst hu;exact h1
 have keep:∀ w',w.grownBy w' none→∀ (u:Value) (k:Nat) (zs:List Value),Rw lo w u k zs→Rw lo w' u k zs:=by
  intro w' hg u k zs hr;rcases hr.2 with hn|⟨g,cap,cur,rfl,hl,hgb,rest⟩
  · exact ⟨hr.1,.inl hn⟩
  · refine ⟨hr.1,.inr ⟨g,cap,cur,rfl,hl,?_,rest⟩⟩;rw [hg.block g (Array.getElem?_eq_some_iff.1 hgb).1 (by simp)];exact hgb
 have newb:∀ (v':Value) (w':World) (m:Nat) (zs:List Value),w'.ownsRow w.heap.size 81 1 v' (m+1) zs→∃ g,v'.ownBlock=some g∧w.heap.size≤g:=by
  intro v' w' m zs h;rcases h.2 with ⟨_,h0⟩|⟨g,cap,cur,rfl,hl,_⟩
  · omega
  · exact ⟨g,rfl,hl⟩
 have mono:∀ (v':Value) (w':World) (m:Nat) (zs:List Value),w'.ownsRow w.heap.size 81 1 v' m zs→Rw lo w' v' m zs:=by
  intro v' w' m zs h;refine ⟨h.1,?_⟩;rcases h.2 with hn|⟨g,cap,cur,rfl,hl,rest⟩
  · exact .inl hn
  · exact .inr ⟨g,cap,cur,rfl,by omega,rest⟩
 rcases hown.2 with ⟨rfl,rfl⟩|⟨g,cap,cur,rfl,hlg,hg,hnc,hm,hs,ht⟩
 · obtain ⟨v',w',r1,r2,r3,_,_⟩:=run_append_own_at (P:=Tryz.prog) w w.heap.size 68 ty 81 i0 (.int .u32 0) 1 4 Tryz.underlying68 hi hz0 hz1 hz2 rfl (by decide) (.slice none 0 0) 0 [] (World.ownsRow_nil _ _ _ _) ⟨s,0,none⟩ 1 1 [x] rfl hnews h1' (by unfold maxLen;omega) (by omega) (Nat.le_refl _);have hy:ys=[]:=List.eq_nil_of_length_eq_zero (by simpa using hown.1);subst hy;exact ⟨v',w',r1,mono _ _ _ _ (by simpa using r2),r3,.inr (newb _ _ 0 _ (by simpa using r2)),fun u k zs hr _=>keep _ r3 u k zs hr⟩
 · by_cases hroom:n+1≤cap
   · have hr:=run_append_room (P:=Tryz.prog) w 68 ty 81 i0 Tryz.underlying68 hi g n cap cur hg ⟨s,0,none⟩ 1 1 [x] (by rw [hz1];rfl) hnews h1' hroom (by rw [hz1,hs];simp;omega);rw [hz1] at hr;refine ⟨_,_,hr,⟨by simpa using hown.1,.inr ⟨g,cap,_,rfl,hlg,setRow_heap w g cur _ 81 _ hg,hroom,hm,?_,?_⟩⟩,⟨rfl,rfl,rfl,by simp,fun k _ hk=>setRow_other w g k _ (fun e=>hk (by simp [Value.ownBlock,e]))⟩,.inl rfl,?_⟩
     · simp only [List.size_toArray,List.length_append,List.length_take,List.length_drop,Array.length_toList,List.length_cons,List.length_nil];omega
     · rw [ht];have hyl:ys.length=n:=by simpa using hown.1
       simp only [Nat.mul_one,List.append_assoc];rw [←List.append_assoc];rw [List.take_append_of_le_length (by simp [hyl])];rw [List.take_of_length_le (by simp [hyl])]
     · intro u k zs hr2 hle;rcases hr2.2 with hn|⟨g2,cap2,cur2,rfl,hl2,hg2,hnc2,hm2,hs2,ht2⟩
       · exact ⟨hr2.1,.inl hn⟩
       · by_cases he:g2=g
         · subst he;rw [hg] at hg2
           cases hg2
           have hk:=hle rfl;refine ⟨hr2.1,.inr ⟨g2,cap2,_,rfl,hl2,setRow_heap w g2 cur _ 81 _ hg,hnc2,hm2,?_,?_⟩⟩
           · simp only [List.size_toArray,List.length_append,List.length_take,List.length_drop,Array.length_toList,List.length_cons,List.length_nil];omega
           · have hcl:cur.toList.length=cap2:=by simpa using hs2
             rw [←ht2];simp only [Nat.mul_one,List.append_assoc];rw [List.take_append_of_le_length (by rw [List.length_take];omega),List.take_take,Nat.min_eq_left hk]
         · refine ⟨hr2.1,.inr ⟨g2,cap2,cur2,rfl,hl2,?_,hnc2,hm2,hs2,ht2⟩⟩;rw [setRow_other w g g2 _ he];exact hg2
   · obtain ⟨v',w',r1,r2,r3⟩:=run_append_arg_grows (P:=Tryz.prog) w 68 ty 81 i0 (.int .u32 0) 1 4 Tryz.underlying68 hi hz0 hz1 hz2 rfl (by decide) ⟨g,0,none⟩ n cap ys (by simpa using hown.1) (fun j u hj=>hown.cells (g:=g) (by simp [Value.ownBlock]) j u hj) ⟨s,0,none⟩ 1 1 [x] rfl hnews (by omega) (by unfold maxLen;omega) (by omega);exact ⟨v',w',r1,mono _ _ _ _ r2,⟨r3.os,r3.tape,r3.output,r3.size,fun k hk _=>r3.block k hk (by simp)⟩,.inr (newb _ _ n _ r2),fun u k zs hr _=>keep _ r3 u k zs hr⟩
theorem wpList_append_run2 {w:World}{ops:Array Oper}{rest:List Oper}{o:Oper}{a:Act}{Q:Exit→Act→World→Prop}(hgd:o.guard=none) (s x:Operand) (t:TypeId)
 (ho:o.op=.call { callee:=.builtin .append,args:=#[s,x],argTypes:=#[t,t] }) (v u:Value) (hs:a.eval s=v) (hx:a.eval x=u) (v':Value) (w':World)
 (hrun:(Builtin.append_ #[t,t] o.type #[v,u]).run Tryz.prog w=.ok v' w') (h:wpList Tryz.prog ops Q rest (a.put o.dst v') w'):wpList Tryz.prog ops Q (o::rest) a w:=by
 refine wpList_plain hgd fun K hK=>?_;unfold Oper.wp;simp [execOp,ho,resolve,invoke,builtin,hs,hx,hrun,Result.andThen];exact hK _ _ h
end
section
open Go.RowKit
theorem Rw.lt {lo:Nat}{w:World}{v:Value}{n:Nat}{ys:List Value}(h:Rw lo w v n ys) (b:Nat) (hb:v.ownBlock=some b):lo≤b∧b<w.heap.size∧∃ cur,w.heap[b]?=some (.cells cur 81 (0,0)):=by
 rcases h.2 with ⟨rfl,h0⟩|⟨g,cap,cur,rfl,hlo,hg,_⟩
 · cases hb
 · cases hb
   exact ⟨hlo,(Array.getElem?_eq_some_iff.1 hg).1,cur,hg⟩
end
section
open Go.RowKit
theorem Rw.cell {lo:Nat}{w:World}{g n cap:Nat}{ys:List Value}(h:Rw lo w (.slice (some ⟨g,0,none⟩) n cap) n ys) (k:Nat) (u:Value) (hk:ys[k]?=some u):w.cell? ⟨g,k,none⟩=some u:=by
 have h1:=h.cells (g:=g) (by simp [Value.ownBlock]) k u hk;have e:(⟨g,0,none⟩:Addr).add k=⟨g,k,none⟩:=by unfold Addr.add;split <;> simp_all
 rw [e] at h1;exact h1
end
section
open Go.RowKit
theorem Rw.words {lo:Nat}{w:World}{v:Value}{n:Nat}{L:List Nat}(h:Rw lo w v n (L.map U)):∃ ao cap,v=.slice ao n cap∧n≤cap∧n=L.length∧(ao=none→cap=0)∧Rd w.heap.size w ao L:=by
 have hl:n=L.length:=by have:=h.1;simp at this;omega
 rcases h.2 with ⟨rfl,h0⟩|⟨g,cap,cur,rfl,hlo,hg,hn,hm,hs,ht⟩
 · refine ⟨none,0,by rw [h0],by omega,hl,fun _=>rfl,?_⟩;have:L=[]:=List.length_eq_zero_iff.1 (by omega);rw [this];exact Rd.nil _ _ _
 · refine ⟨_,cap,rfl,hn,hl,(fun e=>by cases e),fun _=>⟨g,0,(Array.getElem?_eq_some_iff.1 hg).1,rfl,fun i hi=>?_⟩⟩;have h1:=Rw.cell h i (U (L.getD i 0)) (by simp [hi]);rw [Nat.zero_add];exact h1
theorem val_take_all (xs:List Nat) (k:Nat):val (xs.take (k+1))=val (xs.take k)+pw k*xs.getD k 0:=by
 by_cases h:k<xs.length
 · exact val_take_succ xs k h
 · rw [List.take_of_length_le (by omega),List.take_of_length_le (by omega)];simp [List.getD_eq_getElem?_getD,List.getElem?_eq_none (show xs.length≤k by omega)]
theorem plus_step (p V c a b x y s d:Nat) (h:V+c*p=a+b) (e:s+d*4294967296=x+y+c):(V+p*s)+d*(4294967296*p)=(a+p*x)+(b+p*y):=carry_step p a b V c x y s d h e
theorem minus_step (p V c a b x y s d:Nat) (h:V+b=a+c*p) (e:s+y+c=x+d*4294967296):(V+p*s)+(b+p*y)=(a+p*x)+d*(4294967296*p):=borrow_step p a b V c x y s d h e
theorem at_any (xs:List Nat) (ao:Option Addr) (n cap B i:Nat) (w:World) (hn:n=xs.length) (hm:n≤70368744177664) (hx:Wf xs) (hR:Rd B w ao xs) (hi:i≤70368744177664) :
 Calls Tryz.prog 145 #[.slice ao n cap,.int .i64 (i:Nat)] w fun r w'=>r=.returned (.int .u64 ((xs.getD i 0:Nat):Int))∧w'=w:=by
 by_cases hin:i<n
 · obtain ⟨b,off,hB,rfl,hcell⟩:=hR (by intro e;subst e;simp at hn;omega);have hck:=hcell i (by omega);have hxl:=hx.get i;obtain ⟨t,ht⟩:∃ t,xs.getD i 0=t:=⟨_,rfl⟩;rw [ht] at hck hxl ⊢;clear hcell hR hn hx ht;go_enter Tryz.func145,Tryz.ntmps145;go_wp2;go_ret;exact ⟨rfl,rfl⟩
 · have e:xs.getD i 0=0:=by simp [List.getD_eq_getElem?_getD,List.getElem?_eq_none (show xs.length≤i by omega)]
   rw [e];clear hR hn hx e;go_enter Tryz.func145,Tryz.ntmps145;go_wp2;go_ret;exact ⟨rfl,rfl⟩
theorem plus_end (X Y V c n m N:Nat) (hX:X<pw n) (hY:Y<pw m) (hn:n≤N) (hm:m≤N) (h:V+c*pw (N+1)=X+Y):c=0:=by
 rcases Nat.eq_zero_or_pos c with h0|h0
 · exact h0
 · exfalso;have h1:=pw_mono hn;have h2:=pw_mono hm;have h3:1*pw (N+1)≤c*pw (N+1):=Nat.mul_le_mul_right _ h0;rw [pw_succ] at h3 h;have:=pw_pos N;omega
theorem rPlus_any (xs ys:List Nat) (ao bo:Option Addr) (n cap m capb B:Nat) (w:World) (hn:n=xs.length) (hm:m=ys.length) (hc:n≤cap) (hcb:m≤capb) (hbig:n≤35184372088000) (hbig2:m≤35184372088000)
 (hx:Wf xs) (hy:Wf ys) (hR:Rd B w ao xs) (hS:Rd B w bo ys) (hB:B≤w.heap.size) :
 Calls Tryz.prog 129 #[.slice ao n cap,.slice bo m capb] w fun r w'=>∃ v,r=.returned v∧Nt w.heap.size w' v (val xs+val ys)∧Below w.heap.size w w':=by
 have hX:=val_lt xs hx;have hY:=val_lt ys hy;rw [←hn] at hX;rw [←hm] at hY;obtain ⟨N,hN⟩:∃ N,N=max n m:=⟨_,rfl⟩;have hnN:n≤N:=by omega
 have hmN:m≤N:=by omega
 have hNb:N≤35184372088000:=by omega
 have HR:=(qsd (ai hR (ai hS (ai hn (ai hm (ai hx (ai hy (ai hB (ai hX (ai hY hN))))))))));clear hR hS hn hm hx hy hB hX hY hN;go_enter Tryz.func129,Tryz.ntmps129;go_wp2
 go_loopg [5,6,7] (N+1) (fun gk ov cv iv wr=>∃ (i c:Nat) (L:List Nat),gk+i=N+1∧cv=.int .u64 (c:Nat)∧c≤1∧iv=.int .i64 (i:Nat)∧Hid (Rw w.heap.size wr ov i (L.map U))∧Hid (Below w.heap.size w wr) ∧
  Aside (Wf L∧val L+c*pw i=val (xs.take i)+val (ys.take i)))
 case atStart=>exact ⟨0,0,[],by omega,rfl,by omega,rfl,World.ownsRow_nil _ _ _ _,Below.refl _ _,Wf.nil,by simp [val]⟩
 case round =>
  obtain ⟨i,c,L,hgi,rfl,hc1,rfl,HO,HB,HA⟩:=hrel
  by_cases hgo:i<n∨i<m∨c=1
  · have hiN:i≤N:=by
     rcases hgo with h|h|h
     · omega
     · omega
     · by_cases hi1:i=N+1
       · exfalso;obtain ⟨hR,hS,hn,hm,hx,hy,hB,hX,hY,hN⟩:=HR.out;have h1:=HA.out.2;rw [List.take_of_length_le (by omega),List.take_of_length_le (by omega),hi1] at h1;have:=plus_end _ _ _ _ _ _ _ hX hY hnN hmN h1;omega
       · omega
    obtain ⟨hR,hS,hn,hm,hx,hy,hB,hX,hY,hN⟩:=HR.out;have HA1:=hid (at_any xs ao n cap B i wr hn (by omega) hx (hR.below (HB.out.mono hB)) (by omega));have HA2:=hid (at_any ys bo m capb B i wr hm (by omega) hy (hS.below (HB.out.mono hB)) (by omega));obtain ⟨x,hxx⟩:∃ x,xs.getD i 0=x:=⟨_,rfl⟩;obtain ⟨y,hyy⟩:∃ y,ys.getD i 0=y:=⟨_,rfl⟩;have hxl:x<4294967296:=hxx ▸ hx.get i;have hyl:y<4294967296:=hyy ▸ hy.get i;rw [hxx] at HA1;rw [hyy] at HA2;obtain ⟨s,hs⟩:∃ s:Nat,s=(x+y+c)%4294967296:=⟨_,rfl⟩;obtain ⟨d,hd⟩:∃ d:Nat,d=(x+y+c)/4294967296:=⟨_,rfl⟩;have e1:((x:Int)+y+c)%4294967296=(s:Int):=by omega
    have e2:((x:Int)+y+c)/4294967296=(d:Int):=by omega
    have hsz:=HB.out.size;obtain ⟨v',w',hap,hown,hgrow,_,_⟩:=append_word (wr.alloc (.cells #[.int .u32 (s:Nat)] 81)) w.heap.size u5 i (L.map U) (.int .u32 (s:Nat)) wr.heap.size 68 (HO.out.alloc _) (by unfold World.cell?;simp only [heap_alloc_new];rfl) rfl (by omega) (by simp;omega);have HX:Aside (xs.getD i 0=x∧ys.getD i 0=y∧s+d*4294967296=x+y+c∧s<4294967296∧d≤1):=⟨hxx,hyy,by omega,by omega,by omega⟩;have hbel:Below w.heap.size w w':=(HB.out.alloc hsz _).grown hgrow (by simp;omega) (fun k hk=>(HO.out.lt k hk).1);have HI:=(qsd (ai hown hbel));have HAP:=hid hap;clear hap hown hgrow hbel hs hd hxx hyy hR hS hn hm hx hy hB hX hY hN hsz
    have hways:(decide (i<n)=true)∨(decide (i<n)=false∧decide (i<m)=true)∨(decide (i<n)=false∧decide (i<m)=false∧decide (0<c)=true):=by
     by_cases a:i<n
     · exact .inl (decide_eq_true (by omega))
     · by_cases b:i<m
       · exact .inr (.inl ⟨decide_eq_false (by omega),decide_eq_true (by omega)⟩)
       · exact .inr (.inr ⟨decide_eq_false (by omega),decide_eq_false (by omega),decide_eq_true (by omega)⟩)
    rcases hways with h1|⟨h1,h2⟩|⟨h1,h2,h3⟩
    all_goals (
     go_wp2_with fail;refine HA1.out.mono ?_;rintro r w1 ⟨rfl,rfl⟩;go_wp2_with fail;refine HA2.out.mono ?_;rintro r w1 ⟨rfl,rfl⟩
     go_wp2_with (at_builtin;refine wpList_append_run2 rfl (.tmp 34) (.tmp 37) 68 rfl _ _ rfl rfl _ _ HAP.out ?_)
     go_roundg (gk-1)
     case measure=>omega
     case rel =>
      obtain ⟨a1,a2,a3,a4,a5⟩:=HX.out;obtain ⟨hLw,hLv⟩:=HA.out;refine ⟨i+1,d,L++[s],by omega,by first | rfl | rw [e2],a5,by first | go_num | (congr 1;omega),by rw [List.map_append];exact HI.out.1,HI.out.2,hLw.append (Wf.cons a4 Wf.nil),?_⟩;have hLl:L.length=i:=by have:=HO.out.1;simp at this;omega
      rw [val_append,hLl,val_take_all,val_take_all,a1,a2,pw_succ]
      simpa [val] using plus_step (pw i) _ _ _ _ x y s d hLv a3)
  · have hi:N≤i:=by have:=HR.out.2.2.2.2.2.2.2.2.2;omega
    obtain rfl:c=0:=by omega
    obtain ⟨aoo,capo,hsh,hcap,hl,hnil,hRo⟩:=HO.out.words;subst hsh;obtain ⟨hR,hS,hn,hm,hx,hy,hB,hX,hY,hN⟩:=HR.out;have HNm:=hid (rNorm_any L aoo i capo wr.heap.size wr hl hcap (by omega) HA.out.1 hRo hnil)
    have hLv:val L=val xs+val ys:=by
     have h1:=HA.out.2;rw [List.take_of_length_le (by omega),List.take_of_length_le (by omega)] at h1;omega
    rw [hLv] at HNm;have h1:decide (i<n)=false:=decide_eq_false (by omega);have h2:decide (i<m)=false:=decide_eq_false (by omega);clear hR hS hn hm hx hy hB hX hY hN hl hnil hRo hLv hgo HO;go_wp2_with fail;refine HNm.out.mono ?_;rintro r w1 ⟨v,rfl,hNt,hb⟩;have HZ:=(qsd (ai hNt hb));clear hNt hb;go_wp2;go_ret;have hsz:=HB.out.size;exact ⟨v,rfl,HZ.out.1.mono hsz,HB.out.trans (HZ.out.2.mono hsz)⟩
end
section
open Go.RowKit
theorem bit_words (xs:List Nat) (hx:Wf xs) (k r:Nat) (hk:k<xs.length) (hr:r<32):val xs/2^(32*k+r)%2=xs.getD k 0/2^r%2:=by
 have e:=val_take_drop xs k (by omega)
 have hl:val (xs.take k)<pw k:=by
  have:=val_lt _ (hx.take k);rwa [List.length_take,Nat.min_eq_left (by omega)] at this
 rw [pw_two,←Nat.div_div_eq_div_mul,e,Nat.add_mul_div_left _ _ (pw_pos k),Nat.div_eq_of_lt hl,Nat.zero_add,val_drop_succ xs k hk]
 have e2:4294967296*val (xs.drop (k+1))=2^r*(2*(2^(31-r)*val (xs.drop (k+1)))):=by
  have:(4294967296:Nat)=2^r*(2*2^(31-r)):=by
   rw [←Nat.mul_assoc,Nat.mul_comm (2^r) 2,Nat.mul_assoc,←Nat.pow_add,show r+(31-r)=31 by omega]
  rw [this];grind
 rw [e2,Nat.add_mul_div_left _ _ (Nat.two_pow_pos r),Nat.add_mul_mod_self_left]
theorem bit_beyond (xs:List Nat) (hx:Wf xs) (i:Nat) (h:xs.length≤i/32):val xs/2^i%2=0:=by
 have h1:=val_lt xs hx
 have h2:pw xs.length≤2^i:=by
  have:pw xs.length=2^(32*xs.length):=by rw [←Nat.add_zero (32*xs.length),pw_two];simp
  rw [this];exact Nat.pow_le_pow_right (by decide) (by omega)
 rw [Nat.div_eq_of_lt (by omega)]
theorem and_one (z:Nat) (h:z<4294967296):bits BinOp.and IntKind.u32 (z:Int) 1=((z%2:Nat):Int):=by
 have:=and32 z 1 h (by decide);rw [Nat.and_one_is_mod] at this;exact this
theorem bit_neg (ao:Option Addr) (n cap:Nat) (i:Int) (w:World) (hi:i<0) :
 Calls Tryz.prog 110 #[.slice ao n cap,.int .i64 i] w fun r w'=>r=.returned (.bool false)∧w'=w:=by
 go_enter Tryz.func110,Tryz.ntmps110;go_wp2;go_ret;exact ⟨rfl,rfl⟩
theorem bit_any (xs:List Nat) (ao:Option Addr) (n cap B i:Nat) (w:World) (hn:n=xs.length) (hx:Wf xs) (hR:Rd B w ao xs) (hi:i≤9223372036854775807) :
 Calls Tryz.prog 110 #[.slice ao n cap,.int .i64 (i:Int)] w fun r w'=>r=.returned (.bool (decide (val xs/2^i%2=1)))∧w'=w:=by
 obtain ⟨k,hk⟩:∃ k,k=i/32:=⟨_,rfl⟩;obtain ⟨r,hr⟩:∃ r,r=i%32:=⟨_,rfl⟩;have e1:(i:Int)/32=(k:Int):=by omega
 have e2:(i:Int)%32=(r:Int):=by omega
 by_cases hkn:k<n
 · have hb:=bit_words xs hx k r (by omega) (by omega);rw [show 32*k+r=i by omega] at hb;rw [hb];obtain ⟨b,off,hB,rfl,hcell⟩:=hR (by intro e;subst e;simp at hn;omega);have hck:=hcell k (by omega);obtain ⟨t,ht⟩:∃ t,xs.getD k 0=t:=⟨_,rfl⟩;have htl:t<4294967296:=ht ▸ hx.get k;rw [ht] at hck ⊢;obtain ⟨z,hz⟩:∃ z,z=t/2^r:=⟨_,rfl⟩;have hzt:z≤t:=by rw [hz];exact Nat.div_le_self _ _
   have e3:(t:Int)/2^r=(z:Int):=by rw [hz];simp
   have e4:=and_one z (by omega);have hr32:r<32:=by omega
   rw [←hz];clear hb hn hx hR hcell ht hz hk hr;rcases (by omega:z%2=0∨z%2=1) with hz2|hz2
   · rw [hz2] at e4 ⊢;clear hz2;go_enter Tryz.func110,Tryz.ntmps110;go_wp2;go_ret;exact ⟨rfl,rfl⟩
   · rw [hz2] at e4 ⊢;clear hz2;go_enter Tryz.func110,Tryz.ntmps110;go_wp2;go_ret;exact ⟨rfl,rfl⟩
 · rw [bit_beyond xs hx i (by omega)];clear hn hx hR hk hr;go_enter Tryz.func110,Tryz.ntmps110;go_wp2;go_ret;exact ⟨rfl,rfl⟩
def smallV (X:Nat):Value:=if X<18446744073709551616 then .tuple #[.int .u64 (X:Int),.int .i64 0] else .tuple #[.int .u64 0,.int .i64 2]
theorem nl_two (xs:List Nat) (hx:Wf xs):nl xs≤2↔val xs<18446744073709551616:=by
 rw [nl_eq_length xs hx,ws_len_le];rfl
theorem small_any (xs:List Nat) (ao:Option Addr) (n cap B:Nat) (w:World) (hn:n=xs.length) (hc:n≤cap) (hm:n≤70368744177664) (hx:Wf xs) (hR:Rd B w ao xs) :
 Calls Tryz.prog 109 #[.slice ao n cap] w fun r w'=>r=.returned (smallV (val xs))∧w'=w:=by
 have H:=hid (trim_any xs ao n cap B w hn hc (by omega) hR);have hl:=nl_le xs;have h2:=nl_two xs hx;have hf:=val_form xs hx;obtain ⟨m,hm'⟩:∃ m,nl xs=m:=⟨_,rfl⟩;rw [hm'] at H hl h2 hf;unfold smallV
 by_cases h:2<m
 · rw [if_neg (by omega)];clear h2 hl hn hx hR hm' hf;go_enter Tryz.func109,Tryz.ntmps109;go_wp2_with fail;refine H.out.mono ?_;rintro r w1 ⟨rfl,rfl⟩;go_wp2
   go_ret2
   exact ⟨rfl,rfl⟩
 · rw [if_pos (by omega)];rw [←sg_val_take] at hf;have HR:=(qsd (ai hR (ai hn (ai hx (ai hl hf)))));have hm2:m≤2:=by omega
   clear h2 hl hn hx hR hm' hf h;go_enter Tryz.func109,Tryz.ntmps109;go_wp2_with fail;refine H.out.mono ?_;rintro r w1 ⟨rfl,rfl⟩;go_wp2
   go_loopg [4,14] m (fun gk s i wr=>∃ (k sv:Nat),gk+k=m∧s=.int .u64 (sv:Nat)∧i=.int .i64 (k:Nat)∧wr=w1∧Aside (sv=sg xs 0 k))
   case atStart=>exact ⟨0,0,by omega,rfl,rfl,rfl,(sg_zero _ _).symm⟩
   case round =>
    obtain ⟨k,sv,hgk,rfl,rfl,rfl,HA⟩:=hrel
    by_cases hk:k<m
    · obtain ⟨hR,hn,hx,hl,hf⟩:=HR.out;obtain ⟨b,off,hB,rfl,hcell⟩:=hR (by intro e;subst e;simp at hl;omega);have hck:=hcell k (by omega);obtain ⟨t,ht⟩:∃ t,xs.getD k 0=t:=⟨_,rfl⟩;have htl:t<4294967296:=ht ▸ hx.get k;rw [ht] at hck;have hs1:=sg_lt xs 0 k hx (by omega);have hs2:=sg_succ xs 0 k (by omega);rw [Nat.zero_add,ht,←HA.out] at hs2;rw [←HA.out] at hs1;have HX:=(qsd (ai hs1 hs2));clear hR hn hx hl hf hcell ht hs1 hs2;rcases (by omega:k=0∨k=1) with rfl|rfl
      · have hsv:sv=0:=by have:=HX.out.1;rw [pw_zero] at this;omega
        have e:bits BinOp.or IntKind.u64 (sv:Int) (t:Int)=(t:Int):=by rw [bits_or_u64_nat _ _ (by omega) (by omega),hsv,Nat.zero_or]
        rw [Nat.add_zero] at hck;have HS:=(qsd hsv);clear hsv;go_wp2;go_roundg (gk-1)
        case measure=>omega
        case rel =>
         refine ⟨1,t,by omega,by first | rfl | rw [e],by go_num,rfl,?_⟩;have:=HX.out.2;rw [pw_zero,HS.out] at this;rw [Aside,this];omega
      · have hsv:sv<4294967296:=by have:=HX.out.1;rw [show (1:Nat)=0+1 from rfl,pw_succ,pw_zero] at this;omega
        have e:=or64_join2 t sv htl hsv;go_wp2;go_roundg (gk-1)
        case measure=>omega
        case rel =>
         refine ⟨2,sv+t*4294967296,by omega,by first | rfl | rw [e] | (rw [e];rfl),by go_num,rfl,?_⟩;have:=HX.out.2;rw [show pw 1=4294967296 from rfl] at this;rw [Aside,this];omega
    · obtain rfl:k=m:=by omega
      go_wp2
      go_ret2
      obtain ⟨hR,hn,hx,hl,hf⟩:=HR.out;rw [←hf,←HA.out];exact ⟨rfl,rfl⟩
end
section
open Go.RowKit
theorem val_take_small (ys:List Nat) (hy:Wf ys) (n:Nat) (h:val ys<pw n):val (ys.take n)=val ys:=by
 by_cases hn:n≤ys.length
 · have h1:=val_take_drop ys n hn
   have:val (ys.drop n)=0:=by
    rcases Nat.eq_zero_or_pos (val (ys.drop n)) with h0|h0
    · exact h0
    · have h2:pw n*1≤pw n*val (ys.drop n):=Nat.mul_le_mul_left _ h0;omega
   rw [this] at h1;omega
 · rw [List.take_of_length_le (by omega)]
theorem minus_end (V Y X c p:Nat) (hV:V<p) (hle:Y≤X) (hc:c≤1) (h:V+Y=X+c*p):V=X-Y:=by
 rcases (by omega:c=0∨c=1) with rfl|rfl <;> omega
theorem rMinus_any (xs ys:List Nat) (ao bo:Option Addr) (n cap m capb B:Nat) (w:World) (hn:n=xs.length) (hm:m=ys.length) (hc:n≤cap) (hcb:m≤capb) (hbig:n≤35184372088000) (hbig2:m≤35184372088000)
 (hx:Wf xs) (hy:Wf ys) (hR:Rd B w ao xs) (hS:Rd B w bo ys) (hB:B≤w.heap.size) (hle:val ys≤val xs) :
 Calls Tryz.prog 131 #[.slice ao n cap,.slice bo m capb] w fun r w'=>∃ v,r=.returned v∧Nt w.heap.size w' v (val xs-val ys)∧Below w.heap.size w w':=by
 have hX:=val_lt xs hx;rw [←hn] at hX;have HR:=(qsd (ai hR (ai hS (ai hn (ai hm (ai hx (ai hy (ai hB (ai hX hle)))))))));clear hR hS hn hm hx hy hB hX hle;go_enter Tryz.func131,Tryz.ntmps131;go_wp2
 go_loopg [5,6,7] n (fun gk ov cv iv wr=>∃ (i c:Nat) (L:List Nat),gk+i=n∧cv=.int .u64 (c:Nat)∧c≤1∧iv=.int .i64 (i:Nat)∧Hid (Rw w.heap.size wr ov i (L.map U))∧Hid (Below w.heap.size w wr) ∧
  Aside (Wf L∧val L+val (ys.take i)=val (xs.take i)+c*pw i))
 case atStart=>exact ⟨0,0,[],by omega,rfl,by omega,rfl,World.ownsRow_nil _ _ _ _,Below.refl _ _,Wf.nil,by simp [val]⟩
 case round =>
  obtain ⟨i,c,L,hgi,rfl,hc1,rfl,HO,HB,HA⟩:=hrel
  by_cases hgo:i<n
  · obtain ⟨hR,hS,hn,hm,hx,hy,hB,hX,hle⟩:=HR.out;have HA1:=hid (at_any xs ao n cap B i wr hn (by omega) hx (hR.below (HB.out.mono hB)) (by omega));have HA2:=hid (at_any ys bo m capb B i wr hm (by omega) hy (hS.below (HB.out.mono hB)) (by omega));obtain ⟨x,hxx⟩:∃ x,xs.getD i 0=x:=⟨_,rfl⟩;obtain ⟨y,hyy⟩:∃ y,ys.getD i 0=y:=⟨_,rfl⟩;have hxl:x<4294967296:=hxx ▸ hx.get i;have hyl:y<4294967296:=hyy ▸ hy.get i;rw [hxx] at HA1;rw [hyy] at HA2;obtain ⟨s,hs⟩:∃ s:Nat,s=(x+4294967296-y-c)%4294967296:=⟨_,rfl⟩;obtain ⟨q,hq⟩:∃ q:Nat,q=(x+4294967296-y-c)/4294967296:=⟨_,rfl⟩;obtain ⟨d,hd⟩:∃ d:Nat,d=1-q:=⟨_,rfl⟩;have e1:((x:Int)+4294967296-y-c)%4294967296=(s:Int):=by omega
    have e2:((x:Int)+4294967296-y-c)/4294967296=(q:Int):=by omega
    have e3:(1:Int)-(q:Int)=(d:Int):=by omega
    have hsz:=HB.out.size;obtain ⟨v',w',hap,hown,hgrow,_,_⟩:=append_word (wr.alloc (.cells #[.int .u32 (s:Nat)] 81)) w.heap.size u5 i (L.map U) (.int .u32 (s:Nat)) wr.heap.size 68 (HO.out.alloc _) (by unfold World.cell?;simp only [heap_alloc_new];rfl) rfl (by omega) (by simp;omega);have HX:Aside (xs.getD i 0=x∧ys.getD i 0=y∧s+y+c=x+d*4294967296∧s<4294967296∧d≤1):=⟨hxx,hyy,by omega,by omega,by omega⟩;have hbel:Below w.heap.size w w':=(HB.out.alloc hsz _).grown hgrow (by simp;omega) (fun k hk=>(HO.out.lt k hk).1);have HI:=(qsd (ai hown hbel));have HAP:=hid hap;clear hap hown hgrow hbel hs hd hq hxx hyy hR hS hn hm hx hy hB hX hsz hle;go_wp2_with fail;refine HA1.out.mono ?_;rintro r w1 ⟨rfl,rfl⟩;go_wp2_with fail;refine HA2.out.mono ?_;rintro r w1 ⟨rfl,rfl⟩
    go_wp2_with (at_builtin;refine wpList_append_run2 rfl (.tmp 25) (.tmp 28) 68 rfl _ _ rfl rfl _ _ HAP.out ?_)
    go_roundg (gk-1)
    case measure=>omega
    case rel =>
     obtain ⟨a1,a2,a3,a4,a5⟩:=HX.out;obtain ⟨hLw,hLv⟩:=HA.out;refine ⟨i+1,d,L++[s],by omega,by first | rfl | rw [e3] | rw [e2,e3],a5,by first | go_num | (congr 1;omega),by rw [List.map_append];exact HI.out.1,HI.out.2,hLw.append (Wf.cons a4 Wf.nil),?_⟩;have hLl:L.length=i:=by have:=HO.out.1;simp at this;omega
     rw [val_append,hLl,val_take_all,val_take_all,a1,a2,pw_succ];simpa [val] using minus_step (pw i) _ _ _ _ x y s d hLv a3
  · obtain rfl:i=n:=by omega
    obtain ⟨aoo,capo,hsh,hcap,hl,hnil,hRo⟩:=HO.out.words;subst hsh;obtain ⟨hR,hS,hn,hm,hx,hy,hB,hX,hle⟩:=HR.out;have HNm:=hid (rNorm_any L aoo i capo wr.heap.size wr hl hcap (by omega) HA.out.1 hRo hnil)
    have hLv:val L=val xs-val ys:=by
     have h1:=HA.out.2;rw [List.take_of_length_le (l:=xs) (by omega),val_take_small ys hy i (by omega)] at h1;have h2:=val_lt L HA.out.1;rw [←hl] at h2;exact minus_end _ _ _ _ _ h2 hle hc1 h1
    rw [hLv] at HNm;clear hR hS hn hm hx hy hB hX hl hnil hRo hLv hgo HO hle;go_wp2_with fail;refine HNm.out.mono ?_;rintro r w1 ⟨v,rfl,hNt,hb⟩;have HZ:=(qsd (ai hNt hb));clear hNt hb;go_wp2;go_ret;have hsz:=HB.out.size;exact ⟨v,rfl,HZ.out.1.mono hsz,HB.out.trans (HZ.out.2.mono hsz)⟩
theorem Below.drewN' {B:Nat}{a w:World}(h:Below B a w) (n:Nat):Below B a (w.drewN n):=⟨h.os,h.tape,h.output,h.size,h.block⟩
theorem rCmp_any (xs ys:List Nat) (ao bo:Option Addr) (n cap m capb B:Nat) (w:World) (hn:n=xs.length) (hm:m=ys.length) (hbig:n≤70368744177664) (hbig2:m≤70368744177664)
 (hx:Wf xs) (hy:Wf ys) (hR:Rd B w ao xs) (hS:Rd B w bo ys) :
 Calls Tryz.prog 130 #[.slice ao n cap,.slice bo m capb] w fun r w'=>r=.returned (.int .i64 (cmpI (val xs) (val ys)))∧Below w.heap.size w w':=by
 have H1:=hid (size_any xs ao n cap B w hn (by omega) hR);have H2:=hid (size_any ys bo m capb B w hm (by omega) hS);have hl1:=nl_le xs;have hl2:=nl_le ys;have f1:=val_form xs hx;have f2:=val_form ys hy;rw [←sg_val_take] at f1 f2;rcases Nat.lt_trichotomy (nl xs) (nl ys) with he|he|he
 · rw [cmpI_lt (cmp_len xs ys hx hy he)];obtain ⟨k1,hk1⟩:∃ k,nl xs=k:=⟨_,rfl⟩;obtain ⟨k2,hk2⟩:∃ k,nl ys=k:=⟨_,rfl⟩;rw [hk1] at H1 he;rw [hk2] at H2 he;clear hk1 hk2 hn hm hx hy hR hS f1 f2 hl1 hl2;go_enter Tryz.func130,Tryz.ntmps130;go_wp2_with fail;refine H1.out.mono ?_;rintro r w1 ⟨rfl,rfl⟩;go_wp2_with fail;refine H2.out.mono ?_;rintro r w1 ⟨rfl,rfl⟩;have hne:decide (k1=k2)=false:=decide_eq_false (by omega);have hne2:k1≠k2:=by omega
   go_wp2;go_ret;exact ⟨rfl,Below.refl _ _⟩
 · obtain ⟨k0,hk0⟩:∃ k,nl ys=k:=⟨_,rfl⟩;rw [he] at H1 hl1 f1;rw [hk0] at H1 H2 hl1 hl2 f1 f2;have HR:=(qsd (ai hR (ai hS (ai hn (ai hm (ai hx (ai hy (ai hl1 (ai hl2 (ai f1 f2))))))))));have hkn:k0≤n:=by omega
   have hkm:k0≤m:=by omega
   clear hR hS hn hm hx hy hl1 hl2 f1 f2 he hk0;go_enter Tryz.func130,Tryz.ntmps130;go_wp2_with fail;refine H1.out.mono ?_;rintro r w1 ⟨rfl,rfl⟩;go_wp2_with fail;refine H2.out.mono ?_;rintro r w1 ⟨rfl,rfl⟩;go_wp2
   go_loopg [5] k0 (fun k i wr=>k≤k0∧i=.int .i64 ((k:Int)-1)∧Hid (Below w1.heap.size w1 wr)∧Aside (sg xs k (k0-k)=sg ys k (k0-k)))
   case atStart=>exact ⟨Nat.le_refl _,by first | rfl | go_num,Below.refl _ _,by rw [Nat.sub_self,sg_zero,sg_zero];exact rfl⟩
   case round =>
    obtain ⟨hk,rfl,HB,HA⟩:=hrel
    by_cases hk0:gk=0
    · subst hk0;go_wp2;go_ret;obtain ⟨hR,hS,hn,hm,hx,hy,hl1,hl2,f1,f2⟩:=HR.out;have h:=HA.out;rw [Nat.sub_zero,f1,f2] at h;rw [cmpI_eq h];exact ⟨rfl,HB.out⟩
    · obtain ⟨k,rfl⟩:∃ k,gk=k+1:=⟨gk-1,by omega⟩;obtain ⟨hR,hS,hn,hm,hx,hy,hl1,hl2,f1,f2⟩:=HR.out;obtain ⟨b,off,hB1,rfl,hc1⟩:=hR (by intro e;subst e;simp at hl1;omega);obtain ⟨b2,off2,hB2,rfl,hc2⟩:=hS (by intro e;subst e;simp at hl2;omega)
      have g1:wr.cell? ⟨b,off+k,none⟩=some (.int .u32 ((xs.getD k 0:Nat):Int)) :=
       (HB.out.cell (p:=⟨b,off+k,none⟩) (World.block_lt_of_cell? w1 ⟨b,off+k,none⟩ (hc1 k (by omega)))).trans (hc1 k (by omega))
      have g2:wr.cell? ⟨b2,off2+k,none⟩=some (.int .u32 ((ys.getD k 0:Nat):Int)) :=
       (HB.out.cell (p:=⟨b2,off2+k,none⟩) (World.block_lt_of_cell? w1 ⟨b2,off2+k,none⟩ (hc2 k (by omega)))).trans (hc2 k (by omega))
      obtain ⟨x,hxx⟩:∃ x:Nat,xs.getD k 0=x:=⟨_,rfl⟩;obtain ⟨y,hyy⟩:∃ y:Nat,ys.getD k 0=y:=⟨_,rfl⟩;rw [hxx] at g1;rw [hyy] at g2;have HX:=(qsd (ai hxx hyy));have hki:(k:Int)<(n:Int):=by omega
      have hki0:0≤(k:Int):=by omega
      have hki2:(k:Int)<(m:Int):=by omega
      clear hR hS hn hm hx hy hl1 hl2 f1 f2 hc1 hc2 hxx hyy hk0;rcases Nat.lt_trichotomy x y with hxy|hxy|hxy
      · go_wp2
        go_quiet (fail)
        go_wp2;go_ret;obtain ⟨hR,hS,hn,hm,hx,hy,hl1,hl2,f1,f2⟩:=HR.out;have h:=HA.out;have t1:=cmp_words xs ys hx hy k (k0-(k+1)) (by omega) (by omega) h (by rw [HX.out.1,HX.out.2];exact hxy);rw [show k+1+(k0-(k+1))=k0 by omega,f1,f2] at t1;rw [cmpI_lt t1];exact ⟨rfl,Below.drewN' HB.out _⟩
      · subst hxy;go_wp2
        go_quiet (fail)
        go_wp2
        go_quiet (fail)
        go_wp2;go_roundg k
        case measure=>omega
        case rel =>
         obtain ⟨hR,hS,hn,hm,hx,hy,hl1,hl2,f1,f2⟩:=HR.out;refine ⟨by omega,by first | go_num | (congr 1;omega),hid (Below.drewN' HB.out _),?_⟩;have h:=HA.out;obtain ⟨r,hr⟩:∃ r,k0-k=r+1:=⟨k0-(k+1),by omega⟩;rw [show k0-(k+1)=r by omega] at h;rw [Aside,hr,sg_front xs k r (by omega),sg_front ys k r (by omega),h,HX.out.1,HX.out.2]
      · have hxy2:decide (x<y)=false:=decide_eq_false (by omega);go_wp2
        go_quiet (fail)
        go_wp2
        go_quiet (fail)
        go_wp2;go_ret;obtain ⟨hR,hS,hn,hm,hx,hy,hl1,hl2,f1,f2⟩:=HR.out;have h:=HA.out;have t1:=cmp_words ys xs hy hx k (k0-(k+1)) (by omega) (by omega) h.symm (by rw [HX.out.1,HX.out.2];exact hxy);rw [show k+1+(k0-(k+1))=k0 by omega,f1,f2] at t1;rw [cmpI_gt t1];exact ⟨rfl,Below.drewN' (Below.drewN' HB.out _) _⟩
 · rw [cmpI_gt (cmp_len ys xs hy hx he)];obtain ⟨k1,hk1⟩:∃ k,nl xs=k:=⟨_,rfl⟩;obtain ⟨k2,hk2⟩:∃ k,nl ys=k:=⟨_,rfl⟩;rw [hk1] at H1 he;rw [hk2] at H2 he;clear hk1 hk2 hn hm hx hy hR hS f1 f2 hl1 hl2;go_enter Tryz.func130,Tryz.ntmps130;go_wp2_with fail;refine H1.out.mono ?_;rintro r w1 ⟨rfl,rfl⟩;go_wp2_with fail;refine H2.out.mono ?_;rintro r w1 ⟨rfl,rfl⟩;have hne:decide (k1=k2)=false:=decide_eq_false (by omega);have hlt:decide (k1<k2)=false:=decide_eq_false (by omega);have hne2:k1≠k2:=by omega
   go_wp2;go_ret;exact ⟨rfl,Below.refl _ _⟩
theorem rBit_any (xs:List Nat) (ao:Option Addr) (n cap B i:Nat) (w:World) (hn:n=xs.length) (hx:Wf xs) (hR:Rd B w ao xs) (hi:i≤9223372036854775807) :
 Calls Tryz.prog 152 #[.slice ao n cap,.int .i64 (i:Int)] w fun r w'=>r=.returned (.bool (decide (val xs/2^i%2=1)))∧w'=w:=by
 obtain ⟨k,hk⟩:∃ k,k=i/32:=⟨_,rfl⟩;obtain ⟨r,hr⟩:∃ r,r=i%32:=⟨_,rfl⟩;have e1:(i:Int)/32=(k:Int):=by omega
 have e2:(i:Int)%32=(r:Int):=by omega
 by_cases hkn:k<n
 · have hb:=bit_words xs hx k r (by omega) (by omega);rw [show 32*k+r=i by omega] at hb;rw [hb];obtain ⟨b,off,hB,rfl,hcell⟩:=hR (by intro e;subst e;simp at hn;omega);have hck:=hcell k (by omega);obtain ⟨t,ht⟩:∃ t,xs.getD k 0=t:=⟨_,rfl⟩;have htl:t<4294967296:=ht ▸ hx.get k;rw [ht] at hck ⊢;obtain ⟨z,hz⟩:∃ z,z=t/2^r:=⟨_,rfl⟩;have hzt:z≤t:=by rw [hz];exact Nat.div_le_self _ _
   have e3:(t:Int)/2^r=(z:Int):=by rw [hz];simp
   have e4:=and_one z (by omega);have hr32:r<32:=by omega
   have hnk:decide ((n:Int)≤(k:Int))=false:=decide_eq_false (by omega);have hnk2:decide (n≤k)=false:=decide_eq_false (by omega);rw [←hz];clear hb hn hx hR hcell ht hz hk hr;rcases (by omega:z%2=0∨z%2=1) with hz2|hz2
   · rw [hz2] at e4 ⊢;clear hz2;go_enter Tryz.func152,Tryz.ntmps152;go_wp2;go_ret;exact ⟨rfl,rfl⟩
   · rw [hz2] at e4 ⊢;clear hz2;go_enter Tryz.func152,Tryz.ntmps152;go_wp2;go_ret;exact ⟨rfl,rfl⟩
 · rw [bit_beyond xs hx i (by omega)];have hnk:decide ((n:Int)≤(k:Int))=true:=decide_eq_true (by omega);clear hn hx hR hk hr;go_enter Tryz.func152,Tryz.ntmps152;go_wp2;go_ret;exact ⟨rfl,rfl⟩
end
section
open Go.RowKit
theorem times_round (M M2 xs bs:List Nat) (k n m c y:Nat) (hMl:M.length=n+m) (hk:k<n) (hn:n=xs.length) (hm:m=bs.length) (hMs:sg M 0 (k+m)=sg xs 0 k*val bs) (hy:xs.getD k 0=y)
 (hout:Out M M2 k m) (hsum:sg M2 k m+c*pw m=sg M k m+val bs*y):sg (M2.set (k+m) c) 0 (k+1+m)=sg xs 0 (k+1)*val bs:=by
 have e1:=sg_set_last M2 0 (k+m) c (by rw [hout.1];omega);rw [Nat.zero_add] at e1;have e2:=sg_add M2 0 k m (by rw [hout.1];omega);have e3:=sg_add M 0 k m (by omega);rw [Nat.zero_add] at e2 e3;have e4:=hout.below 0 k (by omega) (by omega);rw [show k+1+m=k+m+1 by omega,e1,e2,e4,sg_succ xs 0 k (by omega),Nat.zero_add,hy,pw_add];rw [e3] at hMs;rw [Nat.mul_comm c] at hsum;have:=mul_step (pw k) _ _ y _ _ c hMs;rw [←hsum] at this;rw [←this,Nat.mul_add,Nat.mul_assoc,Nat.add_assoc]
theorem rTimes_any (xs bs:List Nat) (ao bo:Option Addr) (n cap m capb B:Nat) (w:World) (hn:n=xs.length) (hm:m=bs.length) (hc:n≤cap) (hcb:m≤capb) (hbig:n+m≤35184372088832)
 (hx:Wf xs) (hb:Wf bs) (hR:Rd B w ao xs) (hS:Rd B w bo bs) (hB:B≤w.heap.size) :
 Calls Tryz.prog 93 #[.slice ao n cap,.slice bo m capb] w fun r w'=>∃ v,r=.returned v∧Nt w.heap.size w' v (val xs*val bs)∧Below w.heap.size w w':=by
 obtain ⟨W1,hW1⟩:∃ W,W=w.alloc (.cells (madeCells #[.int .u32 0] (n+m)) 81):=⟨_,rfl⟩;have hO1:Own W1 w.heap.size (List.replicate (n+m) 0):=by rw [hW1];exact Own.made w (n+m)
 have hB1:Below w.heap.size w W1:=by rw [hW1];exact (Below.refl _ _).alloc (Nat.le_refl _) _
 have hmk:=make_words ((n:Int)+m) (n+m) (by omega) (by omega) w;rw [←hW1] at hmk;have hR1:Rd B W1 ao xs:=hR.below (hB1.mono hB);have hS1:Rd B W1 bo bs:=hS.below (hB1.mono hB);obtain ⟨g,hg⟩:∃ g,g=w.heap.size:=⟨_,rfl⟩;rw [←hg] at hO1 hmk hB1 hB;have HR:=(qsd (ai hR1 (ai hS1 (ai hm (ai hb (ai hx (ai hn (ai hB1 hg))))))));have HO:=hid hO1;clear hn hm hx hb hR hS hO1 hB1 hW1 hR1 hS1 hg;go_enter Tryz.func93,Tryz.ntmps93;go_wp2
 go_loopg [6] n (fun gk i wr=>∃ (k:Nat) (M:List Nat),gk+k=n∧i=.int .i64 (k:Nat) ∧
  Hid (Own wr g M)∧Aside (Wf M∧M.length=n+m∧sg M 0 (k+m)=sg xs 0 k*val bs∧But g W1 wr))
 case atStart=>exact ⟨0,_,by omega,rfl,HO,Wf.zeros _,by simp,by rw [sg_zeros,sg_zero];simp,But.refl _ _⟩
 case round =>
  obtain ⟨i,L,hgk,rfl,HM,HA⟩:=hrel
  by_cases hi:i<n
  · obtain ⟨hR,hS,hm,hb,hx,hn,hB1,hg⟩:=HR.out;obtain ⟨a,aoff,haB,rfl,hac⟩:=hR (by intro e;subst e;simp at hn;omega);have hW1s:g≤W1.heap.size:=by have:=hB1.size;omega
    have HAC:Aside (W1.cell? ⟨a,aoff+i,none⟩=some (.int .u32 ((xs.getD i 0:Nat):Int))∧a<B∧a<W1.heap.size):=⟨hac i (by omega),haB,World.block_lt_of_cell? W1 ⟨a,aoff+i,none⟩ (hac i (by omega))⟩;obtain ⟨q,hq⟩:∃ q:Nat,xs.getD i 0=q:=⟨_,rfl⟩;have hql:q<4294967296:=hq ▸ hx.get _;rw [hq] at HAC;have HQ:=qsd hq;clear hq hR hS hm hb hx hn hB1 hg hac;go_wp2
    go_loopg [7,8] m (fun gk c kv w2=>∃ (k cv:Nat) (M:List Nat),gk+k=m∧c=.int .u64 (cv:Nat)∧cv<4294967296∧kv=.int .i64 (k:Nat) ∧
     Hid (Own w2 g M)∧Aside (Wf M∧Out L M i k∧sg M i k+cv*pw k=sg L i k+sg bs 0 k*q∧But g W1 w2))
    case atStart=>exact ⟨0,0,L,by omega,rfl,by omega,rfl,HM,HA.out.1,Out.refl _ _ _,by simp [sg_zero],HA.out.2.2.2⟩
    case round =>
     obtain ⟨k,cv,M,hgk2,rfl,hcv,rfl,HN,HC⟩:=hrel
     by_cases hk:k<m
     · obtain ⟨hR,hS,hm,hb,hx,hn,hB1,hg⟩:=HR.out;obtain ⟨hMw,hMo,hMs,hbut⟩:=HC.out;obtain ⟨hLw,hLl,_,_⟩:=HA.out;obtain ⟨b,boff,hbB,rfl,hbc⟩:=hS (by intro e;subst e;simp at hm;omega)
       have hbk:wr.cell? ⟨b,boff+k,none⟩=some (.int .u32 ((bs.getD k 0:Nat):Int)):=by
        have h1:=hbut.block b (World.block_lt_of_cell? W1 ⟨b,boff+k,none⟩ (hbc k (by omega))) (by omega);exact (World.cell?_of_block (a:=⟨b,boff+k,none⟩) h1).trans (hbc k (by omega))
       have hak:wr.cell? ⟨a,aoff+i,none⟩=some (.int .u32 (q:Nat)):=by
        have h1:=hbut.block a HAC.out.2.2 (by have:=HAC.out.2.1;omega);exact (World.cell?_of_block (a:=⟨a,aoff+i,none⟩) h1).trans HAC.out.1
       have hgc:=HN.out.cell (i+k) (by rw [hMo.1];omega);have hgf:=HN.out.frozen (i+k);obtain ⟨x,hxx⟩:∃ x:Nat,M.getD (i+k) 0=x:=⟨_,rfl⟩;obtain ⟨y,hyy⟩:∃ y:Nat,bs.getD k 0=y:=⟨_,rfl⟩;have hxl:x<4294967296:=hxx ▸ hMw.get _;have hyl:y<4294967296:=hyy ▸ hb.get _;rw [hxx] at hgc;rw [hyy] at hbk;have hp0:=mul_bound q y hql hyl;have hp2:(q:Int)*(y:Int)≤18446744065119617025:=by rw [←Int.natCast_mul];omega
       have hp1:0≤(q:Int)*(y:Int):=by rw [←Int.natCast_mul];omega
       obtain ⟨s,hs⟩:∃ s:Nat,s=(q*y+x+cv)%4294967296:=⟨_,rfl⟩;obtain ⟨d,hd⟩:∃ d:Nat,d=(q*y+x+cv)/4294967296:=⟨_,rfl⟩;have e0:((q*y+x+cv:Nat):Int)=(q:Int)*y+x+cv:=by simp only [Int.natCast_add,Int.natCast_mul]
       have e1:((q:Int)*y+x+cv)%4294967296=(s:Int):=by rw [←e0];omega
       have e2:((q:Int)*y+x+cv)/4294967296=(d:Int):=by rw [←e0];omega
       have HX:Aside (M.getD (i+k) 0=x∧bs.getD k 0=y∧s+d*4294967296=y*q+x+cv∧s<4294967296∧d<4294967296):=⟨hxx,hyy,by rw [Nat.mul_comm y q];omega,by omega,by omega⟩;have hik:i+k<n+m:=by omega
       clear hxx hyy hs hd hR hS hm hb hx hn hB1 hg hMw hMo hMs hbut hbc e0 hp0 hLw hLl;go_wp2
       go_quiet (fail)
       go_wp2;go_roundg (gk-1)
       case measure=>omega
       case rel =>
        obtain ⟨hxx,hyy,he,hs,hd⟩:=HX.out;obtain ⟨hR,hS,hm,hb,hx,hn,hB1,hg⟩:=HR.out;obtain ⟨hMw,hMo,hMs,hbut⟩:=HC.out;obtain ⟨hLw,hLl,_,_⟩:=HA.out;refine ⟨k+1,d,M.set (i+k) s,by omega,by first | rfl | rw [e2],hd,by first | go_num | (congr 1;omega),HN.out.set _ _,hMw.set _ _ hs,(hMo.mono (by omega)).set _ _ (by omega) (by omega),?_,(But.drewN hbut _).set _ _⟩;rw [sg_set_last _ _ _ _ (by rw [hMo.1];omega),sg_succ L i k (by omega),sg_succ bs 0 k (by omega),Nat.zero_add,hyy,pw_succ];have e:L.getD (i+k) 0=x:=by rw [←hxx];exact (hMo.2 _ (by omega)).symm
        rw [e];exact times_step _ _ _ _ _ _ _ _ _ _ hMs he
     · obtain rfl:k=m:=by omega
       obtain ⟨hLw,hLl,hLs,hLb⟩:=HA.out;have hgc:=HN.out.cell (i+k) (by rw [HC.out.2.1.1];omega);have hgf:=HN.out.frozen (i+k);have hik:i+k<n+k:=by omega
       have hcm:(cv:Int)%4294967296=(cv:Int):=by omega
       clear hLw hLl hLs hLb;go_wp2;go_roundg (n-(i+1))
       case measure=>omega
       case rel =>
        obtain ⟨hR,hS,hm,hb,hx,hn,hB1,hg⟩:=HR.out;obtain ⟨hMw,hMo,hMs,hbut⟩:=HC.out;obtain ⟨hLw,hLl,hLs,hLb⟩:=HA.out;refine ⟨i+1,M.set (i+k) cv,by omega,by first | go_num | (congr 1;omega),HN.out.set _ _,hMw.set _ _ hcv,by simp [hMo.1,hLl],?_,hbut.set _ _⟩;have e2:sg bs 0 k=val bs:=by rw [hm];exact sg_all bs
        rw [e2] at hMs;exact times_round L M xs bs i n k cv q hLl hi hn hm hLs HQ.out hMo hMs
  · obtain rfl:i=n:=by omega
    obtain ⟨hMw,hMl,hMs,hbut⟩:=HA.out;have T:=hid (rNorm_any L (some ⟨g,0,none⟩) (i+m) (i+m) (g+1) wr hMl.symm (Nat.le_refl _) (by omega) hMw (by simpa [hMl,List.take_of_length_le] using Rd.ofOwn HM.out 0 (i+m)) (fun e=>by cases e));clear hMw hMl hMs hbut;go_wp2_with fail;refine T.out.mono ?_;rintro r w1 ⟨v,rfl,hNt,hbb⟩;have HZ:=(qsd (ai hNt hbb));clear hNt hbb;go_wp2;go_ret;obtain ⟨hR,hS,hm,hb,hx,hn,hB1,hg⟩:=HR.out;obtain ⟨hMw,hMl,hMs,hbut⟩:=HA.out;have e1:sg L 0 (i+m)=val L:=by rw [←hMl];exact sg_all L
    have e2:sg xs 0 i=val xs:=by rw [hn];exact sg_all xs
    rw [e1,e2] at hMs;have hsz1:=hB1.size;have hsz2:=hbut.size;have hbel:Below g w wr:=But.below hB1 hbut (by omega) (Nat.le_refl _);rw [←hMs,←hg];exact ⟨v,rfl,HZ.out.1.mono (by omega),hbel.trans (HZ.out.2.mono (by omega))⟩
end
section
open Go.RowKit
structure Arg (w:World) (a:Option Addr) (n c:Nat) (xs:List Nat):Prop where
 len:n=xs.length
 cap:n≤c
 big:n≤35184372088832
 wf:Wf xs
 rd:Rd w.heap.size w a xs
 nil:a=none→c=0
theorem Arg.below {w w':World}{a:Option Addr}{n c:Nat}{xs:List Nat}(h:Arg w a n c xs) (hb:Below w.heap.size w w'):Arg w' a n c xs :=
 ⟨h.len,h.cap,h.big,h.wf,(h.rd.below hb).mono hb.size,h.nil⟩
theorem Nt.arg {lo:Nat}{w:World}{v:Value}{X:Nat}(h:Nt lo w v X) (hs:(ws X).length≤35184372088832):∃ a c,v=.slice a (ws X).length c∧Arg w a (ws X).length c (ws X):=by
 have h':=h;obtain ⟨a,c,rfl,h1,h2,h3⟩:=h.shape;refine ⟨a,c,rfl,rfl,h1,hs,wf_ws X,h3,fun e=>?_⟩;rcases h'.2 with ⟨e1,_⟩|⟨g,cap,cur,e1,_⟩
 · simp only [Value.slice.injEq] at e1;exact e1.2.2
 · simp only [Value.slice.injEq] at e1;rw [e1.1] at e;cases e
theorem pw_add_lt {X Y i:Nat}(h1:X<pw i) (h2:Y<pw i):X+Y<pw (i+1):=by rw [pw_succ];omega
theorem one_ok {lo:Nat}{w:World}{r:Ending}{a:Nat×Int}{V:Nat}(h:One lo w r a) (e:a=(V,0)):∃ v,r=.returned (.tuple #[v,.int .i64 0])∧Nt lo w v V:=by
 subst e;exact h
theorem Mul_arg {w:World}{a b:Option Addr}{n c m d:Nat}{xs ys:List Nat}{V:Nat}(h1:Arg w a n c xs) (h2:Arg w b m d ys) (e:mulS (val xs) (val ys)=(V,0)) :
 Calls Tryz.prog 101 #[.slice a n c,.slice b m d] w fun r w'=>∃ v,r=.returned (.tuple #[v,.int .i64 0])∧Nt w.heap.size w' v V∧Below w.heap.size w w' :=
 (Mul_any xs ys a b n c m d w.heap.size w h1.len h2.len h1.cap h2.cap (by have:=h1.big;omega) (by have:=h2.big;omega) h1.wf h2.wf h1.rd h2.rd (Nat.le_refl _)).mono
  fun r w' ⟨ho,hb⟩=>by obtain ⟨v,h3,h4⟩:=one_ok ho e;exact ⟨v,h3,h4,hb⟩
theorem Add_arg {w:World}{a b:Option Addr}{n c m d:Nat}{xs ys:List Nat}{V:Nat}(h1:Arg w a n c xs) (h2:Arg w b m d ys) (e:addS (val xs) (val ys)=(V,0)) :
 Calls Tryz.prog 116 #[.slice a n c,.slice b m d] w fun r w'=>∃ v,r=.returned (.tuple #[v,.int .i64 0])∧Nt w.heap.size w' v V∧Below w.heap.size w w' :=
 (Add_any xs ys a b n c m d w.heap.size w h1.len h2.len h1.cap h2.cap (by have:=h1.big;omega) (by have:=h2.big;omega) h1.wf h2.wf h1.rd h2.rd (Nat.le_refl _)).mono
  fun r w' ⟨ho,hb⟩=>by obtain ⟨v,h3,h4⟩:=one_ok ho e;exact ⟨v,h3,h4,hb⟩
theorem Sub_arg {w:World}{a b:Option Addr}{n c m d:Nat}{xs ys:List Nat}{V:Nat}(h1:Arg w a n c xs) (h2:Arg w b m d ys) (e:subS (val xs) (val ys)=(V,0)) :
 Calls Tryz.prog 118 #[.slice a n c,.slice b m d] w fun r w'=>∃ v,r=.returned (.tuple #[v,.int .i64 0])∧Nt w.heap.size w' v V∧Below w.heap.size w w' :=
 (Sub_any xs ys a b n c m d w.heap.size w h1.len h2.len h1.cap h2.cap (by have:=h1.big;omega) (by have:=h2.big;omega) h1.wf h2.wf h1.rd h2.rd (Nat.le_refl _)).mono
  fun r w' ⟨ho,hb⟩=>by obtain ⟨v,h3,h4⟩:=one_ok ho e;exact ⟨v,h3,h4,hb⟩
theorem Shift_arg {w:World}{a:Option Addr}{n c:Nat}{xs:List Nat}{V:Nat}(by':Int) (h1:Arg w a n c xs) (e:shiftS (val xs) by'=(V,0)) (hb0:-9223372036854775808≤by') (hb1:by'≤9223372036854775807) :
 Calls Tryz.prog 83 #[.slice a n c,.int .i64 by'] w fun r w'=>∃ v,r=.returned (.tuple #[v,.int .i64 0])∧Nt w.heap.size w' v V∧Below w.heap.size w w' :=
 (Shift_any xs a n c w.heap.size by' w h1.len h1.cap (by have:=h1.big;omega) h1.wf h1.rd (Nat.le_refl _) hb0 hb1).mono
  fun r w' ⟨ho,hb⟩=>by obtain ⟨v,h3,h4⟩:=one_ok ho e;exact ⟨v,h3,h4,hb⟩
theorem Cmp_arg {w:World}{a b:Option Addr}{n c m d:Nat}{xs ys:List Nat}(h1:Arg w a n c xs) (h2:Arg w b m d ys) (z:Int) (e:cmpI (val xs) (val ys)=z) :
 Calls Tryz.prog 117 #[.slice a n c,.slice b m d] w fun r w'=>r=.returned (.int .i64 z)∧Below w.heap.size w w':=by
 have:=cmp_any xs ys a b n c m d w.heap.size w h1.len h2.len h1.cap h2.cap (by have:=h1.big;omega) (by have:=h2.big;omega) h1.wf h2.wf h1.rd h2.rd;rw [e] at this;exact this
theorem addS_ok {X Y V:Nat}(h3:¬ LG V) (e:X+Y=V):addS X Y=(V,0):=by subst e;unfold addS;rw [if_neg h3]
theorem subS_ok {X Y V:Nat}(h1:¬ LG X) (h2:¬ LG Y) (e:V+Y=X):subS X Y=(V,0):=by unfold subS;rw [if_neg (by simp [h1,h2]),if_neg (by omega)];congr 1;omega
end
section
open Go.RowKit
theorem rTimes_arg {w:World}{a b:Option Addr}{n c m d:Nat}{xs ys:List Nat}{V:Nat}(h1:Arg w a n c xs) (h2:Arg w b m d ys) (hs:n+m≤35184372088832) (e:val xs*val ys=V) :
 Calls Tryz.prog 93 #[.slice a n c,.slice b m d] w fun r w'=>∃ v,r=.returned v∧Nt w.heap.size w' v V∧Below w.heap.size w w':=by
 subst e;exact rTimes_any xs ys a b n c m d w.heap.size w h1.len h2.len h1.cap h2.cap hs h1.wf h2.wf h1.rd h2.rd (Nat.le_refl _)
theorem rPlus_arg {w:World}{a b:Option Addr}{n c m d:Nat}{xs ys:List Nat}{V:Nat}(h1:Arg w a n c xs) (h2:Arg w b m d ys) (hs1:n≤35184372088000) (hs2:m≤35184372088000) (e:val xs+val ys=V) :
 Calls Tryz.prog 129 #[.slice a n c,.slice b m d] w fun r w'=>∃ v,r=.returned v∧Nt w.heap.size w' v V∧Below w.heap.size w w':=by
 subst e;exact rPlus_any xs ys a b n c m d w.heap.size w h1.len h2.len h1.cap h2.cap hs1 hs2 h1.wf h2.wf h1.rd h2.rd (Nat.le_refl _)
theorem rMinus_arg {w:World}{a b:Option Addr}{n c m d:Nat}{xs ys:List Nat}{V:Nat}(h1:Arg w a n c xs) (h2:Arg w b m d ys) (hs1:n≤35184372088000) (hs2:m≤35184372088000) (e:V+val ys=val xs) :
 Calls Tryz.prog 131 #[.slice a n c,.slice b m d] w fun r w'=>∃ v,r=.returned v∧Nt w.heap.size w' v V∧Below w.heap.size w w':=by
 have h:=rMinus_any xs ys a b n c m d w.heap.size w h1.len h2.len h1.cap h2.cap hs1 hs2 h1.wf h2.wf h1.rd h2.rd (Nat.le_refl _) (by omega);rw [show val xs-val ys=V by omega] at h;exact h
theorem rCmp_arg {w:World}{a b:Option Addr}{n c m d:Nat}{xs ys:List Nat}(h1:Arg w a n c xs) (h2:Arg w b m d ys) (z:Int) (e:cmpI (val xs) (val ys)=z) :
 Calls Tryz.prog 130 #[.slice a n c,.slice b m d] w fun r w'=>r=.returned (.int .i64 z)∧Below w.heap.size w w':=by
 have:=rCmp_any xs ys a b n c m d w.heap.size w h1.len h2.len (by have:=h1.big;omega) (by have:=h2.big;omega) h1.wf h2.wf h1.rd h2.rd;rw [e] at this;exact this
theorem lit_arg (w:World) (d:Nat) (hd:d<4294967296):Arg (w.alloc (.cells #[.int .u32 (d:Int)] 81)) (some ⟨w.heap.size,0,none⟩) 1 1 [d]:=by
 refine ⟨rfl,Nat.le_refl _,by omega,Wf.cons hd Wf.nil,fun _=>⟨w.heap.size,0,by simp,rfl,fun i hi=>?_⟩,fun e=>by cases e⟩;obtain rfl:i=0:=by simpa using hi
 unfold World.cell?;simp only [heap_alloc_new];rfl
theorem below_alloc (w:World) (o:Obj):Below w.heap.size w (w.alloc o):=(Below.refl _ _).alloc (Nat.le_refl _) _
theorem bl_pw (N n:Nat) (h:N<pw n):bl N≤32*n:=by
 by_cases h0:N=0
 · rw [h0,bl_zero];omega
 · have h1:=bl_ge N h0;rcases Nat.lt_or_ge (32*n) (bl N) with h2|h2
   · exfalso;have h3:2^(32*n)≤2^(bl N-1):=Nat.pow_le_pow_right (by omega) (by omega);have h4:pw n=2^(32*n):=by unfold pw;rw [Nat.pow_mul]
     omega
   · exact h2
end
section
open Go.RowKit
theorem Nt.but {lo g:Nat}{w w':World}{v:Value}{X:Nat}(h:Nt lo w v X) (hb:But g w w') (hg:g<lo):Nt lo w' v X:=by
 have h1:Rw lo w v (ws X).length ((ws X).map U):=h
 exact row_other h1 fun b hb2=>by
  obtain ⟨h2,h3⟩:=h.lt b hb2;exact hb.block b h3 (by omega)
end
section
open Go.RowKit
theorem rNorm_arg {w:World}{a:Option Addr}{n c:Nat}{xs:List Nat}{V:Nat}(h1:Arg w a n c xs) (e:val xs=V) :
 Calls Tryz.prog 127 #[.slice a n c] w fun r w'=>∃ v,r=.returned v∧Nt w.heap.size w' v V∧Below w.heap.size w w':=by
 subst e;exact rNorm_any xs a n c w.heap.size w h1.len h1.cap h1.big h1.wf h1.rd h1.nil
theorem cmpI_ge {x y:Nat}(h:y≤x):0≤cmpI x y:=by unfold cmpI;split <;> (try split) <;> omega
theorem cmpI_le {x y:Nat}(h:x≤y):cmpI x y≤0:=by unfold cmpI;split <;> (try split) <;> omega
theorem digit_end (X Y f t:Nat) (h1:Y*f≤X) (h2:X<Y*t) (h3:f<t) (h4:t-f≤1):X/Y=f:=by
 obtain rfl:t=f+1:=by omega
 exact Nat.div_eq_of_lt_le (by rw [Nat.mul_comm];exact h1) (by rw [Nat.mul_comm];exact h2)
theorem digit_any {w:World}{a b:Option Addr}{n c m d:Nat}{xs ys:List Nat}(h1:Arg w a n c xs) (h2:Arg w b m d ys) (hm:m≤35184372088000) (hlt:val xs<val ys*4294967296) :
 Calls Tryz.prog 153 #[.slice a n c,.slice b m d] w fun r w'=>∃ v,r=.returned (.tuple #[.int .u32 ((val xs/val ys:Nat):Int),v])∧Nt w.heap.size w' v (val ys*(val xs/val ys))∧Below w.heap.size w w':=by
 have hlo:=Nat.le_refl w.heap.size;obtain ⟨X,hX⟩:∃ X,val xs=X:=⟨_,rfl⟩;obtain ⟨Y,hY⟩:∃ Y,val ys=Y:=⟨_,rfl⟩;have hYp:=val_lt ys h2.wf;rw [←h2.len,hY] at hYp;rw [hX,hY] at hlt ⊢;have HX:=(qsd (ai h1 (ai h2 (ai hX (ai hY (ai hlt hYp))))));clear h1 h2 hX hY hlt hYp;go_enter Tryz.func153,Tryz.ntmps153;go_wp2
 go_loopg [6,7,8] 4294967296 (fun gk fv tv bv wr=>∃ (f t:Nat),gk+f=t∧fv=.int .u64 (f:Nat)∧tv=.int .u64 (t:Nat)∧f<t∧t≤4294967296∧Aside (Y*f≤X∧X<Y*t∧Below w.heap.size w wr∧Nt w.heap.size wr bv (Y*f)))
 case atStart=>exact ⟨0,4294967296,by omega,rfl,rfl,by omega,by omega,by omega,HX.out.2.2.2.2.1,Below.refl _ _,by rw [Nat.mul_zero];exact Nt.nil _ _⟩
 case round =>
  obtain ⟨f,t,hgt,rfl,rfl,hft,ht,HA⟩:=hrel
  by_cases hend:t-f≤1
  · obtain ⟨p1,p2,p3,p4⟩:=HA.out;have HQ:=qsd (digit_end X Y f t p1 p2 hft hend);obtain rfl:t=f+1:=by omega
    clear p1 p2 p3 p4;have hff:f<4294967296:=by omega
    go_wp2
    go_ret2
    rw [HQ.out];exact ⟨_,by first | rfl | (congr 1),HA.out.2.2.2,HA.out.2.2.1⟩
  · obtain ⟨mid,hmid⟩:∃ mid,mid=(f+t)/2:=⟨_,rfl⟩;have em:((f:Int)+(t:Int))/2=(mid:Int):=by omega
    have hm1:f<mid:=by omega
    have hm2:mid<t:=by omega
    have hm3:mid<4294967296:=by omega
    have em2:(mid:Int)%4294967296=(mid:Int):=by omega
    have hgo:(1:Int)<(t:Int)-(f:Int):=by omega
    obtain ⟨h1,h2,hX,hY,hlt,hYp⟩:=HX.out;obtain ⟨p1,p2,p3,p4⟩:=HA.out;have hsz:=p3.size;have T1:=hid (rTimes_arg (V:=Y*mid) ((h2.below p3).below (below_alloc wr _)) (lit_arg wr mid hm3) (by omega) (by rw [hY];simp [val]));have hYm:Y*mid<pw (m+1):=by rw [pw_succ,Nat.mul_comm 4294967296];exact Nat.mul_lt_mul'' hYp hm3
    have hwl:(ws (Y*mid)).length≤m+1:=(ws_len_le _ _).2 hYm;clear h1 h2 hX hY hlt hYp p1 p2 p3 p4 hYm hmid;go_wp2_with fail;refine T1.out.mono ?_;rintro r u1 ⟨v,rfl,hN,hb⟩;obtain ⟨a1,c1,rfl,A1⟩:=hN.arg (by omega);obtain ⟨h1,h2,hX,hY,hlt,hYp⟩:=HX.out;obtain ⟨p1,p2,p3,p4⟩:=HA.out;have hb2:Below wr.heap.size wr u1:=(below_alloc wr _).trans (hb.mono (by simp));have q3:Below w.heap.size w u1:=p3.trans (hb2.mono hsz);have q4:=p4.below hb2;have q5:=hN.mono (lo':=w.heap.size) (by simp;omega);have hs1:=hb2.size
    by_cases hle:Y*mid≤X
    · obtain ⟨z,hz⟩:∃ z,cmpI (Y*mid) X=z:=⟨_,rfl⟩;have hz0:z≤0:=hz ▸ cmpI_le hle;have C1:=hid (rCmp_arg A1 (h1.below q3) z (by rw [val_ws,hX];exact hz));have S1:=(qsd (ai p2 (ai q3 (ai q5 hle))));clear h1 h2 hX hY hlt hYp p1 p2 p3 p4 q3 q4 q5 hN hb hb2 A1 hz hle T1 HA;go_wp2_with fail;refine C1.out.mono ?_;rintro r u2 ⟨rfl,hb⟩;have S2:=(qsd (ai (S1.out.2.1.trans (hb.mono (by omega))) (S1.out.2.2.1.below hb)));clear hb C1;go_wp2;go_roundg (t-mid)
      case measure=>omega
      case rel=>exact ⟨mid,t,by omega,rfl,rfl,hm2,ht,S1.out.2.2.2,S1.out.1,S2.out.1,S2.out.2⟩
    · have hz:cmpI (Y*mid) X=1:=cmpI_gt (by omega);have C1:=hid (rCmp_arg A1 (h1.below q3) 1 (by rw [val_ws,hX];exact hz));have S1:=(qsd (ai p1 (ai q3 (ai q4 hle))));clear h1 h2 hX hY hlt hYp p1 p2 p3 p4 q3 q4 q5 hN hb hb2 A1 hz hle T1 HA;go_wp2_with fail;refine C1.out.mono ?_;rintro r u2 ⟨rfl,hb⟩;have S2:=(qsd (ai (S1.out.2.1.trans (hb.mono (by omega))) (S1.out.2.2.1.below hb)));clear hb C1;go_wp2;go_roundg (mid-f)
      case measure=>omega
      case rel=>exact ⟨f,mid,by omega,rfl,rfl,hm1,by omega,S1.out.1,by have:=S1.out.2.2.2;omega,S2.out.1,S2.out.2⟩
end
section
open Go.RowKit
theorem parts_step (P x Y B:Nat) (hY:0<Y):(x+B*P)/Y=(x+B*(P%Y))/Y+B*(P/Y)∧(x+B*P)%Y=(x+B*(P%Y))%Y:=by
 have h:=Nat.div_add_mod P Y
 have e:x+B*P=(x+B*(P%Y))+Y*(B*(P/Y)):=by
  conv=>lhs;rw [←h]
  rw [Nat.mul_add,←Nat.mul_assoc,Nat.mul_comm B Y,Nat.mul_assoc];omega
 rw [e];exact ⟨Nat.add_mul_div_left _ _ hY,Nat.add_mul_mod_self_left _ _ _⟩
theorem parts_digit (P x Y B:Nat) (hY:0<Y) (hx:x<B):x+B*(P%Y)<Y*B:=by
 have h:=Nat.mod_lt P hY;have h1:B*(P%Y+1)≤B*Y:=Nat.mul_le_mul_left _ h;rw [Nat.mul_add] at h1;rw [Nat.mul_comm Y];omega
theorem val_drop_set (M:List Nat) (k d:Nat) (hk:k<M.length):val ((M.set k d).drop k)=d+4294967296*val (M.drop (k+1)):=by
 rw [val_drop_succ _ k (by simpa using hk),getD_set_same _ _ _ hk];rw [List.drop_set_of_lt (by omega)]
theorem own_row {w:World}{g:Nat}{x:Nat}(h:Own w g [x]):w.ownsRow g 81 1 (.slice (some ⟨g,0,none⟩) 1 1) 1 ([x].map U) :=
 ⟨by simp,.inr ⟨g,1,_,rfl,Nat.le_refl _,h,Nat.le_refl _,by unfold maxLen;omega,by simp,by simp⟩⟩
theorem lit_own1 (w:World) (x:Nat):Own (w.alloc (.cells #[.int .u32 (x:Int)] 81)) w.heap.size [x]:=by
 unfold Own;rw [heap_alloc_new];rfl
set_option maxRecDepth 100000 in
theorem parts_any {w:World}{a b:Option Addr}{n c m d:Nat}{xs ys:List Nat}(h1:Arg w a n c xs) (h2:Arg w b m d ys) (hn:n≤35184372088000) (hm:m+1≤35184372088000) (hY:0<val ys) :
 Calls Tryz.prog 144 #[.slice a n c,.slice b m d] w fun r w'=>∃ v u,r=.returned (.tuple #[v,u])∧Nt w.heap.size w' v (val xs/val ys)∧Nt w.heap.size w' u (val xs%val ys)∧Below w.heap.size w w':=by
 obtain ⟨W1,hW1⟩:∃ W,W=w.alloc (.cells (madeCells #[.int .u32 0] n) 81):=⟨_,rfl⟩;have hO1:Own W1 w.heap.size (List.replicate n 0):=by rw [hW1];exact Own.made w n
 have hB1:Below w.heap.size w W1:=by rw [hW1];exact (Below.refl _ _).alloc (Nat.le_refl _) _
 have hmk:=make_words (n:Int) n rfl (by omega) w;rw [←hW1] at hmk;obtain ⟨g,hg⟩:∃ g,g=w.heap.size:=⟨_,rfl⟩;rw [←hg] at hO1 hmk hB1;obtain ⟨Y,hYe⟩:∃ Y,val ys=Y:=⟨_,rfl⟩;have hYp:=val_lt ys h2.wf;rw [←h2.len,hYe] at hYp;rw [hYe] at hY ⊢;have hlen:=h1.len;have HX:=(qsd (ai h1 (ai h2 (ai hYe (ai hYp (ai hB1 (ai hg hlen)))))));have HO:=hid hO1;clear h1 h2 hYe hYp hB1 hO1 hW1 hg hlen;go_enter Tryz.func144,Tryz.ntmps144;go_wp2
 go_loopg [7,8] n (fun k rv iv wr=>∃ (M:List Nat),k≤n∧iv=.int .i64 ((k:Int)-1)∧Hid (Own wr g M) ∧
  Aside (Wf M∧M.length=n∧(∀ j,j<k→M.getD j 0=0)∧val (M.drop k)=val (xs.drop k)/Y∧Below g w wr∧Nt (g+1) wr rv (val (xs.drop k)%Y)))
 case atStart =>
  obtain ⟨h1,h2,hYe,hYp,hB1,hg,hlen⟩:=HX.out;refine ⟨List.replicate n 0,Nat.le_refl _,by first | rfl | go_num,HO,Wf.zeros _,by simp,fun j _=>getD_zeros _ _,?_,hB1,?_⟩
  · rw [List.drop_of_length_le (by simp),List.drop_of_length_le (by omega)];simp [val]
  · rw [List.drop_of_length_le (by omega)];simp only [val,Nat.zero_mod];exact Nt.nil _ _
 case round =>
  obtain ⟨M,hk,rfl,HM,HA⟩:=hrel
  by_cases hk0:gk=0
  · subst hk0;obtain ⟨hMw,hMl,hMz,hMv,hbel,hNr⟩:=HA.out;rw [List.drop_zero,List.drop_zero] at hMv;rw [List.drop_zero] at hNr;have T:=hid (rNorm_any M (some ⟨g,0,none⟩) n n (g+1) wr hMl.symm (Nat.le_refl _) (by omega) hMw (by simpa [hMl,List.take_of_length_le] using Rd.ofOwn HM.out 0 n) (fun e=>by cases e));rw [hMv] at T;have S:=(qsd (ai hbel hNr));have hgl:=HM.out.lt;clear hMw hMl hMz hMv hbel hNr;go_wp2_with fail;refine T.out.mono ?_;rintro r u1 ⟨v,rfl,hN,hb⟩;have S2:=(qsd (ai hN hb));clear hN hb;go_wp2
    go_ret2
    obtain ⟨hN,hb⟩:=S2.out;obtain ⟨hbel,hNr⟩:=S.out;obtain ⟨h1,h2,hYe,hYp,hB1,hg,hlen⟩:=HX.out;rw [←hg];exact ⟨v,_,rfl,hN.mono (by omega),(hNr.below hb).mono (by omega),hbel.trans (hb.mono (by omega))⟩
  · obtain ⟨k,rfl⟩:∃ k,gk=k+1:=⟨gk-1,by omega⟩;obtain ⟨h1,h2,hYe,hYp,hB1,hg,hlen⟩:=HX.out;obtain ⟨hMw,hMl,hMz,hMv,hbel,hNr⟩:=HA.out;have hgl:=HM.out.lt;obtain ⟨ba,off,hBa,rfl,hcell⟩:=h1.rd (by intro e;subst e;simp at hlen;omega);have hxc:wr.cell? ⟨ba,off+k,none⟩=some (.int .u32 ((xs.getD k 0:Nat):Int)):=(hbel.cell (p:=⟨ba,off+k,none⟩) (by simp;omega)).trans (hcell k (by omega));obtain ⟨x,hx⟩:∃ x,xs.getD k 0=x:=⟨_,rfl⟩;have hxl:x<4294967296:=hx ▸ h1.wf.get k;rw [hx] at hxc;obtain ⟨P,hP⟩:∃ P,val (xs.drop (k+1))=P:=⟨_,rfl⟩;have hds:=val_drop_succ xs k (by omega);rw [hx,hP] at hds;rw [hP] at hMv hNr;obtain ⟨st1,st2⟩:=parts_step P x Y 4294967296 hY;rw [←hds] at st1 st2;have hdl:=parts_digit P x Y 4294967296 hY hxl;obtain ⟨R,hR⟩:∃ R,P%Y=R:=⟨_,rfl⟩;have hRY:R<Y:=hR ▸ Nat.mod_lt _ hY;rw [hR] at st1 st2 hdl hNr;obtain ⟨Z,hZ⟩:∃ Z,x+4294967296*R=Z:=⟨_,rfl⟩;rw [hZ] at st1 st2 hdl;have hwR:(ws R).length≤m:=(ws_len_le R m).2 (by omega);have hZp:Z<pw (m+1):=by rw [pw_succ];rw [Nat.mul_comm Y] at hdl;omega
    have hwZ:(ws Z).length≤m+1:=(ws_len_le Z (m+1)).2 hZp;obtain ⟨ar,cr,rfl,AR⟩:=hNr.arg (by omega);have hLO:=lit_own1 wr x;obtain ⟨v',w2,hap,hown,hgrow⟩:=append_words (wr.alloc (.cells #[.int .u32 (x:Int)] 81)) wr.heap.size (.slice (some ⟨wr.heap.size,0,none⟩) 1 1) 1 [x] (ws R) ar (ws R).length cr wr.heap.size 68 (own_row hLO) rfl (AR.rd.below (below_alloc wr _)) AR.nil (by omega) (by simp);have hb2:Below wr.heap.size wr w2:=(below_alloc wr _).grown hgrow (by simp) (fun k hk=>by simp [Value.ownBlock] at hk;omega);obtain ⟨a2,c2,rfl,hc2,hl2,hnil2,hRd2⟩:=Rw.words hown;have hval:val ([x]++ws R)=Z:=by rw [←hZ];simp [val,val_ws]
    have N1:=hid (rNorm_any ([x]++ws R) a2 (1+(ws R).length) c2 w2.heap.size w2 hl2 hc2 (by omega) (Wf.append (Wf.cons hxl Wf.nil) (wf_ws R)) hRd2 hnil2);rw [hval] at N1;have HAP:=hid hap;have hs2:=hb2.size;have S1:=(qsd (ai hMw (ai hMl (ai hMz (ai hMv (ai (hbel.trans (hb2.mono (by omega))) (ai (HM.out.below hb2 hgl) (ai st1 (ai st2 (ai hdl hx))))))))));clear h1 h2 hYe hYp hB1 hg hlen hMw hMl hMz hMv hbel hNr hcell hx hP hds st1 st2 hdl hR hRY hZ hZp AR hLO hap hown hgrow hb2 hl2 hnil2 hRd2 hval HM HA
    go_wp2_with (at_builtin;refine wpList_append_run2 rfl (.tmp 27) (.tmp 28) 68 rfl _ _ rfl rfl _ _ HAP.out ?_)
    refine N1.out.mono ?_;rintro r u3 ⟨v3,rfl,hN3,hb3⟩;obtain ⟨a3,c3,rfl,A3⟩:=hN3.arg (by omega);obtain ⟨hMw,hMl,hMz,hMv,hbel,hOw,st1,st2,hdl,hx⟩:=S1.out;obtain ⟨h1,h2,hYe,hYp,hB1,hg,hlen⟩:=HX.out;have hs3:=hb3.size;have hbel3:Below g w u3:=hbel.trans (hb3.mono (by omega));have hO3:=hOw.below hb3 (by omega);have hbw3:Below w.heap.size w u3:=hg ▸ hbel3
    by_cases hge:Y≤Z
    · obtain ⟨z,hz⟩:∃ z,cmpI Z Y=z:=⟨_,rfl⟩;have hz0:0≤z:=hz ▸ cmpI_ge hge;have C1:=hid (rCmp_arg A3 (h2.below hbw3) z (by rw [val_ws,hYe];exact hz));have S2:=(qsd (ai hMw (ai hMl (ai hMz (ai hMv (ai hbel3 (ai hO3 (ai st1 (ai st2 (ai hdl hN3))))))))));clear hMw hMl hMz hMv hbel hOw st1 st2 hdl hx h1 h2 hYe hYp hB1 hg hlen hbel3 hO3 hbw3 hb3 hN3 A3 hz S1 N1;go_wp2_with fail;refine C1.out.mono ?_;rintro r u4 ⟨rfl,hb4⟩;obtain ⟨hMw,hMl,hMz,hMv,hbel,hOw,st1,st2,hdl,hN3⟩:=S2.out;obtain ⟨h1,h2,hYe,hYp,hB1,hg,hlen⟩:=HX.out;have hs4:=hb4.size;have hbel4:Below g w u4:=hbel.trans (hb4.mono (by omega));have hO4:=hOw.below hb4 (by omega);have hbw4:Below w.heap.size w u4:=hg ▸ hbel4;have hN4:=hN3.below hb4;obtain ⟨_,_,e4,A4⟩:=hN4.arg (by omega)
      cases e4
      have D0:=digit_any A4 (h2.below hbw4) (by omega) (by rw [val_ws,hYe];exact hdl);rw [val_ws,hYe] at D0;have hDl:Z/Y<4294967296:=Nat.div_lt_of_lt_mul hdl;have hmd:=Nat.mod_add_div Z Y;have hYD:Y*(Z/Y)≤Z:=by omega
      have hwD:(ws (Y*(Z/Y))).length≤m+1:=by
       have h5:=(ws_len_le Z (m+1)).1 hwZ;exact (ws_len_le _ (m+1)).2 (by omega)
      obtain ⟨D,hD⟩:∃ D,Z/Y=D:=⟨_,rfl⟩;rw [hD] at D0 hDl hmd hYD hwD st1;have D1:=hid D0;have S3:=(qsd (ai hMw (ai hMl (ai hMz (ai hMv (ai hbel4 (ai hO4 (ai st1 (ai st2 (ai hN4 hmd))))))))));clear hMw hMl hMz hMv hbel hOw st1 st2 hdl h1 h2 hYe hYp hB1 hg hlen hbel4 hO4 hbw4 hb4 hN3 hN4 A4 hmd hYD hD D0 S2 C1;go_wp2_with fail;refine D1.out.mono ?_;rintro r u5 ⟨v5,rfl,hN5,hb5⟩;obtain ⟨hMw,hMl,hMz,hMv,hbel,hOw,st1,st2,hN4,hmd⟩:=S3.out;have hs5:=hb5.size;have hbel5:Below g w u5:=hbel.trans (hb5.mono (by omega));have hO5:=hOw.below hb5 (by omega);have hgc:=hO5.cell k (by omega);have hgf:=hO5.frozen k;have hbt:But g u5 (u5.setCell ⟨g,k,none⟩ (.int .u32 (D:Nat))):=(But.refl g u5).set k _;have hN6:=(hN4.below hb5).but hbt (by omega);have hN7:=hN5.but hbt (by omega);obtain ⟨_,_,e6,A6⟩:=hN6.arg (by omega)
      cases e6
      obtain ⟨a7,c7,rfl,A7⟩:=hN7.arg (by omega);have M1:=hid (rMinus_arg (V:=Z%Y) A6 A7 (by omega) (by omega) (by rw [val_ws,val_ws];exact hmd));have S4:=(qsd (ai hMw (ai hMl (ai hMz (ai hMv (ai hbel5 (ai hO5 (ai st1 (ai st2 hbt)))))))));clear hMw hMl hMz hMv hbel hOw st1 st2 hN4 hmd hbel5 hO5 hbt hN6 hN7 A6 A7 hN5 hb5 S3 D1;go_wp2_with fail;refine M1.out.mono ?_;rintro r u8 ⟨v8,rfl,hN8,hb8⟩;have S5:=(qsd (ai hN8 hb8));clear hN8 hb8 M1;go_wp2;go_roundg k
      case measure=>omega
      case rel =>
       obtain ⟨hMw,hMl,hMz,hMv,hbel,hOw,st1,st2,hbt⟩:=S4.out;obtain ⟨hN8,hb8⟩:=S5.out;have hs8:=hb8.size;have hss:(u5.setCell ⟨g,k,none⟩ (.int .u32 (D:Nat))).heap.size=u5.heap.size:=by simp [World.setCell]
       refine ⟨M.set k D,by omega,by first | go_num | (congr 1;omega),(hOw.set k D).below hb8 (by omega),hMw.set _ _ hDl,by simp [hMl],?_,?_,?_,?_⟩
       · intro j hj;rw [getD_set_ne _ _ _ _ (by omega)];exact hMz j (by omega)
       · rw [val_drop_set M k D (by omega),hMv,st1]
       · exact (But.below hbel hbt (by omega) (Nat.le_refl _)).trans (hb8.mono (by omega))
       · rw [st2];exact hN8.mono (by omega)
    · have hz:cmpI Z Y=-1:=cmpI_lt (by omega);have C1:=hid (rCmp_arg A3 (h2.below hbw3) (-1) (by rw [val_ws,hYe];exact hz));have S2:=(qsd (ai hMw (ai hMl (ai hMz (ai hMv (ai hbel3 (ai hO3 (ai st1 (ai st2 (ai hdl (ai hN3 hlen)))))))))));clear hMw hMl hMz hMv hbel hOw st1 st2 hdl hx h1 h2 hYe hYp hB1 hg hlen hbel3 hO3 hbw3 hb3 hN3 A3 hz S1 N1;go_wp2_with fail;refine C1.out.mono ?_;rintro r u4 ⟨rfl,hb4⟩;have S3:=qsd hb4;clear hb4 C1;go_wp2;go_roundg k
      case measure=>omega
      case rel =>
       obtain ⟨hMw,hMl,hMz,hMv,hbel,hOw,st1,st2,hdl,hN3,hlen⟩:=S2.out;have hb4:=S3.out;refine ⟨M,by omega,by first | go_num | (congr 1;omega),hOw.below hb4 (by omega),hMw,hMl,fun j hj=>hMz j (by omega),?_,hbel.trans (hb4.mono (by omega)),?_⟩
       · rw [val_drop_succ M k (by omega),hMz k (by omega),hMv,st1,Nat.div_eq_of_lt (show Z<Y by omega)]
       · rw [st2,Nat.mod_eq_of_lt (show Z<Y by omega)];exact (hN3.below hb4).mono (by omega)
end
section
open Go.RowKit
theorem lit_arg2 (w:World) (a b:Nat) (ha:a<4294967296) (hb:b<4294967296):Arg (w.alloc (.cells #[.int .u32 (a:Int),.int .u32 (b:Int)] 81)) (some ⟨w.heap.size,0,none⟩) 2 2 [a,b]:=by
 refine ⟨rfl,Nat.le_refl _,by omega,Wf.cons ha (Wf.cons hb Wf.nil),fun _=>⟨w.heap.size,0,by simp,rfl,fun i hi=>?_⟩,fun e=>by cases e⟩;have hi2:i=0∨i=1:=by simp at hi;omega
 unfold World.cell?;simp only [heap_alloc_new];rcases hi2 with rfl|rfl <;> rfl
theorem rOf_any (x:Nat) (w:World) (hx:x<18446744073709551616) :
 Calls Tryz.prog 94 #[.int .u64 (x:Nat)] w fun r w'=>∃ v,r=.returned v∧Nt w.heap.size w' v x∧Below w.heap.size w w':=by
 obtain ⟨a,ha⟩:∃ a,a=x%4294967296:=⟨_,rfl⟩;obtain ⟨b,hb⟩:∃ b,b=x/4294967296:=⟨_,rfl⟩;have e1:(x:Int)%4294967296=(a:Int):=by omega
 have e2:(x:Int)/4294967296=(b:Int):=by omega
 have e3:(b:Int)%4294967296=(b:Int):=by omega
 have N1:=hid (rNorm_arg (V:=x) (lit_arg2 w a b (by omega) (by omega)) (by simp [val];omega));have hb3:b<4294967296:=by omega
 clear ha hb;go_enter Tryz.func94,Tryz.ntmps94;go_wp2_with fail;refine N1.out.mono ?_;rintro r u1 ⟨v,rfl,hN,hbl⟩;have S:=(qsd (ai hN hbl));clear hN hbl;go_wp2;go_ret;exact ⟨v,rfl,S.out.1.mono (by simp),(below_alloc w _).trans (S.out.2.mono (by simp))⟩
theorem lo_form (X:Nat) (h:X≠0):∃ m,X=2^lo X*(2*m+1):=by
 have key:∀ Y:Nat,Y≠0→∃ i m,Y=2^i*(2*m+1):=by
  intro Y
  induction Y using Nat.strongRecOn with
  | ind Y ih =>
    intro hY;rcases Nat.mod_two_eq_zero_or_one Y with h0|h1
    · obtain ⟨i,m,e⟩:=ih (Y/2) (by omega) (by omega);refine ⟨i+1,m,?_⟩;rw [Nat.pow_succ,Nat.mul_comm (2^i) 2,Nat.mul_assoc,←e];omega
    · exact ⟨0,Y/2,by omega⟩
 obtain ⟨i,m,e⟩:=key X h;refine ⟨m,?_⟩;rw [e,lo_eq]
theorem lo_bit (X:Nat) (h:X≠0):X/2^lo X%2=1:=by
 obtain ⟨m,e⟩:=lo_form X h;generalize lo X=i at e;rw [e,Nat.mul_div_cancel_left _ (Nat.pow_pos (by omega))];omega
theorem lo_bits (X j:Nat) (h:X≠0) (hj:j<lo X):X/2^j%2=0:=by
 obtain ⟨m,e⟩:=lo_form X h;generalize lo X=i at e hj;obtain ⟨d,rfl⟩:∃ d,i=j+(d+1):=⟨i-j-1,by omega⟩;rw [e,Nat.pow_add,Nat.mul_assoc,Nat.mul_div_cancel_left _ (Nat.pow_pos (by omega)),Nat.pow_succ,Nat.mul_comm (2^d) 2,Nat.mul_assoc];omega
theorem lo_lt (X:Nat) (h:X≠0) (n:Nat) (hp:X<pw n):lo X<32*n:=by
 obtain ⟨m,e⟩:=lo_form X h;rcases Nat.lt_or_ge (lo X) (32*n) with h1|h1
 · exact h1
 · exfalso;have h2:2^(32*n)≤2^lo X:=Nat.pow_le_pow_right (by omega) h1;have h3:pw n=2^(32*n):=by unfold pw;rw [Nat.pow_mul]
   have h4:2^lo X*1≤2^lo X*(2*m+1):=Nat.mul_le_mul_left _ (by omega);omega
theorem rLow_any (xs:List Nat) (ao:Option Addr) (n cap B:Nat) (w:World) (hn:n=xs.length) (hm:n≤70368744177664) (hx:Wf xs) (hR:Rd B w ao xs) :
 Calls Tryz.prog 142 #[.slice ao n cap] w fun r w'=>r=.returned (.int .i64 (lo (val xs):Nat))∧w'=w:=by
 have H:=hid (size_any xs ao n cap B w hn (by omega) hR)
 by_cases h0:val xs=0
 · rw [h0,lo_zero];rw [(nl_zero_iff xs).2 h0] at H;clear hn hx hR h0;go_enter Tryz.func142,Tryz.ntmps142;go_wp2_with fail;refine H.out.mono ?_;rintro r w1 ⟨rfl,rfl⟩;go_wp2;go_ret;exact ⟨rfl,rfl⟩
 · have hnl:nl xs≠0:=fun e=>h0 ((nl_zero_iff xs).1 e);have hv:=val_lt xs hx;rw [←hn] at hv;have hlt:=lo_lt _ h0 n hv;obtain ⟨k,hk⟩:∃ k,nl xs=k:=⟨_,rfl⟩;rw [hk] at H hnl;obtain ⟨L,hL⟩:∃ L,lo (val xs)=L:=⟨_,rfl⟩;have hb1:=lo_bit _ h0;have hb0:=lo_bits (val xs) (h:=h0);rw [hL] at hb1 hb0 hlt ⊢
   have BT:Hid (∀ i:Nat,i≤9223372036854775807→∀ w1,w1=w→Calls Tryz.prog 152 #[.slice ao n cap,.int .i64 (i:Int)] w1 fun r w'=>r=.returned (.bool (decide (val xs/2^i%2=1)))∧w'=w1):=by
    intro i hi w1 hw;subst hw;exact rBit_any xs ao n cap B i w1 hn hx hR hi
   have HB:=(qsd (ai hb1 hb0));clear hb1 hb0 hn hx hR h0 hv hk hL;go_enter Tryz.func142,Tryz.ntmps142;go_wp2_with fail;refine H.out.mono ?_;rintro r w1 ⟨rfl,rfl⟩;have hkf:((k:Int)==0)=false:=by simp;omega
   go_wp2
   go_loopg [3] L (fun gk iv wr=>∃ (i:Nat),gk+i=L∧iv=.int .i64 (i:Nat)∧wr=w1)
   case atStart=>exact ⟨0,by omega,rfl,rfl⟩
   case round =>
    obtain ⟨i,hi,rfl,rfl⟩:=hrel;have B1:=BT.out i (by omega) _ rfl
    by_cases hiL:i=L
    · subst hiL;obtain rfl:gk=0:=by omega
      rw [HB.out.1] at B1;have B2:=hid (show Calls Tryz.prog 152 #[.slice ao n cap,.int .i64 (i:Int)] wr fun r w'=>r=.returned (.bool true)∧w'=wr from B1);clear B1;go_wp2_with fail;refine B2.out.mono ?_;rintro r w2 ⟨rfl,rfl⟩;go_wp2;go_ret;exact ⟨rfl,rfl⟩
    · rw [HB.out.2 i (by omega)] at B1;have B2:=hid (show Calls Tryz.prog 152 #[.slice ao n cap,.int .i64 (i:Int)] wr fun r w'=>r=.returned (.bool false)∧w'=wr from B1);clear B1;go_wp2_with fail;refine B2.out.mono ?_;rintro r w2 ⟨rfl,rfl⟩;go_wp2;go_roundg (gk-1)
      case measure=>omega
      case rel=>exact ⟨i+1,by omega,by first | go_num | (congr 1;omega),rfl⟩
end
section
open Go.RowKit
theorem own_row_made {w:World}{g:Nat}{L:List Nat}(h:Own w g L) (hm:L.length≤35184372088832):w.ownsRow g 81 1 (.slice (some ⟨g,0,none⟩) L.length L.length) L.length (L.map U) :=
 ⟨by simp,.inr ⟨g,L.length,_,rfl,Nat.le_refl _,h,Nat.le_refl _,by unfold maxLen;omega,by simp,by simp [List.take_of_length_le]⟩⟩
theorem Arg.drew' {w:World}{a:Option Addr}{n c:Nat}{xs:List Nat}(h:Arg w a n c xs):Arg w.drew a n c xs:=⟨h.len,h.cap,h.big,h.wf,h.rd,h.nil⟩
theorem pow_small (r:Nat) (hr:r<32):2^r<4294967296:=by
 have:2^r≤2^31:=Nat.pow_le_pow_right (by omega) (by omega);omega
theorem moved_up {w:World}{a:Option Addr}{l c:Nat}{X:Nat}(k:Nat) (h1:Arg w a l c (ws X)) (hl:l≤2000000) (hk:k≤64000000) :
 Calls Tryz.prog 126 #[.slice a l c,.int .i64 (k:Nat)] w fun r w'=>∃ v,r=.returned v∧Nt w.heap.size w' v (X*2^k)∧Below w.heap.size w w':=by
 obtain ⟨q,hq⟩:∃ q,q=k/32:=⟨_,rfl⟩;obtain ⟨s,hs⟩:∃ s,s=k%32:=⟨_,rfl⟩;have e1:(k:Int)/32=(q:Int):=by omega
 have e2:(k:Int)%32=(s:Int):=by omega
 have hqb:q≤2000000:=by omega
 have hs32:s<32:=by omega
 obtain ⟨W1,hW1⟩:∃ W,W=w.alloc (.cells (madeCells #[.int .u32 0] q) 81):=⟨_,rfl⟩;have hO1:Own W1 w.heap.size (List.replicate q 0):=by rw [hW1];exact Own.made w q
 have hB1:Below w.heap.size w W1:=by rw [hW1];exact (Below.refl _ _).alloc (Nat.le_refl _) _
 have hmk:=make_words (q:Int) q rfl (by omega) w;rw [←hW1] at hmk;have hR:=own_row_made hO1 (by simp;omega);simp only [List.length_replicate] at hR;have A1:=h1.below hB1;obtain ⟨v',w2,hap,hown,hgrow⟩:=append_words W1 w.heap.size _ q (List.replicate q 0) (ws X) a l c W1.heap.size 68 hR A1.len A1.rd A1.nil (by omega) hB1.size;have hB2:Below w.heap.size w w2:=hB1.grown hgrow hB1.size (fun k hk=>by simp [Value.ownBlock] at hk;omega);obtain ⟨a2,c2,rfl,hc2,hl2,hnil2,hRd2⟩:=Rw.words hown;have AO:Arg w2 a2 (q+l) c2 (List.replicate q 0++ws X):=⟨hl2,hc2,by omega,(Wf.zeros q).append (wf_ws X),hRd2,hnil2⟩
 have hval:val (List.replicate q 0++ws X)=X*pw q:=by
  rw [val_append,val_zeros,val_ws,List.length_replicate,Nat.zero_add,Nat.mul_comm]
 have hpw:pw q*2^s=2^k:=by
  have:pw q=2^(32*q):=by unfold pw;rw [Nat.pow_mul]
  rw [this,←Nat.pow_add];congr 1;omega
 have hps:=pow_small s hs32;obtain ⟨p,hp⟩:∃ p,p=2^s:=⟨_,rfl⟩
 have e3:(2:Int)^s=(p:Int):=by
  have h5:((2^s:Nat):Int)=(2:Int)^s:=by simp
  rw [←h5,←hp]
 have hpl:p<4294967296:=by omega
 have T1:=hid (rTimes_arg (V:=X*2^k) (AO.below (below_alloc w2 _)) (lit_arg w2 p (by omega)) (by omega) (by rw [hval];simp only [val];rw [←hpw,hp,Nat.mul_assoc];simp));have HAP:=hid hap;have hs2:=hB2.size;have S1:=qsd hB2;clear hap hown hgrow hB2 hl2 hnil2 hRd2 AO hval hpw A1 hR hO1 hB1 h1 hW1 hq hs hps hp;go_enter Tryz.func126,Tryz.ntmps126
 go_wp2_with (at_builtin;refine wpList_append_run2 rfl (.tmp 39) (.tmp 40) 68 rfl _ _ rfl rfl _ _ HAP.out ?_)
 refine T1.out.mono ?_;rintro r u3 ⟨v3,rfl,hN3,hb3⟩;have S2:=(qsd (ai hN3 hb3));clear hN3 hb3;go_wp2;go_ret;obtain ⟨hN3,hb3⟩:=S2.out;exact ⟨v3,rfl,hN3.mono (by simp;omega),S1.out.trans (((below_alloc w2 _).trans (hb3.mono (by simp))).mono hs2)⟩
theorem moved_down {w:World}{b off:Nat}{l c:Nat}{X:Nat}(k:Nat) (h1:Arg w (some ⟨b,off,none⟩) l c (ws X)) (hl:l≤2000000) (hk0:0<k) (hk:k≤64000000) (hkl:k/32<l) :
 Calls Tryz.prog 126 #[.slice (some ⟨b,off,none⟩) l c,.int .i64 (-(k:Int))] w fun r w'=>∃ v,r=.returned v∧Nt w.heap.size w' v (X/2^k)∧Below w.heap.size w w':=by
 obtain ⟨q,hq⟩:∃ q,q=k/32:=⟨_,rfl⟩;obtain ⟨s,hs⟩:∃ s,s=k%32:=⟨_,rfl⟩;have e1:(k:Int)/32=(q:Int):=by omega
 have e2:(k:Int)%32=(s:Int):=by omega
 have hql:q<l:=by omega
 have hs32:s<32:=by omega
 have hcl:=h1.cap;have hqc:¬ c=q:=by omega
 obtain ⟨p,hp⟩:∃ p,p=2^s:=⟨_,rfl⟩;have hps:=pow_small s hs32
 have e3:(2:Int)^s=(p:Int):=by
  have h5:((2^s:Nat):Int)=(2:Int)^s:=by simp
  rw [←h5,←hp]
 have hpl:p<4294967296:=by omega
 have hd1:decide (l≤q)=false:=decide_eq_false (by omega);have hd2:decide ((-(k:Int)) < -1099511627776)=false:=decide_eq_false (by omega);have hd3:decide ((l:Int)≤(q:Int))=false:=decide_eq_false (by omega)
 have hvd:val ((ws X).drop q)=X/pw q:=by
  have h5:=val_take_drop (ws X) q (by rw [←h1.len];omega);have h6:=val_lt ((ws X).take q) ((wf_ws X).take q);rw [val_ws] at h5;rw [List.length_take,Nat.min_eq_left (by rw [←h1.len];omega)] at h6;generalize val ((ws X).drop q)=Bv at h5 ⊢;generalize val ((ws X).take q)=Av at h5 h6;rw [h5,Nat.add_mul_div_left _ _ (pw_pos q),Nat.div_eq_of_lt h6,Nat.zero_add]
 have hpw:X/pw q/p=X/2^k:=by
  have h5:pw q=2^(32*q):=by unfold pw;rw [Nat.pow_mul]
  rw [Nat.div_div_eq_div_mul,h5,hp,←Nat.pow_add];congr 2;omega
 have hXl:(ws (X/pw q)).length≤2000000:=by
  have h5:X<pw l:=by rw [h1.len];exact ws_len_lt X
  have h6:X/pw q≤X:=Nat.div_le_self _ _;have h7:=(ws_len_le (X/pw q) l).2 (by omega);omega
 have hp0:0<p:=by rw [hp];exact Nat.pow_pos (by omega)
 have HNm:Hid (∀ u,Below w.heap.size w u→Calls Tryz.prog 127 #[.slice (some ⟨b,off+q,none⟩) (l-q) (c-q)] u fun r w'=>∃ v,r=.returned v∧Nt u.heap.size w' v (X/pw q)∧Below u.heap.size u w'):=by
  intro u hu;have h5:=rNorm_any ((ws X).drop q) (some ⟨b,off+q,none⟩) (l-q) (c-q) w.heap.size u (by rw [List.length_drop,←h1.len]) (by omega) (by omega) ((wf_ws X).drop q) ((h1.rd.drop q).below hu) (fun e=>by cases e);rw [hvd] at h5;exact h5
 have HP:=(qsd (ai hpw hXl));have e7:IntKind.i64.wrap (k:Int)=(k:Int):=by simp [IntKind.wrap,IntKind.bits,IntKind.signed] <;> omega
 have e8:(k:Int).tmod 32=(s:Int):=by rw [Int.tmod_eq_emod_of_nonneg (by omega)];exact e2
 have e6:IntKind.u32.wrap (p:Int)=(p:Int):=by simp [IntKind.wrap,IntKind.bits,IntKind.signed] <;> omega
 clear h1 hq hs hp hvd hpw hXl hps;go_enter Tryz.func126,Tryz.ntmps126;go_wp2
 go_region_with (first
  | (go_at_call 127
     refine (HNm.out _ ((Below.refl _ _).drew)).mono ?_;rintro r u1 ⟨v1,rfl,hN1,hb1⟩;obtain ⟨a1,c1,rfl,A1⟩:=hN1.arg (by have:=HP.out.2;omega);have hbw:Below w.heap.size w u1:=((Below.refl w.heap.size w).drew).trans (hb1.mono (Nat.le_refl _));have S1:=(qsd (ai hbw A1))
     clear hN1 hb1 A1 hbw)
  | (go_at_call 127
     refine (HNm.out _ ((below_alloc w _).drew)).mono ?_;rintro r u1 ⟨v1,rfl,hN1,hb1⟩;obtain ⟨a1,c1,rfl,A1⟩:=hN1.arg (by have:=HP.out.2;omega);have hbw:Below w.heap.size w u1:=((below_alloc w _).drew).trans (hb1.mono (by simp));have L1:=qsd ((Arg.drew' (lit_arg w p hpl)).below hb1);have S1:=(qsd (ai hbw A1))
     clear hN1 hb1 A1 hbw)
  | (go_at_call 144
     refine (parts_any S1.out.2 L1.out (by have:=HP.out.2;omega) (by omega) (by simp [val];exact hp0)).mono ?_;rintro r u2 ⟨v2,v3,rfl,hN2,hN3,hb2⟩;have hbw:Below w.heap.size w u2:=S1.out.1.trans (hb2.mono S1.out.1.size);have hNw:=hN2.mono (lo':=w.heap.size) S1.out.1.size;have S2:=(qsd (ai hNw hbw))
     clear hN2 hN3 hb2 hbw hNw)
  | (go_at_call 144
     refine (parts_any (S1.out.2.below (below_alloc u1 _)) (lit_arg u1 p hpl) (by have:=HP.out.2;omega) (by omega) (by simp [val];exact hp0)).mono ?_;rintro r u2 ⟨v2,v3,rfl,hN2,hN3,hb2⟩;have hbw:Below w.heap.size w u2:=S1.out.1.trans (((below_alloc u1 _).trans (hb2.mono (by simp))).mono S1.out.1.size);have hNw:=hN2.mono (lo':=w.heap.size) (by have:=S1.out.1.size;simp;omega);have S2:=(qsd (ai hNw hbw))
     clear hN2 hN3 hb2 hbw hNw))
 all_goals (
  go_wp2;go_ret;obtain ⟨hN2,hb2⟩:=S2.out;have e5:val [p]=p:=by simp [val]
  rw [val_ws,e5,HP.out.1] at hN2
  exact ⟨v2,rfl,hN2,hb2⟩)
end
end Go.Proofs.YtepkabljmpbmaaaGreatDoor
