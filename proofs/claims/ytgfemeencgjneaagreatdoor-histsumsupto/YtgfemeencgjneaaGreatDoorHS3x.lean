import Derived.Test.YtgfemeencgjneaaGreatDoorHI11x
set_option linter.unusedVariables false
set_option linter.unusedSimpArgs false
set_option maxHeartbeats 16000000
set_option maxRecDepth 20000
namespace Go.Proofs.YtgfemeencgjneaaGreatDoor
namespace J
end J
section
open Go Go.RowKit J
abbrev kdE (E:List Nat) (x:Nat):Nat:=kd17 (E.getD 0 0) (E.getD (E.length-1) 0) x
def inK (E:List Nat) (k x:Nat):Bool:=decide (kdE E x=3)&&decide (bk E x=k)
def cntH (E L:List Nat):Hs:=⟨(List.range (E.length-1)).map (fun k=>L.countP (inK E k)),L.countP (fun x=>kdE E x==1),L.countP (fun x=>kdE E x==2),L.countP (fun x=>kdE E x==0)⟩
theorem Hs.ext' {s t:Hs}(h1:s.C=t.C) (h2:s.b=t.b) (h3:s.a=t.a) (h4:s.o=t.o):s=t:=by
 cases s;cases t;simp only at h1 h2 h3 h4;subst h1 h2 h3 h4;rfl
theorem cnt_len (E L:List Nat):(cntH E L).C.length=E.length-1:=by simp [cntH]
theorem cnt_nil (E:List Nat):cntH E []=⟨List.replicate (E.length-1) 0,0,0,0⟩:=by
 refine Hs.ext' ?_ rfl rfl rfl
 show (List.range (E.length-1)).map (fun k=>List.countP (inK E k) [])=_
 refine List.ext_getElem (by simp) fun i h1 h2=>?_
 simp
theorem cnt_perm (E:List Nat) {L M:List Nat}(h:L.Perm M):cntH E L=cntH E M:=by
 refine Hs.ext' ?_ (h.countP_eq _) (h.countP_eq _) (h.countP_eq _);exact List.map_congr_left fun k _=>h.countP_eq _
theorem cnt_put {E:List Nat}(hE:Edg E) (L:List Nat) (x:Nat):(cntH E L).put E x=cntH E (x::L):=by
 have hb:=bk_lt hE x;refine Hs.ext' ?_ ?_ ?_ ?_
 · show (if kdE E x=3 then (cntH E L).C.set (bk E x) ((cntH E L).C.getD (bk E x) 0+1) else (cntH E L).C)=(List.range (E.length-1)).map (fun k=>(x::L).countP (inK E k))
   have hl:(if kdE E x=3 then (cntH E L).C.set (bk E x) ((cntH E L).C.getD (bk E x) 0+1) else (cntH E L).C).length=E.length-1:=by split <;> simp [cntH]
   refine List.ext_getElem (by rw [hl];simp) fun i h1 h2=>?_
   simp at h2;rw [List.getElem_map,List.getElem_range,List.countP_cons]
   by_cases e:kdE E x=3
   · simp only [if_pos e]
     rw [List.getElem_set]
     by_cases e2:bk E x=i
     · rw [if_pos e2]
       have:inK E i x=true:=by unfold inK;rw [decide_eq_true e,decide_eq_true e2];rfl
       rw [if_pos this,List.getD_eq_getElem?_getD,List.getElem?_eq_getElem (by rw [cnt_len];omega)]
       subst e2;simp [cntH]
     · rw [if_neg e2]
       have:inK E i x=false:=by unfold inK;rw [decide_eq_false e2,Bool.and_false]
       rw [this];simp [cntH]
   · simp only [if_neg e]
     have:inK E i x=false:=by unfold inK;rw [decide_eq_false e,Bool.false_and]
     rw [this];simp [cntH]
 · show (if kdE E x=1 then L.countP _+1 else L.countP _)=_
   show _=(x::L).countP (fun x=>kdE E x==1)
   rw [List.countP_cons]
   by_cases e:kdE E x=1 <;> simp [e]
 · show (if kdE E x=2 then L.countP _+1 else L.countP _)=_
   show _=(x::L).countP (fun x=>kdE E x==2)
   rw [List.countP_cons]
   by_cases e:kdE E x=2 <;> simp [e]
 · show (if kdE E x=0 then L.countP _+1 else L.countP _)=_
   show _=(x::L).countP (fun x=>kdE E x==0)
   rw [List.countP_cons]
   by_cases e:kdE E x=0 <;> simp [e]
theorem cnt_all {E:List Nat}(hE:Edg E):∀ L:List Nat,(cntH E L).all=L.length
 | []=>by rw [cnt_nil];exact zero_all17 _
 | x::L=>by
   rw [←cnt_put hE,put_all' hE (by rw [cnt_len];have:=hE.1;omega),cnt_all hE L];rfl
theorem cnt_mrg (E L M:List Nat):(cntH E L).mrg (cntH E M)=cntH E (L++M):=by
 refine Hs.ext' ?_ ?_ ?_ ?_
 · show List.zipWith (·+·) ((List.range (E.length-1)).map (fun k=>L.countP (inK E k))) ((List.range (E.length-1)).map (fun k=>M.countP (inK E k)))=(List.range (E.length-1)).map (fun k=>(L++M).countP (inK E k))
   refine List.ext_getElem (by simp) fun i h1 h2=>?_
   simp
 · exact (List.countP_append ..).symm
 · exact (List.countP_append ..).symm
 · exact (List.countP_append ..).symm
theorem inK_iff {E:List Nat}(hE:Edg E) {k x:Nat}(hk:k+1<E.length):inK E k x=true↔kdE E x=3∧inB E k x=true:=by
 unfold inK;rw [Bool.and_eq_true,decide_eq_true_eq,decide_eq_true_eq]
 constructor
 · rintro ⟨a,b⟩
   refine ⟨a,?_⟩;obtain ⟨n1,n2,n3⟩:=kd_in a
   -- some bin has it
   have hs:=hE.2.2.2
   have hex:∃ m,m+1<E.length∧inB E m x=true:=by
    have key:∀ d,d+1≤E.length→1≤d→sP x<sP (E.getD d 0)∨(d+1=E.length)→∃ m,m+1<E.length∧inB E m x=true:=by
     intro d
     induction d with
     | zero=>intro _ h _;omega
     | succ d ih =>
       intro h1 h2 h3
       by_cases q:sP (E.getD d 0)≤sP x
       · refine ⟨d,by omega,?_⟩
         rw [inB_iff];refine ⟨q,?_⟩
         rcases h3 with h3|h3
         · exact .inl h3
         · have e2:E.length-1=d+1:=by omega
           rw [e2] at n3
           rcases Int.lt_or_eq_of_le n3 with h4|h4
           · exact .inl h4
           · exact .inr ⟨by omega,h4⟩
       · rcases Nat.eq_zero_or_pos d with e | e
         · subst e;exact absurd n2 q
         · exact ih (by omega) e (.inl (by omega))
    exact key (E.length-1) (by omega) (by have:=hE.1;omega) (.inr (by have:=hE.1;omega))
   obtain ⟨m,hm,hin⟩:=hex;have:=bk_eq hE hm hin;rw [b] at this;rw [this];exact hin
 · rintro ⟨a,b⟩
   exact ⟨a,bk_eq hE hk b⟩
def wtL (E L:List Nat) (x j:Nat):List Nat:=(List.range (E.length-1)).map (fun i=>L.countP (inK E i)+if i<j∧inK E i x=true then 1 else 0)
theorem wt_len (E L:List Nat) (x j:Nat):(wtL E L x j).length=E.length-1:=by simp [wtL]
theorem wt_zero (E L:List Nat) (x:Nat):wtL E L x 0=(cntH E L).C:=by
 refine List.map_congr_left fun i _=>?_
 rw [if_neg (by omega),Nat.add_zero]
theorem wt_all (E L:List Nat) (x:Nat):wtL E L x (E.length-1)=(cntH E (L++[x])).C:=by
 refine List.map_congr_left fun i hi=>?_
 have:=List.mem_range.1 hi;rw [List.countP_append]
 congr 1
 by_cases e:inK E i x=true
 · rw [if_pos ⟨this,e⟩];simp [e]
 · rw [if_neg (fun h=>e h.2)];simp [e]
theorem wt_no {E L:List Nat}{x j:Nat}(h:inK E j x=false):wtL E L x (j+1)=wtL E L x j:=by
 refine List.map_congr_left fun i hi=>?_
 by_cases e:i=j
 · subst e
   rw [if_neg (fun q=>by rw [h] at q;exact absurd q.2 (by decide)),if_neg (fun q=>by rw [h] at q;exact absurd q.2 (by decide))]
 · have:(i<j+1∧inK E i x=true)↔(i<j∧inK E i x=true):=by
    constructor <;> rintro ⟨a,b⟩ <;> exact ⟨by omega,b⟩
   by_cases q:i<j∧inK E i x=true
   · rw [if_pos q,if_pos (this.2 q)]
   · rw [if_neg q,if_neg (fun z=>q (this.1 z))]
theorem wt_get {E L:List Nat}{x j:Nat}(hj:j<E.length-1):(wtL E L x j).getD j 0=L.countP (inK E j):=by
 unfold wtL;rw [List.getD_eq_getElem?_getD,List.getElem?_map,List.getElem?_range hj]
 show L.countP (inK E j)+(if j<j∧inK E j x=true then 1 else 0)=_
 rw [if_neg (by omega),Nat.add_zero]
theorem wt_elem {E L:List Nat}{x j i:Nat}(h:i<(wtL E L x j).length):(wtL E L x j)[i]=L.countP (inK E i)+if i<j∧inK E i x=true then 1 else 0:=by
 simp only [wtL,List.getElem_map,List.getElem_range]
theorem wt_yes {E L:List Nat}{x j:Nat}(hj:j<E.length-1) (h:inK E j x=true):(wtL E L x j).set j (L.countP (inK E j)+1)=wtL E L x (j+1):=by
 refine List.ext_getElem (by rw [List.length_set,wt_len,wt_len]) fun i h1 h2=>?_
 rw [List.getElem_set,wt_elem,wt_elem]
 by_cases e:j=i
 · subst e
   rw [if_pos rfl,if_pos ⟨by omega,h⟩]
 · rw [if_neg e]
   have:(i<j+1∧inK E i x=true)↔(i<j∧inK E i x=true):=by
    constructor <;> rintro ⟨a,b⟩ <;> exact ⟨by omega,b⟩
   by_cases q:i<j∧inK E i x=true
   · rw [if_pos q,if_pos (this.2 q)]
   · rw [if_neg q,if_neg (fun z=>q (this.1 z))]
theorem lies17 {E:List Nat}(hE:Edg E) (hW:W64 E) {k x:Nat}(hk:k+1<E.length) (hx:x<18446744073709551616) (w:World) :
 Calls Tryz.prog 25 #[.float .f64 x,.float .f64 (E.getD k 0),.float .f64 (E.getD (k+1) 0),.bool (decide (k+2=E.length))] w fun r w'=>r=.returned (.bool (inK E k x))∧w'=w:=by
 have fa:=hE.2.2.1 _ (getD_mem17 (show k<E.length by omega))
 have fb:=hE.2.2.1 _ (getD_mem17 hk);have h0:=rise_le hE.2.2.2 (Nat.zero_le k) (by omega)
 have h1:=rise_le hE.2.2.2 (show k+1≤E.length-1 by omega) (by omega)
 have ha:=hW.get k;have hb:=hW.get (k+1);obtain ⟨z,hz⟩:∃ z,z=inK E k x:=⟨_,rfl⟩;have hi:=inK_iff hE hk (x:=x);rw [←hz] at hi ⊢;clear hz;obtain ⟨l,hl⟩:∃ l,l=decide (k+2=E.length):=⟨_,rfl⟩;have hll:l=true↔k+2=E.length:=by rw [hl,decide_eq_true_eq]
 rw [←hl];obtain ⟨a,haa⟩:∃ a,a=E.getD k 0:=⟨_,rfl⟩;obtain ⟨b,hbb⟩:∃ a,a=E.getD (k+1) 0:=⟨_,rfl⟩;rw [←haa] at fa h0 ha ⊢;rw [←hbb] at fb h1 hb ⊢
 by_cases nx:nnW x
 · have e1:=lt17 hx ha nx (Nat.le_of_lt fa)
   have e2:=gt17 hx ha nx (Nat.le_of_lt fa);have e3:=eq17 hx ha nx (Nat.le_of_lt fa);have e4:=lt17 hx hb nx (Nat.le_of_lt fb);have e5:=eq17 hx hb nx (Nat.le_of_lt fb)
   have hn:¬ nanW x=true:=by
    unfold nanW;simp only [decide_eq_true_eq];have:x%9223372036854775808≤9218868437227405312:=nx;omega
   have hzz:z=(decide (sP a≤sP x)&&(decide (sP x<sP b) || (l&&decide (sP x=sP b)))):=by
    rw [Bool.eq_iff_iff,hi];simp only [Bool.and_eq_true,Bool.or_eq_true,decide_eq_true_eq];rw [inB_iff,←haa,←hbb,hll]
    constructor
    · rintro ⟨_,p,q⟩;exact ⟨p,q⟩
    · rintro ⟨p,q⟩
      refine ⟨?_,p,q⟩;unfold kdE kd17;rw [if_neg hn,if_neg (by omega),if_neg]
      rcases q with q|⟨_,q⟩ <;> omega
   have e0:(FloatKind.f64.format.order x a==some .gt || FloatKind.f64.format.order x a==some .eq)=decide (sP a≤sP x):=by
    rw [e2,e3,Bool.eq_iff_iff];simp only [Bool.or_eq_true,decide_eq_true_eq];omega
   rw [hzz];obtain ⟨p,hp⟩:∃ p,p=decide (sP a≤sP x):=⟨_,rfl⟩;obtain ⟨q,hq⟩:∃ p,p=decide (sP x<sP b):=⟨_,rfl⟩;obtain ⟨r,hr⟩:∃ p,p=decide (sP x=sP b):=⟨_,rfl⟩;rw [←hp] at e0 ⊢;rw [←hq] at e4 ⊢;rw [←hr] at e5 ⊢;clear hp hq hr hzz hi hll hl haa hbb fa fb h0 h1 ha hb nx hn e1 e2 e3 hE hW hx hk
   cases p <;> cases q <;> cases l <;>
    (go_enter Tryz.func25,Tryz.ntmps25
     go_wp2;go_ret;exact ⟨by first | rfl | simp,rfl⟩)
 · have nz:=Nat.lt_of_not_le nx
   have e1:=order_nanL x a nz .gt;have e2:=order_nanL x a nz .eq
   have hzz:z=false:=by
    cases z
    · rfl
    · have:=(hi.1 rfl).1
      exact absurd (kd_in this).1 nx
   subst hzz;clear hi hll hl haa hbb fa fb h0 h1 ha hb nx nz hE hW hx hk;go_enter Tryz.func25,Tryz.ntmps25;go_wp2;go_ret;exact ⟨by first | rfl | simp,rfl⟩
end
section
open Go Go.RowKit J
def In3 (lo hi a b c:Nat):Prop:=lo≤a∧a<hi∧lo≤b∧b<hi∧lo≤c∧c<hi
def Dy17 (w u:World) (E:List Nat) (gA eA cA kA gB eB cB kB gD eD cD kD gw:Nat) (sA sB sD:Hs) (ws:List Nat):Prop:=Hm u gA eA cA kA E sA∧Hm u gB eB cB kB E sB∧Hm u gD eD cD kD E sD∧OwnI u gw ws∧Below w.heap.size w u
def Sx17 (w:World) (gA eA cA kA gB eB cB kB gD eD cD kD gw:Nat):Prop:=∃ s1 s2 s3,In3 w.heap.size s1 gA eA cA∧In3 s1 s2 gB eB cB∧In3 s2 s3 gD eD cD∧s3≤gw
section
variable {w u u' : World} {E : List Nat} {gA eA cA kA gB eB cB kB gD eD cD kD gw : Nat} {sA sB sD s' : Hs} {ws ws' : List Nat}
theorem OwnI.two17 {g h x:Nat}{L:List Nat}(hO:OwnI u x L) (hb:But2 g h u u') (h1:x≠g) (h2:x≠h):OwnI u' x L:=by
 unfold OwnI at hO ⊢;rw [hb.block x (Array.getElem?_eq_some_iff.1 hO).1 h1 h2];exact hO
theorem Dy17.bel (h:Dy17 w u E gA eA cA kA gB eB cB kB gD eD cD kD gw sA sB sD ws) (hb:Below u.heap.size u u'):Dy17 w u' E gA eA cA kA gB eB cB kB gD eD cD kD gw sA sB sD ws :=
 ⟨h.1.below hb,h.2.1.below hb,h.2.2.1.below hb,h.2.2.2.1.below hb h.2.2.2.1.lt,h.2.2.2.2.trans (hb.mono h.2.2.2.2.size)⟩
theorem Dy17.addA (st:Sx17 w gA eA cA kA gB eB cB kB gD eD cD kD gw) (h:Dy17 w u E gA eA cA kA gB eB cB kB gD eD cD kD gw sA sB sD ws) (h':Hm u' gA eA cA kA E s') (hb:But2 gA cA u u'):Dy17 w u' E gA eA cA kA gB eB cB kB gD eD cD kD gw s' sB sD ws:=by
 obtain ⟨h1,h2,h3,h4,h5⟩:=h;obtain ⟨s1,s2,s3,⟨a1,a2,a3,a4,a5,a6⟩,⟨b1,b2,b3,b4,b5,b6⟩,⟨d1,d2,d3,d4,d5,d6⟩,hw⟩:=st;exact ⟨h',h2.keep hb ⟨by omega,by omega⟩ ⟨by omega,by omega⟩ ⟨by omega,by omega⟩,h3.keep hb ⟨by omega,by omega⟩ ⟨by omega,by omega⟩ ⟨by omega,by omega⟩,h4.two17 hb (by omega) (by omega),But2.below h5 hb h5.size (by omega) (by omega)⟩
theorem Dy17.addB (st:Sx17 w gA eA cA kA gB eB cB kB gD eD cD kD gw) (h:Dy17 w u E gA eA cA kA gB eB cB kB gD eD cD kD gw sA sB sD ws) (h':Hm u' gB eB cB kB E s') (hb:But2 gB cB u u'):Dy17 w u' E gA eA cA kA gB eB cB kB gD eD cD kD gw sA s' sD ws:=by
 obtain ⟨h1,h2,h3,h4,h5⟩:=h;obtain ⟨s1,s2,s3,⟨a1,a2,a3,a4,a5,a6⟩,⟨b1,b2,b3,b4,b5,b6⟩,⟨d1,d2,d3,d4,d5,d6⟩,hw⟩:=st;exact ⟨h1.keep hb ⟨by omega,by omega⟩ ⟨by omega,by omega⟩ ⟨by omega,by omega⟩,h',h3.keep hb ⟨by omega,by omega⟩ ⟨by omega,by omega⟩ ⟨by omega,by omega⟩,h4.two17 hb (by omega) (by omega),But2.below h5 hb h5.size (by omega) (by omega)⟩
theorem Dy17.addD (st:Sx17 w gA eA cA kA gB eB cB kB gD eD cD kD gw) (h:Dy17 w u E gA eA cA kA gB eB cB kB gD eD cD kD gw sA sB sD ws) (h':Hm u' gD eD cD kD E s') (hb:But2 gD cD u u'):Dy17 w u' E gA eA cA kA gB eB cB kB gD eD cD kD gw sA sB s' ws:=by
 obtain ⟨h1,h2,h3,h4,h5⟩:=h;obtain ⟨s1,s2,s3,⟨a1,a2,a3,a4,a5,a6⟩,⟨b1,b2,b3,b4,b5,b6⟩,⟨d1,d2,d3,d4,d5,d6⟩,hw⟩:=st;exact ⟨h1.keep hb ⟨by omega,by omega⟩ ⟨by omega,by omega⟩ ⟨by omega,by omega⟩,h2.keep hb ⟨by omega,by omega⟩ ⟨by omega,by omega⟩ ⟨by omega,by omega⟩,h',h4.two17 hb (by omega) (by omega),But2.below h5 hb h5.size (by omega) (by omega)⟩
theorem Dy17.addW (st:Sx17 w gA eA cA kA gB eB cB kB gD eD cD kD gw) (h:Dy17 w u E gA eA cA kA gB eB cB kB gD eD cD kD gw sA sB sD ws) (h':OwnI u' gw ws') (hb:But gw u u'):Dy17 w u' E gA eA cA kA gB eB cB kB gD eD cD kD gw sA sB sD ws':=by
 obtain ⟨h1,h2,h3,h4,h5⟩:=h;obtain ⟨s1,s2,s3,⟨a1,a2,a3,a4,a5,a6⟩,⟨b1,b2,b3,b4,b5,b6⟩,⟨d1,d2,d3,d4,d5,d6⟩,hw⟩:=st;have hb2:But2 gw gw u u':=hb.two1;exact ⟨h1.keep hb2 ⟨by omega,by omega⟩ ⟨by omega,by omega⟩ ⟨by omega,by omega⟩,h2.keep hb2 ⟨by omega,by omega⟩ ⟨by omega,by omega⟩ ⟨by omega,by omega⟩,h3.keep hb2 ⟨by omega,by omega⟩ ⟨by omega,by omega⟩ ⟨by omega,by omega⟩,h',But.below h5 hb h5.size (by omega)⟩
end
theorem cnt_snoc {E:List Nat}(hE:Edg E) (L:List Nat) (x:Nat):(cntH E L).put E x=cntH E (L++[x]):=by
 rw [cnt_put hE];exact cnt_perm E (List.perm_append_comm (l₁:=[x]) (l₂:=L))
theorem take_snoc17 {l:List Nat}{k:Nat}(h:k<l.length):l.take (k+1)=l.take k++[l.getD k 0]:=by
 rw [List.take_add_one,List.getElem?_eq_getElem h,List.getD_eq_getElem?_getD,List.getElem?_eq_getElem h]
 rfl
theorem drop_cons17 {l:List Nat}{k:Nat}(h:k<l.length):l.getD k 0::l.drop (k+1)=l.drop k:=by
 rw [List.drop_eq_getElem_cons h,List.getD_eq_getElem?_getD,List.getElem?_eq_getElem h]
 rfl
theorem cut_b17 {l:List Nat}{k cn:Nat}(h:k<l.length) (hc:k<cn):(l.take (k+1)).take cn=(l.take k).take cn++[l.getD k 0]:=by
 have e1:(l.take (k+1)).take cn=l.take (k+1):=List.take_of_length_le (by simp;omega)
 have e2:(l.take k).take cn=l.take k:=List.take_of_length_le (by simp;omega)
 rw [e1,e2,take_snoc17 h]
theorem cut_b17' {l:List Nat}{k cn:Nat}(hc:¬ k<cn):(l.take (k+1)).take cn=(l.take k).take cn:=by
 rw [List.take_take,List.take_take,Nat.min_eq_left (by omega),Nat.min_eq_left (by omega)]
theorem cut_d17 {l:List Nat}{k cn:Nat}(h:k<l.length) (hc:¬ k<cn):(l.take (k+1)).drop cn=(l.take k).drop cn++[l.getD k 0]:=by
 rw [take_snoc17 h,List.drop_append_of_le_length (by simp;omega)]
theorem cut_d17' {l:List Nat}{k cn:Nat}(hc:k<cn):(l.take (k+1)).drop cn=(l.take k).drop cn:=by
 rw [List.drop_of_length_le (by simp;omega),List.drop_of_length_le (by simp;omega)]
theorem put_b17 {E:List Nat}{s:Hs}{x c:Nat}(h:kdE E x=c):(s.put E x).b=(if c=1 then s.b+1 else s.b)∧(s.put E x).a=(if c=2 then s.a+1 else s.a)∧(s.put E x).o=(if c=0 then s.o+1 else s.o):=by
 subst h;exact ⟨rfl,rfl,rfl⟩
theorem cnt_small {E L:List Nat}:(cntH E L).b≤L.length∧(cntH E L).a≤L.length∧(cntH E L).o≤L.length:=⟨List.countP_le_length,List.countP_le_length,List.countP_le_length⟩
theorem kd_tests {E:List Nat}(hE:Edg E) (hW:W64 E) {x:Nat}(hx:x<18446744073709551616) :
 (FloatKind.f64.format.order x (E.getD 0 0)==some .lt)=decide (kdE E x=1) ∧
 (kdE E x≠1→(FloatKind.f64.format.order x (E.getD (E.length-1) 0)==some .gt)=decide (kdE E x=2)) ∧
 (kdE E x≠1→kdE E x≠2→(!(FloatKind.f64.format.order x (E.getD 0 0)==some .gt || FloatKind.f64.format.order x (E.getD 0 0)==some .eq))=decide (kdE E x=0)):=by
 have h1:=hE.1;have f0:=hE.2.2.1 _ (getD_mem17 (show 0<E.length by omega))
 have f1:=hE.2.2.1 _ (getD_mem17 (show E.length-1<E.length by omega))
 have w0:=hW.get 0;have w1:=hW.get (E.length-1)
 by_cases nx:nnW x
 · have hn:¬ nanW x=true:=by
    unfold nanW;simp only [decide_eq_true_eq];have:x%9223372036854775808≤9218868437227405312:=nx;omega
   rw [lt17 hx w0 nx (Nat.le_of_lt f0),gt17 hx w1 nx (Nat.le_of_lt f1),gt17 hx w0 nx (Nat.le_of_lt f0),eq17 hx w0 nx (Nat.le_of_lt f0)];unfold kdE kd17;rw [if_neg hn]
   by_cases a:sP x<sP (E.getD 0 0)
   · rw [if_pos a,decide_eq_true a]
     exact ⟨rfl,fun h=>absurd rfl h,fun h=>absurd rfl h⟩
   · rw [if_neg a,decide_eq_false a]
     by_cases b:sP (E.getD (E.length-1) 0)<sP x
     · rw [if_pos b,decide_eq_true b]
       exact ⟨rfl,fun _=>rfl,fun _ h=>absurd rfl h⟩
     · rw [if_neg b,decide_eq_false b]
       refine ⟨rfl,fun _=>rfl,fun _ _=>?_⟩
       rw [Bool.eq_iff_iff];simp only [Bool.not_eq_true',Bool.or_eq_false_iff,decide_eq_false_iff_not,decide_eq_true_eq];omega
 · have nz:=Nat.lt_of_not_le nx
   rw [order_nanL _ _ nz,order_nanL _ _ nz,order_nanL _ _ nz,order_nanL _ _ nz]
   have hn:nanW x=true:=by
    unfold nanW;rw [decide_eq_true_eq];exact nz
   unfold kdE kd17;rw [if_pos hn];exact ⟨rfl,fun _=>rfl,fun _ _=>rfl⟩
theorem runL_get {b:Nat}{C:List Nat}{k:Nat}(h:k≤C.length):(runL b C).getD k 0=b+(C.take k).sum:=by
 unfold runL;rw [List.getD_eq_getElem?_getD,List.getElem?_map,List.getElem?_range (by omega)]
 rfl
end
end Go.Proofs.YtgfemeencgjneaaGreatDoor
