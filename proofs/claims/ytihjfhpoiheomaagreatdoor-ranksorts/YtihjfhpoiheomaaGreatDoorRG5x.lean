import Derived.Test.YtihjfhpoiheomaaGreatDoorPA3x
set_option linter.unusedVariables false
set_option linter.unusedSimpArgs false
set_option maxHeartbeats 16000000
set_option maxRecDepth 20000
namespace Go.Proofs.YtihjfhpoiheomaaGreatDoor
namespace J
end J
section
open Go Go.RowKit J
attribute [local go_sem] st_float
theorem rep_of15 {M:List Int}{n:Nat}{m:Int}(hl:M.length=n) (h:∀ j,j<n→M.getD j 0=m):M=List.replicate n m:=by
 rw [List.eq_replicate_iff];refine ⟨hl,fun b hb=>?_⟩
 obtain ⟨i,hi,e⟩:=List.getElem_of_mem hb;have:=h i (by omega)
 rw [List.getD_eq_getElem?_getD,List.getElem?_eq_getElem hi] at this
 rw [←e];exact this
theorem rep_snoc15 (n:Nat) (m:Int):List.replicate n m++[m]=List.replicate (n+1) m:=by rw [List.replicate_succ']
theorem more15 (g n i:Nat) (lo:Nat) (mark:Int) (v:Value) (wr:World) (hn:n≤17592186043904) (hi:i<3) (hlo:lo≤wr.heap.size) (hO:OwnV wr g (List.replicate n mark))
 (h:(i=0∧v=.slice (some ⟨g,0,none⟩) n n)∨(0<i∧wr.ownsRow lo 3 1 v (n+i) ((List.replicate (n+i) mark).map Iv15))) :
 ∃ v' w',(Builtin.append_ #[25,25] 25 #[v,.slice (some ⟨wr.heap.size,0,none⟩) 1 1]).run Tryz.prog (wr.alloc (.cells #[.int .i64 mark] 3))=.ok v' w'∧w'.ownsRow lo 3 1 v' (n+(i+1)) ((List.replicate (n+(i+1)) mark).map Iv15)∧Below lo wr w':=by
 rcases h with ⟨rfl,rfl⟩|⟨_,h⟩
 · obtain ⟨v',w',r1,r2,r3⟩:=growV15 g n _ mark wr hO List.length_replicate hn
   rw [rep_snoc15,List.length_replicate] at r2;exact ⟨v',w',r1,own_baseI r2 hlo,r3.mono hlo⟩
 · have e:(List.replicate (n+i) mark).length=n+i:=List.length_replicate
   obtain ⟨v',w',r1,r2,r3⟩:=appendV15 lo v (List.replicate (n+i) mark) mark wr (by rw [e];exact h) hlo (by rw [e];omega)
   rw [rep_snoc15,List.length_replicate] at r2;exact ⟨v',w',r1,r2,r3⟩
theorem over15 (g n:Nat) (L:List Int) (mark:Int) (w:World) (hO:OwnV w g L) (hL:L.length=n) (hn:n≤17592186043904) :
 Calls Tryz.prog 18 #[.slice (some ⟨g,0,none⟩) n n,.int .i64 mark] w fun r w'=>∃ v,r=.returned v∧w'.ownsRow w.heap.size 3 1 v (n+3) ((List.replicate (n+3) mark).map Iv15)∧OwnV w' g (List.replicate n mark)∧But g w w':=by
 have HO:=(qsd (ai hO (ai hL hO.lt)));clear hO hL;go_enter Tryz.func18,Tryz.ntmps18;go_wp2
 go_loopg [5] n (fun gk iv wr=>∃ (k:Nat) (M:List Int),gk+k=n∧iv=.int .i64 (k:Nat)∧Aside (M.length=n∧(∀ j,j<k→M.getD j 0=mark)∧OwnV wr g M∧But g w wr))
 case atStart=>exact ⟨0,L,by omega,by first | rfl | simp,HO.out.2.1,fun j hj=>by omega,HO.out.1,But.refl _ _⟩
 case round =>
  obtain ⟨k,M,hgk,rfl,HA⟩:=hrel
  by_cases hk:k<n
  · have hdk:decide ((k:Int)<(n:Int))=true:=by simp;omega
    have bk:(k:Int)<(n:Int):=by omega
    obtain ⟨k1,hk1⟩:∃ x,x=k+1:=⟨_,rfl⟩;have wk:IntKind.i64.wrap ((k:Int)+1)=(k1:Int):=wrapZ (by omega) (by omega)
    obtain ⟨y,hy⟩:∃ y,y=M.getD k 0:=⟨_,rfl⟩;have c2:=HA.out.2.2.1.cell k (by rw [HA.out.1];exact hk)
    rw [←hy] at c2;have c3:=HA.out.2.2.1.frozen k
    have HY:Aside ((M.set k mark).length=n∧(∀ j,j<k1→(M.set k mark).getD j 0=mark)∧OwnV (wr.setCell ⟨g,k,none⟩ (.int .i64 mark)) g (M.set k mark)∧But g w (wr.setCell ⟨g,k,none⟩ (.int .i64 mark))):=by
     refine ⟨by rw [List.length_set];exact HA.out.1,fun j hj=>?_,HA.out.2.2.1.set k mark,HA.out.2.2.2.set _ _⟩
     have hl:=HA.out.1
     by_cases e:j=k
     · subst e
       rw [List.getD_eq_getElem?_getD,List.getElem?_set_self (by omega)];rfl
     · rw [List.getD_eq_getElem?_getD,List.getElem?_set_ne (by omega),←List.getD_eq_getElem?_getD]
       exact HA.out.2.1 j (by omega)
    have HZ:=qsd hk1;clear HA hy hk1;go_wp2
    go_roundg (n-k1)
    case measure=>have:=HZ.out;omega
    case rel=>exact ⟨k1,M.set k mark,by have:=HZ.out;omega,by first | rfl | simp,HY.out⟩
  · obtain rfl:k=n:=by omega
    have hdk:decide ((k:Int)<(k:Int))=false:=by simp
    have HB:Aside (OwnV wr g (List.replicate k mark)∧But g w wr):=by
     have:=rep_of15 HA.out.1 HA.out.2.1;rw [←this];exact HA.out.2.2
    clear HA;go_wp2
    go_loopg [6,7] 3 (fun gq gv iv wr=>∃ (i:Nat) (v:Value),gq+i=3∧gv=v∧iv=.int .i64 (i:Nat)∧Aside (((i=0∧v=.slice (some ⟨g,0,none⟩) k k)∨(0<i∧wr.ownsRow w.heap.size 3 1 v (k+i) ((List.replicate (k+i) mark).map Iv15)))∧OwnV wr g (List.replicate k mark)∧But g w wr))
    case atStart=>exact ⟨0,_,by omega,rfl,by first | rfl | simp,.inl ⟨rfl,rfl⟩,HB.out⟩
    case round =>
     clear HB;obtain ⟨i,v,hgq,hv,rfl,HA⟩:=hrel;have hv':=hv.symm;clear hv;subst hv'
     by_cases hi:i<3
     · have hdi:decide ((i:Int)<3)=true:=by simp;omega
       obtain ⟨i1,hi1⟩:∃ x,x=i+1:=⟨_,rfl⟩;have wi:IntKind.i64.wrap ((i:Int)+1)=(i1:Int):=wrapZ (by omega) (by omega)
       obtain ⟨v',w',r1,r2,r3⟩:=more15 g k i w.heap.size mark v wr hn hi HA.out.2.2.size HA.out.2.1 HA.out.1;rw [←hi1] at r2;have HR:=qsd r1
       have HX:Aside (((i1=0∧v'=.slice (some ⟨g,0,none⟩) k k)∨(0<i1∧w'.ownsRow w.heap.size 3 1 v' (k+i1) ((List.replicate (k+i1) mark).map Iv15)))∧OwnV w' g (List.replicate k mark)∧But g w w'):=by
        have hg:=HO.out.2.2;have hb:=HA.out.2.2;refine ⟨.inr ⟨by omega,r2⟩,?_,⟨r3.os.trans hb.os,r3.tape.trans hb.tape,r3.output.trans hb.output,Nat.le_trans hb.size r3.size,fun j h1 h2=>(r3.block j h1).trans (hb.block j h1 h2)⟩⟩
        have h1:=HA.out.2.1;unfold OwnV at h1 ⊢;rw [r3.block g hg];exact h1
       have HZ:=qsd hi1;clear r1 r2 r3 HA hi1
       go_wp2_with (at_builtin;refine wpList_append10 rfl (.tmp 23) (.tmp 25) 25 rfl _ _ rfl rfl _ _ HR.out ?_)
       go_roundg (3-i1)
       case measure=>have:=HZ.out;omega
       case rel=>exact ⟨i1,v',by have:=HZ.out;omega,rfl,by first | rfl | simp,HX.out⟩
     · obtain rfl:i=3:=by omega
       have HF:Aside (wr.ownsRow w.heap.size 3 1 v (k+3) ((List.replicate (k+3) mark).map Iv15)∧OwnV wr g (List.replicate k mark)∧But g w wr):=by
        rcases HA.out.1 with ⟨q,_⟩|⟨_,q⟩
        · omega
        · exact ⟨q,HA.out.2⟩
       clear HA;go_wp2;go_ret;exact ⟨v,rfl,HF.out⟩
end
namespace PB
open Go.RowKit Go.Proofs.YtihjfhpoiheomaaGreatDoor
theorem nice4 {lo:Nat}{w:World}{v1 v2 v3:Value}{x1 x2 x3:List Nat}(h1:Lt lo w v1 x1) (h2:Lt lo w v2 x2) (h3:Lt lo w v3 x3) (s1:x1.length≤17592186043904) (s2:x2.length≤17592186043904) (s3:x3.length≤17592186043904) (m1 m2:Nat) (hmm:m1≤m2)
 (r1:∀ b,v1.ownBlock=some b→b<m1) (r2:∀ b,v2.ownBlock=some b→m1≤b∧b<m2) (r3:∀ b,v3.ownBlock=some b→m2≤b):Nice lo w [v1,v2,v3]:=by
 have l1:slen v1=x1.length:=Rw.len h1;have l2:slen v2=x2.length:=Rw.len h2;have l3:slen v3=x3.length:=Rw.len h3;have n0:nth [v1,v2,v3] 0=v1:=rfl;have n1:nth [v1,v2,v3] 1=v2:=rfl;have n2:nth [v1,v2,v3] 2=v3:=rfl;refine ⟨fun i hi=>?_,fun i hi=>?_,fun i j hi hj hij b hb=>?_⟩
 · simp at hi
   obtain rfl|rfl|rfl:i=0∨i=1∨i=2:=by omega
   · rw [n0,l1];exact ⟨_,h1⟩
   · rw [n1,l2];exact ⟨_,h2⟩
   · rw [n2,l3];exact ⟨_,h3⟩
 · simp at hi
   obtain rfl|rfl|rfl:i=0∨i=1∨i=2:=by omega
   · rw [n0,l1];omega
   · rw [n1,l2];omega
   · rw [n2,l3];omega
 · simp at hi hj
   intro hb2;have q1:=r1 b;have q2:=r2 b;have q3:=r3 b;obtain rfl|rfl|rfl:i=0∨i=1∨i=2:=by omega
   all_goals obtain rfl | rfl | rfl:j=0∨j=1∨j=2:=by omega
   all_goals first | exact absurd rfl hij | skip
   all_goals simp only [n0,n1,n2] at hb hb2
   all_goals first | (have:=q1 hb;have:=q2 hb2;omega) | (have:=q1 hb;have:=q3 hb2;omega) | (have:=q2 hb;have:=q1 hb2;omega) | (have:=q2 hb;have:=q3 hb2;omega) | (have:=q3 hb;have:=q1 hb2;omega) | (have:=q3 hb;have:=q2 hb2;omega)
end PB
section
open Go Go.RowKit J
attribute [local go_sem] st_float
abbrev Sl15 (g n:Nat):Value:=.slice (some ⟨g,0,none⟩) n n
theorem OwnV.but15 {w w':World}{g q:Nat}{L:List Int}(h:OwnV w g L) (hb:But q w w') (hne:g≠q):OwnV w' g L:=by
 have hl:=h.lt;unfold OwnV at h ⊢;rw [hb.block g hl hne];exact h
theorem OwnV.keep15 {w w':World}{g:Nat}{L:List Int}(h:OwnV w g L) (hk:PB.Keep w w'):OwnV w' g L:=hk g _ _ (by decide) (by decide) h
theorem OwnV.is15 {w:World}{g:Nat}{L:List Nat}(h:OwnV w g (L.map fun x:Nat=>((x:Nat):Int))):Is15 w.heap.size w (some ⟨g,0,none⟩) L:=fun _=>⟨g,0,h.lt,rfl,fun i hi=>by
 rw [Nat.zero_add,h.cell i (by rw [List.length_map];exact hi),List.getD_eq_getElem?_getD,List.getD_eq_getElem?_getD,List.getElem?_map,List.getElem?_eq_getElem hi]
 rfl⟩
theorem OwnV.full15 {w:World}{g n:Nat}{m:Int}(h:OwnV w g (List.replicate n m)):0<n→∃ b o,(some ⟨g,0,none⟩:Option Addr)=some ⟨b,o,none⟩∧∀ i,i<n→w.cell? ⟨b,o+i,none⟩=some (.int .i64 m):=fun _=>⟨g,0,rfl,fun i hi=>by
 rw [Nat.zero_add,h.cell i (by rw [List.length_replicate];exact hi),List.getD_eq_getElem?_getD,List.getElem?_replicate,if_pos hi]
 rfl⟩
def Mk15 (lo:Nat) (w:World) (v:Value) (n:Nat) (m:Int):Prop:=w.ownsRow lo 3 1 v n ((List.replicate n m).map Iv15)
theorem Mk15.but {lo n:Nat}{w w':World}{v:Value}{m:Int}{q:Nat}(h:Mk15 lo w v n m) (hb:But q w w') (hq:q<lo):Mk15 lo w' v n m:=by
 refine ⟨h.1,?_⟩
 rcases h.2 with hn|⟨g,cap,cur,rfl,hlo,hgc,rest⟩
 · exact .inl hn
 · refine .inr ⟨g,cap,cur,rfl,hlo,?_,rest⟩
   rw [hb.block g (Array.getElem?_eq_some_iff.1 hgc).1 (by omega)];exact hgc
theorem Mk15.full {lo n:Nat}{w:World}{v:Value}{m:Int}(h:Mk15 lo w v n m):∃ a c,v=.slice a n c∧(0<n→∃ b o,a=some ⟨b,o,none⟩∧∀ i,i<n→w.cell? ⟨b,o+i,none⟩=some (.int .i64 m)):=by
 have h':w.ownsRow lo 3 1 v n ((List.replicate n m).map Iv15):=h
 rcases h.2 with ⟨rfl,hn0⟩|⟨g,cap,cur,rfl,hlo,hg,hn1,hm,hs,ht⟩
 · subst hn0
   exact ⟨none,0,rfl,fun q=>absurd q (by omega)⟩
 · refine ⟨some ⟨g,0,none⟩,cap,rfl,fun _=>⟨g,0,rfl,fun i hi=>?_⟩⟩
   have:=World.ownsRow.cellAt h' i (by omega)
   rw [Nat.zero_add,this,List.getElem?_map,List.getElem?_replicate,if_pos hi]
   rfl
structure S15 (w u:World) (s2 s3 s4 n m ga gb gc gp gq gr:Nat) (L1 L2:List Nat) (P1 P2:List Int):Prop where
 t:T15 s2 s3 s4 w u (Sl15 ga n) (Sl15 gb m) (Sl15 gc n) L1 L2 L1
 p:OwnV u gp P1
 q:OwnV u gq P2
 r:OwnV u gr P1
theorem S15.below {w u u':World}{s2 s3 s4 n m ga gb gc gp gq gr:Nat}{L1 L2:List Nat}{P1 P2:List Int}(h:S15 w u s2 s3 s4 n m ga gb gc gp gq gr L1 L2 P1 P2) (hb:Below u.heap.size u u'):S15 w u' s2 s3 s4 n m ga gb gc gp gq gr L1 L2 P1 P2:=⟨h.t.below hb,h.p.bel hb,h.q.bel hb,h.r.bel hb⟩
theorem S15.but {w u u':World}{s2 s3 s4 n m ga gb gc gp gq gr g:Nat}{L1 L2:List Nat}{P1 P2:List Int}(h:S15 w u s2 s3 s4 n m ga gb gc gp gq gr L1 L2 P1 P2) (hb:But g u u') (h0:w.heap.size≤g) (h1:g<s2) (h2:g<s3) (h3:g<s4) (h4:g<gp) (h5:g<gq) (h6:g<gr):S15 w u' s2 s3 s4 n m ga gb gc gp gq gr L1 L2 P1 P2 :=
 ⟨h.t.but hb h0 h1 h2 h3,h.p.but15 hb (by omega),h.q.but15 hb (by omega),h.r.but15 hb (by omega)⟩
theorem S15.keep {w u u':World}{s2 s3 s4 n m ga gb gc gp gq gr:Nat}{L1 L2:List Nat}{P1 P2:List Int}(h:S15 w u s2 s3 s4 n m ga gb gc gp gq gr L1 L2 P1 P2) (hk:PB.Keep u u') (hb:Below w.heap.size u u'):S15 w u' s2 s3 s4 n m ga gb gc gp gq gr L1 L2 P1 P2:=⟨h.t.keep hk hb,h.p.keep15 hk,h.q.keep15 hk,h.r.keep15 hk⟩
theorem S15.alloc {w u:World}{s2 s3 s4 n m ga gb gc gp gq gr:Nat}{L1 L2:List Nat}{P1 P2:List Int}(h:S15 w u s2 s3 s4 n m ga gb gc gp gq gr L1 L2 P1 P2) (o:Obj):S15 w (u.alloc o) s2 s3 s4 n m ga gb gc gp gq gr L1 L2 P1 P2:=h.below (below_alloc _ _)
end
section
open Go Go.RowKit J
attribute [local go_sem] st_float
theorem lent_fsS {w:World}{g:Nat}{xs:List Nat}(h:OwnF w g (lnt xs)):Fs w.heap.size w (some ⟨g,0,none⟩) xs:=by
 have:=h.fs h.lt xs.length;rw [show (lnt xs).take xs.length=xs by simp [lnt]] at this
 exact this
def pc15 (xs:List Nat):List Nat:=eachL xs fun k=>k
def pI15 (xs:List Nat):List Int:=(pc15 xs).map fun x:Nat=>((x:Nat):Int)
theorem pc_len (xs:List Nat):(pc15 xs).length=xs.length:=eachL_len _ _
theorem pI_len (xs:List Nat):(pI15 xs).length=xs.length:=by unfold pI15;rw [List.length_map,pc_len]
set_option maxRecDepth 100000 in
theorem walk2_RankSorts (a:Option Addr) (n c:Nat) (xs:List Nat) (b:Option Addr) (m d:Nat) (ys:List Nat) (w:World) (hT:Tab w) (hC:CameF w a n c xs) (hD:CameF w b m d ys) (hn6:n≤17592186043904) (hm6:m≤17592186043904) :
 Calls Tryz.prog 3 #[.slice a n c,.slice b m d] w fun r w'=>r=.returned (.bool true)∧Below w.heap.size w w':=by
 obtain ⟨hl1,_,hW1,hF1,_⟩:=hC;obtain ⟨hl2,_,hW2,hF2,_⟩:=hD;have up:∀ u:World,Below w.heap.size w u→Fs u.heap.size u a xs∧Fs u.heap.size u b ys∧Tab u∧Fs w.heap.size u a xs∧Fs w.heap.size u b ys:=fun u hb=>⟨(hF1.below hb).mono hb.size,(hF2.below hb).mono hb.size,hT.belows hb,hF1.below hb,hF2.below hb⟩
 have z1:(sortL xs).length=n:=by rw [sortL_len,hl1]
 have z2:(sortL ys).length=m:=by rw [sortL_len,hl2]
 have e1:(pI15 xs).length=n:=by rw [pI_len,hl1]
 have e2:(pI15 ys).length=m:=by rw [pI_len,hl2]
 have HA:=hid (fun (u:World) (hb:Below w.heap.size w u)=>awake15 u (up u hb).2.2.1)
 have HL:=hid (fun (u:World) (hb:Below w.heap.size w u)=>rLent12 xs a n c u.heap.size u hl1 (by omega) (up u hb).1 (Nat.le_refl _))
 have HL':=hid (fun (u:World) (hb:Below w.heap.size w u)=>rLent12 ys b m d u.heap.size u hl2 (by omega) (up u hb).2.1 (Nat.le_refl _))
 have HS:=hid (fun (u:World) (g:Nat) (ho:OwnF u g (lnt xs))=>Sort15 xs (some ⟨g,0,none⟩) n (n+2) u (lent_fsS ho) hl1 (by omega) hW1)
 have HS':=hid (fun (u:World) (g:Nat) (ho:OwnF u g (lnt ys))=>Sort15 ys (some ⟨g,0,none⟩) m (m+2) u (lent_fsS ho) hl2 (by omega) hW2)
 have HP:=hid (fun (u:World) (g:Nat) (ho:OwnF u g (lnt xs))=>Places15 xs (some ⟨g,0,none⟩) n (n+2) u (lent_fsS ho) hl1 (by omega) hW1)
 have HP':=hid (fun (u:World) (g:Nat) (ho:OwnF u g (lnt ys))=>Places15 ys (some ⟨g,0,none⟩) m (m+2) u (lent_fsS ho) hl2 (by omega) hW2)
 have HK:=hid (fun (u:World) (g:Nat) (hb:Below w.heap.size w u) (hg:w.heap.size≤g) (ho:OwnF u g (lnt xs))=>rAsLent12 xs a n c w.heap.size g u hl1 (by omega) (up u hb).2.2.2.1 hg ho)
 have HK':=hid (fun (u:World) (g:Nat) (hb:Below w.heap.size w u) (hg:w.heap.size≤g) (ho:OwnF u g (lnt ys))=>rAsLent12 ys b m d w.heap.size g u hl2 (by omega) (up u hb).2.2.2.2 hg ho)
 have HR:=hid (fun (u:World) (hb:Below w.heap.size w u)=>rSortL15 xs a n c u (up u hb).1 hl1 (by omega) hW1)
 have HR':=hid (fun (u:World) (hb:Below w.heap.size w u)=>rSortL15 ys b m d u (up u hb).2.1 hl2 (by omega) hW2)
 have HQ:=hid (fun (u:World) (hb:Below w.heap.size w u)=>rPlaces15 xs a n c u (up u hb).1 hl1 (by omega) hW1)
 have HQ':=hid (fun (u:World) (hb:Below w.heap.size w u)=>rPlaces15 ys b m d u (up u hb).2.1 hl2 (by omega) hW2)
 have HZ:=(qsd (ai z1 (ai z2 (ai e1 (ai e2 (ai hn6 hm6))))));have HI:=hid (fun (k:Nat) (zs:List Nat) (p q cp cq:Nat) (u:World) (hk:k=zs.length) (hk6:k≤17592186043904) (h1:OwnV u p (pI15 zs)) (h2:OwnV u q (pI15 zs))=>sameInts15 (pc15 zs) (some ⟨p,0,none⟩) (some ⟨q,0,none⟩) k cp cq u (by rw [pc_len];exact hk) (by omega) h1.is15 h2.is15)
 have HX:=(qsd (ai hl1 hl2));obtain ⟨L1,hL1⟩:∃ L,L=sortL xs:=⟨_,rfl⟩;obtain ⟨L2,hL2⟩:∃ L,L=sortL ys:=⟨_,rfl⟩;obtain ⟨P1,hP1⟩:∃ L,L=pI15 xs:=⟨_,rfl⟩;obtain ⟨P2,hP2⟩:∃ L,L=pI15 ys:=⟨_,rfl⟩;have HE:=(qsd (ai hL1 (ai hL2 (ai hP1 hP2))));clear hl1 hl2 hW1 hW2 hF1 hF2 up hT z1 z2 e1 e2 hL1 hL2 hP1 hP2;go_enter Tryz.func3,Tryz.ntmps3
 go_wp2_with fail
 refine (HA.out _ (Below.refl _ _)).mono ?_;rintro r u1 ⟨rfl,hb⟩;have B1:=qsd hb;clear hb HA
 go_wp2_with fail
 refine (HL.out _ B1.out).mono ?_;rintro r u2 ⟨rfl,ho,hb⟩;obtain ⟨g,hg⟩:∃ g,g=u1.heap.size:=⟨_,rfl⟩;rw [←hg] at ho ⊢;have B2:Aside (Below w.heap.size w u2∧OwnF u2 g (lnt xs)∧w.heap.size≤g):=⟨B1.out.trans (hb.mono B1.out.size),ho,by rw [hg];exact B1.out.size⟩
 clear hb ho hg B1 HL
 go_wp2_with fail
 refine (HL'.out _ B2.out.1).mono ?_;rintro r u3 ⟨rfl,ho,hb⟩;obtain ⟨h,hh⟩:∃ h,h=u2.heap.size:=⟨_,rfl⟩;rw [←hh] at ho ⊢;have B3:Aside (Below w.heap.size w u3∧OwnF u3 g (lnt xs)∧OwnF u3 h (lnt ys)∧w.heap.size≤g∧g<h∧h<u3.heap.size):=⟨B2.out.1.trans (hb.mono B2.out.1.size),B2.out.2.1.below hb B2.out.2.1.lt,ho,B2.out.2.2,by rw [hh];exact B2.out.2.1.lt,ho.lt⟩
 clear hb ho hh B2 HL'
 go_wp2_with fail
 refine (HS.out _ g B3.out.2.1).mono ?_;rintro r u4 ⟨rfl,ho,hb⟩;obtain ⟨ga,hga⟩:∃ k,k=u3.heap.size:=⟨_,rfl⟩;rw [←hga] at ho ⊢;rw [←HE.out.1] at ho;have B4:Aside (Below w.heap.size w u4∧OwnF u4 g (lnt xs)∧OwnF u4 h (lnt ys)∧OwnF u4 ga L1∧w.heap.size≤g∧g<h∧h<ga∧ga<u4.heap.size):=⟨B3.out.1.trans (hb.mono B3.out.1.size),B3.out.2.1.below hb B3.out.2.1.lt,B3.out.2.2.1.below hb B3.out.2.2.1.lt,ho,B3.out.2.2.2.1,B3.out.2.2.2.2.1,by rw [hga];exact B3.out.2.2.2.2.2,ho.lt⟩
 clear hb ho hga B3
 go_wp2_with fail
 refine (HS'.out _ h B4.out.2.2.1).mono ?_;rintro r u5 ⟨rfl,ho,hb⟩;obtain ⟨gb,hgb⟩:∃ k,k=u4.heap.size:=⟨_,rfl⟩;rw [←hgb] at ho ⊢;rw [←HE.out.2.1] at ho
 have B5:Aside (Below w.heap.size w u5∧OwnF u5 g (lnt xs)∧OwnF u5 h (lnt ys)∧OwnF u5 ga L1∧OwnF u5 gb L2∧(w.heap.size≤g∧g<h∧h<ga∧ga<gb∧gb<u5.heap.size)):=by
  obtain ⟨q1,q2,q3,q4,q5,q6,q7,q8⟩:=B4.out;exact ⟨q1.trans (hb.mono q1.size),q2.below hb q2.lt,q3.below hb q3.lt,q4.below hb q4.lt,ho,q5,q6,q7,by rw [hgb];exact q8,ho.lt⟩
 clear hb ho hgb B4 HS'
 go_wp2_with fail
 refine (HS.out _ g B5.out.2.1).mono ?_;rintro r u6 ⟨rfl,ho,hb⟩;obtain ⟨gc,hgc⟩:∃ k,k=u5.heap.size:=⟨_,rfl⟩;rw [←hgc] at ho ⊢;rw [←HE.out.1] at ho
 have B6:Aside (T15 ga gb gc w u6 (Sl15 ga n) (Sl15 gb m) (Sl15 gc n) L1 L2 L1∧OwnF u6 g (lnt xs)∧OwnF u6 h (lnt ys)∧(w.heap.size≤g∧g<h∧h<ga∧ga<gb∧gb<gc∧gc<u6.heap.size)):=by
  obtain ⟨q1,q2,q3,q4,q5,q6,q7,q8,q9,q10⟩:=B5.out;obtain ⟨z1,z2,_,_,z5,z6⟩:=HZ.out;exact ⟨⟨q1.trans (hb.mono q1.size),lt15 (q4.below hb q4.lt) (by rw [HE.out.1,z1]) (Nat.le_refl _) (by omega),lt15 (q5.below hb q5.lt) (by rw [HE.out.2.1,z2]) (Nat.le_refl _) (by omega),lt15 ho (by rw [HE.out.1,z1]) (Nat.le_refl _) (by omega)⟩,q2.below hb q2.lt,q3.below hb q3.lt,q6,q7,q8,q9,by rw [hgc];exact q10,ho.lt⟩
 clear hb ho hgc B5 HS
 go_wp2_with fail
 refine (HP.out _ g B6.out.2.1).mono ?_;rintro r u7 ⟨gp,rfl,ho,hb,hge⟩;have ho:=ho.toV
 have B7:Aside (T15 ga gb gc w u7 (Sl15 ga n) (Sl15 gb m) (Sl15 gc n) L1 L2 L1∧OwnF u7 g (lnt xs)∧OwnF u7 h (lnt ys)∧OwnV u7 gp P1∧(w.heap.size≤g∧g<h∧h<ga∧ga<gb∧gb<gc∧gc<gp∧gp<u7.heap.size)):=by
  obtain ⟨q1,q2,q3,q4,q5,q6,q7,q8,q9⟩:=B6.out;exact ⟨q1.below hb,q2.below hb q2.lt,q3.below hb q3.lt,by rw [HE.out.2.2.1];exact ho,q4,q5,q6,q7,q8,by omega,ho.lt⟩
 clear hb ho hge B6
 go_wp2_with fail
 refine (HP'.out _ h B7.out.2.2.1).mono ?_;rintro r u8 ⟨gq,rfl,ho,hb,hge⟩;have ho:=ho.toV
 have B8:Aside (T15 ga gb gc w u8 (Sl15 ga n) (Sl15 gb m) (Sl15 gc n) L1 L2 L1∧OwnF u8 g (lnt xs)∧OwnF u8 h (lnt ys)∧OwnV u8 gp P1∧OwnV u8 gq P2∧(w.heap.size≤g∧g<h∧h<ga∧ga<gb∧gb<gc∧gc<gp∧gp<gq∧gq<u8.heap.size)):=by
  obtain ⟨q1,q2,q3,q0,q4,q5,q6,q7,q8,q9,q10⟩:=B7.out;exact ⟨q1.below hb,q2.below hb q2.lt,q3.below hb q3.lt,q0.bel hb,by rw [HE.out.2.2.2];exact ho,q4,q5,q6,q7,q8,q9,by omega,ho.lt⟩
 clear hb ho hge B7 HP'
 go_wp2_with fail
 refine (HP.out _ g B8.out.2.1).mono ?_;rintro r u9 ⟨gr,rfl,ho,hb,hge⟩;have ho:=ho.toV
 have SZ:Aside (w.heap.size≤g∧g<h∧h<ga∧ga<gb∧gb<gc∧gc<gp∧gp<gq∧gq<gr):=by
  obtain ⟨q1,q2,q3,q0,q00,q4,q5,q6,q7,q8,q9,q10,q11⟩:=B8.out;exact ⟨q4,q5,q6,q7,q8,q9,q10,by omega⟩
 have B9:Aside (S15 w u9 ga gb gc n m ga gb gc gp gq gr L1 L2 P1 P2∧OwnF u9 g (lnt xs)∧OwnF u9 h (lnt ys)):=by
  obtain ⟨q1,q2,q3,q0,q00,_⟩:=B8.out;exact ⟨⟨q1.below hb,q0.bel hb,q00.bel hb,by rw [HE.out.2.2.1];exact ho⟩,q2.below hb q2.lt,q3.below hb q3.lt⟩
 clear hb ho hge B8 HP
 go_wp2_with fail
 refine (HK.out _ g B9.out.1.t.bel SZ.out.1 B9.out.2.1).mono ?_;rintro r u10 ⟨rfl,hb⟩
 have B10:Aside (S15 w u10 ga gb gc n m ga gb gc gp gq gr L1 L2 P1 P2∧OwnF u10 h (lnt ys)):=by
  have:=SZ.out;refine ⟨B9.out.1.but hb SZ.out.1 (by omega) (by omega) (by omega) (by omega) (by omega) (by omega),?_⟩
  have h3:=B9.out.2.2;have hl:=h3.lt;unfold OwnF at h3 ⊢;rw [hb.block h hl (by omega)];exact h3
 clear hb B9 HK
 go_wp2_with fail
 refine (HK'.out _ h B10.out.1.t.bel (by have:=SZ.out;omega) B10.out.2).mono ?_
 rintro r u11 ⟨rfl,hb⟩
 have B11:Aside (S15 w u11 ga gb gc n m ga gb gc gp gq gr L1 L2 P1 P2):=by
  have:=SZ.out;exact B10.out.1.but hb (by omega) (by omega) (by omega) (by omega) (by omega) (by omega) (by omega)
 clear hb B10 HK'
 go_wp2_with fail
 refine (HR.out _ B11.out.t.bel).mono ?_;rintro r u12 ⟨⟨sa,sc,rfl,_,hs⟩,hb⟩;have B12:Aside (S15 w u12 ga gb gc n m ga gb gc gp gq gr L1 L2 P1 P2∧Fs u12.heap.size u12 sa L1):=⟨B11.out.below hb,by rw [HE.out.1];exact hs⟩
 clear hb hs B11 HR
 go_wp2_with fail
 refine (HR'.out _ B12.out.1.t.bel).mono ?_;rintro r u13 ⟨⟨ta,tc,rfl,_,hs⟩,hb⟩;have B13:Aside (S15 w u13 ga gb gc n m ga gb gc gp gq gr L1 L2 P1 P2∧Fs u13.heap.size u13 sa L1∧Fs u13.heap.size u13 ta L2):=⟨B12.out.1.below hb,(B12.out.2.below hb).mono hb.size,by rw [HE.out.2.1];exact hs⟩
 clear hb hs B12 HR'
 go_wp2_with fail
 refine (HQ.out _ B13.out.1.t.bel).mono ?_;rintro r u14 ⟨rfl,ho,hb⟩;obtain ⟨gu,hgu⟩:∃ k,k=u13.heap.size:=⟨_,rfl⟩;rw [←hgu] at ho ⊢;have ho:=ho.toV;have B14:Aside (S15 w u14 ga gb gc n m ga gb gc gp gq gr L1 L2 P1 P2∧Fs u14.heap.size u14 sa L1∧Fs u14.heap.size u14 ta L2∧OwnV u14 gu P1):=⟨B13.out.1.below hb,(B13.out.2.1.below hb).mono hb.size,(B13.out.2.2.below hb).mono hb.size,by rw [HE.out.2.2.1];exact ho⟩
 clear hb ho hgu B13 HQ
 go_wp2_with fail
 refine (HQ'.out _ B14.out.1.t.bel).mono ?_;rintro r u15 ⟨rfl,ho,hb⟩;obtain ⟨gv,hgv⟩:∃ k,k=u14.heap.size:=⟨_,rfl⟩;rw [←hgv] at ho ⊢;have ho:=ho.toV;have B15:Aside (S15 w u15 ga gb gc n m ga gb gc gp gq gr L1 L2 P1 P2∧Fs u15.heap.size u15 sa L1∧Fs u15.heap.size u15 ta L2∧OwnV u15 gu P1∧OwnV u15 gv P2):=⟨B14.out.1.below hb,(B14.out.2.1.below hb).mono hb.size,(B14.out.2.2.1.below hb).mono hb.size,B14.out.2.2.2.bel hb,by rw [HE.out.2.2.2];exact ho⟩
 clear hb ho hgv B14 HQ'
 have lnn:Aside (n=L1.length∧m=L2.length):=by
  obtain ⟨z1,z2,_⟩:=HZ.out;exact ⟨by rw [HE.out.1,z1],by rw [HE.out.2.1,z2]⟩
 have AL:=hid (alikeLists15 L1 (some ⟨ga,0,none⟩) sa n n sc u15 lnn.out.1 (by have:=HZ.out;omega) (lt_fs15 B15.out.1.t.ra).2 B15.out.2.1)
 go_wp2_with fail
 refine AL.out.mono ?_;rintro r u16 ⟨rfl,hb⟩;have B16:Aside (S15 w u16 ga gb gc n m ga gb gc gp gq gr L1 L2 P1 P2∧Fs u16.heap.size u16 sa L1∧Fs u16.heap.size u16 ta L2∧OwnV u16 gu P1∧OwnV u16 gv P2):=⟨B15.out.1.below hb,(B15.out.2.1.below hb).mono hb.size,(B15.out.2.2.1.below hb).mono hb.size,B15.out.2.2.2.1.bel hb,B15.out.2.2.2.2.bel hb⟩;clear hb B15 AL;have AL:=hid (alikeLists15 L2 (some ⟨gb,0,none⟩) ta m m tc u16 lnn.out.2 (by have:=HZ.out;omega) (lt_fs15 B16.out.1.t.rb).2 B16.out.2.2.1)
 go_wp2_with fail
 refine AL.out.mono ?_;rintro r u17 ⟨rfl,hb⟩;have B17:Aside (S15 w u17 ga gb gc n m ga gb gc gp gq gr L1 L2 P1 P2∧Fs u17.heap.size u17 sa L1∧Fs u17.heap.size u17 ta L2∧OwnV u17 gu P1∧OwnV u17 gv P2):=⟨B16.out.1.below hb,(B16.out.2.1.below hb).mono hb.size,(B16.out.2.2.1.below hb).mono hb.size,B16.out.2.2.2.1.bel hb,B16.out.2.2.2.2.bel hb⟩;clear hb B16 AL;have AL:=hid (alikeLists15 L1 (some ⟨gc,0,none⟩) sa n n sc u17 lnn.out.1 (by have:=HZ.out;omega) (lt_fs15 B17.out.1.t.rc).2 B17.out.2.1)
 go_wp2_with fail
 refine AL.out.mono ?_;rintro r u18 ⟨rfl,hb⟩;have B18:Aside (S15 w u18 ga gb gc n m ga gb gc gp gq gr L1 L2 P1 P2∧Fs u18.heap.size u18 sa L1∧Fs u18.heap.size u18 ta L2∧OwnV u18 gu P1∧OwnV u18 gv P2):=⟨B17.out.1.below hb,(B17.out.2.1.below hb).mono hb.size,(B17.out.2.2.1.below hb).mono hb.size,B17.out.2.2.2.1.bel hb,B17.out.2.2.2.2.bel hb⟩;clear hb B17 AL;have AL:=hid (HI.out n xs gp gu n n u18 HX.out.1 (by have:=HZ.out;omega) (by have:=B18.out.1.p;rw [HE.out.2.2.1] at this;exact this) (by have:=B18.out.2.2.2.1;rw [HE.out.2.2.1] at this;exact this))
 go_wp2_with fail
 refine AL.out.mono ?_;rintro r u19 ⟨rfl,hh0,hb⟩;clear hh0;have B19:Aside (S15 w u19 ga gb gc n m ga gb gc gp gq gr L1 L2 P1 P2∧Fs u19.heap.size u19 sa L1∧Fs u19.heap.size u19 ta L2∧OwnV u19 gu P1∧OwnV u19 gv P2):=⟨B18.out.1.below hb,(B18.out.2.1.below hb).mono hb.size,(B18.out.2.2.1.below hb).mono hb.size,B18.out.2.2.2.1.bel hb,B18.out.2.2.2.2.bel hb⟩;clear hb B18 AL;have AL:=hid (HI.out m ys gq gv m m u19 HX.out.2 (by have:=HZ.out;omega) (by have:=B19.out.1.q;rw [HE.out.2.2.2] at this;exact this) (by have:=B19.out.2.2.2.2;rw [HE.out.2.2.2] at this;exact this))
 go_wp2_with fail
 refine AL.out.mono ?_;rintro r u20 ⟨rfl,hh0,hb⟩;clear hh0;have B20:Aside (S15 w u20 ga gb gc n m ga gb gc gp gq gr L1 L2 P1 P2∧Fs u20.heap.size u20 sa L1∧Fs u20.heap.size u20 ta L2∧OwnV u20 gu P1∧OwnV u20 gv P2):=⟨B19.out.1.below hb,(B19.out.2.1.below hb).mono hb.size,(B19.out.2.2.1.below hb).mono hb.size,B19.out.2.2.2.1.bel hb,B19.out.2.2.2.2.bel hb⟩;clear hb B19 AL;have AL:=hid (HI.out n xs gr gu n n u20 HX.out.1 (by have:=HZ.out;omega) (by have:=B20.out.1.r;rw [HE.out.2.2.1] at this;exact this) (by have:=B20.out.2.2.2.1;rw [HE.out.2.2.1] at this;exact this))
 go_wp2_with fail
 refine AL.out.mono ?_;rintro r u21 ⟨rfl,hh0,hb⟩;clear hh0;have B21:Aside (S15 w u21 ga gb gc n m ga gb gc gp gq gr L1 L2 P1 P2∧Fs u21.heap.size u21 sa L1∧Fs u21.heap.size u21 ta L2∧OwnV u21 gu P1∧OwnV u21 gv P2):=⟨B20.out.1.below hb,(B20.out.2.1.below hb).mono hb.size,(B20.out.2.2.1.below hb).mono hb.size,B20.out.2.2.2.1.bel hb,B20.out.2.2.2.2.bel hb⟩;clear hb B20 AL;obtain ⟨W14,hW14⟩:∃ W,W=u21.alloc (.cells #[.slice none 0 0] 32):=⟨_,rfl⟩;obtain ⟨k,hk⟩:∃ k,k=u21.heap.size:=⟨_,rfl⟩;have hws:=B21.out.1.t.bel.size;have zz14:w.heap.size≤W14.heap.size:=by rw [hW14];simp;omega
 have BK0:Aside (PB.Bk w.heap.size W14 k []):=by rw [hW14,hk];exact PB.Bk.made _ _ hws
 have B22:Aside (S15 w W14 ga gb gc n m ga gb gc gp gq gr L1 L2 P1 P2):=by rw [hW14];exact B21.out.1.alloc _
 clear B21 HI;have TK:=hid (PB.take_any w.heap.size k [] (some ⟨ga,0,none⟩) n n W14 BK0.out (by simp) zz14)
 go_wp2_with fail
 rw [←hW14,←hk];clear hW14 hk hws;refine Calls.mono TK.out ?_;rintro r w15 ⟨rfl,hB15,hk15,hb15,z15⟩;have BK1:Aside (PB.Bk w.heap.size w15 k [Sl15 ga n]):=hB15;have B23:=qsd (B22.out.keep hk15 hb15);have zz15:w.heap.size≤w15.heap.size:=Nat.le_trans zz14 z15;clear B22 hB15 hk15 hb15 TK BK0 zz14 z15;have TK:=hid (PB.take_any w.heap.size k [Sl15 ga n] (some ⟨gb,0,none⟩) m m w15 BK1.out (by simp) zz15)
 go_wp2_with fail
 refine Calls.mono TK.out ?_;rintro r w16 ⟨rfl,hB16,hk16,hb16,z16⟩;have BK2:Aside (PB.Bk w.heap.size w16 k [Sl15 ga n,Sl15 gb m]):=hB16;have B24:=qsd (B23.out.keep hk16 hb16);have zz16:w.heap.size≤w16.heap.size:=Nat.le_trans zz15 z16;clear B23 hB16 hk16 hb16 TK BK1 zz15 z16;have TK:=hid (PB.take_any w.heap.size k [Sl15 ga n,Sl15 gb m] (some ⟨gc,0,none⟩) n n w16 BK2.out (by simp) zz16)
 go_wp2_with fail
 refine Calls.mono TK.out ?_;rintro r w17 ⟨rfl,hB17,hk17,hb17,z17⟩;have BK3:Aside (PB.Bk w.heap.size w17 k [Sl15 ga n,Sl15 gb m,Sl15 gc n]):=hB17;have B25:=qsd (B24.out.keep hk17 hb17);have zz17:w.heap.size≤w17.heap.size:=Nat.le_trans zz16 z17;clear B24 hB17 hk17 hb17 TK BK2 zz16 z17;have NI:PB.Nice w.heap.size w17 [Sl15 ga n,Sl15 gb m,Sl15 gc n]:=PB.nice4 (PB.Lt.mono B25.out.t.ra (by have:=SZ.out;omega)) (PB.Lt.mono B25.out.t.rb (by have:=SZ.out;omega)) (PB.Lt.mono B25.out.t.rc (by have:=SZ.out;omega)) (by have:=HZ.out;have:=lnn.out;omega) (by have:=HZ.out;have:=lnn.out;omega) (by have:=HZ.out;have:=lnn.out;omega) gb gc (by have:=SZ.out;omega) (fun q e=>by cases e;have:=SZ.out;show ga<gb;omega) (fun q e=>by cases e;have:=SZ.out;exact ⟨Nat.le_refl gb,by show gb<gc;omega⟩) (fun q e=>by cases e;exact Nat.le_refl gc)
 have OW:=hid (PB.owned_any w.heap.size k [Sl15 ga n,Sl15 gb m,Sl15 gc n] w17 BK3.out NI (by simp) (by simp) zz17)
 clear NI
 go_wp2_with fail
 refine Calls.mono OW.out ?_;rintro r w18 ⟨rfl,hb18,ho18⟩;have B26:Aside (Below w.heap.size w w18∧OwnV w18 gp P1∧OwnV w18 gq P2∧OwnV w18 gr P1):=⟨B25.out.t.bel.trans hb18,ho18 _ _ B25.out.p,ho18 _ _ B25.out.q,ho18 _ _ B25.out.r⟩;clear hb18 ho18 OW B25 BK3 zz17
 have pl:Aside (P1.length=n∧P2.length=m):=by
  obtain ⟨_,_,z3,z4,_⟩:=HZ.out;exact ⟨by rw [HE.out.2.2.1];exact z3,by rw [HE.out.2.2.2];exact z4⟩
 have OV:=hid (over15 gp n P1 (-1) w18 B26.out.2.1 pl.out.1 (by have:=HZ.out;omega))
 go_wp2_with fail
 refine OV.out.mono ?_;rintro r w19 ⟨vd,rfl,hd,hp,hb⟩;have SB:Aside (gp<w18.heap.size∧gq<w18.heap.size∧gr<w18.heap.size):=⟨B26.out.2.1.lt,B26.out.2.2.1.lt,B26.out.2.2.2.lt⟩
 have B27:Aside (Below w.heap.size w w19∧OwnV w19 gp (List.replicate n (-1))∧OwnV w19 gq P2∧OwnV w19 gr P1∧Mk15 w18.heap.size w19 vd (n+3) (-1)∧w18.heap.size≤w19.heap.size):=by
  have:=SZ.out;exact ⟨But.below B26.out.1 hb B26.out.1.size (by omega),hp,B26.out.2.2.1.but15 hb (by omega),B26.out.2.2.2.but15 hb (by omega),hd,hb.size⟩
 clear hd hp hb OV B26;have OV:=hid (over15 gq m P2 (-2) w19 B27.out.2.2.1 pl.out.2 (by have:=HZ.out;omega))
 go_wp2_with fail
 refine OV.out.mono ?_;rintro r w20 ⟨ve,rfl,hd,hp,hb⟩
 have B28:Aside (Below w.heap.size w w20∧OwnV w20 gp (List.replicate n (-1))∧OwnV w20 gq (List.replicate m (-2))∧OwnV w20 gr P1∧Mk15 w18.heap.size w20 vd (n+3) (-1)∧Mk15 w18.heap.size w20 ve (m+3) (-2)∧w18.heap.size≤w20.heap.size):=by
  have:=SZ.out;have:=SB.out;obtain ⟨q1,q2,q3,q4,q5,q6⟩:=B27.out;exact ⟨But.below q1 hb q1.size (by omega),q2.but15 hb (by omega),hp,q4.but15 hb (by omega),q5.but hb (by omega),own_baseI hd q6,Nat.le_trans q6 hb.size⟩
 clear hd hp hb OV B27;have OV:=hid (over15 gr n P1 (-3) w20 B28.out.2.2.2.1 pl.out.1 (by have:=HZ.out;omega))
 go_wp2_with fail
 refine OV.out.mono ?_;rintro r w21 ⟨vf,rfl,hd,hp,hb⟩
 have B29:Aside (Below w.heap.size w w21∧OwnV w21 gp (List.replicate n (-1))∧OwnV w21 gq (List.replicate m (-2))∧OwnV w21 gr (List.replicate n (-3))∧Mk15 w18.heap.size w21 vd (n+3) (-1)∧Mk15 w18.heap.size w21 ve (m+3) (-2)∧Mk15 w18.heap.size w21 vf (n+3) (-3)):=by
  have:=SZ.out;have:=SB.out;obtain ⟨q1,q2,q3,q4,q5,q6,q7⟩:=B28.out;exact ⟨But.below q1 hb q1.size (by omega),q2.but15 hb (by omega),q3.but15 hb (by omega),hp,q5.but hb (by omega),q6.but hb (by omega),own_baseI hd q7⟩
 clear hd hp hb OV B28;obtain ⟨da,dc,rfl,fd⟩:=B29.out.2.2.2.2.1.full;obtain ⟨ea,ec,rfl,fe⟩:=B29.out.2.2.2.2.2.1.full;obtain ⟨fa,fc,rfl,ff⟩:=B29.out.2.2.2.2.2.2.full;have F1:=hid (full15 (-1) (some ⟨gp,0,none⟩) n n w21 (by have:=HZ.out;omega) B29.out.2.1.full15)
 have F2:=hid (full15 (-2) (some ⟨gq,0,none⟩) m m w21 (by have:=HZ.out;omega) B29.out.2.2.1.full15)
 have F3:=hid (full15 (-3) (some ⟨gr,0,none⟩) n n w21 (by have:=HZ.out;omega) B29.out.2.2.2.1.full15)
 have F4:=hid (full15 (-1) da (n+3) dc w21 (by have:=HZ.out;omega) fd)
 have F5:=hid (full15 (-2) ea (m+3) ec w21 (by have:=HZ.out;omega) fe)
 have F6:=hid (full15 (-3) fa (n+3) fc w21 (by have:=HZ.out;omega) ff)
 have FIN:=qsd B29.out.1;clear fd fe ff B29
 go_wp2_with fail
 refine F1.out.mono ?_;rintro r u ⟨rfl,hu⟩;rw [hu];clear hu u F1
 go_wp2_with fail
 refine F2.out.mono ?_;rintro r u ⟨rfl,hu⟩;rw [hu];clear hu u F2
 go_wp2_with fail
 refine F3.out.mono ?_;rintro r u ⟨rfl,hu⟩;rw [hu];clear hu u F3
 go_wp2_with fail
 refine F4.out.mono ?_;rintro r u ⟨rfl,hu⟩;rw [hu];clear hu u F4
 go_wp2_with fail
 refine F5.out.mono ?_;rintro r u ⟨rfl,hu⟩;rw [hu];clear hu u F5
 go_wp2_with fail
 refine F6.out.mono ?_;rintro r u ⟨rfl,hu⟩;rw [hu];clear hu u F6;go_wp2;go_ret;exact ⟨rfl,FIN.out⟩
end
end Go.Proofs.YtihjfhpoiheomaaGreatDoor
