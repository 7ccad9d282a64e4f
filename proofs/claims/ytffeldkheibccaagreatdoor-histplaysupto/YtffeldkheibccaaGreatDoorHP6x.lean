import Derived.Test.YtffeldkheibccaaGreatDoorHS2x
import Derived.Test.YtffeldkheibccaaGreatDoorHI10x
import Derived.Test.YtffeldkheibccaaGreatDoorZ9x
import Derived.Laws.OwnMore
set_option linter.unusedVariables false
set_option linter.unusedSimpArgs false
set_option maxHeartbeats 16000000
set_option maxRecDepth 20000
namespace Go.Proofs.YtffeldkheibccaaGreatDoor
namespace J
end J
section
open Go Go.RowKit J
attribute [local go_sem] st_float
theorem lent17_zeros (xs:List Nat) (n:Nat) (hn:n=xs.length):xs++(List.replicate (n+2) 0).drop n=xs++[0,0]:=by
 rw [List.drop_replicate,show n+2-n=2 by omega];rfl
theorem lent17_one (xs:List Nat) (n a b x:Nat) (hn:n=xs.length):(xs++[a,b]).set n x=xs++[x,b]:=by
 rw [List.set_append_right _ _ (by omega),hn,Nat.sub_self];rfl
theorem lent17_two (xs:List Nat) (n a b x:Nat) (hn:n=xs.length):(xs++[a,b]).set (n+1) x=xs++[a,x]:=by
 rw [List.set_append_right _ _ (by omega),hn,show xs.length+1-xs.length=1 by omega];rfl
theorem lent17_get0 (xs:List Nat) (n a b:Nat) (hn:n=xs.length):(xs++[a,b]).getD n 0=a:=by
 rw [List.getD_eq_getElem?_getD,List.getElem?_append_right (by omega),hn,Nat.sub_self];rfl
theorem lent17_get1 (xs:List Nat) (n a b:Nat) (hn:n=xs.length):(xs++[a,b]).getD (n+1) 0=b:=by
 rw [List.getD_eq_getElem?_getD,List.getElem?_append_right (by omega),hn,show xs.length+1-xs.length=1 by omega];rfl
theorem lent17 (xs:List Nat) (ao:Option Addr) (n cap B:Nat) (w:World) (hn:n=xs.length) (hm:n≤17592186043904) (hR:Fs B w ao xs) (hB:B≤w.heap.size) :
 Calls Tryz.prog 10 #[.slice ao n cap] w fun r w'=>r=.returned (.slice (some ⟨w.heap.size,0,none⟩) n (n+2))∧OwnF w' w.heap.size (xs++[4634696597773484032,4634766966517661696])∧Below w.heap.size w w':=by
 obtain ⟨n2,hn2⟩:∃ m,m=n+2:=⟨_,rfl⟩;obtain ⟨n1,hn1⟩:∃ m,m=n+1:=⟨_,rfl⟩;rw [←hn2];have hwn2:IntKind.i64.wrap ((n:Int)+2)=(n2:Int):=wrapY (by omega) (by omega)
 have hwn1:IntKind.i64.wrap ((n:Int)+1)=(n1:Int):=wrapY (by omega) (by omega)
 have hmk:=make_floats (n2:Int) n2 rfl (by omega)
 obtain ⟨W,hW⟩:∃ W,W=w.alloc (.cells (madeCells #[.float .f64 0] n2) 41):=⟨_,rfl⟩;obtain ⟨g,hg⟩:∃ g,g=w.heap.size:=⟨_,rfl⟩;have hmk':(Instr.makeSlice 22 (.int .i64 (n2:Nat)) (.int .i64 (n2:Nat))).run Tryz.prog w=.ok (.slice (some ⟨g,0,none⟩) n2 n2) W:=by rw [hg,hW];exact hmk w
 have hO:OwnF W g (List.replicate n2 0):=by rw [hW,hg];exact OwnF.made w n2
 have hb:Below w.heap.size w W:=by rw [hW];exact below_alloc _ _
 obtain ⟨w2,hcp,hO2,hbut⟩:=copy_floats W g n2 n2 ao n cap B 3 (List.replicate n2 0) xs hO (by simp) hn (hR.below (hb.mono hB)) (by omega)
 rw [hn2,lent17_zeros xs n hn] at hO2;have hlen:∀ a b:Nat,(xs++[a,b]).length=n2:=fun a b=>by simp;omega
 have l0:=hO2.cell n (by rw [hlen];omega)
 have f0:=hO2.frozen n;obtain ⟨W3,hW3⟩:∃ V,V=w2.setCell ⟨g,n,none⟩ (.float .f64 4634696597773484032):=⟨_,rfl⟩;have hO3:OwnF W3 g (xs++[4634696597773484032,0]):=by rw [hW3,←lent17_one xs n 0 0 _ hn];exact hO2.set n _
 have l1:=hO3.cell n1 (by rw [hlen];omega)
 have f1:=hO3.frozen n1;obtain ⟨W4,hW4⟩:∃ V,V=W3.setCell ⟨g,n1,none⟩ (.float .f64 4634766966517661696):=⟨_,rfl⟩;have hO4:OwnF W4 g (xs++[4634696597773484032,4634766966517661696]):=by rw [hW4,hn1,←lent17_two xs n 4634696597773484032 0 _ hn];exact hO3.set (n+1) _
 have hbt:But g W W4:=by rw [hW4,hW3];exact (hbut.set n _).set n1 _
 have HF:Aside (OwnF W4 w.heap.size (xs++[4634696597773484032,4634766966517661696])∧Below w.heap.size w W4):=by
  refine ⟨by rw [←hg];exact hO4,But.below hb hbt hb.size (by rw [hg];exact Nat.le_refl _)⟩
 obtain ⟨y0,hy0⟩:∃ y,y=(xs++[0,0]).getD n 0:=⟨_,rfl⟩;obtain ⟨y1,hy1⟩:∃ y,y=(xs++[4634696597773484032,0]).getD n1 0:=⟨_,rfl⟩;rw [←hy0] at l0;rw [←hy1] at l1;have H3:=qsd hW3;have H4:=qsd hW4;have HG:=qsd hg;have b0:(n:Int)<(n2:Int):=by omega
 have b1:(n1:Int)<(n2:Int):=by omega
 have b2:(n:Int)≤(n2:Int):=by omega
 have b3:n≤n2:=by omega
 clear hmk hO hb hO2 hbut hO3 hO4 hbt hW hW3 hW4 hg hR hB hn hn1 hn2 hy0 hy1 hlen;go_enter Tryz.func10,Tryz.ntmps10
 go_upto_region 4 with fail
 rw [←H3.out];clear H3 l0 f0
 go_upto_region 5 with fail
 rw [←H4.out];clear H4 l1 f1;go_wp2;go_ret;exact ⟨by rw [HG.out];rfl,HF.out⟩
end
section
open Go Go.RowKit J
attribute [local go_sem] st_float B.f64bits
theorem getD_drop17 {L M:List Nat}{k:Nat}(h:L.drop k=M.drop k):L.getD k 0=M.getD k 0:=by
 have e:=congrArg (fun l=>l[0]?) h
 simp only [List.getElem?_drop,Nat.add_zero] at e;rw [List.getD_eq_getElem?_getD,List.getD_eq_getElem?_getD,e]
theorem drop_set17 {L M:List Nat}{k x:Nat}(h:L.drop k=M.drop k):(L.set k x).drop (k+1)=M.drop (k+1):=by
 rw [List.drop_set_of_lt (by omega),←List.drop_drop,←List.drop_drop,h]
end
section
open Go Go.RowKit J
structure At17 where
 g:Nat
 gE:Nat
 gC:Nat
 cE:Nat
 r:Nat
 rE:Nat
 rC:Nat
 dE:Nat
structure Pq17 (w:World) (lo hi:Nat) (a:At17) (E:List Nat) (s:Hs):Prop where
 h:Hm w a.g a.gE a.gC a.cE E s
 m:Rm w a.r a.rE a.rC a.dE E s
 i1:lo≤a.g∧a.g<hi∧lo≤a.gE∧a.gE<hi∧lo≤a.gC∧a.gC<hi
 i2:lo≤a.r∧a.r<hi∧lo≤a.rE∧a.rE<hi∧lo≤a.rC∧a.rC<hi
 a1:a.r≠a.g∧a.r≠a.gC
 a2:a.rC≠a.g∧a.rC≠a.gC
 a3:a.rE≠a.g∧a.rE≠a.gC
 a4:a.gE≠a.r∧a.gE≠a.rC
theorem Pq17.below {w u:World}{lo hi:Nat}{a:At17}{E:List Nat}{s:Hs}(p:Pq17 w lo hi a E s) (hb:Below w.heap.size w u):Pq17 u lo hi a E s :=
 { p with h:=p.h.below hb,m:=p.m.below hb }
theorem Pq17.mid {w u:World}{lo hi:Nat}{a:At17}{E:List Nat}{s:Hs}(p:Pq17 w lo hi a E s) (hb:But2 a.g a.gC w u):Rm u a.r a.rE a.rC a.dE E s :=
 p.m.keep hb p.a1 p.a2 p.a3
theorem Pq17.past {w u v:World}{lo hi:Nat}{a:At17}{E:List Nat}{s t:Hs}(p:Pq17 w lo hi a E s) (h:Hm u a.g a.gE a.gC a.cE E t) (m:Rm v a.r a.rE a.rC a.dE E t) (hb:But2 a.r a.rC u v):Pq17 v lo hi a E t :=
 { p with h:=h.keep hb ⟨fun e=>p.a1.1 e.symm,fun e=>p.a2.1 e.symm⟩ ⟨fun e=>p.a1.2 e.symm,fun e=>p.a2.2 e.symm⟩ p.a4,m:=m }
theorem Pq17.other {w u:World}{lo hi x y:Nat}{a:At17}{E:List Nat}{s:Hs}(p:Pq17 w lo hi a E s) (hb:But2 x y w u) (hx:x<lo∨hi≤x) (hy:y<lo∨hi≤y):Pq17 u lo hi a E s:=by
 have i1:=p.i1;have i2:=p.i2
 exact { p with
  h:=p.h.keep hb ⟨by omega,by omega⟩ ⟨by omega,by omega⟩ ⟨by omega,by omega⟩
  m:=p.m.keep hb ⟨by omega,by omega⟩ ⟨by omega,by omega⟩ ⟨by omega,by omega⟩ }
structure Dq17 (w:World) (lo mi hi:Nat) (a b:At17) (E F:List Nat) (s t:Hs):Prop where
 p:Pq17 w lo mi a E s
 q:Pq17 w mi hi b F t
theorem Dq17.below {w u:World}{lo mi hi:Nat}{a b:At17}{E F:List Nat}{s t:Hs}(d:Dq17 w lo mi hi a b E F s t) (hb:Below w.heap.size w u):Dq17 u lo mi hi a b E F s t:=⟨d.p.below hb,d.q.below hb⟩
theorem Dq17.fst {w u v:World}{lo mi hi:Nat}{a b:At17}{E F:List Nat}{s t s':Hs}(d:Dq17 w lo mi hi a b E F s t) (h:Hm u a.g a.gE a.gC a.cE E s') (hb:But2 a.g a.gC w u) (m:Rm v a.r a.rE a.rC a.dE E s') (hb2:But2 a.r a.rC u v):Dq17 v lo mi hi a b E F s' t:=by
 have i1:=d.p.i1;have i2:=d.p.i2;exact ⟨d.p.past h m hb2,(d.q.other hb (by omega) (by omega)).other hb2 (by omega) (by omega)⟩
theorem Dq17.snd {w u v:World}{lo mi hi:Nat}{a b:At17}{E F:List Nat}{s t t':Hs}(d:Dq17 w lo mi hi a b E F s t) (h:Hm u b.g b.gE b.gC b.cE F t') (hb:But2 b.g b.gC w u) (m:Rm v b.r b.rE b.rC b.dE F t') (hb2:But2 b.r b.rC u v):Dq17 v lo mi hi a b E F s t':=by
 have i1:=d.q.i1;have i2:=d.q.i2;exact ⟨(d.p.other hb (by omega) (by omega)).other hb2 (by omega) (by omega),d.q.past h m hb2⟩
end
section
open Go Go.RowKit J
attribute [local go_sem] st_float
structure Wd17 (w:World) (gw gh gr ch cr:Nat) (told:Value) (a b:At17):Prop where
 bl:Bl w gw 30 [.slice (some ⟨gh,0,none⟩) 2 ch,.slice (some ⟨gr,0,none⟩) 2 cr,told]
 h0:w.cell? ⟨gh,0,none⟩=some (.pointer (some ⟨a.g,0,none⟩))
 h1:w.cell? ⟨gh,1,none⟩=some (.pointer (some ⟨b.g,0,none⟩))
 r0:w.cell? ⟨gr,0,none⟩=some (.pointer (some ⟨a.r,0,none⟩))
 r1:w.cell? ⟨gr,1,none⟩=some (.pointer (some ⟨b.r,0,none⟩))
 lh:gh<w.heap.size
 lr:gr<w.heap.size
theorem Wd17.below {w u:World}{gw gh gr ch cr:Nat}{told:Value}{a b:At17}(h:Wd17 w gw gh gr ch cr told a b) (hb:Below w.heap.size w u):Wd17 u gw gh gr ch cr told a b where
 bl:=h.bl.below hb h.bl.lt
 h0:=(World.cell?_of_block (a:=⟨gh,0,none⟩) (hb.block gh h.lh)).trans h.h0
 h1:=(World.cell?_of_block (a:=⟨gh,1,none⟩) (hb.block gh h.lh)).trans h.h1
 r0:=(World.cell?_of_block (a:=⟨gr,0,none⟩) (hb.block gr h.lr)).trans h.r0
 r1:=(World.cell?_of_block (a:=⟨gr,1,none⟩) (hb.block gr h.lr)).trans h.r1
 lh:=Nat.lt_of_lt_of_le h.lh hb.size
 lr:=Nat.lt_of_lt_of_le h.lr hb.size
theorem Wd17.but2 {w u:World}{gw gh gr ch cr x y:Nat}{told:Value}{a b:At17}(h:Wd17 w gw gh gr ch cr told a b) (hb:But2 x y w u) (q1:gw≠x∧gw≠y) (q2:gh≠x∧gh≠y) (q3:gr≠x∧gr≠y):Wd17 u gw gh gr ch cr told a b where
 bl:=by have:=h.bl;unfold Bl at this ⊢;rw [hb.block gw (Array.getElem?_eq_some_iff.1 this).1 q1.1 q1.2];exact this
 h0:=(World.cell?_of_block (a:=⟨gh,0,none⟩) (hb.block gh h.lh q2.1 q2.2)).trans h.h0
 h1:=(World.cell?_of_block (a:=⟨gh,1,none⟩) (hb.block gh h.lh q2.1 q2.2)).trans h.h1
 r0:=(World.cell?_of_block (a:=⟨gr,0,none⟩) (hb.block gr h.lr q3.1 q3.2)).trans h.r0
 r1:=(World.cell?_of_block (a:=⟨gr,1,none⟩) (hb.block gr h.lr q3.1 q3.2)).trans h.r1
 lh:=Nat.lt_of_lt_of_le h.lh hb.size
 lr:=Nat.lt_of_lt_of_le h.lr hb.size
abbrev opO17 (kd z:Int) (x:Nat):Obj:=Obj.cells #[.int .i64 kd,.int .i64 z,.float .f64 x] 44
theorem op_new17 (w:World) (kd z:Int) (x:Nat):Bl (w.alloc (opO17 kd z x)) w.heap.size 44 [.int .i64 kd,.int .i64 z,.float .f64 x]:=Bl.new _ _ [_,_,_]
theorem and_one17 (z:Int):bits .and .i64 z 1=0∨bits .and .i64 z 1=1:=by
 have hv:(BitVec.ofInt 64 z &&& 1#64).toNat<2:=by
  rw [BitVec.toNat_and,show (1#64).toNat=1 from rfl,Nat.and_one_is_mod]
  omega
 have key:∀ v:Nat,v<2→IntKind.i64.wrap (v:Int)=0∨IntKind.i64.wrap (v:Int)=1:=fun v hv=>by
  rw [IntKind.wrap_i64];omega
 exact key _ hv
structure Kp17 (lo hi gw:Nat) (w w':World):Prop where
 os:w'.os=w.os
 tape:w'.tape=w.tape
 output:w'.output=w.output
 size:w.heap.size≤w'.heap.size
 block:∀ k,k<w.heap.size→(k<lo∨hi≤k)→k≠gw→w'.heap[k]?=w.heap[k]?
theorem Kp17.trans {lo hi gw:Nat}{a b c:World}(p:Kp17 lo hi gw a b) (q:Kp17 lo hi gw b c):Kp17 lo hi gw a c :=
 ⟨q.os.trans p.os,q.tape.trans p.tape,q.output.trans p.output,Nat.le_trans p.size q.size,fun k hk h1 h2=>(q.block k (Nat.lt_of_lt_of_le hk p.size) h1 h2).trans (p.block k hk h1 h2)⟩
theorem Kp17.ofBelow {lo hi gw:Nat}{a b:World}(h:Below a.heap.size a b):Kp17 lo hi gw a b:=⟨h.os,h.tape,h.output,h.size,fun k hk _ _=>h.block k hk⟩
theorem Kp17.ofBut {lo hi gw x y:Nat}{a b:World}(h:But2 x y a b) (hx:lo≤x∧x<hi) (hy:lo≤y∧y<hi):Kp17 lo hi gw a b :=
 ⟨h.os,h.tape,h.output,h.size,fun k hk h1 _=>h.block k hk (by omega) (by omega)⟩
end
section
open Go Go.RowKit J
attribute [local go_sem] st_float
theorem stepAdd0 {w:World}{gw gh gr ch cr lo mi hi x:Nat}{z:Int}{told:Value}{a b:At17}{E F:List Nat}{s t:Hs}(h:Wd17 w gw gh gr ch cr told a b) (d:Dq17 w lo mi hi a b E F s t) (hx:x<18446744073709551616) (hz:bits .and .i64 z 1=0)
 (k1:gw<lo) (k2:gh≠a.g∧gh≠a.gC∧gh≠a.r∧gh≠a.rC∧gh≠b.g∧gh≠b.gC∧gh≠b.r∧gh≠b.rC∧gh<hi) (k3:gr≠a.g∧gr≠a.gC∧gr≠a.r∧gr≠a.rC∧gr≠b.g∧gr≠b.gC∧gr≠b.r∧gr≠b.rC∧gr<hi) (k4:lo≤mi∧mi≤hi∧hi≤w.heap.size) :
 Calls Tryz.prog 14 #[.pointer (some ⟨gw,0,none⟩),.agg #[.int .i64 1,.int .i64 z,.float .f64 x]] w fun r w'=>r=.returned (.bool true)∧Wd17 w' gw gh gr ch cr told a b∧(∃ s':Hs,Dq17 w' lo mi hi a b E F s' t)∧Kp17 lo hi gw w w':=by
 obtain ⟨W,hW⟩:∃ W,W=w.alloc (opO17 1 z x):=⟨_,rfl⟩;obtain ⟨go,hgo⟩:∃ g,g=w.heap.size:=⟨_,rfl⟩;have hB:Bl W go 44 [.int .i64 1,.int .i64 z,.float .f64 x]:=by rw [hW,hgo];exact op_new17 w 1 z x
 have hb:Below w.heap.size w W:=by rw [hW];exact below_alloc _ _
 have h2:=h.below hb;have d2:=d.below hb;have C:=hid (Add17 d2.p.h hx);have i1:=d.p.i1;have i2:=d.p.i2;have o0:=hB.cell 0 _ rfl;have o1:=hB.cell 1 _ rfl;have o2:=hB.cell 2 _ rfl;have y0:=h2.bl.cell 0 _ rfl;have y1:=h2.bl.cell 1 _ rfl;have yh:=h2.h0;have yr:=h2.r0;have HH:=(qsd (ai h2 (ai d2 (ai hB (ai hb hgo)))));have HW:Aside (w.alloc (opO17 1 z x)=W∧w.heap.size=go):=⟨hW.symm,hgo.symm⟩;have k5:hi≤go:=by omega
 clear h d h2 d2 hB hb hW hgo;go_enter Tryz.func14,Tryz.ntmps14
 go_upto_region 1 with fail
 rw [HW.out.1,HW.out.2];clear HW
 go_wp2_with fail
 refine C.out.mono ?_;rintro r u ⟨rfl,hm,hbt⟩;clear C o0 o1 o2 y0 y1 yh yr
 have hB2:Bl u go 44 [.int .i64 1,.int .i64 z,.float .f64 x]:=by
  have:=HH.out.2.2.1;unfold Bl at this ⊢;rw [hbt.block go (Array.getElem?_eq_some_iff.1 this).1 (by omega) (by omega)];exact this
 have o2:=hB2.cell 2 _ rfl;have hr2:=HH.out.2.1.p.mid hbt;have C:=hid (rAdd17 hr2 hx);obtain ⟨er,her⟩:∃ e:Int,e=(if 1099511627776≤s.all then 2 else 0):=⟨_,rfl⟩
 obtain ⟨S,hS⟩:∃ S:Hs,S=(if 1099511627776≤s.all then s else s.put E x):=⟨_,rfl⟩
 rw [←her,←hS] at C;rw [←hS] at hm;rw [←her];have HM:=(qsd (ai hm hbt));have de:((er:Int)==er)=true:=by simp
 clear hm hbt hr2 hS her hB2
 go_wp2_with fail
 refine C.out.mono ?_;rintro r v ⟨rfl,hm2,hbt2⟩;have HV:=(qsd (ai hm2 hbt2));clear C hm2 hbt2 o2;go_wp2;refine bodyPost_ret (v:=.bool true) (by simp [results,Tryz.results14,go_sem]) rfl ?_
 refine ⟨rfl,?_,⟨S,HH.out.2.1.fst HM.out.1 HM.out.2 HV.out.1 HV.out.2⟩,?_⟩
 · exact (HH.out.1.but2 HM.out.2 ⟨by omega,by omega⟩ ⟨by omega,by omega⟩ ⟨by omega,by omega⟩).but2 HV.out.2 ⟨by omega,by omega⟩ ⟨by omega,by omega⟩ ⟨by omega,by omega⟩
 · exact ((Kp17.ofBelow HH.out.2.2.2.1).trans (Kp17.ofBut HM.out.2 (by omega) (by omega))).trans (Kp17.ofBut HV.out.2 (by omega) (by omega))
theorem stepAdd1 {w:World}{gw gh gr ch cr lo mi hi x:Nat}{z:Int}{told:Value}{a b:At17}{E F:List Nat}{s t:Hs}(h:Wd17 w gw gh gr ch cr told a b) (d:Dq17 w lo mi hi a b E F s t) (hx:x<18446744073709551616) (hz:bits .and .i64 z 1=1)
 (k1:gw<lo) (k2:gh≠a.g∧gh≠a.gC∧gh≠a.r∧gh≠a.rC∧gh≠b.g∧gh≠b.gC∧gh≠b.r∧gh≠b.rC∧gh<hi) (k3:gr≠a.g∧gr≠a.gC∧gr≠a.r∧gr≠a.rC∧gr≠b.g∧gr≠b.gC∧gr≠b.r∧gr≠b.rC∧gr<hi) (k4:lo≤mi∧mi≤hi∧hi≤w.heap.size) :
 Calls Tryz.prog 14 #[.pointer (some ⟨gw,0,none⟩),.agg #[.int .i64 1,.int .i64 z,.float .f64 x]] w fun r w'=>r=.returned (.bool true)∧Wd17 w' gw gh gr ch cr told a b∧(∃ s':Hs,Dq17 w' lo mi hi a b E F s s')∧Kp17 lo hi gw w w':=by
 obtain ⟨W,hW⟩:∃ W,W=w.alloc (opO17 1 z x):=⟨_,rfl⟩;obtain ⟨go,hgo⟩:∃ g,g=w.heap.size:=⟨_,rfl⟩;have hB:Bl W go 44 [.int .i64 1,.int .i64 z,.float .f64 x]:=by rw [hW,hgo];exact op_new17 w 1 z x
 have hb:Below w.heap.size w W:=by rw [hW];exact below_alloc _ _
 have h2:=h.below hb;have d2:=d.below hb;have C:=hid (Add17 d2.q.h hx);have i1:=d.q.i1;have i2:=d.q.i2;have o0:=hB.cell 0 _ rfl;have o1:=hB.cell 1 _ rfl;have o2:=hB.cell 2 _ rfl;have y0:=h2.bl.cell 0 _ rfl;have y1:=h2.bl.cell 1 _ rfl;have yh:=h2.h1;have yr:=h2.r1;have HH:=(qsd (ai h2 (ai d2 (ai hB (ai hb hgo)))));have HW:Aside (w.alloc (opO17 1 z x)=W∧w.heap.size=go):=⟨hW.symm,hgo.symm⟩;have k5:hi≤go:=by omega
 clear h d h2 d2 hB hb hW hgo;go_enter Tryz.func14,Tryz.ntmps14
 go_upto_region 1 with fail
 rw [HW.out.1,HW.out.2];clear HW
 go_wp2_with fail
 refine C.out.mono ?_;rintro r u ⟨rfl,hm,hbt⟩;clear C o0 o1 o2 y0 y1 yh yr
 have hB2:Bl u go 44 [.int .i64 1,.int .i64 z,.float .f64 x]:=by
  have:=HH.out.2.2.1;unfold Bl at this ⊢;rw [hbt.block go (Array.getElem?_eq_some_iff.1 this).1 (by omega) (by omega)];exact this
 have o2:=hB2.cell 2 _ rfl;have hr2:=HH.out.2.1.q.mid hbt;have C:=hid (rAdd17 hr2 hx);obtain ⟨er,her⟩:∃ e:Int,e=(if 1099511627776≤t.all then 2 else 0):=⟨_,rfl⟩
 obtain ⟨S,hS⟩:∃ S:Hs,S=(if 1099511627776≤t.all then t else t.put F x):=⟨_,rfl⟩
 rw [←her,←hS] at C;rw [←hS] at hm;rw [←her];have HM:=(qsd (ai hm hbt));have de:((er:Int)==er)=true:=by simp
 clear hm hbt hr2 hS her hB2
 go_wp2_with fail
 refine C.out.mono ?_;rintro r v ⟨rfl,hm2,hbt2⟩;have HV:=(qsd (ai hm2 hbt2));clear C hm2 hbt2 o2;go_wp2;refine bodyPost_ret (v:=.bool true) (by simp [results,Tryz.results14,go_sem]) rfl ?_
 refine ⟨rfl,?_,⟨S,HH.out.2.1.snd HM.out.1 HM.out.2 HV.out.1 HV.out.2⟩,?_⟩
 · exact (HH.out.1.but2 HM.out.2 ⟨by omega,by omega⟩ ⟨by omega,by omega⟩ ⟨by omega,by omega⟩).but2 HV.out.2 ⟨by omega,by omega⟩ ⟨by omega,by omega⟩ ⟨by omega,by omega⟩
 · exact ((Kp17.ofBelow HH.out.2.2.2.1).trans (Kp17.ofBut HM.out.2 (by omega) (by omega))).trans (Kp17.ofBut HV.out.2 (by omega) (by omega))
end
section
open Go Go.RowKit J
attribute [local go_sem] st_float
theorem stepMerge0 {w:World}{gw gh gr ch cr lo mi hi x:Nat}{z:Int}{told:Value}{a b:At17}{E F:List Nat}{s t:Hs}(h:Wd17 w gw gh gr ch cr told a b) (d:Dq17 w lo mi hi a b E F s t) (hz:bits .and .i64 z 1=0)
 (k1:gw<lo) (k2:gh≠a.g∧gh≠a.gC∧gh≠a.r∧gh≠a.rC∧gh≠b.g∧gh≠b.gC∧gh≠b.r∧gh≠b.rC∧gh<hi) (k3:gr≠a.g∧gr≠a.gC∧gr≠a.r∧gr≠a.rC∧gr≠b.g∧gr≠b.gC∧gr≠b.r∧gr≠b.rC∧gr<hi) (k4:lo≤mi∧mi≤hi∧hi≤w.heap.size) :
 Calls Tryz.prog 14 #[.pointer (some ⟨gw,0,none⟩),.agg #[.int .i64 2,.int .i64 z,.float .f64 x]] w fun r w'=>r=.returned (.bool true)∧Wd17 w' gw gh gr ch cr told a b∧(∃ s':Hs,Dq17 w' lo mi hi a b E F s' t)∧Kp17 lo hi gw w w':=by
 obtain ⟨W,hW⟩:∃ W,W=w.alloc (opO17 2 z x):=⟨_,rfl⟩;obtain ⟨go,hgo⟩:∃ g,g=w.heap.size:=⟨_,rfl⟩;have hB:Bl W go 44 [.int .i64 2,.int .i64 z,.float .f64 x]:=by rw [hW,hgo];exact op_new17 w 2 z x
 have hb:Below w.heap.size w W:=by rw [hW];exact below_alloc _ _
 have h2:=h.below hb;have d2:=d.below hb;have i1:=d.p.i1;have i2:=d.p.i2;have j1:=d.q.i1;have j2:=d.q.i2;have C:=hid (Merge17 d2.p.h d2.q.h ⟨by omega,by omega⟩ ⟨by omega,by omega⟩ ⟨by omega,by omega⟩)
 have o0:=hB.cell 0 _ rfl;have o1:=hB.cell 1 _ rfl;have y0:=h2.bl.cell 0 _ rfl;have y1:=h2.bl.cell 1 _ rfl;have yh:=h2.h0;have yr:=h2.r0;have yo:=h2.h1;have wo0:IntKind.i64.wrap (1-0)=1:=by rw [IntKind.wrap_i64];omega
 have wo1:IntKind.i64.wrap (1-1)=0:=by rw [IntKind.wrap_i64];omega
 have HH:=(qsd (ai h2 (ai d2 (ai hB (ai hb hgo)))));have HW:Aside (w.alloc (opO17 2 z x)=W∧w.heap.size=go):=⟨hW.symm,hgo.symm⟩;have k5:hi≤go:=by omega
 clear h d h2 d2 hB hb hW hgo;go_enter Tryz.func14,Tryz.ntmps14
 go_upto_region 1 with fail
 rw [HW.out.1,HW.out.2];clear HW
 go_wp2_with fail
 refine C.out.mono ?_;rintro r u ⟨rfl,hm,hbt⟩;clear C o0 o1 y0 y1 yh yr yo;have h3:=HH.out.1.but2 hbt ⟨by omega,by omega⟩ ⟨by omega,by omega⟩ ⟨by omega,by omega⟩
 have y1:=h3.bl.cell 1 _ rfl;have yo:=h3.r1;have hr2:=HH.out.2.1.p.mid hbt;have C:=hid (rMerge17 hr2 (HH.out.2.1.q.other hbt (by omega) (by omega)).m ⟨by omega,by omega⟩ ⟨by omega,by omega⟩ ⟨by omega,by omega⟩)
 obtain ⟨er,her⟩:∃ e:Int,e=(if ¬ E.map sP=F.map sP then 170 else if 1099511627776<s.all+t.all then 2 else 0):=⟨_,rfl⟩
 obtain ⟨S,hS⟩:∃ S:Hs,S=(if ¬ E.map sP=F.map sP then s else if 1099511627776<s.all+t.all then s else s.mrg t):=⟨_,rfl⟩
 rw [←her,←hS] at C;rw [←hS] at hm;rw [←her];have HM:=(qsd (ai hm hbt));have de:((er:Int)==er)=true:=by simp
 have H3:=qsd h3;clear hm hbt hr2 hS her h3
 go_wp2_with fail
 refine C.out.mono ?_;rintro r v ⟨rfl,hm2,hbt2⟩;have HV:=(qsd (ai hm2 hbt2));clear C hm2 hbt2 y1 yo;go_wp2;refine bodyPost_ret (v:=.bool true) (by simp [results,Tryz.results14,go_sem]) rfl ?_
 refine ⟨rfl,?_,⟨S,HH.out.2.1.fst HM.out.1 HM.out.2 HV.out.1 HV.out.2⟩,?_⟩
 · exact H3.out.but2 HV.out.2 ⟨by omega,by omega⟩ ⟨by omega,by omega⟩ ⟨by omega,by omega⟩
 · exact ((Kp17.ofBelow HH.out.2.2.2.1).trans (Kp17.ofBut HM.out.2 (by omega) (by omega))).trans (Kp17.ofBut HV.out.2 (by omega) (by omega))
theorem stepSelf0 {w:World}{gw gh gr ch cr lo mi hi x:Nat}{z:Int}{told:Value}{a b:At17}{E F:List Nat}{s t:Hs}(h:Wd17 w gw gh gr ch cr told a b) (d:Dq17 w lo mi hi a b E F s t) (hz:bits .and .i64 z 1=0)
 (k1:gw<lo) (k2:gh≠a.g∧gh≠a.gC∧gh≠a.r∧gh≠a.rC∧gh≠b.g∧gh≠b.gC∧gh≠b.r∧gh≠b.rC∧gh<hi) (k3:gr≠a.g∧gr≠a.gC∧gr≠a.r∧gr≠a.rC∧gr≠b.g∧gr≠b.gC∧gr≠b.r∧gr≠b.rC∧gr<hi) (k4:lo≤mi∧mi≤hi∧hi≤w.heap.size) :
 Calls Tryz.prog 14 #[.pointer (some ⟨gw,0,none⟩),.agg #[.int .i64 3,.int .i64 z,.float .f64 x]] w fun r w'=>r=.returned (.bool true)∧Wd17 w' gw gh gr ch cr told a b∧(∃ s':Hs,Dq17 w' lo mi hi a b E F s' t)∧Kp17 lo hi gw w w':=by
 obtain ⟨W,hW⟩:∃ W,W=w.alloc (opO17 3 z x):=⟨_,rfl⟩;obtain ⟨go,hgo⟩:∃ g,g=w.heap.size:=⟨_,rfl⟩;have hB:Bl W go 44 [.int .i64 3,.int .i64 z,.float .f64 x]:=by rw [hW,hgo];exact op_new17 w 3 z x
 have hb:Below w.heap.size w W:=by rw [hW];exact below_alloc _ _
 have h2:=h.below hb;have d2:=d.below hb;have i1:=d.p.i1;have i2:=d.p.i2;have j1:=d.q.i1;have j2:=d.q.i2;have C:=hid (MergeSelf17 d2.p.h);have o0:=hB.cell 0 _ rfl;have o1:=hB.cell 1 _ rfl;have y0:=h2.bl.cell 0 _ rfl;have y1:=h2.bl.cell 1 _ rfl;have yh:=h2.h0;have yr:=h2.r0;have yo:=h2.h1;have wo0:IntKind.i64.wrap (1-0)=1:=by rw [IntKind.wrap_i64];omega
 have wo1:IntKind.i64.wrap (1-1)=0:=by rw [IntKind.wrap_i64];omega
 have HH:=(qsd (ai h2 (ai d2 (ai hB (ai hb hgo)))));have HW:Aside (w.alloc (opO17 3 z x)=W∧w.heap.size=go):=⟨hW.symm,hgo.symm⟩;have k5:hi≤go:=by omega
 clear h d h2 d2 hB hb hW hgo;go_enter Tryz.func14,Tryz.ntmps14
 go_upto_region 1 with fail
 rw [HW.out.1,HW.out.2];clear HW
 go_wp2_with fail
 refine C.out.mono ?_;rintro r u ⟨rfl,hm,hbt⟩;clear C o0 o1 y0 y1 yh yr yo;have h3:=HH.out.1.but2 hbt ⟨by omega,by omega⟩ ⟨by omega,by omega⟩ ⟨by omega,by omega⟩
 have y1:=h3.bl.cell 1 _ rfl;have yo:=h3.r1;have hr2:=HH.out.2.1.p.mid hbt;have C:=hid (rMergeSelf17 hr2);obtain ⟨er,her⟩:∃ e:Int,e=(if 1099511627776<s.all+s.all then 2 else 0):=⟨_,rfl⟩
 obtain ⟨S,hS⟩:∃ S:Hs,S=(if 1099511627776<s.all+s.all then s else s.mrg s):=⟨_,rfl⟩
 rw [←her,←hS] at C;rw [←hS] at hm;rw [←her];have HM:=(qsd (ai hm hbt));have de:((er:Int)==er)=true:=by simp
 have H3:=qsd h3;clear hm hbt hr2 hS her h3
 go_wp2_with fail
 refine C.out.mono ?_;rintro r v ⟨rfl,hm2,hbt2⟩;have HV:=(qsd (ai hm2 hbt2));clear C hm2 hbt2 y1 yo;go_wp2;refine bodyPost_ret (v:=.bool true) (by simp [results,Tryz.results14,go_sem]) rfl ?_
 refine ⟨rfl,?_,⟨S,HH.out.2.1.fst HM.out.1 HM.out.2 HV.out.1 HV.out.2⟩,?_⟩
 · exact H3.out.but2 HV.out.2 ⟨by omega,by omega⟩ ⟨by omega,by omega⟩ ⟨by omega,by omega⟩
 · exact ((Kp17.ofBelow HH.out.2.2.2.1).trans (Kp17.ofBut HM.out.2 (by omega) (by omega))).trans (Kp17.ofBut HV.out.2 (by omega) (by omega))
theorem stepMerge1 {w:World}{gw gh gr ch cr lo mi hi x:Nat}{z:Int}{told:Value}{a b:At17}{E F:List Nat}{s t:Hs}(h:Wd17 w gw gh gr ch cr told a b) (d:Dq17 w lo mi hi a b E F s t) (hz:bits .and .i64 z 1=1)
 (k1:gw<lo) (k2:gh≠a.g∧gh≠a.gC∧gh≠a.r∧gh≠a.rC∧gh≠b.g∧gh≠b.gC∧gh≠b.r∧gh≠b.rC∧gh<hi) (k3:gr≠a.g∧gr≠a.gC∧gr≠a.r∧gr≠a.rC∧gr≠b.g∧gr≠b.gC∧gr≠b.r∧gr≠b.rC∧gr<hi) (k4:lo≤mi∧mi≤hi∧hi≤w.heap.size) :
 Calls Tryz.prog 14 #[.pointer (some ⟨gw,0,none⟩),.agg #[.int .i64 2,.int .i64 z,.float .f64 x]] w fun r w'=>r=.returned (.bool true)∧Wd17 w' gw gh gr ch cr told a b∧(∃ s':Hs,Dq17 w' lo mi hi a b E F s s')∧Kp17 lo hi gw w w':=by
 obtain ⟨W,hW⟩:∃ W,W=w.alloc (opO17 2 z x):=⟨_,rfl⟩;obtain ⟨go,hgo⟩:∃ g,g=w.heap.size:=⟨_,rfl⟩;have hB:Bl W go 44 [.int .i64 2,.int .i64 z,.float .f64 x]:=by rw [hW,hgo];exact op_new17 w 2 z x
 have hb:Below w.heap.size w W:=by rw [hW];exact below_alloc _ _
 have h2:=h.below hb;have d2:=d.below hb;have i1:=d.p.i1;have i2:=d.p.i2;have j1:=d.q.i1;have j2:=d.q.i2;have C:=hid (Merge17 d2.q.h d2.p.h ⟨by omega,by omega⟩ ⟨by omega,by omega⟩ ⟨by omega,by omega⟩)
 have o0:=hB.cell 0 _ rfl;have o1:=hB.cell 1 _ rfl;have y0:=h2.bl.cell 0 _ rfl;have y1:=h2.bl.cell 1 _ rfl;have yh:=h2.h1;have yr:=h2.r1;have yo:=h2.h0;have wo0:IntKind.i64.wrap (1-0)=1:=by rw [IntKind.wrap_i64];omega
 have wo1:IntKind.i64.wrap (1-1)=0:=by rw [IntKind.wrap_i64];omega
 have HH:=(qsd (ai h2 (ai d2 (ai hB (ai hb hgo)))));have HW:Aside (w.alloc (opO17 2 z x)=W∧w.heap.size=go):=⟨hW.symm,hgo.symm⟩;have k5:hi≤go:=by omega
 clear h d h2 d2 hB hb hW hgo;go_enter Tryz.func14,Tryz.ntmps14
 go_upto_region 1 with fail
 rw [HW.out.1,HW.out.2];clear HW
 go_wp2_with fail
 refine C.out.mono ?_;rintro r u ⟨rfl,hm,hbt⟩;clear C o0 o1 y0 y1 yh yr yo;have h3:=HH.out.1.but2 hbt ⟨by omega,by omega⟩ ⟨by omega,by omega⟩ ⟨by omega,by omega⟩
 have y1:=h3.bl.cell 1 _ rfl;have yo:=h3.r0;have hr2:=HH.out.2.1.q.mid hbt;have C:=hid (rMerge17 hr2 (HH.out.2.1.p.other hbt (by omega) (by omega)).m ⟨by omega,by omega⟩ ⟨by omega,by omega⟩ ⟨by omega,by omega⟩)
 obtain ⟨er,her⟩:∃ e:Int,e=(if ¬ F.map sP=E.map sP then 170 else if 1099511627776<t.all+s.all then 2 else 0):=⟨_,rfl⟩
 obtain ⟨S,hS⟩:∃ S:Hs,S=(if ¬ F.map sP=E.map sP then t else if 1099511627776<t.all+s.all then t else t.mrg s):=⟨_,rfl⟩
 rw [←her,←hS] at C;rw [←hS] at hm;rw [←her];have HM:=(qsd (ai hm hbt));have de:((er:Int)==er)=true:=by simp
 have H3:=qsd h3;clear hm hbt hr2 hS her h3
 go_wp2_with fail
 refine C.out.mono ?_;rintro r v ⟨rfl,hm2,hbt2⟩;have HV:=(qsd (ai hm2 hbt2));clear C hm2 hbt2 y1 yo;go_wp2;refine bodyPost_ret (v:=.bool true) (by simp [results,Tryz.results14,go_sem]) rfl ?_
 refine ⟨rfl,?_,⟨S,HH.out.2.1.snd HM.out.1 HM.out.2 HV.out.1 HV.out.2⟩,?_⟩
 · exact H3.out.but2 HV.out.2 ⟨by omega,by omega⟩ ⟨by omega,by omega⟩ ⟨by omega,by omega⟩
 · exact ((Kp17.ofBelow HH.out.2.2.2.1).trans (Kp17.ofBut HM.out.2 (by omega) (by omega))).trans (Kp17.ofBut HV.out.2 (by omega) (by omega))
theorem stepSelf1 {w:World}{gw gh gr ch cr lo mi hi x:Nat}{z:Int}{told:Value}{a b:At17}{E F:List Nat}{s t:Hs}(h:Wd17 w gw gh gr ch cr told a b) (d:Dq17 w lo mi hi a b E F s t) (hz:bits .and .i64 z 1=1)
 (k1:gw<lo) (k2:gh≠a.g∧gh≠a.gC∧gh≠a.r∧gh≠a.rC∧gh≠b.g∧gh≠b.gC∧gh≠b.r∧gh≠b.rC∧gh<hi) (k3:gr≠a.g∧gr≠a.gC∧gr≠a.r∧gr≠a.rC∧gr≠b.g∧gr≠b.gC∧gr≠b.r∧gr≠b.rC∧gr<hi) (k4:lo≤mi∧mi≤hi∧hi≤w.heap.size) :
 Calls Tryz.prog 14 #[.pointer (some ⟨gw,0,none⟩),.agg #[.int .i64 3,.int .i64 z,.float .f64 x]] w fun r w'=>r=.returned (.bool true)∧Wd17 w' gw gh gr ch cr told a b∧(∃ s':Hs,Dq17 w' lo mi hi a b E F s s')∧Kp17 lo hi gw w w':=by
 obtain ⟨W,hW⟩:∃ W,W=w.alloc (opO17 3 z x):=⟨_,rfl⟩;obtain ⟨go,hgo⟩:∃ g,g=w.heap.size:=⟨_,rfl⟩;have hB:Bl W go 44 [.int .i64 3,.int .i64 z,.float .f64 x]:=by rw [hW,hgo];exact op_new17 w 3 z x
 have hb:Below w.heap.size w W:=by rw [hW];exact below_alloc _ _
 have h2:=h.below hb;have d2:=d.below hb;have i1:=d.p.i1;have i2:=d.p.i2;have j1:=d.q.i1;have j2:=d.q.i2;have C:=hid (MergeSelf17 d2.q.h);have o0:=hB.cell 0 _ rfl;have o1:=hB.cell 1 _ rfl;have y0:=h2.bl.cell 0 _ rfl;have y1:=h2.bl.cell 1 _ rfl;have yh:=h2.h1;have yr:=h2.r1;have yo:=h2.h0;have wo0:IntKind.i64.wrap (1-0)=1:=by rw [IntKind.wrap_i64];omega
 have wo1:IntKind.i64.wrap (1-1)=0:=by rw [IntKind.wrap_i64];omega
 have HH:=(qsd (ai h2 (ai d2 (ai hB (ai hb hgo)))));have HW:Aside (w.alloc (opO17 3 z x)=W∧w.heap.size=go):=⟨hW.symm,hgo.symm⟩;have k5:hi≤go:=by omega
 clear h d h2 d2 hB hb hW hgo;go_enter Tryz.func14,Tryz.ntmps14
 go_upto_region 1 with fail
 rw [HW.out.1,HW.out.2];clear HW
 go_wp2_with fail
 refine C.out.mono ?_;rintro r u ⟨rfl,hm,hbt⟩;clear C o0 o1 y0 y1 yh yr yo;have h3:=HH.out.1.but2 hbt ⟨by omega,by omega⟩ ⟨by omega,by omega⟩ ⟨by omega,by omega⟩
 have y1:=h3.bl.cell 1 _ rfl;have yo:=h3.r0;have hr2:=HH.out.2.1.q.mid hbt;have C:=hid (rMergeSelf17 hr2);obtain ⟨er,her⟩:∃ e:Int,e=(if 1099511627776<t.all+t.all then 2 else 0):=⟨_,rfl⟩
 obtain ⟨S,hS⟩:∃ S:Hs,S=(if 1099511627776<t.all+t.all then t else t.mrg t):=⟨_,rfl⟩
 rw [←her,←hS] at C;rw [←hS] at hm;rw [←her];have HM:=(qsd (ai hm hbt));have de:((er:Int)==er)=true:=by simp
 have H3:=qsd h3;clear hm hbt hr2 hS her h3
 go_wp2_with fail
 refine C.out.mono ?_;rintro r v ⟨rfl,hm2,hbt2⟩;have HV:=(qsd (ai hm2 hbt2));clear C hm2 hbt2 y1 yo;go_wp2;refine bodyPost_ret (v:=.bool true) (by simp [results,Tryz.results14,go_sem]) rfl ?_
 refine ⟨rfl,?_,⟨S,HH.out.2.1.snd HM.out.1 HM.out.2 HV.out.1 HV.out.2⟩,?_⟩
 · exact H3.out.but2 HV.out.2 ⟨by omega,by omega⟩ ⟨by omega,by omega⟩ ⟨by omega,by omega⟩
 · exact ((Kp17.ofBelow HH.out.2.2.2.1).trans (Kp17.ofBut HM.out.2 (by omega) (by omega))).trans (Kp17.ofBut HV.out.2 (by omega) (by omega))
end
section
open Go Go.RowKit J
attribute [local go_sem] st_float
theorem stepElse0 {w:World}{gw gh gr ch cr lo mi hi x:Nat}{kd z:Int}{told:Value}{a b:At17}{E F:List Nat}{s t:Hs}(h:Wd17 w gw gh gr ch cr told a b) (d:Dq17 w lo mi hi a b E F s t) (hz:bits .and .i64 z 1=0) (hk:kd≠1∧kd≠2∧kd≠3∧kd≠4∧kd≠5) :
 Calls Tryz.prog 14 #[.pointer (some ⟨gw,0,none⟩),.agg #[.int .i64 kd,.int .i64 z,.float .f64 x]] w fun r w'=>r=.returned (.bool true)∧Below w.heap.size w w':=by
 obtain ⟨W,hW⟩:∃ W,W=w.alloc (opO17 kd z x):=⟨_,rfl⟩;obtain ⟨go,hgo⟩:∃ g,g=w.heap.size:=⟨_,rfl⟩;have hB:Bl W go 44 [.int .i64 kd,.int .i64 z,.float .f64 x]:=by rw [hW,hgo];exact op_new17 w kd z x
 have hb:Below w.heap.size w W:=by rw [hW];exact below_alloc _ _
 have h2:=h.below hb;have d2:=d.below hb;have C:=hid (Outside17 d2.p.h);have o0:=hB.cell 0 _ rfl;have o1:=hB.cell 1 _ rfl;have y0:=h2.bl.cell 0 _ rfl;have y1:=h2.bl.cell 1 _ rfl;have yh:=h2.h0;have yr:=h2.r0;have e1:(kd==1)=false:=by simp [hk.1]
 have e2:(kd==2)=false:=by simp [hk.2.1]
 have e3:(kd==3)=false:=by simp [hk.2.2.1]
 have e4:(kd==4)=false:=by simp [hk.2.2.2.1]
 have e5:(kd==5)=false:=by simp [hk.2.2.2.2]
 have HH:=(qsd (ai h2 (ai d2 (ai hB (ai hb hgo)))));have HW:Aside (w.alloc (opO17 kd z x)=W∧w.heap.size=go):=⟨hW.symm,hgo.symm⟩;clear h d h2 d2 hB hb hW hgo hk;go_enter Tryz.func14,Tryz.ntmps14
 go_upto_region 1 with fail
 rw [HW.out.1,HW.out.2];clear HW
 go_wp2_with fail
 refine C.out.mono ?_;rintro r u ⟨rfl,hbu⟩;clear C o0 o1 y0 y1 yh yr e1 e2 e3 e4 e5;have d3:=HH.out.2.1.below hbu;have c2:=d3.p.m.bl.cell 2 _ rfl;have c3:=d3.p.m.bl.cell 3 _ rfl;have c4:=d3.p.m.bl.cell 4 _ rfl;have CA:=hid (All17 d3.p.h);have CB:=hid (rAll17 d3.p.m);have HB:=(qsd (ai hbu d3));obtain ⟨sb,hsb⟩:∃ n,n=s.b:=⟨_,rfl⟩;obtain ⟨sa,hsa⟩:∃ n,n=s.a:=⟨_,rfl⟩;obtain ⟨so,hso⟩:∃ n,n=s.o:=⟨_,rfl⟩;obtain ⟨sl,hsl⟩:∃ n,n=s.all:=⟨_,rfl⟩;rw [←hsb] at c2 ⊢;rw [←hsa] at c3 ⊢;rw [←hso] at c4 ⊢;rw [←hsl] at CA CB;have q1:((sb:Int)==(sb:Int))=true:=by simp
 have q2:((sa:Int)==(sa:Int))=true:=by simp
 have q3:((so:Int)==(so:Int))=true:=by simp
 have q4:((sl:Int)==(sl:Int))=true:=by simp
 clear hbu d3 hsb hsa hso hsl
 go_wp2_with fail
 refine CA.out.mono ?_;rintro r u2 ⟨rfl,rfl⟩
 go_wp2_with fail
 refine CB.out.mono ?_;rintro r u3 ⟨rfl,k,rfl⟩;clear CA CB c2 c3 c4;go_wp2;refine bodyPost_ret (v:=.bool true) (by simp [results,Tryz.results14,go_sem]) rfl ?_
 exact ⟨rfl,below_drewN17 (HH.out.2.2.2.1.trans (HB.out.1.mono HH.out.2.2.2.1.size)) _⟩
theorem stepElse1 {w:World}{gw gh gr ch cr lo mi hi x:Nat}{kd z:Int}{told:Value}{a b:At17}{E F:List Nat}{s t:Hs}(h:Wd17 w gw gh gr ch cr told a b) (d:Dq17 w lo mi hi a b E F s t) (hz:bits .and .i64 z 1=1) (hk:kd≠1∧kd≠2∧kd≠3∧kd≠4∧kd≠5) :
 Calls Tryz.prog 14 #[.pointer (some ⟨gw,0,none⟩),.agg #[.int .i64 kd,.int .i64 z,.float .f64 x]] w fun r w'=>r=.returned (.bool true)∧Below w.heap.size w w':=by
 obtain ⟨W,hW⟩:∃ W,W=w.alloc (opO17 kd z x):=⟨_,rfl⟩;obtain ⟨go,hgo⟩:∃ g,g=w.heap.size:=⟨_,rfl⟩;have hB:Bl W go 44 [.int .i64 kd,.int .i64 z,.float .f64 x]:=by rw [hW,hgo];exact op_new17 w kd z x
 have hb:Below w.heap.size w W:=by rw [hW];exact below_alloc _ _
 have h2:=h.below hb;have d2:=d.below hb;have C:=hid (Outside17 d2.q.h);have o0:=hB.cell 0 _ rfl;have o1:=hB.cell 1 _ rfl;have y0:=h2.bl.cell 0 _ rfl;have y1:=h2.bl.cell 1 _ rfl;have yh:=h2.h1;have yr:=h2.r1;have e1:(kd==1)=false:=by simp [hk.1]
 have e2:(kd==2)=false:=by simp [hk.2.1]
 have e3:(kd==3)=false:=by simp [hk.2.2.1]
 have e4:(kd==4)=false:=by simp [hk.2.2.2.1]
 have e5:(kd==5)=false:=by simp [hk.2.2.2.2]
 have HH:=(qsd (ai h2 (ai d2 (ai hB (ai hb hgo)))));have HW:Aside (w.alloc (opO17 kd z x)=W∧w.heap.size=go):=⟨hW.symm,hgo.symm⟩;clear h d h2 d2 hB hb hW hgo hk;go_enter Tryz.func14,Tryz.ntmps14
 go_upto_region 1 with fail
 rw [HW.out.1,HW.out.2];clear HW
 go_wp2_with fail
 refine C.out.mono ?_;rintro r u ⟨rfl,hbu⟩;clear C o0 o1 y0 y1 yh yr e1 e2 e3 e4 e5;have d3:=HH.out.2.1.below hbu;have c2:=d3.q.m.bl.cell 2 _ rfl;have c3:=d3.q.m.bl.cell 3 _ rfl;have c4:=d3.q.m.bl.cell 4 _ rfl;have CA:=hid (All17 d3.q.h);have CB:=hid (rAll17 d3.q.m);have HB:=(qsd (ai hbu d3));obtain ⟨sb,hsb⟩:∃ n,n=t.b:=⟨_,rfl⟩;obtain ⟨sa,hsa⟩:∃ n,n=t.a:=⟨_,rfl⟩;obtain ⟨so,hso⟩:∃ n,n=t.o:=⟨_,rfl⟩;obtain ⟨sl,hsl⟩:∃ n,n=t.all:=⟨_,rfl⟩;rw [←hsb] at c2 ⊢;rw [←hsa] at c3 ⊢;rw [←hso] at c4 ⊢;rw [←hsl] at CA CB;have q1:((sb:Int)==(sb:Int))=true:=by simp
 have q2:((sa:Int)==(sa:Int))=true:=by simp
 have q3:((so:Int)==(so:Int))=true:=by simp
 have q4:((sl:Int)==(sl:Int))=true:=by simp
 clear hbu d3 hsb hsa hso hsl
 go_wp2_with fail
 refine CA.out.mono ?_;rintro r u2 ⟨rfl,rfl⟩
 go_wp2_with fail
 refine CB.out.mono ?_;rintro r u3 ⟨rfl,k,rfl⟩;clear CA CB c2 c3 c4;go_wp2;refine bodyPost_ret (v:=.bool true) (by simp [results,Tryz.results14,go_sem]) rfl ?_
 exact ⟨rfl,below_drewN17 (HH.out.2.2.2.1.trans (HB.out.1.mono HH.out.2.2.2.1.size)) _⟩
end
section
open Go Go.RowKit J
theorem Tryz.und_intss17:Tryz.prog.underlying 28=some (.slice 57):=by kernel_rfl
theorem Tryz.info_ints17:(Tryz.prog.info? 57).map (fun i=>(i.zero,i.size,i.bytes))=some (some (.slice none 0 0),1,24):=by kernel_rfl
def Rt17 (lo:Nat) (w:World) (v:Value) (R:List Value):Prop:=w.ownsRow lo 57 1 v R.length R
theorem Rt17.nil (lo:Nat) (w:World):Rt17 lo w (.slice none 0 0) []:=World.ownsRow_nil w lo 57 1
theorem append_t17 (lo:Nat) (v:Value) (K:List Value) (ao:Option Addr) (n c:Nat) (w:World) (hb:Rt17 lo w v K) (hlo:lo≤w.heap.size) (hk:K.length≤10000000) :
 ∃ v' w',(Builtin.append_ #[28,28] 28 #[v,.slice (some ⟨w.heap.size,0,none⟩) 1 1]).run Tryz.prog (w.alloc (.cells #[.slice ao n c] 57))=.ok v' w'∧Rt17 lo w' v' (K++[.slice ao n c])∧(w.alloc (.cells #[.slice ao n c] 57)).grownBy w' v.ownBlock∧(v'.ownBlock=v.ownBlock∨v'.ownBlock=some (w.heap.size+1)):=by
 obtain ⟨i0,hi,hz0,hz1,hz2⟩:=info_parts Tryz.info_ints17;obtain ⟨W,hW⟩:∃ W,W=w.alloc (.cells #[.slice ao n c] 57):=⟨_,rfl⟩;have hcx:W.cell? ⟨w.heap.size,0,none⟩=some (.slice ao n c):=by subst hW;unfold World.cell?;simp only [heap_alloc_new];rfl
 have hWb:W.ownsRow lo 57 1 v K.length K:=by subst hW;exact World.ownsRow.alloc hb _
 have hWs:W.heap.size=w.heap.size+1:=by subst hW;simp
 obtain ⟨v',w',r1,r2,r3,_,r5⟩:=run_append_own_at (P:=Tryz.prog) W lo 28 28 57 i0 (.slice none 0 0) 1 24 Tryz.und_intss17 hi hz0 hz1 hz2 rfl (by decide) v K.length K hWb ⟨w.heap.size,0,none⟩ 1 1 [.slice ao n c] rfl (by
  intro j u hj
  match j,hj with
  | 0,hj=>simp at hj;subst hj;simpa [Addr.add] using hcx) (by intro u hu;simp at hu;subst hu;rfl) (by unfold maxLen;omega) (by omega) (by omega)
 rw [←hW];refine ⟨v',w',r1,?_,r3,by rw [←hWs];exact r5⟩
 unfold Rt17;rw [List.length_append];exact r2
structure Td17 (hi:Nat) (w:World) (told:Value) (vs:List Value):Prop where
 row:Rt17 hi w told vs
 ls:∀ j,j<vs.length→∃ L:List Nat,0<L.length∧L.length≤1024∧w.ownsRow hi 3 1 (vs.getD j (.slice none 0 0)) L.length (L.map Iw15)
 df:∀ i j,i<j→j<vs.length→(vs.getD i (.slice none 0 0)).ownBlock≠(vs.getD j (.slice none 0 0)).ownBlock
 ro:∀ i,i<vs.length→(vs.getD i (.slice none 0 0)).ownBlock≠told.ownBlock
theorem Td17.nil (hi:Nat) (w:World):Td17 hi w (.slice none 0 0) []:=⟨Rt17.nil _ _,fun j hj=>by simp at hj,fun i j _ hj=>by simp at hj,fun i hi=>by simp at hi⟩
end
section
open Go Go.RowKit J
theorem own_keep17 {lo e:Nat}{w w':World}{v:Value}{n:Nat}{L:List Value}(h:w.ownsRow lo e 1 v n L) (hb:∀ k,v.ownBlock=some k→k<w.heap.size→w'.heap[k]?=w.heap[k]?):w'.ownsRow lo e 1 v n L:=by
 refine ⟨h.1,?_⟩
 rcases h.2 with hn|⟨g,cap,cur,rfl,hlo,hgc,rest⟩
 · exact .inl hn
 · exact .inr ⟨g,cap,cur,rfl,hlo,(hb g rfl (Array.getElem?_eq_some_iff.1 hgc).1).trans hgc,rest⟩
theorem own_mono17 {lo lo' e:Nat}{w:World}{v:Value}{n:Nat}{L:List Value}(h:w.ownsRow lo e 1 v n L) (hl:lo'≤lo):w.ownsRow lo' e 1 v n L:=by
 refine ⟨h.1,?_⟩
 rcases h.2 with hn|⟨g,cap,cur,rfl,hlo,rest⟩
 · exact .inl hn
 · exact .inr ⟨g,cap,cur,rfl,by omega,rest⟩
theorem own_block17 {lo e:Nat}{w:World}{v:Value}{n:Nat}{L:List Value}(h:w.ownsRow lo e 1 v n L) (hn:0<n):∃ k,v.ownBlock=some k∧lo≤k∧k<w.heap.size:=by
 rcases h.2 with ⟨_,h0⟩|⟨g,cap,cur,rfl,hlo,hgc,rest⟩
 · omega
 · exact ⟨g,rfl,hlo,(Array.getElem?_eq_some_iff.1 hgc).1⟩
theorem getD_left17 {vs:List Value}{v d:Value}{j:Nat}(h:j<vs.length):(vs++[v]).getD j d=vs.getD j d:=by
 rw [List.getD_eq_getElem?_getD,List.getD_eq_getElem?_getD,List.getElem?_append_left h]
theorem getD_last17 {vs:List Value}{v d:Value}{j:Nat}(h:j=vs.length):(vs++[v]).getD j d=v:=by
 subst h;rw [List.getD_eq_getElem?_getD,List.getElem?_append_right (Nat.le_refl _)];simp
theorem Td17.keep {hi:Nat}{w w':World}{told:Value}{vs:List Value}(h:Td17 hi w told vs) (hb:∀ k,k<w.heap.size→hi≤k→w'.heap[k]?=w.heap[k]?):Td17 hi w' told vs where
 row:=own_keep17 h.row (fun k e hk=>hb k hk (World.ownsRow.lt h.row k e).1)
 ls:=fun j hj=>by
  obtain ⟨L,h1,h2,h3⟩:=h.ls j hj;exact ⟨L,h1,h2,own_keep17 h3 (fun k e hk=>hb k hk (World.ownsRow.lt h3 k e).1)⟩
 df:=h.df
 ro:=h.ro
theorem Td17.more {hi:Nat}{w w':World}{told told' v1:Value}{vs:List Value}{L:List Nat}(h:Td17 hi w told vs) (h1:0<L.length) (h2:L.length≤1024) (hv:w.ownsRow hi 3 1 v1 L.length (L.map Iw15)) (hr:Rt17 hi w' told' (vs++[v1]))
 (hb:∀ k,k<w.heap.size→hi≤k→some k≠told.ownBlock→w'.heap[k]?=w.heap[k]?) (hn:told'.ownBlock=told.ownBlock∨∃ k,told'.ownBlock=some k∧w.heap.size≤k) (hd:∀ j,j<vs.length→(vs.getD j (.slice none 0 0)).ownBlock≠v1.ownBlock) (ht:v1.ownBlock≠told.ownBlock):Td17 hi w' told' (vs++[v1]) where
 row:=hr
 ls:=fun j hj=>by
  rw [List.length_append,List.length_singleton] at hj
  by_cases hjl:j<vs.length
  · rw [getD_left17 hjl]
    obtain ⟨M,m1,m2,m3⟩:=h.ls j hjl;exact ⟨M,m1,m2,own_keep17 m3 (fun k e hk=>hb k hk (World.ownsRow.lt m3 k e).1 (fun e2=>h.ro j hjl (e.trans e2)))⟩
  · rw [getD_last17 (by omega)]
    exact ⟨L,h1,h2,own_keep17 hv (fun k e hk=>hb k hk (World.ownsRow.lt hv k e).1 (fun e2=>ht (e.trans e2)))⟩
 df:=fun i j hij hj=>by
  rw [List.length_append,List.length_singleton] at hj;rw [getD_left17 (show i<vs.length by omega)]
  by_cases hjl:j<vs.length
  · rw [getD_left17 hjl];exact h.df i j hij hjl
  · rw [getD_last17 (by omega)];exact hd i (by omega)
 ro:=fun i hi2=>by
  rw [List.length_append,List.length_singleton] at hi2
  have key:∀ u:Value,u.ownBlock≠told.ownBlock→(∃ k,u.ownBlock=some k∧k<w.heap.size)→u.ownBlock≠told'.ownBlock:=fun u hu hk e=>by
   rcases hn with e2|⟨k,e2,hk2⟩
   · exact hu (e.trans e2)
   · obtain ⟨k',e3,hk3⟩:=hk
     rw [e3,e2] at e
     cases e
     omega
  by_cases hil:i<vs.length
  · rw [getD_left17 hil]
    obtain ⟨M,m1,m2,m3⟩:=h.ls i hil;obtain ⟨k,e,_,hk⟩:=own_block17 m3 m1;exact key _ (h.ro i hil) ⟨k,e,hk⟩
  · rw [getD_last17 (by omega)]
    obtain ⟨k,e,_,hk⟩:=own_block17 hv h1;exact key _ ht ⟨k,e,hk⟩
end
section
open Go Go.RowKit J
attribute [local go_sem] st_float
theorem tell17 {w u:World}{gw gh gr ch cr lo mi hi g1 c1 M:Nat}{told:Value}{vs:List Value}{a b:At17}{E F L:List Nat}{s t:Hs}(h:Wd17 u gw gh gr ch cr told a b) (d:Dq17 u lo mi hi a b E F s t) (td:Td17 hi w told vs) (hbw:Below w.heap.size w u)
 (hv:u.ownsRow M 3 1 (.slice (some ⟨g1,0,none⟩) L.length c1) L.length (L.map Iw15)) (hM:w.heap.size≤M) (l1:0<L.length) (l2:L.length≤1024)
 (k1:gw<lo) (k2:gh≠a.g∧gh≠a.gC∧gh≠a.r∧gh≠a.rC∧gh≠b.g∧gh≠b.gC∧gh≠b.r∧gh≠b.rC∧gh<hi) (k3:gr≠a.g∧gr≠a.gC∧gr≠a.r∧gr≠a.rC∧gr≠b.g∧gr≠b.gC∧gr≠b.r∧gr≠b.rC∧gr<hi) (k4:lo≤mi∧mi≤hi∧hi≤w.heap.size) (k6:gh≠gw∧gr≠gw) (kv:vs.length≤1100000) :
 ∃ v2 u2,(Builtin.append_ #[28,28] 28 #[told,.slice (some ⟨u.heap.size,0,none⟩) 1 1]).run Tryz.prog (u.alloc (.cells #[.slice (some ⟨g1,0,none⟩) L.length c1] 57))=.ok v2 u2∧u2.cell? ⟨gw,2,none⟩=some told∧u2.frozen? ⟨gw,2,none⟩=false ∧
   Wd17 (u2.setCell ⟨gw,2,none⟩ v2) gw gh gr ch cr v2 a b∧Dq17 (u2.setCell ⟨gw,2,none⟩ v2) lo mi hi a b E F s t∧Td17 hi (u2.setCell ⟨gw,2,none⟩ v2) v2 (vs++[.slice (some ⟨g1,0,none⟩) L.length c1])∧Below gw u (u2.setCell ⟨gw,2,none⟩ v2) ∧
   (u2.setCell ⟨gw,2,none⟩ v2).ownsRow M 3 1 (.slice (some ⟨g1,0,none⟩) L.length c1) L.length (L.map Iw15)∧∃ gt ct,v2=.slice (some ⟨gt,0,none⟩) (vs.length+1) ct:=by
 have td3:Td17 hi u told vs:=td.keep (fun k hk _=>hbw.block k hk)
 have hsz:=hbw.size;obtain ⟨v2,u2,hrun,hR,hgr,hown⟩:=append_t17 hi told vs (some ⟨g1,0,none⟩) L.length c1 u td3.row (by omega) (by omega)
 have hal:=below_alloc u (.cells #[.slice (some ⟨g1,0,none⟩) L.length c1] 57);have htb:∀ k,told.ownBlock=some k→hi≤k∧k<w.heap.size:=fun k e=>World.ownsRow.lt td.row k e
 have K2:∀ k,k<u.heap.size→some k≠told.ownBlock→u2.heap[k]?=u.heap[k]?:=fun k hk hne=>(hgr.block k (by have:=hal.size;omega) hne).trans (hal.block k hk)
 obtain ⟨u3,hu3⟩:∃ v,v=u2.setCell ⟨gw,2,none⟩ v2:=⟨_,rfl⟩;have hbt:But gw u2 u3:=by rw [hu3];exact (But.refl gw u2).set 2 _
 have hs2:u.heap.size≤u2.heap.size:=Nat.le_trans hal.size hgr.size;have K3:∀ k,k<u.heap.size→k≠gw→some k≠told.ownBlock→u3.heap[k]?=u.heap[k]?:=fun k hk h1 h2=>(hbt.block k (by omega) h1).trans (K2 k hk h2)
 have hlow:∀ k,k<hi→some k≠told.ownBlock:=fun k hk e=>by have:=htb k e.symm;omega
 have hB2:Bl u2 gw 30 [.slice (some ⟨gh,0,none⟩) 2 ch,.slice (some ⟨gr,0,none⟩) 2 cr,told]:=by
  have:=h.bl;unfold Bl at this ⊢;rw [K2 gw h.bl.lt (hlow gw (by omega))];exact this
 have hg1:=World.ownsRow.lt hv g1 rfl;have hnb:some g1≠told.ownBlock:=fun e=>by have:=htb g1 e.symm;omega
 have hsh:∃ gt ct,v2=.slice (some ⟨gt,0,none⟩) (vs.length+1) ct:=by
  rcases hR.2 with ⟨_,h0⟩|⟨g,cap,cur,e,_⟩
  · simp at h0
  · exact ⟨g,cap,by rw [e];simp⟩
 refine ⟨v2,u2,?_⟩;rw [←hu3];refine ⟨hrun,hB2.cell 2 _ rfl,hB2.frozen 2,?_,?_,?_,?_,?_,hsh⟩
 · refine ⟨by rw [hu3];exact hB2.set 2 v2,?_,?_,?_,?_,?_,?_⟩
   · exact (World.cell?_of_block (a:=⟨gh,0,none⟩) (K3 gh h.lh k6.1 (hlow gh (by omega)))).trans h.h0
   · exact (World.cell?_of_block (a:=⟨gh,1,none⟩) (K3 gh h.lh k6.1 (hlow gh (by omega)))).trans h.h1
   · exact (World.cell?_of_block (a:=⟨gr,0,none⟩) (K3 gr h.lr k6.2 (hlow gr (by omega)))).trans h.r0
   · exact (World.cell?_of_block (a:=⟨gr,1,none⟩) (K3 gr h.lr k6.2 (hlow gr (by omega)))).trans h.r1
   · have:=h.lh;have:=hbt.size;omega
   · have:=h.lr;have:=hbt.size;omega
 · have hB:But2 gw (told.ownBlock.getD gw) u u3:=⟨hbt.os.trans (hgr.os.trans hal.os),hbt.tape.trans (hgr.tape.trans hal.tape),hbt.output.trans (hgr.output.trans hal.output),Nat.le_trans hs2 hbt.size,fun k hk h1 h2=>K3 k hk h1 (fun e=>h2 (by rw [←e];rfl))⟩
   have ht:told.ownBlock.getD gw<lo∨hi≤told.ownBlock.getD gw:=by
    cases e:told.ownBlock with
    | none=>exact .inl (by simpa using k1)
    | some k=>exact .inr (by have:=htb k e;simp;omega)
   exact ⟨d.p.other hB (by omega) (by omega),d.q.other hB (by omega) (by omega)⟩
 · refine td3.more l1 l2 (own_mono17 hv (by omega)) (own_keep17 hR (fun k e hk=>hbt.block k hk (fun e2=>?_))) (fun k hk h1 h2=>K3 k hk (by omega) h2) ?_ (fun j hj e=>?_) hnb
   · have:=World.ownsRow.lt hR k e;omega
   · rcases hown with e | e
     · exact .inl e
     · exact .inr ⟨_,e,by omega⟩
   · obtain ⟨N,m1,m2,m3⟩:=td.ls j hj
     obtain ⟨k,e2,_,hk⟩:=own_block17 m3 m1;rw [e2] at e;have e3:k=g1:=by simpa [Value.ownBlock] using e
     omega
 · exact ⟨hbt.os.trans (hgr.os.trans hal.os),hbt.tape.trans (hgr.tape.trans hal.tape),hbt.output.trans (hgr.output.trans hal.output),Nat.le_trans hs2 hbt.size,fun k hk=>K3 k (by have:=h.bl.lt;omega) (by omega) (hlow k (by omega))⟩
 · exact own_keep17 hv (fun k e hk=>by
    have e3:g1=k:=by simpa [Value.ownBlock] using e
    exact K3 k hk (by omega) (by rw [←e3];exact hnb))
theorem stepCounts0 {w:World}{gw gh gr ch cr lo mi hi x B:Nat}{z:Int}{told:Value}{vs:List Value}{a b:At17}{E F:List Nat}{s t:Hs}(h:Wd17 w gw gh gr ch cr told a b) (d:Dq17 w lo mi hi a b E F s t) (td:Td17 hi w told vs) (hz:bits .and .i64 z 1=0)
 (k1:gw<lo) (k2:gh≠a.g∧gh≠a.gC∧gh≠a.r∧gh≠a.rC∧gh≠b.g∧gh≠b.gC∧gh≠b.r∧gh≠b.rC∧gh<hi) (k3:gr≠a.g∧gr≠a.gC∧gr≠a.r∧gr≠a.rC∧gr≠b.g∧gr≠b.gC∧gr≠b.r∧gr≠b.rC∧gr<hi) (k4:lo≤mi∧mi≤hi∧hi≤w.heap.size) (k6:gh≠gw∧gr≠gw) (kv:vs.length≤1100000) :
 Calls Tryz.prog 14 #[.pointer (some ⟨gw,0,none⟩),.agg #[.int .i64 4,.int .i64 z,.float .f64 x]] w fun r w'=>r=.returned (.bool true)∧(∃ told' v,Wd17 w' gw gh gr ch cr told' a b∧Td17 hi w' told' (vs++[v]))∧Dq17 w' lo mi hi a b E F s t∧Below gw w w':=by
 obtain ⟨W,hW⟩:∃ W,W=w.alloc (opO17 4 z x):=⟨_,rfl⟩;obtain ⟨go,hgo⟩:∃ g,g=w.heap.size:=⟨_,rfl⟩;have hB:Bl W go 44 [.int .i64 4,.int .i64 z,.float .f64 x]:=by rw [hW,hgo];exact op_new17 w 4 z x
 have hb:Below w.heap.size w W:=by rw [hW];exact below_alloc _ _
 have h2:=h.below hb;have d2:=d.below hb;have C:=hid (Counts17 d2.p.h);have o0:=hB.cell 0 _ rfl;have o1:=hB.cell 1 _ rfl;have y0:=h2.bl.cell 0 _ rfl;have y1:=h2.bl.cell 1 _ rfl;have yh:=h2.h0;have yr:=h2.r0;have HH:=(qsd (ai h2 (ai d2 (ai hB (ai hb (ai hgo td))))));have HW:Aside (w.alloc (opO17 4 z x)=W∧w.heap.size=go):=⟨hW.symm,hgo.symm⟩;clear h d h2 d2 hB hb hW hgo td;go_enter Tryz.func14,Tryz.ntmps14
 go_upto_region 1 with fail
 rw [HW.out.1,HW.out.2];clear HW
 go_wp2_with fail
 refine C.out.mono ?_;rintro r u ⟨⟨v1,rfl,hv1⟩,hbu⟩;clear C o0 o1 y0 y1 yh yr;have h3:=HH.out.1.below hbu;have d3:=HH.out.2.1.below hbu;have hbw:Below w.heap.size w u:=HH.out.2.2.2.1.trans (hbu.mono HH.out.2.2.2.1.size);have l1:0<s.C.length:=by have:=d3.p.h.le;have:=d3.p.h.ed.1;omega
 have l2:s.C.length≤1024:=by have:=d3.p.h.le;have:=d3.p.h.ed.2.1;omega
 obtain ⟨g1,c1,rfl,hg1,hg2,hc1⟩:=ri_of17 l1 hv1;obtain ⟨v2,u2,hrun,z2,zf,h4,d4,td4,hb4,hv4,gt,ct,rfl⟩:=tell17 h3 d3 HH.out.2.2.2.2.2 hbw hv1 HH.out.2.2.2.1.size l1 l2 k1 k2 k3 k4 k6 kv;have y2:=h3.bl.cell 2 _ rfl;obtain ⟨u3,hu3⟩:∃ v,v=u2.setCell ⟨gw,2,none⟩ (.slice (some ⟨gt,0,none⟩) (vs.length+1) ct):=⟨_,rfl⟩;rw [←hu3] at h4 d4 td4 hb4 hv4;obtain ⟨_,_,e9,_,_,hc4⟩:=ri_of17 l1 hv4
 cases e9
 have c1':=d4.p.m.bl.cell 1 _ rfl;have CI:=hid (ints17 s.C g1 a.rC c1 s.C.length u3 l2 hc4 (fun i hi=>d4.p.m.cs.cell i hi))
 have HR:=qsd hrun;have H3:=qsd hu3;have HF:=(qsd (ai h4 (ai d4 (ai td4 (ai hb4 hbw)))));clear hv1 hbu h3 d3 hbw hg1 hg2 hc1 hrun h4 d4 td4 hb4 hv4 hc4 hu3
 go_upto_region 17 with (at_builtin;refine wpList_append10 rfl _ _ 28 rfl _ _ rfl rfl _ u2 HR.out ?_)
 rw [←H3.out];clear H3 HR y2 z2 zf
 go_wp2_with fail
 refine CI.out.mono ?_;rintro r u4 ⟨rfl,hb5⟩;have HG:=qsd hb5;clear CI hb5 c1';go_wp2;refine bodyPost_ret (v:=.bool true) (by simp [results,Tryz.results14,go_sem]) rfl ?_
 have hle:gw≤w.heap.size:=by omega
 refine ⟨rfl,⟨_,_,HF.out.1.below HG.out,HF.out.2.2.1.keep (fun k hk _=>HG.out.block k hk)⟩,HF.out.2.1.below HG.out,?_⟩
 exact ((HF.out.2.2.2.2.mono hle).trans HF.out.2.2.2.1).trans (HG.out.mono (Nat.le_trans hle (Nat.le_trans HF.out.2.2.2.2.size HF.out.2.2.2.1.size)))
theorem stepCounts1 {w:World}{gw gh gr ch cr lo mi hi x B:Nat}{z:Int}{told:Value}{vs:List Value}{a b:At17}{E F:List Nat}{s t:Hs}(h:Wd17 w gw gh gr ch cr told a b) (d:Dq17 w lo mi hi a b E F s t) (td:Td17 hi w told vs) (hz:bits .and .i64 z 1=1)
 (k1:gw<lo) (k2:gh≠a.g∧gh≠a.gC∧gh≠a.r∧gh≠a.rC∧gh≠b.g∧gh≠b.gC∧gh≠b.r∧gh≠b.rC∧gh<hi) (k3:gr≠a.g∧gr≠a.gC∧gr≠a.r∧gr≠a.rC∧gr≠b.g∧gr≠b.gC∧gr≠b.r∧gr≠b.rC∧gr<hi) (k4:lo≤mi∧mi≤hi∧hi≤w.heap.size) (k6:gh≠gw∧gr≠gw) (kv:vs.length≤1100000) :
 Calls Tryz.prog 14 #[.pointer (some ⟨gw,0,none⟩),.agg #[.int .i64 4,.int .i64 z,.float .f64 x]] w fun r w'=>r=.returned (.bool true)∧(∃ told' v,Wd17 w' gw gh gr ch cr told' a b∧Td17 hi w' told' (vs++[v]))∧Dq17 w' lo mi hi a b E F s t∧Below gw w w':=by
 obtain ⟨W,hW⟩:∃ W,W=w.alloc (opO17 4 z x):=⟨_,rfl⟩;obtain ⟨go,hgo⟩:∃ g,g=w.heap.size:=⟨_,rfl⟩;have hB:Bl W go 44 [.int .i64 4,.int .i64 z,.float .f64 x]:=by rw [hW,hgo];exact op_new17 w 4 z x
 have hb:Below w.heap.size w W:=by rw [hW];exact below_alloc _ _
 have h2:=h.below hb;have d2:=d.below hb;have C:=hid (Counts17 d2.q.h);have o0:=hB.cell 0 _ rfl;have o1:=hB.cell 1 _ rfl;have y0:=h2.bl.cell 0 _ rfl;have y1:=h2.bl.cell 1 _ rfl;have yh:=h2.h1;have yr:=h2.r1;have HH:=(qsd (ai h2 (ai d2 (ai hB (ai hb (ai hgo td))))));have HW:Aside (w.alloc (opO17 4 z x)=W∧w.heap.size=go):=⟨hW.symm,hgo.symm⟩;clear h d h2 d2 hB hb hW hgo td;go_enter Tryz.func14,Tryz.ntmps14
 go_upto_region 1 with fail
 rw [HW.out.1,HW.out.2];clear HW
 go_wp2_with fail
 refine C.out.mono ?_;rintro r u ⟨⟨v1,rfl,hv1⟩,hbu⟩;clear C o0 o1 y0 y1 yh yr;have h3:=HH.out.1.below hbu;have d3:=HH.out.2.1.below hbu;have hbw:Below w.heap.size w u:=HH.out.2.2.2.1.trans (hbu.mono HH.out.2.2.2.1.size);have l1:0<t.C.length:=by have:=d3.q.h.le;have:=d3.q.h.ed.1;omega
 have l2:t.C.length≤1024:=by have:=d3.q.h.le;have:=d3.q.h.ed.2.1;omega
 obtain ⟨g1,c1,rfl,hg1,hg2,hc1⟩:=ri_of17 l1 hv1;obtain ⟨v2,u2,hrun,z2,zf,h4,d4,td4,hb4,hv4,gt,ct,rfl⟩:=tell17 h3 d3 HH.out.2.2.2.2.2 hbw hv1 HH.out.2.2.2.1.size l1 l2 k1 k2 k3 k4 k6 kv;have y2:=h3.bl.cell 2 _ rfl;obtain ⟨u3,hu3⟩:∃ v,v=u2.setCell ⟨gw,2,none⟩ (.slice (some ⟨gt,0,none⟩) (vs.length+1) ct):=⟨_,rfl⟩;rw [←hu3] at h4 d4 td4 hb4 hv4;obtain ⟨_,_,e9,_,_,hc4⟩:=ri_of17 l1 hv4
 cases e9
 have c1':=d4.q.m.bl.cell 1 _ rfl;have CI:=hid (ints17 t.C g1 b.rC c1 t.C.length u3 l2 hc4 (fun i hi=>d4.q.m.cs.cell i hi))
 have HR:=qsd hrun;have H3:=qsd hu3;have HF:=(qsd (ai h4 (ai d4 (ai td4 (ai hb4 hbw)))));clear hv1 hbu h3 d3 hbw hg1 hg2 hc1 hrun h4 d4 td4 hb4 hv4 hc4 hu3
 go_upto_region 17 with (at_builtin;refine wpList_append10 rfl _ _ 28 rfl _ _ rfl rfl _ u2 HR.out ?_)
 rw [←H3.out];clear H3 HR y2 z2 zf
 go_wp2_with fail
 refine CI.out.mono ?_;rintro r u4 ⟨rfl,hb5⟩;have HG:=qsd hb5;clear CI hb5 c1';go_wp2;refine bodyPost_ret (v:=.bool true) (by simp [results,Tryz.results14,go_sem]) rfl ?_
 have hle:gw≤w.heap.size:=by omega
 refine ⟨rfl,⟨_,_,HF.out.1.below HG.out,HF.out.2.2.1.keep (fun k hk _=>HG.out.block k hk)⟩,HF.out.2.1.below HG.out,?_⟩
 exact ((HF.out.2.2.2.2.mono hle).trans HF.out.2.2.2.1).trans (HG.out.mono (Nat.le_trans hle (Nat.le_trans HF.out.2.2.2.2.size HF.out.2.2.2.1.size)))
end
section
open Go Go.RowKit J
theorem own_of17 {w:World}{g lo:Nat}{R:List Nat}(hO:OwnI w g R) (hg:lo≤g) (hl:R.length≤1024):w.ownsRow lo 3 1 (.slice (some ⟨g,0,none⟩) R.length R.length) R.length (R.map Iw15) :=
 ⟨by simp,.inr ⟨g,R.length,_,rfl,hg,hO,Nat.le_refl _,by unfold maxLen;omega,by simp,by rw [Nat.mul_one];exact List.take_of_length_le (by simp)⟩⟩
attribute [local go_sem] st_float
theorem stepRunning0 {w:World}{gw gh gr ch cr lo mi hi x B:Nat}{z:Int}{told:Value}{vs:List Value}{a b:At17}{E F:List Nat}{s t:Hs}(h:Wd17 w gw gh gr ch cr told a b) (d:Dq17 w lo mi hi a b E F s t) (td:Td17 hi w told vs) (hz:bits .and .i64 z 1=0)
 (k1:gw<lo) (k2:gh≠a.g∧gh≠a.gC∧gh≠a.r∧gh≠a.rC∧gh≠b.g∧gh≠b.gC∧gh≠b.r∧gh≠b.rC∧gh<hi) (k3:gr≠a.g∧gr≠a.gC∧gr≠a.r∧gr≠a.rC∧gr≠b.g∧gr≠b.gC∧gr≠b.r∧gr≠b.rC∧gr<hi) (k4:lo≤mi∧mi≤hi∧hi≤w.heap.size) (k6:gh≠gw∧gr≠gw) (kv:vs.length≤1100000) :
 Calls Tryz.prog 14 #[.pointer (some ⟨gw,0,none⟩),.agg #[.int .i64 5,.int .i64 z,.float .f64 x]] w fun r w'=>r=.returned (.bool true)∧(∃ told' v,Wd17 w' gw gh gr ch cr told' a b∧Td17 hi w' told' (vs++[v]))∧Dq17 w' lo mi hi a b E F s t∧Below gw w w':=by
 obtain ⟨W,hW⟩:∃ W,W=w.alloc (opO17 5 z x):=⟨_,rfl⟩;obtain ⟨go,hgo⟩:∃ g,g=w.heap.size:=⟨_,rfl⟩;have hB:Bl W go 44 [.int .i64 5,.int .i64 z,.float .f64 x]:=by rw [hW,hgo];exact op_new17 w 5 z x
 have hb:Below w.heap.size w W:=by rw [hW];exact below_alloc _ _
 have h2:=h.below hb;have d2:=d.below hb;have hll:(runL s.b s.C).length=E.length:=by rw [runL_len];exact d.p.h.le
 have C:=hid (Running17 d2.p.h);rw [←hll] at C;have o0:=hB.cell 0 _ rfl;have o1:=hB.cell 1 _ rfl;have y0:=h2.bl.cell 0 _ rfl;have y1:=h2.bl.cell 1 _ rfl;have yh:=h2.h0;have yr:=h2.r0;have HH:=(qsd (ai h2 (ai d2 (ai hB (ai hb (ai hgo td))))));have HW:Aside (w.alloc (opO17 5 z x)=W∧w.heap.size=go):=⟨hW.symm,hgo.symm⟩;have l1:0<(runL s.b s.C).length:=by have:=d.p.h.ed.1;omega
 have l2:(runL s.b s.C).length≤1024:=by have:=d.p.h.ed.2.1;omega
 clear h d h2 d2 hB hb hW hgo td hll;go_enter Tryz.func14,Tryz.ntmps14
 go_upto_region 1 with fail
 rw [HW.out.1,HW.out.2];clear HW
 go_wp2_with fail
 refine C.out.mono ?_;rintro r u ⟨⟨g1,rfl,hg1,hO1⟩,hbu⟩;clear C o0 o1 y0 y1 yh yr;have h3:=HH.out.1.below hbu;have d3:=HH.out.2.1.below hbu;have hbw:Below w.heap.size w u:=HH.out.2.2.2.1.trans (hbu.mono HH.out.2.2.2.1.size);obtain ⟨R,hR⟩:∃ R,R=runL s.b s.C:=⟨_,rfl⟩;rw [←hR] at hO1 l1 l2 ⊢
 have hv1:u.ownsRow W.heap.size 3 1 (.slice (some ⟨g1,0,none⟩) R.length R.length) R.length (R.map Iw15) :=
  own_of17 hO1 hg1 l2
 obtain ⟨v2,u2,hrun,z2,zf,h4,d4,td4,hb4,hv4,gt,ct,rfl⟩:=tell17 h3 d3 HH.out.2.2.2.2.2 hbw hv1 HH.out.2.2.2.1.size l1 l2 k1 k2 k3 k4 k6 kv;have y2:=h3.bl.cell 2 _ rfl;obtain ⟨u3,hu3⟩:∃ v,v=u2.setCell ⟨gw,2,none⟩ (.slice (some ⟨gt,0,none⟩) (vs.length+1) ct):=⟨_,rfl⟩;rw [←hu3] at h4 d4 td4 hb4 hv4;have CR:=hid (rRunning17 d4.p.m);rw [←hR] at CR;have HR:=qsd hrun;have H3:=qsd hu3;have HF:=(qsd (ai h4 (ai d4 (ai td4 (ai hb4 (ai hbw hv4))))));clear hv1 hbu h3 d3 hbw hg1 hO1 hrun h4 d4 td4 hb4 hv4 hu3 hR
 go_upto_region 21 with (at_builtin;refine wpList_append10 rfl _ _ 28 rfl _ _ rfl rfl _ u2 HR.out ?_)
 rw [←H3.out];clear H3 HR y2 z2 zf
 go_wp2_with fail
 refine CR.out.mono ?_;rintro r u5 ⟨⟨v5,rfl,hv5⟩,hb6⟩;obtain ⟨g5,c5,rfl,_,_,_,hc5⟩:=hv5.shape l1;obtain ⟨_,_,e9,_,_,hc4⟩:=ri_of17 l1 (own_keep17 HF.out.2.2.2.2.2 (fun k _ hk=>hb6.block k hk))
 cases e9
 have CI:=hid (ints17 R g1 g5 R.length c5 u5 l2 hc4 hc5);have HE:=qsd hb6;clear CR hv5 hb6 hc5 hc4
 go_wp2_with fail
 refine CI.out.mono ?_;rintro r u4 ⟨rfl,hb5⟩;have HG:=qsd (HE.out.trans (hb5.mono HE.out.size));clear CI hb5 HE;go_wp2;refine bodyPost_ret (v:=.bool true) (by simp [results,Tryz.results14,go_sem]) rfl ?_
 have hle:gw≤w.heap.size:=by omega
 refine ⟨rfl,⟨_,_,HF.out.1.below HG.out,HF.out.2.2.1.keep (fun k hk _=>HG.out.block k hk)⟩,HF.out.2.1.below HG.out,?_⟩
 exact ((HF.out.2.2.2.2.1.mono hle).trans HF.out.2.2.2.1).trans (HG.out.mono (Nat.le_trans hle (Nat.le_trans HF.out.2.2.2.2.1.size HF.out.2.2.2.1.size)))
theorem stepRunning1 {w:World}{gw gh gr ch cr lo mi hi x B:Nat}{z:Int}{told:Value}{vs:List Value}{a b:At17}{E F:List Nat}{s t:Hs}(h:Wd17 w gw gh gr ch cr told a b) (d:Dq17 w lo mi hi a b E F s t) (td:Td17 hi w told vs) (hz:bits .and .i64 z 1=1)
 (k1:gw<lo) (k2:gh≠a.g∧gh≠a.gC∧gh≠a.r∧gh≠a.rC∧gh≠b.g∧gh≠b.gC∧gh≠b.r∧gh≠b.rC∧gh<hi) (k3:gr≠a.g∧gr≠a.gC∧gr≠a.r∧gr≠a.rC∧gr≠b.g∧gr≠b.gC∧gr≠b.r∧gr≠b.rC∧gr<hi) (k4:lo≤mi∧mi≤hi∧hi≤w.heap.size) (k6:gh≠gw∧gr≠gw) (kv:vs.length≤1100000) :
 Calls Tryz.prog 14 #[.pointer (some ⟨gw,0,none⟩),.agg #[.int .i64 5,.int .i64 z,.float .f64 x]] w fun r w'=>r=.returned (.bool true)∧(∃ told' v,Wd17 w' gw gh gr ch cr told' a b∧Td17 hi w' told' (vs++[v]))∧Dq17 w' lo mi hi a b E F s t∧Below gw w w':=by
 obtain ⟨W,hW⟩:∃ W,W=w.alloc (opO17 5 z x):=⟨_,rfl⟩;obtain ⟨go,hgo⟩:∃ g,g=w.heap.size:=⟨_,rfl⟩;have hB:Bl W go 44 [.int .i64 5,.int .i64 z,.float .f64 x]:=by rw [hW,hgo];exact op_new17 w 5 z x
 have hb:Below w.heap.size w W:=by rw [hW];exact below_alloc _ _
 have h2:=h.below hb;have d2:=d.below hb;have hll:(runL t.b t.C).length=F.length:=by rw [runL_len];exact d.q.h.le
 have C:=hid (Running17 d2.q.h);rw [←hll] at C;have o0:=hB.cell 0 _ rfl;have o1:=hB.cell 1 _ rfl;have y0:=h2.bl.cell 0 _ rfl;have y1:=h2.bl.cell 1 _ rfl;have yh:=h2.h1;have yr:=h2.r1;have HH:=(qsd (ai h2 (ai d2 (ai hB (ai hb (ai hgo td))))));have HW:Aside (w.alloc (opO17 5 z x)=W∧w.heap.size=go):=⟨hW.symm,hgo.symm⟩;have l1:0<(runL t.b t.C).length:=by have:=d.q.h.ed.1;omega
 have l2:(runL t.b t.C).length≤1024:=by have:=d.q.h.ed.2.1;omega
 clear h d h2 d2 hB hb hW hgo td hll;go_enter Tryz.func14,Tryz.ntmps14
 go_upto_region 1 with fail
 rw [HW.out.1,HW.out.2];clear HW
 go_wp2_with fail
 refine C.out.mono ?_;rintro r u ⟨⟨g1,rfl,hg1,hO1⟩,hbu⟩;clear C o0 o1 y0 y1 yh yr;have h3:=HH.out.1.below hbu;have d3:=HH.out.2.1.below hbu;have hbw:Below w.heap.size w u:=HH.out.2.2.2.1.trans (hbu.mono HH.out.2.2.2.1.size);obtain ⟨R,hR⟩:∃ R,R=runL t.b t.C:=⟨_,rfl⟩;rw [←hR] at hO1 l1 l2 ⊢
 have hv1:u.ownsRow W.heap.size 3 1 (.slice (some ⟨g1,0,none⟩) R.length R.length) R.length (R.map Iw15) :=
  own_of17 hO1 hg1 l2
 obtain ⟨v2,u2,hrun,z2,zf,h4,d4,td4,hb4,hv4,gt,ct,rfl⟩:=tell17 h3 d3 HH.out.2.2.2.2.2 hbw hv1 HH.out.2.2.2.1.size l1 l2 k1 k2 k3 k4 k6 kv;have y2:=h3.bl.cell 2 _ rfl;obtain ⟨u3,hu3⟩:∃ v,v=u2.setCell ⟨gw,2,none⟩ (.slice (some ⟨gt,0,none⟩) (vs.length+1) ct):=⟨_,rfl⟩;rw [←hu3] at h4 d4 td4 hb4 hv4;have CR:=hid (rRunning17 d4.q.m);rw [←hR] at CR;have HR:=qsd hrun;have H3:=qsd hu3;have HF:=(qsd (ai h4 (ai d4 (ai td4 (ai hb4 (ai hbw hv4))))));clear hv1 hbu h3 d3 hbw hg1 hO1 hrun h4 d4 td4 hb4 hv4 hu3 hR
 go_upto_region 21 with (at_builtin;refine wpList_append10 rfl _ _ 28 rfl _ _ rfl rfl _ u2 HR.out ?_)
 rw [←H3.out];clear H3 HR y2 z2 zf
 go_wp2_with fail
 refine CR.out.mono ?_;rintro r u5 ⟨⟨v5,rfl,hv5⟩,hb6⟩;obtain ⟨g5,c5,rfl,_,_,_,hc5⟩:=hv5.shape l1;obtain ⟨_,_,e9,_,_,hc4⟩:=ri_of17 l1 (own_keep17 HF.out.2.2.2.2.2 (fun k _ hk=>hb6.block k hk))
 cases e9
 have CI:=hid (ints17 R g1 g5 R.length c5 u5 l2 hc4 hc5);have HE:=qsd hb6;clear CR hv5 hb6 hc5 hc4
 go_wp2_with fail
 refine CI.out.mono ?_;rintro r u4 ⟨rfl,hb5⟩;have HG:=qsd (HE.out.trans (hb5.mono HE.out.size));clear CI hb5 HE;go_wp2;refine bodyPost_ret (v:=.bool true) (by simp [results,Tryz.results14,go_sem]) rfl ?_
 have hle:gw≤w.heap.size:=by omega
 refine ⟨rfl,⟨_,_,HF.out.1.below HG.out,HF.out.2.2.1.keep (fun k hk _=>HG.out.block k hk)⟩,HF.out.2.1.below HG.out,?_⟩
 exact ((HF.out.2.2.2.2.1.mono hle).trans HF.out.2.2.2.1).trans (HG.out.mono (Nat.le_trans hle (Nat.le_trans HF.out.2.2.2.2.1.size HF.out.2.2.2.1.size)))
end
section
open Go Go.RowKit J
structure Sd17 (w:World) (gw gh gr ch cr lo mi hi:Nat) (a b:At17) (E F:List Nat) (n:Nat):Prop where
 ex:∃ told vs s t,Wd17 w gw gh gr ch cr told a b∧Dq17 w lo mi hi a b E F s t∧Td17 hi w told vs∧vs.length≤n
 k1:gw<lo
 k2:gh≠a.g∧gh≠a.gC∧gh≠a.r∧gh≠a.rC∧gh≠b.g∧gh≠b.gC∧gh≠b.r∧gh≠b.rC∧gh<hi
 k3:gr≠a.g∧gr≠a.gC∧gr≠a.r∧gr≠a.rC∧gr≠b.g∧gr≠b.gC∧gr≠b.r∧gr≠b.rC∧gr<hi
 k4:lo≤mi∧mi≤hi∧hi≤w.heap.size
 k6:gh≠gw∧gr≠gw
theorem Kp17.low {lo hi gw:Nat}{w w':World}(h:Kp17 lo hi gw w w') (hl:gw<lo) (hs:lo≤w.heap.size):Below gw w w' :=
 ⟨h.os,h.tape,h.output,h.size,fun k hk=>h.block k (by omega) (.inl (by omega)) (by omega)⟩
theorem step17 {w:World}{gw gh gr ch cr lo mi hi n x:Nat}{kd z:Int}{a b:At17}{E F:List Nat}(h:Sd17 w gw gh gr ch cr lo mi hi a b E F n) (hx:x<18446744073709551616) (hn:n≤1100000) :
 Calls Tryz.prog 14 #[.pointer (some ⟨gw,0,none⟩),.agg #[.int .i64 kd,.int .i64 z,.float .f64 x]] w fun r w'=>r=.returned (.bool true)∧Sd17 w' gw gh gr ch cr lo mi hi a b E F (n+1)∧Below gw w w':=by
 obtain ⟨⟨told,vs,s,t,hw,hd,ht,hv⟩,k1,k2,k3,k4,k6⟩:=h
 have fin1:∀ w':World,Wd17 w' gw gh gr ch cr told a b→(∃ s' t',Dq17 w' lo mi hi a b E F s' t')→Kp17 lo hi gw w w'→Sd17 w' gw gh gr ch cr lo mi hi a b E F (n+1)∧Below gw w w':=fun w' h1 h2 h3=>by
  obtain ⟨s',t',h2⟩:=h2;exact ⟨⟨⟨told,vs,s',t',h1,h2,ht.keep (fun k hk hh=>h3.block k hk (.inr hh) (by omega)),by omega⟩,k1,k2,k3,⟨k4.1,k4.2.1,Nat.le_trans k4.2.2 h3.size⟩,k6⟩,h3.low k1 (by omega)⟩
 have fin2:∀ w':World,(∃ told' v,Wd17 w' gw gh gr ch cr told' a b∧Td17 hi w' told' (vs++[v]))→Dq17 w' lo mi hi a b E F s t→Below gw w w'→Sd17 w' gw gh gr ch cr lo mi hi a b E F (n+1)∧Below gw w w':=fun w' h1 h2 h3=>by
  obtain ⟨told',v,h1,h4⟩:=h1;exact ⟨⟨⟨told',_,s,t,h1,h2,h4,by simp;omega⟩,k1,k2,k3,⟨k4.1,k4.2.1,Nat.le_trans k4.2.2 h3.size⟩,k6⟩,h3⟩
 by_cases e1:kd=1
 · subst e1
   rcases and_one17 z with hz|hz
   · refine (stepAdd0 hw hd hx hz k1 k2 k3 k4).mono ?_
     rintro r w' ⟨e,h1,⟨s',h2⟩,h3⟩;exact ⟨e,fin1 w' h1 ⟨_,_,h2⟩ h3⟩
   · refine (stepAdd1 hw hd hx hz k1 k2 k3 k4).mono ?_
     rintro r w' ⟨e,h1,⟨s',h2⟩,h3⟩;exact ⟨e,fin1 w' h1 ⟨_,_,h2⟩ h3⟩
 by_cases e2:kd=2
 · subst e2
   rcases and_one17 z with hz|hz
   · refine (stepMerge0 hw hd hz k1 k2 k3 k4).mono ?_
     rintro r w' ⟨e,h1,⟨s',h2⟩,h3⟩;exact ⟨e,fin1 w' h1 ⟨_,_,h2⟩ h3⟩
   · refine (stepMerge1 hw hd hz k1 k2 k3 k4).mono ?_
     rintro r w' ⟨e,h1,⟨s',h2⟩,h3⟩;exact ⟨e,fin1 w' h1 ⟨_,_,h2⟩ h3⟩
 by_cases e3:kd=3
 · subst e3
   rcases and_one17 z with hz|hz
   · refine (stepSelf0 hw hd hz k1 k2 k3 k4).mono ?_
     rintro r w' ⟨e,h1,⟨s',h2⟩,h3⟩;exact ⟨e,fin1 w' h1 ⟨_,_,h2⟩ h3⟩
   · refine (stepSelf1 hw hd hz k1 k2 k3 k4).mono ?_
     rintro r w' ⟨e,h1,⟨s',h2⟩,h3⟩;exact ⟨e,fin1 w' h1 ⟨_,_,h2⟩ h3⟩
 by_cases e4:kd=4
 · subst e4
   rcases and_one17 z with hz|hz
   · refine (stepCounts0 (B:=0) hw hd ht hz k1 k2 k3 k4 k6 (by omega)).mono ?_
     rintro r w' ⟨e,h1,h2,h3⟩;exact ⟨e,fin2 w' h1 h2 h3⟩
   · refine (stepCounts1 (B:=0) hw hd ht hz k1 k2 k3 k4 k6 (by omega)).mono ?_
     rintro r w' ⟨e,h1,h2,h3⟩;exact ⟨e,fin2 w' h1 h2 h3⟩
 by_cases e5:kd=5
 · subst e5
   rcases and_one17 z with hz|hz
   · refine (stepRunning0 (B:=0) hw hd ht hz k1 k2 k3 k4 k6 (by omega)).mono ?_
     rintro r w' ⟨e,h1,h2,h3⟩;exact ⟨e,fin2 w' h1 h2 h3⟩
   · refine (stepRunning1 (B:=0) hw hd ht hz k1 k2 k3 k4 k6 (by omega)).mono ?_
     rintro r w' ⟨e,h1,h2,h3⟩;exact ⟨e,fin2 w' h1 h2 h3⟩
 rcases and_one17 z with hz|hz
 · refine (stepElse0 hw hd hz ⟨e1,e2,e3,e4,e5⟩).mono ?_
   rintro r w' ⟨e,h3⟩;exact ⟨e,fin1 w' (hw.below h3) ⟨_,_,hd.below h3⟩ (Kp17.ofBelow h3)⟩
 · refine (stepElse1 hw hd hz ⟨e1,e2,e3,e4,e5⟩).mono ?_
   rintro r w' ⟨e,h3⟩;exact ⟨e,fin1 w' (hw.below h3) ⟨_,_,hd.below h3⟩ (Kp17.ofBelow h3)⟩
end
section
open Go Go.RowKit J
abbrev Iz (x:Int):Value:=.int .i64 x
abbrev nil17:Value:=.slice none 0 0
theorem rt_form {lo:Nat}{w:World}{v:Value}{R:List Value}(h:Rt17 lo w v R):∃ a cap,v=.slice a R.length cap∧R.length≤cap∧(R≠[]→∃ g,a=some ⟨g,0,none⟩∧lo≤g∧g<w.heap.size∧∀ i,i<R.length→w.cell? ⟨g,i,none⟩=some (R.getD i nil17)):=by
 have h':w.ownsRow lo 57 1 v R.length R:=h
 rcases h'.2 with ⟨rfl,hn⟩|⟨g,cap,cur,rfl,hb,hg,hn,hm,hs,ht⟩
 · exact ⟨none,0,by rw [hn],by omega,fun hne=>absurd (List.eq_nil_of_length_eq_zero hn) hne⟩
 · refine ⟨some ⟨g,0,none⟩,cap,rfl,hn,fun _=>⟨g,rfl,hb,(Array.getElem?_eq_some_iff.1 hg).1,fun i hi=>?_⟩⟩
   rw [World.ownsRow.cellAt h' i (by omega),List.getElem?_eq_getElem hi,List.getD_eq_getElem?_getD,List.getElem?_eq_getElem hi]
   rfl
def Ro17 (lo:Nat) (w:World) (g n cap:Nat) (L:List Int):Prop:=n=L.length∧w.ownsRow lo 3 1 (.slice (some ⟨g,0,none⟩) n cap) n (L.map Iz)
theorem Ro17.cell {lo:Nat}{w:World}{g n cap:Nat}{L:List Int}(h:Ro17 lo w g n cap L) {k:Nat}(hk:k<n):w.cell? ⟨g,k,none⟩=some (.int .i64 (L.getD k 0)):=by
 have hl:=h.1;rw [World.ownsRow.cellAt h.2 k (by omega),List.getElem?_map,List.getElem?_eq_getElem (by omega),List.getD_eq_getElem?_getD,List.getElem?_eq_getElem (by omega)]
 rfl
theorem Ro17.lt {lo:Nat}{w:World}{g n cap:Nat}{L:List Int}(h:Ro17 lo w g n cap L):lo≤g∧g<w.heap.size:=World.ownsRow.lt h.2 g rfl
theorem Ro17.cap {lo:Nat}{w:World}{g n cap:Nat}{L:List Int}(h:Ro17 lo w g n cap L):n≤cap:=by
 rcases h.2.2 with ⟨h',_⟩|⟨g',cap',cur,h',_,_,hn,_⟩
 · simp at h'
 · injection h' with _ _ h3;omega
theorem Ro17.keep {lo:Nat}{w w':World}{g n cap:Nat}{L:List Int}(h:Ro17 lo w g n cap L) (e:w'.heap[g]?=w.heap[g]?):Ro17 lo w' g n cap L :=
 ⟨h.1,own_keep17 h.2 (fun k hk _=>by simp [Value.ownBlock] at hk;rw [←hk];exact e)⟩
theorem Ro17.set {lo:Nat}{w:World}{g n cap:Nat}{L:List Int}(h:Ro17 lo w g n cap L) (k:Nat) (x:Int):Ro17 lo (w.setCell ⟨g,k,none⟩ (.int .i64 x)) g n cap (L.set k x):=by
 refine ⟨by rw [List.length_set];exact h.1,?_⟩
 have:=(World.ownsRow.stored h.2 k (.int .i64 x)).1;rwa [←List.map_set (f:=Iz)] at this
theorem append_o17 {lo g n cap:Nat}{L:List Int}(x:Int) {w:World}(h:Ro17 lo w g n cap L) (hlo:lo≤w.heap.size) (hn:n≤100000) :
 ∃ g' cap' w',(Builtin.append_ #[57,57] 57 #[.slice (some ⟨g,0,none⟩) n cap,.slice (some ⟨w.heap.size,0,none⟩) 1 1]).run Tryz.prog (w.alloc (.cells #[.int .i64 x] 3))=.ok (.slice (some ⟨g',0,none⟩) (n+1) cap') w' ∧
   Ro17 lo w' g' (n+1) cap' (L++[x])∧w.grownBy w' (some g)∧(g'=g∨w.heap.size≤g')∧(∀ k,k<n→w'.cell? ⟨g,k,none⟩=w.cell? ⟨g,k,none⟩):=by
 obtain ⟨i0,hi,hz0,hz1,hz2⟩:=info_parts Tryz.info_int17;obtain ⟨W,hW⟩:∃ W,W=w.alloc (.cells #[.int .i64 x] 3):=⟨_,rfl⟩;have hg:=h.lt;have hcx:W.cell? ⟨w.heap.size,0,none⟩=some (.int .i64 x):=by subst hW;unfold World.cell?;simp only [heap_alloc_new];rfl
 have hWg:W.heap[g]?=w.heap[g]?:=by subst hW;exact (MapKept.heap_alloc w _).2 g hg.2
 have hWb:Ro17 lo W g n cap L:=h.keep hWg;have hWs:W.heap.size=w.heap.size+1:=by subst hW;simp
 have hWgr:w.grownBy W none:=by subst hW;exact World.grownBy_alloc w _ none
 have hnews:∀ j u,([.int .i64 x]:List Value)[j]?=some u→W.cell? ((⟨w.heap.size,0,none⟩:Addr).add j)=some u:=by
  intro j u hj
  match j,hj with
  | 0,hj=>simp at hj;subst hj;simpa [Addr.add] using hcx
 have h1:∀ u ∈ ([.int .i64 x]:List Value),u.oneCell'=true:=by intro u hu;simp at hu;subst hu;rfl
 rw [←hW]
 by_cases hroom:n+1≤cap
 · obtain ⟨w',r1,r2,r3⟩:=run_append_fits (P:=Tryz.prog) W lo 57 57 3 i0 1 Tryz.und_ints17 hi hz1 g n cap (L.map Iz) hWb.2 ⟨w.heap.size,0,none⟩ 1 1 [.int .i64 x] rfl hnews h1 hroom
   refine ⟨g,cap,w',r1,⟨by rw [List.length_append,h.1];rfl,by rw [List.map_append];exact r2⟩,?_,.inl rfl,fun k hk=>?_⟩
   · exact ⟨r3.os.trans hWgr.os,r3.tape.trans hWgr.tape,r3.output.trans hWgr.output,Nat.le_trans hWgr.size r3.size,fun i hi2 hne=>(r3.block i (by omega) hne).trans (hWgr.block i hi2 (by simp))⟩
   · rw [World.ownsRow.cellAt r2 k (by omega),World.ownsRow.cellAt h.2 k (by omega),List.getElem?_append_left (by rw [List.length_map,←h.1];exact hk)]
 · obtain ⟨v',w',r1,r2,r3,_,r5⟩:=run_append_own_at (P:=Tryz.prog) W lo 57 57 3 i0 (.int .i64 0) 1 8 Tryz.und_ints17 hi hz0 hz1 hz2 rfl (by decide) (.slice (some ⟨g,0,none⟩) n cap) n (L.map Iz) hWb.2 ⟨w.heap.size,0,none⟩ 1 1 [.int .i64 x] rfl hnews h1 (by unfold maxLen;omega) (by omega) (by omega)
   have holds:∀ j u,(L.map Iz)[j]?=some u→W.cell? ((⟨g,0,none⟩:Addr).add j)=some u:=World.ownsRow.cells hWb.2 (g:=g) rfl;have hr:=run_append_grow (P:=Tryz.prog) W 57 57 3 i0 (.int .i64 0) Tryz.und_ints17 hi hz0 ⟨g,0,none⟩ n cap (L.map Iz) (by rw [hz1];exact hWb.2.1) holds ⟨w.heap.size,0,none⟩ 1 1 [.int .i64 x] (by rw [hz1];rfl) hnews (by omega) (by omega) (growslice_fits (by omega) (by rw [hz2];omega))
   rw [hr] at r1
   injection r1 with e1 e2
   subst e1;rw [hr];have hwg:w'.heap[g]?=w.heap[g]?:=by rw [←e2,←hWg];exact (MapKept.heap_alloc W.drew _).2 g (by show g<W.heap.size;omega)
   refine ⟨W.heap.size,_,w',by rw [e2],⟨by rw [List.length_append,h.1];rfl,by rw [List.map_append];exact r2⟩,?_,.inr (by omega),fun k hk=>World.cell?_of_block (a:=⟨g,k,none⟩) hwg⟩
   exact ⟨r3.os.trans hWgr.os,r3.tape.trans hWgr.tape,r3.output.trans hWgr.output,Nat.le_trans hWgr.size r3.size,fun i hi2 hne=>(r3.block i (by omega) hne).trans (hWgr.block i hi2 (by simp))⟩
end
end Go.Proofs.YtffeldkheibccaaGreatDoor
