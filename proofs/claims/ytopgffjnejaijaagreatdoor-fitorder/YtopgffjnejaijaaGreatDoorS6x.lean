import Derived.Test.YtopgffjnejaijaaGreatDoorD30x
import Derived.Laws.OwnMore
import Derived.Lib.SliceRun
import Derived.Deep.RegionHeld
import Derived.Test.YtopgffjnejaijaaGreatDoorW18x
import Derived.Test.YtopgffjnejaijaaGreatDoorW8x
import Derived.Test.YtopgffjnejaijaaGreatDoorM1x
import Derived.Test.YtopgffjnejaijaaGreatDoorD4x
import Derived.OwnWalk
import Derived.Maps.AppendAt
set_option linter.unusedVariables false
set_option linter.unusedSimpArgs false
set_option maxHeartbeats 16000000
set_option maxRecDepth 20000
namespace Go.Proofs.YtopgffjnejaijaaGreatDoor
namespace J
end J
section
open Go.RowKit
theorem Tryz.desc_row:Tryz.prog.underlying 39=some (.slice 90):=by kernel_rfl
theorem clone_any (b n c:Nat) (L:List Nat) (w:World) (hl:L.length=n) (hn:n≤1000) (hH:Hd w b L) :
 Calls Tryz.prog 103 #[.slice (some ⟨b,0,none⟩) n c] w fun r w'=>∃ v',r=.returned v'∧w'.ownsRow w.heap.size 90 1 v' n (L.map U)∧v'≠.slice none 0 0∧Below w.heap.size w w':=by
 obtain ⟨i0,hi,hz0,hz1,hz2⟩:=info_parts Tryz.info90;have q39:∀ (w:World) (a:Option Addr) (n c n' c':Nat),(binOp .eql 39 (.slice a n c) (.slice none n' c')).run Tryz.prog w=.ok (.bool a.isNone) w:=fun w a n c n' c'=>Lib.run_eql_slice_nil w _ _ a n c n' c' Tryz.desc_row
 have A:Aside (L.length=n∧Hd w b L):=⟨hl,hH⟩;clear hl hH;go_enter Tryz.func103,Tryz.ntmps103
 go_wp2_with (at_builtin;refine wpList_append_own _ rfl _ _ 39 rfl w.heap.size 90 i0 (.int .u32 0) 1 4 Tryz.desc_row hi hz0 hz1 hz2 rfl (by decide) _ _ _ rfl (World.ownsRow_made w #[] 0 (Nat.le_refl _) (Nat.zero_le _) (by simp)) ⟨b,0,none⟩ n c (L.map U) rfl ?qc1 ?qc2 ?qc3 ?qc4 ?qc5 ?qc6 ?_)
 case qc1=>simp [A.out.1]
 case qc2 =>
  intro j u hj;have hj2:j<L.length:=by have:=(List.getElem?_eq_some_iff.1 hj).1;simpa using this
  rw [Addr.add_lit];refine Lib.cell?_alloc_some _ ?_
  rw [Nat.zero_add,A.out.2.2 j hj2,←hj,List.getElem?_map,List.getElem?_eq_getElem hj2,List.getD_eq_getElem?_getD,List.getElem?_eq_getElem hj2]
  rfl
 case qc3=>intro u hu;obtain ⟨x,_,rfl⟩:=List.mem_map.1 hu;rfl
 case qc4=>unfold maxLen;omega
 case qc5=>omega
 case qc6=>simp
 intro v' w1 hown hgrow hnil;go_wp2;go_ret;refine ⟨v',rfl,by simpa using hown,hnil,?_⟩
 exact ((Below.refl _ w).alloc (Nat.le_refl _) _).grown hgrow (by simp) (by intro k hk;simp [Value.ownBlock] at hk;omega)
theorem xor32s (a b:Nat) (ha:a<4294967296) (hb:b<4294967296):bits .xor .u32 (a:Int) (b:Int)=((a ^^^ b:Nat):Int):=by
 have hx:a ^^^ b<2^32:=Nat.xor_lt_two_pow (by omega) (by omega)
 show IntKind.u32.wrap ((BitVec.ofInt 32 (a:Int) ^^^ BitVec.ofInt 32 (b:Int)).toNat:Int)=_
 rw [BitVec.toNat_xor,ofInt32 a ha,ofInt32 b hb,wrap_u32n];omega
theorem xor_max (x:Nat) (h:x<4294967296):bits BinOp.xor IntKind.u32 IntKind.u32.max (x:Int)=((4294967295-x:Nat):Int):=by
 have e:IntKind.u32.max=((4294967295:Nat):Int):=by decide
 rw [e,xor32s _ _ (by decide) h]
 congr 1
 have h1:(BitVec.allOnes 32 ^^^ BitVec.ofNat 32 x)= ~~~ (BitVec.ofNat 32 x):=BitVec.allOnes_xor;have h2:=congrArg BitVec.toNat h1;simp only [BitVec.toNat_xor,BitVec.toNat_allOnes,BitVec.toNat_not,BitVec.toNat_ofNat] at h2;rw [Nat.mod_eq_of_lt (by omega)] at h2
 exact h2
theorem turn_step (M L:List Nat) (k c s d:Nat) (hM:M.length=133) (hL:L.length=133) (hk:k<133) (hx:L.getD k 0<4294967296) (ho:∀ j,k≤j→M.getD j 0=L.getD j 0) (e:s+d*4294967296=c+(4294967295-L.getD k 0)) (h:sg M 0 k+c*pw k+sg L 0 k=pw k) :
 sg (M.set k s) 0 (k+1)+d*pw (k+1)+sg L 0 (k+1)=pw (k+1):=by
 have h1:=sg_set_last M 0 k s (by omega)
 rw [Nat.zero_add] at h1;rw [h1,sg_succ L 0 k (by omega),Nat.zero_add,pw_succ]
 have e2:(s+d*4294967296+L.getD k 0)*pw k=(c+4294967295)*pw k:=by congr 1;omega
 simp only [Nat.add_mul,Nat.mul_assoc] at e2;rw [Nat.mul_comm (pw k) s,Nat.mul_comm (pw k) (L.getD k 0)];omega
theorem turn_any (L:List Nat) (lo g cap:Nat) (w:World) (hl:L.length=133) (hL:Wf L) (hR:w.ownsRow lo 90 1 (.slice (some ⟨g,0,none⟩) 133 cap) 133 (L.map U)) :
 Calls Tryz.prog 104 #[.slice (some ⟨g,0,none⟩) 133 cap] w fun r w' =>
  r=.returned (.tuple #[])∧∃ M,w'.ownsRow lo 90 1 (.slice (some ⟨g,0,none⟩) 133 cap) 133 (M.map U)∧M.length=133∧Wf M∧val M=(PB-val L)%PB∧But g w w':=by
 have HR:Aside (Wf L∧L.length=133∧w.ownsRow lo 90 1 (.slice (some ⟨g,0,none⟩) 133 cap) 133 (L.map U)):=⟨hL,hl,hR⟩;clear hL hl hR;go_enter Tryz.func104,Tryz.ntmps104;go_wp2
 go_loopg [2,7] 133 (fun gk c i wr=>∃ (k cv:Nat) (M:List Nat),gk+k=133∧i=.int .i64 (k:Nat)∧c=.int .u64 (cv:Nat)∧cv<2 ∧
  Hid (wr.ownsRow lo 90 1 (.slice (some ⟨g,0,none⟩) 133 cap) 133 (M.map U))∧Aside (Wf M∧M.length=133∧(∀ j,k≤j→M.getD j 0=L.getD j 0)∧sg M 0 k+cv*pw k+sg L 0 k=pw k∧But g w wr))
 case atStart=>exact ⟨0,1,L,by omega,by simp,by simp,by omega,HR.out.2.2,HR.out.1,HR.out.2.1,fun _ _=>rfl,by simp [sg_zero],But.refl _ _⟩
 case round =>
  obtain ⟨k,cv,M,hgk,rfl,rfl,hcv,HM,HA⟩:=hrel
  by_cases hk:k<133
  · obtain ⟨hL,hl,hR⟩:=HR.out
    obtain ⟨hMw,hMl,hMo,hMs,hbut⟩:=HA.out
    have hgc:wr.cell? ⟨g,k,none⟩=some (.int .u32 ((M.getD k 0:Nat):Int)):=by
     rw [HM.out.cellAt k (by omega)];simp [U,List.getD_eq_getElem?_getD,List.getElem?_eq_getElem (show k<M.length by omega)]
    have hgf:=HM.out.frozenAt k;obtain ⟨x,hx⟩:∃ x:Nat,M.getD k 0=x:=⟨_,rfl⟩;have hxl:x<4294967296:=hx ▸ hMw.get _;rw [hx] at hgc;obtain ⟨y,hy⟩:∃ y:Nat,y=4294967295-x:=⟨_,rfl⟩;have e1:bits BinOp.xor IntKind.u32 IntKind.u32.max (x:Int)=(y:Int):=by rw [xor_max x hxl,hy]
    have hyl:y<4294967296:=by omega
    have HX:Aside (M.getD k 0=x∧y=4294967295-x):=⟨hx,hy⟩;clear hy;clear hx hL hl hR hMw hMl hMo hMs hbut;obtain ⟨gk,rfl⟩:∃ k,gk=k+1:=⟨gk-1,by omega⟩
    go_wp2
    go_roundg gk
    case measure=>omega
    case rel =>
     obtain ⟨hL,hl,hR⟩:=HR.out;obtain ⟨hMw,hMl,hMo,hMs,hbut⟩:=HA.out;obtain ⟨hx,hy⟩:=HX.out;have e2:((cv:Int)+(y:Int))%4294967296=(((cv+y)%4294967296:Nat):Int):=by omega
     have e3:((cv:Int)+(y:Int))/4294967296=(((cv+y)/4294967296:Nat):Int):=by omega
     rw [wrap_u64n (y:Int) (by omega) (by omega),wrap_u64n ((cv:Int)+(y:Int)) (by omega) (by omega),e2]
     refine ⟨k+1,(cv+y)/4294967296,M.set k ((cv+y)%4294967296),by omega,by simp,by rw [e3],by omega,?_,hMw.set _ _ (Nat.mod_lt _ (by decide)),by simp [hMl],fun j hj=>by rw [getD_set_ne _ _ _ _ (by omega)];exact hMo j (by omega),?_,hbut.set k _⟩
     · rw [List.map_set];exact (HM.out.stored k _).1
     · have hLx:L.getD k 0=x:=by rw [←hMo k (Nat.le_refl _)];exact hx
       exact turn_step M L k cv _ _ hMl hl hk (by omega) hMo (by rw [hLx];omega) hMs
  · obtain rfl:k=133:=by omega
    go_wp2;refine bodyPost_end (v:=.tuple #[]) (by simp [results,Tryz.results104,go_sem]) rfl ?_
    obtain ⟨hMw,hMl,hMo,hMs,hbut⟩:=HA.out;refine ⟨rfl,M,HM.out,hMl,hMw,?_,hbut⟩;have a1:=sg_all M;have a2:=sg_all L;rw [hMl] at a1;rw [HR.out.2.1] at a2;rw [a1,a2] at hMs;have hb:=val_lt_PB hMl hMw;have eP:pw 133=PB:=by unfold PB;rfl
    rw [eP] at hMs;have h2:PB-val L=val M+PB*cv:=by rw [Nat.mul_comm];omega
    rw [h2,Nat.add_mul_mod_self_left,Nat.mod_eq_of_lt hb]
def mag7 (N:Nat):Nat:=if neg7 N then PB-N else N
theorem row_arg {w:World}{lo cap:Nat}{L:List Nat}{g:Nat}(h:w.ownsRow lo 90 1 (.slice (some ⟨g,0,none⟩) 133 cap) 133 (L.map U)) (hl:L.length=133) (hL:Wf L):Arg w (some ⟨g,0,none⟩) 133 cap L:=by
 have hg:g<w.heap.size:=(h.lt g rfl).2
 have hc:133≤cap:=by
  rcases h.2 with ⟨h',_⟩|⟨g',cap',cur,h',_,_,hn,_⟩
  · simp at h'
  · simp only [Value.slice.injEq,Option.some.injEq,Addr.mk.injEq,and_true,true_and] at h'
    omega
 refine ⟨hl.symm,hc,by decide,hL,fun _=>⟨g,0,hg,rfl,fun i hi=>?_⟩,fun e=>by cases e⟩
 rw [Nat.zero_add,h.cellAt i (by omega),List.getElem?_map,List.getElem?_eq_getElem hi,List.getD_eq_getElem?_getD,List.getElem?_eq_getElem hi]
 rfl
theorem size7_any (L:List Nat) (g:Nat) (w:World) (hl:L.length=133) (hL:Wf L) (hH:Hd w g L) :
 Calls Tryz.prog 81 #[.pointer (some ⟨g,0,none⟩)] w fun r w' =>
  ∃ b cap M,r=.returned (.slice (some ⟨b,0,none⟩) 133 cap)∧Arg w' (some ⟨b,0,none⟩) 133 cap M∧val M=mag7 (val L)∧Below w.heap.size w w':=by
 have HR:Aside (Wf L∧L.length=133∧Hd w g L):=⟨hL,hl,hH⟩;clear hL hl hH;go_enter Tryz.func81,Tryz.ntmps81
 go_wp2_with fail
 refine Calls.mono (clone_any g 133 133 L w HR.out.2.1 (by decide) HR.out.2.2) ?_
 rintro r w1 ⟨v',rfl,hown,hnn,hb1⟩;have HO:Aside (w1.ownsRow w.heap.size 90 1 v' 133 (L.map U)∧Below w.heap.size w w1):=⟨hown,hb1⟩
 obtain ⟨b,cap,rfl⟩:∃ b cap,v'=.slice (some ⟨b,0,none⟩) 133 cap:=by
  rcases hown.2 with ⟨_,h⟩|⟨g',cap',cur,h,_⟩
  · cases h
  · exact ⟨g',cap',h⟩
 clear hown hnn hb1
 go_wp2_with fail
 obtain ⟨hL,hl,hH⟩:=HR.out;refine Calls.mono (below_any g L w1 hl hL (hH.below HO.out.2 hH.1 (Nat.le_refl _))) ?_;rintro r w2 ⟨rfl,rfl⟩;clear hL hl hH
 cases hn:neg7 (val L)
 · have HN:Aside (neg7 (val L)=false):=hn
   clear hn;go_wp2;go_ret;obtain ⟨hL,hl,hH⟩:=HR.out;exact ⟨b,cap,L,rfl,row_arg HO.out.1 hl hL,by unfold mag7;rw [HN.out];rfl,HO.out.2⟩
 · have HN:Aside (neg7 (val L)=true):=hn
   clear hn
   go_wp2_with fail
   obtain ⟨hL,hl,hH⟩:=HR.out;refine Calls.mono (turn_any L w.heap.size b cap w2 hl hL HO.out.1) ?_;rintro r w3 ⟨rfl,M,hM,hMl,hMw,hMv,hbut⟩;have HM:Aside (w3.ownsRow w.heap.size 90 1 (.slice (some ⟨b,0,none⟩) 133 cap) 133 (M.map U)∧M.length=133∧Wf M∧val M=(PB-val L)%PB∧But b w2 w3):=⟨hM,hMl,hMw,hMv,hbut⟩;clear hL hl hH hM hMl hMw hMv hbut;go_wp2;go_ret;obtain ⟨hM,hMl,hMw,hMv,hbut⟩:=HM.out;refine ⟨b,cap,M,rfl,row_arg hM hMl hMw,?_,But.below HO.out.2 hbut HO.out.2.size (HO.out.1.lt b rfl).1⟩;unfold mag7;rw [HN.out,hMv,if_pos rfl,Nat.mod_eq_of_lt];have h1:PB≤2*val L:=of_decide_eq_true HN.out;have:=PB_pos;omega
end
section
open Go.RowKit
theorem But.of_bel {g:Nat}{a w w':World}(h:But g a w) (hb:Below w.heap.size w w'):But g a w' :=
 h.trans ⟨hb.os,hb.tape,hb.output,hb.size,fun k hk _=>hb.block k hk⟩
structure Sp where
 (n u d m p a:Int)
def Sp.cells (s:Sp):List Value:=[.int .i64 s.n,.int .i64 s.u,.int .i64 s.d,.int .i64 s.m,.int .i64 s.p,.int .i64 s.a]
def Sp.agg (s:Sp):Value:=.agg #[.int .i64 s.n,.int .i64 s.u,.int .i64 s.d,.int .i64 s.m,.int .i64 s.p,.int .i64 s.a]
def Ac (w:World) (g:Nat) (L:List Nat) (s:Sp):Prop:=Bl w g 114 (L.map U++s.cells)
theorem Ac.lt {w:World}{g:Nat}{L:List Nat}{s:Sp}(h:Ac w g L s):g<w.heap.size:=Bl.lt h
theorem Ac.hd {w:World}{g:Nat}{L:List Nat}{s:Sp}(h:Ac w g L s):Hd w g L:=Bl.hd h
theorem Ac.cell {w:World}{g:Nat}{L:List Nat}{s:Sp}(h:Ac w g L s) (hl:L.length=133) (k:Nat) (v:Value) (hk:s.cells[k]?=some v):w.cell? ⟨g,133+k,none⟩=some v :=
 Bl.cell h _ _ (by rw [List.getElem?_append_right (by simp;omega)];simpa [hl] using hk)
theorem Ac.frozen {w:World}{g:Nat}{L:List Nat}{s:Sp}(h:Ac w g L s) (k:Nat):w.frozen? ⟨g,k,none⟩=false:=Bl.frozen h k
theorem Ac.below {w w':World}{g B:Nat}{L:List Nat}{s:Sp}(h:Ac w g L s) (hb:Below B w w') (hg:g<B):Ac w' g L s:=Bl.below h hb hg
theorem Ac.drew {w:World}{g:Nat}{L:List Nat}{s:Sp}(h:Ac w g L s):Ac w.drew g L s:=h
theorem Ac.alloc {w:World}{g:Nat}{L:List Nat}{s:Sp}(h:Ac w g L s) (o:Obj):Ac (w.alloc o) g L s:=Bl.alloc h o
theorem Ac.there {w:World}{g:Nat}{L:List Nat}{s:Sp}(h:Ac w g L s) (hl:L.length=133):w.there g 0 133:=Bl.there h 0 133 (by simp [hl])
theorem Ac.range {w:World}{g:Nat}{L:List Nat}{s:Sp}(h:Ac w g L s):w.rangeAt g 0 (L.map U):=Bl.range h 0 _ (fun j v hv=>by
 rw [Nat.zero_add,List.getElem?_append_left (List.getElem?_eq_some_iff.1 hv).1];exact hv)
theorem oneCell_Ul (L:List Nat):∀ v ∈ L.map U,v.oneCell'=true:=fun v hv=>by
 obtain ⟨x,_,rfl⟩:=List.mem_map.1 hv;rfl
theorem become_yes (g:Nat) (L M:List Nat) (s t:Sp) (w:World) (hA:Ac w g L s) (hl:L.length=133) (hM:Wf M) (hm:M.length=133) (hb:bey (val M)=false) :
 Calls Tryz.prog 99 #[.pointer (some ⟨g,0,none⟩),.agg (M.map U).toArray,t.agg] w fun r w' =>
  r=.returned (.int .i64 0)∧Ac w' g M t∧But g w w':=by
 obtain ⟨tn,tu,td,tm,tp,ta⟩:=t;simp only [Sp.agg];have HR:Aside (Ac w g L s∧L.length=133∧Wf M∧M.length=133∧bey (val M)=false):=⟨hA,hl,hM,hm,hb⟩;clear hA hl hM hm hb;go_enter Tryz.func99,Tryz.ntmps99
 go_wp2_with fail
 obtain ⟨w2,hw2⟩:∃ w2,w2=((w.alloc (Obj.cells (M.map U).toArray 112)).alloc (Obj.cells #[.int .i64 tn,.int .i64 tu,.int .i64 td,.int .i64 tm,.int .i64 tp,.int .i64 ta] 101)):=⟨_,rfl⟩;rw [←hw2]
 have H2:Aside (Ac w2 g L s∧Wb w2 w.heap.size M∧Bl w2 (w.heap.size+1) 101 [.int .i64 tn,.int .i64 tu,.int .i64 td,.int .i64 tm,.int .i64 tp,.int .i64 ta]∧Below w.heap.size w w2∧g<w.heap.size):=by
  subst hw2;refine ⟨(HR.out.1.alloc _).alloc _,((Bl.new w 112 (M.map U)).alloc _).wb,Bl.new' _ 101 _ [_,_,_,_,_,_] (by simp),(bel_alloc w _).trans ((bel_alloc _ _).mono (by simp)),HR.out.1.lt⟩
 clear hw2;refine Calls.mono (beyond_any w.heap.size M w2 HR.out.2.2.2.1 HR.out.2.2.1 H2.out.2.1.hd) ?_;rintro r w3 ⟨rfl,rfl⟩;rw [HR.out.2.2.2.2];go_wp2;have hne1:g≠w.heap.size:=Nat.ne_of_lt H2.out.2.2.2.2;have hne2:g≠w.heap.size+1:=by have:=H2.out.2.2.2.2;omega
 have hu:=Tryz.desc_words;have hsz:(Tryz.prog.info? 112).map (·.size)=some (M.map U).length:=by rw [Tryz.size_words,List.length_map,HR.out.2.2.2.1]
 have hlen:(M.map U).length=133:=by rw [List.length_map,HR.out.2.2.2.1]
 have hone:=oneCell_Ul M;obtain ⟨A2,B2,C2,_,hlt⟩:=H2.out;have hB0:But g w3 (w3.drew):=(But.refl _ _).drew;have hB1:But g w3 (w3.drew.setCells g 0 (M.map U)):=But.setCells _ _ hB0;have hB2:But g w3 (((((((w3.drew.setCells g 0 (M.map U)).setCell ⟨g,133,none⟩ (.int .i64 tn)).setCell ⟨g,134,none⟩ (.int .i64 tu)).setCell ⟨g,135,none⟩ (.int .i64 td)).setCell ⟨g,136,none⟩ (.int .i64 tm)).setCell ⟨g,137,none⟩ (.int .i64 tp)).setCell ⟨g,138,none⟩ (.int .i64 ta)):=(((((hB1.set _ _).set _ _).set _ _).set _ _).set _ _).set _ _
 have hA1:Bl (w3.drew.setCells g 0 (M.map U)) g 114 (M.map U++s.cells):=by
  have:=Bl.setCells (M.map U) 0 A2.drew (by simp [HR.out.2.1,HR.out.2.2.2.1])
  rw [List.take_zero,List.nil_append,Nat.zero_add,List.drop_left' (by simp [HR.out.2.1,HR.out.2.2.2.1])] at this
  exact this
 have hA2:Bl (((((((w3.drew.setCells g 0 (M.map U)).setCell ⟨g,133,none⟩ (.int .i64 tn)).setCell ⟨g,134,none⟩ (.int .i64 tu)).setCell ⟨g,135,none⟩ (.int .i64 td)).setCell ⟨g,136,none⟩ (.int .i64 tm)).setCell ⟨g,137,none⟩ (.int .i64 tp)).setCell ⟨g,138,none⟩ (.int .i64 ta)) g 114 (M.map U++[.int .i64 tn,.int .i64 tu,.int .i64 td,.int .i64 tm,.int .i64 tp,.int .i64 ta]):=by
  have:=(((((hA1.set 133 (.int .i64 tn)).set 134 (.int .i64 tu)).set 135 (.int .i64 td)).set 136 (.int .i64 tm)).set 137 (.int .i64 tp)).set 138 (.int .i64 ta);have hm:=HR.out.2.2.2.1;simpa [List.set_append,hm,Sp.cells] using this
 have kS0:Aside ((w3.drew).rangeAt w.heap.size 0 (M.map U)∧(w3.drew).there g 0 133∧(w3.drew).cell? ⟨w.heap.size+1,0,none⟩=some (.int .i64 tn)∧(w3.drew).cell? ⟨w.heap.size+1,1,none⟩=some (.int .i64 tu)∧(w3.drew).cell? ⟨w.heap.size+1,2,none⟩=some (.int .i64 td)∧(w3.drew).cell? ⟨w.heap.size+1,3,none⟩=some (.int .i64 tm)∧(w3.drew).cell? ⟨w.heap.size+1,4,none⟩=some (.int .i64 tp)∧(w3.drew).cell? ⟨w.heap.size+1,5,none⟩=some (.int .i64 ta)) :=
  ⟨(Bl.but B2.bl hB0 (by omega)).range 0 _ (fun j v hv=>by simpa using hv),A2.drew.there HR.out.2.1,(Bl.but C2 hB0 (by omega)).cell 0 _ rfl,(Bl.but C2 hB0 (by omega)).cell 1 _ rfl,(Bl.but C2 hB0 (by omega)).cell 2 _ rfl,(Bl.but C2 hB0 (by omega)).cell 3 _ rfl,(Bl.but C2 hB0 (by omega)).cell 4 _ rfl,(Bl.but C2 hB0 (by omega)).cell 5 _ rfl⟩
 have kS1:Aside ((w3.drew.setCells g 0 (M.map U)).rangeAt w.heap.size 0 (M.map U)∧(w3.drew.setCells g 0 (M.map U)).there g 0 133∧(w3.drew.setCells g 0 (M.map U)).cell? ⟨w.heap.size+1,0,none⟩=some (.int .i64 tn)∧(w3.drew.setCells g 0 (M.map U)).cell? ⟨w.heap.size+1,1,none⟩=some (.int .i64 tu)∧(w3.drew.setCells g 0 (M.map U)).cell? ⟨w.heap.size+1,2,none⟩=some (.int .i64 td)∧(w3.drew.setCells g 0 (M.map U)).cell? ⟨w.heap.size+1,3,none⟩=some (.int .i64 tm)∧(w3.drew.setCells g 0 (M.map U)).cell? ⟨w.heap.size+1,4,none⟩=some (.int .i64 tp)∧(w3.drew.setCells g 0 (M.map U)).cell? ⟨w.heap.size+1,5,none⟩=some (.int .i64 ta)) :=
  ⟨(Bl.but B2.bl hB1 (by omega)).range 0 _ (fun j v hv=>by simpa using hv),Bl.there hA1 0 133 (by simp [HR.out.2.2.2.1]),(Bl.but C2 hB1 (by omega)).cell 0 _ rfl,(Bl.but C2 hB1 (by omega)).cell 1 _ rfl,(Bl.but C2 hB1 (by omega)).cell 2 _ rfl,(Bl.but C2 hB1 (by omega)).cell 3 _ rfl,(Bl.but C2 hB1 (by omega)).cell 4 _ rfl,(Bl.but C2 hB1 (by omega)).cell 5 _ rfl⟩
 have kS2:Aside (((((((((w3.drew.setCells g 0 (M.map U)).setCell ⟨g,133,none⟩ (.int .i64 tn)).setCell ⟨g,134,none⟩ (.int .i64 tu)).setCell ⟨g,135,none⟩ (.int .i64 td)).setCell ⟨g,136,none⟩ (.int .i64 tm)).setCell ⟨g,137,none⟩ (.int .i64 tp)).setCell ⟨g,138,none⟩ (.int .i64 ta))).rangeAt w.heap.size 0 (M.map U)∧((((((((w3.drew.setCells g 0 (M.map U)).setCell ⟨g,133,none⟩ (.int .i64 tn)).setCell ⟨g,134,none⟩ (.int .i64 tu)).setCell ⟨g,135,none⟩ (.int .i64 td)).setCell ⟨g,136,none⟩ (.int .i64 tm)).setCell ⟨g,137,none⟩ (.int .i64 tp)).setCell ⟨g,138,none⟩ (.int .i64 ta))).there g 0 133∧((((((((w3.drew.setCells g 0 (M.map U)).setCell ⟨g,133,none⟩ (.int .i64 tn)).setCell ⟨g,134,none⟩ (.int .i64 tu)).setCell ⟨g,135,none⟩ (.int .i64 td)).setCell ⟨g,136,none⟩ (.int .i64 tm)).setCell ⟨g,137,none⟩ (.int .i64 tp)).setCell ⟨g,138,none⟩ (.int .i64 ta))).cell? ⟨w.heap.size+1,0,none⟩=some (.int .i64 tn)∧((((((((w3.drew.setCells g 0 (M.map U)).setCell ⟨g,133,none⟩ (.int .i64 tn)).setCell ⟨g,134,none⟩ (.int .i64 tu)).setCell ⟨g,135,none⟩ (.int .i64 td)).setCell ⟨g,136,none⟩ (.int .i64 tm)).setCell ⟨g,137,none⟩ (.int .i64 tp)).setCell ⟨g,138,none⟩ (.int .i64 ta))).cell? ⟨w.heap.size+1,1,none⟩=some (.int .i64 tu)∧((((((((w3.drew.setCells g 0 (M.map U)).setCell ⟨g,133,none⟩ (.int .i64 tn)).setCell ⟨g,134,none⟩ (.int .i64 tu)).setCell ⟨g,135,none⟩ (.int .i64 td)).setCell ⟨g,136,none⟩ (.int .i64 tm)).setCell ⟨g,137,none⟩ (.int .i64 tp)).setCell ⟨g,138,none⟩ (.int .i64 ta))).cell? ⟨w.heap.size+1,2,none⟩=some (.int .i64 td)∧((((((((w3.drew.setCells g 0 (M.map U)).setCell ⟨g,133,none⟩ (.int .i64 tn)).setCell ⟨g,134,none⟩ (.int .i64 tu)).setCell ⟨g,135,none⟩ (.int .i64 td)).setCell ⟨g,136,none⟩ (.int .i64 tm)).setCell ⟨g,137,none⟩ (.int .i64 tp)).setCell ⟨g,138,none⟩ (.int .i64 ta))).cell? ⟨w.heap.size+1,3,none⟩=some (.int .i64 tm)∧((((((((w3.drew.setCells g 0 (M.map U)).setCell ⟨g,133,none⟩ (.int .i64 tn)).setCell ⟨g,134,none⟩ (.int .i64 tu)).setCell ⟨g,135,none⟩ (.int .i64 td)).setCell ⟨g,136,none⟩ (.int .i64 tm)).setCell ⟨g,137,none⟩ (.int .i64 tp)).setCell ⟨g,138,none⟩ (.int .i64 ta))).cell? ⟨w.heap.size+1,4,none⟩=some (.int .i64 tp)∧((((((((w3.drew.setCells g 0 (M.map U)).setCell ⟨g,133,none⟩ (.int .i64 tn)).setCell ⟨g,134,none⟩ (.int .i64 tu)).setCell ⟨g,135,none⟩ (.int .i64 td)).setCell ⟨g,136,none⟩ (.int .i64 tm)).setCell ⟨g,137,none⟩ (.int .i64 tp)).setCell ⟨g,138,none⟩ (.int .i64 ta))).cell? ⟨w.heap.size+1,5,none⟩=some (.int .i64 ta)) :=
  ⟨(Bl.but B2.bl hB2 (by omega)).range 0 _ (fun j v hv=>by simpa using hv),Bl.there hA2 0 133 (by simp [HR.out.2.2.2.1]),(Bl.but C2 hB2 (by omega)).cell 0 _ rfl,(Bl.but C2 hB2 (by omega)).cell 1 _ rfl,(Bl.but C2 hB2 (by omega)).cell 2 _ rfl,(Bl.but C2 hB2 (by omega)).cell 3 _ rfl,(Bl.but C2 hB2 (by omega)).cell 4 _ rfl,(Bl.but C2 hB2 (by omega)).cell 5 _ rfl⟩
 have o0:=hA1.cell 133 _ (by rw [List.getElem?_append_right (by simp [HR.out.2.2.2.1])];simp [HR.out.2.2.2.1,Sp.cells];rfl)
 have f0:=hA1.frozen 133;have o1:=hA1.cell 134 _ (by rw [List.getElem?_append_right (by simp [HR.out.2.2.2.1])];simp [HR.out.2.2.2.1,Sp.cells];rfl)
 have f1:=hA1.frozen 134;have o2:=hA1.cell 135 _ (by rw [List.getElem?_append_right (by simp [HR.out.2.2.2.1])];simp [HR.out.2.2.2.1,Sp.cells];rfl)
 have f2:=hA1.frozen 135;have o3:=hA1.cell 136 _ (by rw [List.getElem?_append_right (by simp [HR.out.2.2.2.1])];simp [HR.out.2.2.2.1,Sp.cells];rfl)
 have f3:=hA1.frozen 136;have o4:=hA1.cell 137 _ (by rw [List.getElem?_append_right (by simp [HR.out.2.2.2.1])];simp [HR.out.2.2.2.1,Sp.cells];rfl)
 have f4:=hA1.frozen 137;have o5:=hA1.cell 138 _ (by rw [List.getElem?_append_right (by simp [HR.out.2.2.2.1])];simp [HR.out.2.2.2.1,Sp.cells];rfl)
 have f5:=hA1.frozen 138;have fw0:=H2.out.1.frozen 133;have fw1:=H2.out.1.frozen 134;have fw2:=H2.out.1.frozen 135;have fw3:=H2.out.1.frozen 136;have fw4:=H2.out.1.frozen 137;have fw5:=H2.out.1.frozen 138;have HE:Aside (Ac (((((((w3.drew.setCells g 0 (M.map U)).setCell ⟨g,133,none⟩ (.int .i64 tn)).setCell ⟨g,134,none⟩ (.int .i64 tu)).setCell ⟨g,135,none⟩ (.int .i64 td)).setCell ⟨g,136,none⟩ (.int .i64 tm)).setCell ⟨g,137,none⟩ (.int .i64 tp)).setCell ⟨g,138,none⟩ (.int .i64 ta)) g M ⟨tn,tu,td,tm,tp,ta⟩∧But g w3 (((((((w3.drew.setCells g 0 (M.map U)).setCell ⟨g,133,none⟩ (.int .i64 tn)).setCell ⟨g,134,none⟩ (.int .i64 tu)).setCell ⟨g,135,none⟩ (.int .i64 td)).setCell ⟨g,136,none⟩ (.int .i64 tm)).setCell ⟨g,137,none⟩ (.int .i64 tp)).setCell ⟨g,138,none⟩ (.int .i64 ta))):=⟨hA2,hB2⟩;clear A2 B2 C2 hB0 hB1 hB2 hA1 hA2
 go_region_held (fun w'=>(w').rangeAt w.heap.size 0 (M.map U)∧(w').there g 0 133∧(w').cell? ⟨w.heap.size+1,0,none⟩=some (.int .i64 tn)∧(w').cell? ⟨w.heap.size+1,1,none⟩=some (.int .i64 tu)∧(w').cell? ⟨w.heap.size+1,2,none⟩=some (.int .i64 td)∧(w').cell? ⟨w.heap.size+1,3,none⟩=some (.int .i64 tm)∧(w').cell? ⟨w.heap.size+1,4,none⟩=some (.int .i64 tp)∧(w').cell? ⟨w.heap.size+1,5,none⟩=some (.int .i64 ta)) (first | with_reducible exact kS2.out | with_reducible exact kS1.out | with_reducible exact kS0.out) (fail)
 clear kS0 kS1 kS2 o0 o1 o2 o3 o4 o5 f0 f1 f2 f3 f4 f5 fw0 fw1 fw2 fw3 fw4 fw5 hsz hone hlen hu;go_wp2;go_ret;exact ⟨rfl,HE.out.1,((But.refl g w).of_bel H2.out.2.2.2.1).trans HE.out.2⟩
theorem become_no (g:Nat) (L M:List Nat) (s t:Sp) (w:World) (hA:Ac w g L s) (hM:Wf M) (hm:M.length=133) (hb:bey (val M)=true) :
 Calls Tryz.prog 99 #[.pointer (some ⟨g,0,none⟩),.agg (M.map U).toArray,t.agg] w fun r w' =>
  r=.returned (.int .i64 2)∧Below w.heap.size w w':=by
 obtain ⟨tn,tu,td,tm,tp,ta⟩:=t;simp only [Sp.agg];have HR:Aside (Wf M∧M.length=133∧bey (val M)=true):=⟨hM,hm,hb⟩;clear hA hM hm hb;go_enter Tryz.func99,Tryz.ntmps99
 go_wp2_with fail
 obtain ⟨w2,hw2⟩:∃ w2,w2=((w.alloc (Obj.cells (M.map U).toArray 112)).alloc (Obj.cells #[.int .i64 tn,.int .i64 tu,.int .i64 td,.int .i64 tm,.int .i64 tp,.int .i64 ta] 101)):=⟨_,rfl⟩;rw [←hw2]
 have H2:Aside (Wb w2 w.heap.size M∧Below w.heap.size w w2):=by
  subst hw2;exact ⟨((Bl.new w 112 (M.map U)).alloc _).wb,(bel_alloc w _).trans ((bel_alloc _ _).mono (by simp))⟩
 clear hw2;refine Calls.mono (beyond_any w.heap.size M w2 HR.out.2.1 HR.out.1 H2.out.1.hd) ?_;rintro r w3 ⟨rfl,rfl⟩;rw [HR.out.2.2];go_wp2;go_ret;exact ⟨rfl,H2.out.2⟩
end
section
open Go.RowKit
def Sp.ok (s:Sp):Prop:=(-4398046511104≤s.n∧s.n≤4398046511104)∧(-4398046511104≤s.u∧s.u≤4398046511104)∧(-4398046511104≤s.d∧s.d≤4398046511104)∧(-4398046511104≤s.m∧s.m≤4398046511104)∧(-4398046511104≤s.p∧s.p≤4398046511104)∧(-4398046511104≤s.a∧s.a≤4398046511104)
def Sp.cnt (s:Sp) (k:Nat) (c:Int):Sp :=
 ⟨if k=1 then s.n+c else s.n,if k=2 then s.u+c else s.u,if k=3 then s.d+c else s.d,if k=4 then s.m+c else s.m,if k=5 then s.p+c else s.p,s.a+c⟩
theorem signed_any (b:Bool) (x y:Int) (w:World):Calls Tryz.prog 102 #[.bool b,.int .i64 x,.int .i64 y] w fun r w'=>r=.returned (.int .i64 (if b then x else y))∧w'=w:=by
 cases b
 · go_enter Tryz.func102,Tryz.ntmps102
   go_wp2;go_ret;exact ⟨rfl,rfl⟩
 · go_enter Tryz.func102,Tryz.ntmps102
   go_wp2;go_ret;exact ⟨rfl,rfl⟩
theorem counted_any (s:Sp) (k:Nat) (c:Int) (w:World) (hk:k≤5) (hs:s.ok) (hc0:-1≤c) (hc1:c≤1):Calls Tryz.prog 101 #[s.agg,.int .i64 (k:Nat),.int .i64 c] w fun r w'=>r=.returned (s.cnt k c).agg∧Below w.heap.size w w':=by
 obtain ⟨n,u,d,m,p,a⟩:=s;obtain ⟨h0,h1,h2,h3,h4,h5⟩:=hs;simp only [Sp.agg] at *;have hc:k=0∨k=1∨k=2∨k=3∨k=4∨k=5:=by omega
 rcases hc with rfl|rfl|rfl|rfl|rfl|rfl
 all_goals (
  go_enter Tryz.func101,Tryz.ntmps101;go_wp2;exact bodyPost_ret (v:=(Sp.cnt ⟨n,u,d,m,p,a⟩ _ c).agg) (by simp [results,Tryz.results101,go_sem,Sp.agg,Sp.cnt]) rfl ⟨rfl,(bel_alloc _ _).trans ((bel_alloc _ _).mono (by simp))⟩)
end
section
open Go.RowKit
def SplitIs (x:Nat) (n:Bool) (c e:Int) (f:Nat):Prop:=∀ w:World,Calls Tryz.prog 32 #[.float .f64 x] w fun r w'=>r=.returned (.agg #[.bool n,.int .i64 c,.int .i64 e,.int .u64 (f:Nat)])∧Below w.heap.size w w'
def Th (lo:Nat) (w:World) (v:Value) (k:Nat) (T:Int):Prop :=
 ∃ ng a n c p xs,(∀ ad:Addr,a=some ad→lo≤ad.block)∧v=.agg #[.int .i64 (k:Nat),.bool ng,.slice a n c,.int .i64 ((p:Nat):Int)]∧Arg w a n c xs∧p+32*n≤4256∧sgn7 ng (val xs*2^p)=T
theorem Th.plain (lo:Nat) (w:World) (k:Nat):Th lo w (.agg #[.int .i64 (k:Nat),.bool false,.slice none 0 0,.int .i64 0]) k 0 :=
 ⟨false,none,0,0,0,[],fun _ e=>(by cases e),rfl,⟨rfl,Nat.le_refl _,by decide,Wf.nil,Rd.nil _ _ _,fun _=>rfl⟩,by decide,by simp [sgn7,val]⟩
theorem put4 {w:World}{g T:Nat}{a b c d v0 v1 v2 v3:Value}(h:Bl w g T [a,b,c,d]):Bl ((((w.setCell ⟨g,0,none⟩ v0).setCell ⟨g,1,none⟩ v1).setCell ⟨g,2,none⟩ v2).setCell ⟨g,3,none⟩ v3) g T [v0,v1,v2,v3] :=
 (((h.set 0 v0).set 1 v1).set 2 v2).set 3 v3
theorem Nt.but7 {lo g:Nat}{w w':World}{v:Value}{X:Nat}(h:Nt lo w v X) (hb:But g w w') (hg:g<lo):Nt lo w' v X:=by
 refine ⟨h.1,?_⟩
 rcases h.2 with hn|⟨g',cap,cur,rfl,hlo,hgc,rest⟩
 · exact .inl hn
 · exact .inr ⟨g',cap,cur,rfl,hlo,(hb.block g' (Array.getElem?_eq_some_iff.1 hgc).1 (by omega)).trans hgc,rest⟩
theorem mul_nt {w:World}{v1 v2:Value}{X Y V lo1 lo2:Nat}(N1:Nt lo1 w v1 X) (N2:Nt lo2 w v2 Y) (s1:(ws X).length≤1000) (s2:(ws Y).length≤1000) (e:mulS X Y=(V,0)) :
 Calls Tryz.prog 37 #[v1,v2] w fun r w'=>∃ v,r=.returned (.tuple #[v,.int .i64 0])∧Nt w.heap.size w' v V∧Below w.heap.size w w':=by
 obtain ⟨a,c,rfl,A1⟩:=N1.arg (by omega)
 obtain ⟨b,d,rfl,A2⟩:=N2.arg (by omega)
 exact Mul_arg A1 A2 (by rw [val_ws,val_ws];exact e)
theorem Bl.four {w:World}{g T:Nat}{a b c d:Value}(h:Bl w g T [a,b,c,d]):w.cell? ⟨g,0,none⟩=some a∧w.cell? ⟨g,1,none⟩=some b∧w.cell? ⟨g,2,none⟩=some c∧w.cell? ⟨g,3,none⟩=some d :=
 ⟨h.cell 0 _ rfl,h.cell 1 _ rfl,h.cell 2 _ rfl,h.cell 3 _ rfl⟩
theorem put4_below {B:Nat}{a w:World}{g:Nat}{v0 v1 v2 v3:Value}(h:Below B a w) (hB:B≤w.heap.size) (hg:B≤g):Below B a ((((w.setCell ⟨g,0,none⟩ v0).setCell ⟨g,1,none⟩ v1).setCell ⟨g,2,none⟩ v2).setCell ⟨g,3,none⟩ v3) :=
 But.below h (((((But.refl g w).set 0 v0).set 1 v1).set 2 v2).set 3 v3) hB hg
theorem mulS_small (f1 f2:Nat) (hf1:f1<9007199254740992) (hf2:f2<9007199254740992):mulS f1 f2=(f1*f2,0)∧(ws (f1*f2)).length≤4:=by
 have h1:f1*f2<pw 4:=by
  have:f1*f2≤9007199254740992*9007199254740992:=Nat.mul_le_mul (by omega) (by omega)
  have e:pw 4=340282366920938463463374607431768211456:=by decide
  omega
 have e4:pw 2=18446744073709551616:=by decide
 have g1:=bl_le_words f1 2 (by omega)
 have g2:=bl_le_words f2 2 (by omega)
 have g3:=bl_le_words (f1*f2) 4 h1;refine ⟨?_,(ws_len_le _ _).2 h1⟩;unfold mulS;rw [if_neg (by rw [LG_bl,LG_bl];omega),if_neg (by rw [LG_bl];omega)]
def pk (hi lo:Int) (ng:Bool):Nat:=if hi=4∨hi=3∧lo=0 then 1 else if hi=3 then (if ng then 3 else 2) else if lo=0 then (if ng then 4 else 5) else 0
def pv7 (hi lo:Int) (ng:Bool) (f1 f2:Nat) (e:Int):Int:=if pk hi lo ng=0 then sgn7 ng (f1*f2*2^(e+2148).toNat) else 0
theorem pv7_no {hi lo:Int}{ng:Bool}{f1 f2:Nat}{e:Int}(h:pk hi lo ng≠0):pv7 hi lo ng f1 f2 e=0:=by unfold pv7;rw [if_neg h]
theorem pv7_yes {hi lo:Int}{ng:Bool}{f1 f2:Nat}{e:Int}(h:pk hi lo ng=0):pv7 hi lo ng f1 f2 e=sgn7 ng (f1*f2*2^(e+2148).toNat):=by unfold pv7;rw [if_pos h]
theorem product_any (x y:Nat) (n1 n2:Bool) (c1 c2 x1 x2:Int) (f1 f2:Nat) (w:World) (H1:SplitIs x n1 c1 x1 f1) (H2:SplitIs y n2 c2 x2 f2)
 (hx1:-1074≤x1∧x1≤971) (hx2:-1074≤x2∧x2≤971) (hf1:f1<9007199254740992) (hf2:f2<9007199254740992) :
 Calls Tryz.prog 79 #[.float .f64 x,.float .f64 y] w fun r w'=>∃ v,r=.returned v ∧
  Th w.heap.size w' v (pk (max c1 c2) (min c1 c2) (!n1==n2)) (pv7 (max c1 c2) (min c1 c2) (!n1==n2) f1 f2 (x1+x2))∧Below w.heap.size w w':=by
 have H1:=hid H1;have H2:=hid H2;go_enter Tryz.func79,Tryz.ntmps79
 go_wp2_with fail
 refine Calls.mono (H1.out _) ?_;rintro r w1 ⟨rfl,hb1⟩;have B1:=qsd hb1;clear hb1
 go_wp2_with fail
 refine Calls.mono (H2.out _) ?_;rintro r w2 ⟨rfl,hb2⟩;have B2:=qsd hb2;clear hb2;go_wp2
 go_region
 obtain ⟨w4,hw4⟩:∃ w4,w4=((w2.alloc (Obj.cells #[Value.bool n1,Value.int IntKind.i64 c1,Value.int IntKind.i64 x1,Value.int IntKind.u64 (f1:Nat)] 62)).alloc (Obj.cells #[Value.bool n2,Value.int IntKind.i64 c2,Value.int IntKind.i64 x2,Value.int IntKind.u64 (f2:Nat)] 62)).drew:=⟨_,rfl⟩;rw [←hw4]
 have H4:Aside (Bl w4 w.heap.size 117 [Value.int .i64 0,Value.bool false,Value.slice none 0 0,Value.int .i64 0]∧Bl w4 w2.heap.size 62 [Value.bool n1,Value.int IntKind.i64 c1,Value.int IntKind.i64 x1,Value.int IntKind.u64 (f1:Nat)]∧Bl w4 (w2.heap.size+1) 62 [Value.bool n2,Value.int IntKind.i64 c2,Value.int IntKind.i64 x2,Value.int IntKind.u64 (f2:Nat)]∧Below w.heap.size w w4∧w.heap.size<w2.heap.size∧w4.heap.size=w2.heap.size+2):=by
  subst hw4;have z0:=Bl.new w 117 [Value.int .i64 0,Value.bool false,Value.slice none 0 0,Value.int .i64 0];have s0:w.heap.size<w1.heap.size:=by have:=B1.out.size;simp at this;omega
  have z1:=z0.below B1.out (by simp)
  have z2:=z1.below B2.out s0;have s2:=B2.out.size;refine ⟨((z2.alloc _).alloc _).drew,((Bl.new w2 62 [_,_,_,_]).alloc _).drew,(Bl.new' _ 62 _ [_,_,_,_] (by simp)).drew,?_,by omega,by simp⟩
  refine Below.drew ?_;refine ((((bel_alloc w _).trans (B1.out.mono (by simp))).trans (B2.out.mono (by omega))).trans ((bel_alloc _ _).mono (by omega))).trans ((bel_alloc _ _).mono (by simp;omega))
 clear hw4;obtain ⟨ng,hng⟩:∃ ng,ng=(!n1==n2):=⟨_,rfl⟩;obtain ⟨hi,hhi⟩:∃ hi,hi=max c1 c2:=⟨_,rfl⟩;obtain ⟨lo,hlo⟩:∃ lo,lo=min c1 c2:=⟨_,rfl⟩;rw [←hng,←hhi,←hlo];have HG:Aside (ng=(!n1==n2)∧hi=max c1 c2∧lo=min c1 c2):=⟨hng,hhi,hlo⟩;clear hng hhi hlo;have hne:w.heap.size≠w2.heap.size:=Nat.ne_of_lt H4.out.2.2.2.2.1;have hne2:w.heap.size≠w2.heap.size+1:=by have:=H4.out.2.2.2.2.1;omega
 have z0:=H4.out.1.cell 0 _ rfl;have z1:=H4.out.1.cell 1 _ rfl;have z2:=H4.out.1.cell 2 _ rfl;have z3:=H4.out.1.cell 3 _ rfl;have g0:=H4.out.1.frozen 0;have g1:=H4.out.1.frozen 1;have g2:=H4.out.1.frozen 2;have g3:=H4.out.1.frozen 3
 by_cases hodd:hi=4
 · subst hodd
   go_wp2;obtain ⟨w5,hw5⟩:∃ w5,w5=((((w4.setCell ⟨w.heap.size,0,none⟩ (.int .i64 1)).setCell ⟨w.heap.size,1,none⟩ (.bool false)).setCell ⟨w.heap.size,2,none⟩ (.slice none 0 0)).setCell ⟨w.heap.size,3,none⟩ (.int .i64 0)):=⟨_,rfl⟩;rw [←hw5];have q:Bl w5 w.heap.size 117 [.int .i64 1,.bool false,.slice none 0 0,.int .i64 0]:=by rw [hw5];exact put4 H4.out.1
   have qb:Below w.heap.size w w5:=by rw [hw5];exact put4_below H4.out.2.2.2.1 H4.out.2.2.2.1.size (Nat.le_refl _)
   skip
   clear hw5;obtain ⟨q0,q1,q2,q3⟩:=q.four;refine bodyPost_ret (v:=.agg #[.int .i64 1,.bool false,.slice none 0 0,.int .i64 0]) (by simp [results,Tryz.results79,go_sem,q0,q1,q2,q3]) rfl ?_
   rw [←HG.out.1,←HG.out.2.1,←HG.out.2.2];have hk:pk 4 lo ng=1:=by unfold pk;rw [if_pos (Or.inl rfl)]
   rw [pv7_no (by rw [hk];decide),hk]
   exact ⟨_,rfl,Th.plain _ _ _,qb⟩
 by_cases hinf:hi=3
 · subst hinf
   by_cases hz:lo=0
   · subst hz
     go_wp2;obtain ⟨w5,hw5⟩:∃ w5,w5=((((w4.setCell ⟨w.heap.size,0,none⟩ (.int .i64 1)).setCell ⟨w.heap.size,1,none⟩ (.bool false)).setCell ⟨w.heap.size,2,none⟩ (.slice none 0 0)).setCell ⟨w.heap.size,3,none⟩ (.int .i64 0)):=⟨_,rfl⟩;rw [←hw5];have q:Bl w5 w.heap.size 117 [.int .i64 1,.bool false,.slice none 0 0,.int .i64 0]:=by rw [hw5];exact put4 H4.out.1
     have qb:Below w.heap.size w w5:=by rw [hw5];exact put4_below H4.out.2.2.2.1 H4.out.2.2.2.1.size (Nat.le_refl _)
     skip
     clear hw5;obtain ⟨q0,q1,q2,q3⟩:=q.four;refine bodyPost_ret (v:=.agg #[.int .i64 1,.bool false,.slice none 0 0,.int .i64 0]) (by simp [results,Tryz.results79,go_sem,q0,q1,q2,q3]) rfl ?_
     rw [←HG.out.1,←HG.out.2.1,←HG.out.2.2];have hk:pk 3 0 ng=1:=by unfold pk;rw [if_pos (Or.inr ⟨rfl,rfl⟩)]
     rw [pv7_no (by rw [hk];decide),hk]
     exact ⟨_,rfl,Th.plain _ _ _,qb⟩
   · have hz':(lo==0)=false:=by simpa using hz
     cases ng
     · go_wp2_with (go_at_call 102;refine (signed_any _ _ _ _).mono ?_;rintro r u ⟨rfl,rfl⟩)
       obtain ⟨w5,hw5⟩:∃ w5,w5=((((u.setCell ⟨w.heap.size,0,none⟩ (.int .i64 2)).setCell ⟨w.heap.size,1,none⟩ (.bool false)).setCell ⟨w.heap.size,2,none⟩ (.slice none 0 0)).setCell ⟨w.heap.size,3,none⟩ (.int .i64 0)):=⟨_,rfl⟩;rw [←hw5];have q:Bl w5 w.heap.size 117 [.int .i64 2,.bool false,.slice none 0 0,.int .i64 0]:=by rw [hw5];exact put4 H4.out.1
       have qb:Below w.heap.size w w5:=by rw [hw5];exact put4_below H4.out.2.2.2.1 H4.out.2.2.2.1.size (Nat.le_refl _)
       skip
       clear hw5;obtain ⟨q0,q1,q2,q3⟩:=q.four;refine bodyPost_ret (v:=.agg #[.int .i64 2,.bool false,.slice none 0 0,.int .i64 0]) (by simp [results,Tryz.results79,go_sem,q0,q1,q2,q3]) rfl ?_
       rw [←HG.out.1,←HG.out.2.1,←HG.out.2.2];have hk:pk 3 lo false=2:=by unfold pk;rw [if_neg (by omega),if_pos rfl];rfl
       rw [pv7_no (by rw [hk];decide),hk]
       exact ⟨_,rfl,Th.plain _ _ _,qb⟩
     · go_wp2_with (go_at_call 102;refine (signed_any _ _ _ _).mono ?_;rintro r u ⟨rfl,rfl⟩)
       obtain ⟨w5,hw5⟩:∃ w5,w5=((((u.setCell ⟨w.heap.size,0,none⟩ (.int .i64 3)).setCell ⟨w.heap.size,1,none⟩ (.bool false)).setCell ⟨w.heap.size,2,none⟩ (.slice none 0 0)).setCell ⟨w.heap.size,3,none⟩ (.int .i64 0)):=⟨_,rfl⟩;rw [←hw5];have q:Bl w5 w.heap.size 117 [.int .i64 3,.bool false,.slice none 0 0,.int .i64 0]:=by rw [hw5];exact put4 H4.out.1
       have qb:Below w.heap.size w w5:=by rw [hw5];exact put4_below H4.out.2.2.2.1 H4.out.2.2.2.1.size (Nat.le_refl _)
       skip
       clear hw5;obtain ⟨q0,q1,q2,q3⟩:=q.four;refine bodyPost_ret (v:=.agg #[.int .i64 3,.bool false,.slice none 0 0,.int .i64 0]) (by simp [results,Tryz.results79,go_sem,q0,q1,q2,q3]) rfl ?_
       rw [←HG.out.1,←HG.out.2.1,←HG.out.2.2];have hk:pk 3 lo true=3:=by unfold pk;rw [if_neg (by omega),if_pos rfl];rfl
       rw [pv7_no (by rw [hk];decide),hk]
       exact ⟨_,rfl,Th.plain _ _ _,qb⟩
 have ho':(hi==4)=false:=by simpa using hodd
 have hi':(hi==3)=false:=by simpa using hinf
 by_cases hz:lo=0
 · subst hz
   cases ng
   · go_wp2_with (go_at_call 102;refine (signed_any _ _ _ _).mono ?_;rintro r u ⟨rfl,rfl⟩)
     obtain ⟨w5,hw5⟩:∃ w5,w5=((((u.setCell ⟨w.heap.size,0,none⟩ (.int .i64 5)).setCell ⟨w.heap.size,1,none⟩ (.bool false)).setCell ⟨w.heap.size,2,none⟩ (.slice none 0 0)).setCell ⟨w.heap.size,3,none⟩ (.int .i64 0)):=⟨_,rfl⟩;rw [←hw5];have q:Bl w5 w.heap.size 117 [.int .i64 5,.bool false,.slice none 0 0,.int .i64 0]:=by rw [hw5];exact put4 H4.out.1
     have qb:Below w.heap.size w w5:=by rw [hw5];exact put4_below H4.out.2.2.2.1 H4.out.2.2.2.1.size (Nat.le_refl _)
     skip
     clear hw5;obtain ⟨q0,q1,q2,q3⟩:=q.four;refine bodyPost_ret (v:=.agg #[.int .i64 5,.bool false,.slice none 0 0,.int .i64 0]) (by simp [results,Tryz.results79,go_sem,q0,q1,q2,q3]) rfl ?_
     rw [←HG.out.1,←HG.out.2.1,←HG.out.2.2];have hk:pk hi 0 false=5:=by unfold pk;rw [if_neg (by omega),if_neg (by omega),if_pos rfl];rfl
     rw [pv7_no (by rw [hk];decide),hk]
     exact ⟨_,rfl,Th.plain _ _ _,qb⟩
   · go_wp2_with (go_at_call 102;refine (signed_any _ _ _ _).mono ?_;rintro r u ⟨rfl,rfl⟩)
     obtain ⟨w5,hw5⟩:∃ w5,w5=((((u.setCell ⟨w.heap.size,0,none⟩ (.int .i64 4)).setCell ⟨w.heap.size,1,none⟩ (.bool false)).setCell ⟨w.heap.size,2,none⟩ (.slice none 0 0)).setCell ⟨w.heap.size,3,none⟩ (.int .i64 0)):=⟨_,rfl⟩;rw [←hw5];have q:Bl w5 w.heap.size 117 [.int .i64 4,.bool false,.slice none 0 0,.int .i64 0]:=by rw [hw5];exact put4 H4.out.1
     have qb:Below w.heap.size w w5:=by rw [hw5];exact put4_below H4.out.2.2.2.1 H4.out.2.2.2.1.size (Nat.le_refl _)
     skip
     clear hw5;obtain ⟨q0,q1,q2,q3⟩:=q.four;refine bodyPost_ret (v:=.agg #[.int .i64 4,.bool false,.slice none 0 0,.int .i64 0]) (by simp [results,Tryz.results79,go_sem,q0,q1,q2,q3]) rfl ?_
     rw [←HG.out.1,←HG.out.2.1,←HG.out.2.2];have hk:pk hi 0 true=4:=by unfold pk;rw [if_neg (by omega),if_neg (by omega),if_pos rfl];rfl
     rw [pv7_no (by rw [hk];decide),hk]
     exact ⟨_,rfl,Th.plain _ _ _,qb⟩
 have hz':(lo==0)=false:=by simpa using hz
 have hk0:pk hi lo ng=0:=by unfold pk;rw [if_neg (by omega),if_neg (by omega),if_neg (by omega)]
 have HK:=qsd hk0;clear hk0;have kS:Aside (w4.drew.cell? ⟨w2.heap.size,3,none⟩=some (.int .u64 (f1:Nat))∧w4.drew.cell? ⟨w2.heap.size+1,3,none⟩=some (.int .u64 (f2:Nat))):=⟨H4.out.2.1.drew.four.2.2.2,H4.out.2.2.1.drew.four.2.2.2⟩;have BB:Aside (Below w4.heap.size w4 w4.drew):=(Below.refl _ _).drew;have O1:=hid (fun u:World=>of_any f1 u (by omega))
 have O2:=hid (fun u:World=>of_any f2 u (by omega))
 have MS:=qsd (mulS_small f1 f2 hf1 hf2)
 have hpw2:Aside ((ws f1).length≤1000∧(ws f2).length≤1000):=by
  have e:pw 2=18446744073709551616:=by decide
  exact ⟨Nat.le_trans ((ws_len_le f1 2).2 (by omega)) (by decide),Nat.le_trans ((ws_len_le f2 2).2 (by omega)) (by decide)⟩
 clear hodd hinf hz z0 z1 z2 z3 g0 g1 g2 g3;go_wp2
 go_region_held (fun w'=>w'.cell? ⟨w2.heap.size,3,none⟩=some (.int .u64 (f1:Nat))∧w'.cell? ⟨w2.heap.size+1,3,none⟩=some (.int .u64 (f2:Nat))) (with_reducible exact kS.out) (first
  | (go_at_call 35
     with_reducible refine (O1.out _).mono ?_
     rintro r u ⟨v1,rfl,N1,hb⟩
     try have N2:=qsd (N2.out.below hb)
     have BB:=qsd (BB.out.trans (hb.mono BB.out.size));have kS:=qsd (ai (H4.out.2.1.below BB.out (by have:=H4.out.2.2.2.2.2;omega)).four.2.2.2 (H4.out.2.2.1.below BB.out (by have:=H4.out.2.2.2.2.2;omega)).four.2.2.2)
     have N1:=qsd N1;clear hb)
  | (go_at_call 35
     with_reducible refine (O2.out _).mono ?_
     rintro r u ⟨v2,rfl,N2,hb⟩
     try have N1:=qsd (N1.out.below hb)
     have BB:=qsd (BB.out.trans (hb.mono BB.out.size));have kS:=qsd (ai (H4.out.2.1.below BB.out (by have:=H4.out.2.2.2.2.2;omega)).four.2.2.2 (H4.out.2.2.1.below BB.out (by have:=H4.out.2.2.2.2.2;omega)).four.2.2.2)
     have N2:=qsd N2;clear hb)
  | (go_at_call 37
     with_reducible refine (mul_nt N1.out N2.out hpw2.out.1 hpw2.out.2 MS.out.1).mono ?_
     rintro r u ⟨v,rfl,NV,hb⟩;have NV:=qsd (ai NV BB.out.size);have BB:=qsd (BB.out.trans (hb.mono BB.out.size));have kS:=qsd (ai (H4.out.2.1.below BB.out (by have:=H4.out.2.2.2.2.2;omega)).four.2.2.2 (H4.out.2.2.1.below BB.out (by have:=H4.out.2.2.2.2.2;omega)).four.2.2.2)
     clear hb))
 all_goals (
  obtain ⟨a,c,rfl,_⟩:=NV.out.1.arg (Nat.le_trans MS.out.2 (by decide))
  have Z:=qsd (H4.out.1.below BB.out (by have:=H4.out.2.2.2.2.1;have:=H4.out.2.2.2.2.2;omega))
  obtain ⟨z0,z1,z2,z3⟩:=Z.out.four;have g0:=Z.out.frozen 0;have g1:=Z.out.frozen 1;have g2:=Z.out.frozen 2;have g3:=Z.out.frozen 3;have p2:=(H4.out.2.1.below BB.out (by have:=H4.out.2.2.2.2.2;omega)).four.2.2.1
  have r2:=(H4.out.2.2.1.below BB.out (by have:=H4.out.2.2.2.2.2;omega)).four.2.2.1
  have BW:=qsd (H4.out.2.2.2.1.trans (BB.out.mono H4.out.2.2.2.1.size));clear kS BB N1 N2;go_wp2;obtain ⟨w5,hw5⟩:∃ w5,w5=((((u.setCell ⟨w.heap.size,0,none⟩ (.int .i64 0)).setCell ⟨w.heap.size,1,none⟩ (.bool ng)).setCell ⟨w.heap.size,2,none⟩ (.slice a (ws (f1*f2)).length c)).setCell ⟨w.heap.size,3,none⟩ (.int .i64 (x1+x2+2148))):=⟨_,rfl⟩;rw [←hw5];have q:Bl w5 w.heap.size 117 [.int .i64 0,.bool ng,.slice a (ws (f1*f2)).length c,.int .i64 (x1+x2+2148)]:=by rw [hw5];exact put4 Z.out
  have qb:Below w.heap.size w w5:=by rw [hw5];exact put4_below BW.out BW.out.size (Nat.le_refl _)
  have qn:=NV.out.1.but7 (w':=w5) (g:=w.heap.size) (by rw [hw5];exact ((((But.refl _ u).set 0 _).set 1 _).set 2 _).set 3 _) (by have:=NV.out.2;have:=H4.out.2.2.2.2.1;have:=H4.out.2.2.2.2.2;omega)
  clear hw5;obtain ⟨q0,q1,q2,q3⟩:=q.four;refine bodyPost_ret (v:=.agg #[.int .i64 0,.bool ng,.slice a (ws (f1*f2)).length c,.int .i64 (x1+x2+2148)]) (by simp [results,Tryz.results79,go_sem,q0,q1,q2,q3]) rfl ?_
  rw [←HG.out.1,←HG.out.2.1,←HG.out.2.2,pv7_yes HK.out,HK.out];obtain ⟨a',c',e,AV⟩:=qn.arg (Nat.le_trans MS.out.2 (by decide))
  cases e
  refine ⟨_,rfl,⟨ng,a,_,c,(x1+x2+2148).toNat,ws (f1*f2),fun ad e=>?_,?_,AV,?_,?_⟩,qb⟩
  · subst e
    have h1:=(qn.lt ad.block rfl).1;have:=NV.out.2;have:=H4.out.2.2.2.2.1;have:=H4.out.2.2.2.2.2;omega
  · rw [Int.toNat_of_nonneg (by omega)];rfl
  · have:=MS.out.2
    omega
  · rw [val_ws])
theorem splitIs (s:Bool) (e f:Nat) (he:e<2048) (hf:f<4503599627370496):SplitIs (B.bw s e f) (B.ng s e f) (B.cls e f) (B.xp e) (B.fr e f).toNat:=fun w =>
 (B.Split_any s e f he hf w).mono fun r w' ⟨h1,h2⟩=>⟨by rw [h1,Int.toNat_of_nonneg];unfold B.fr;split <;> (try split) <;> omega,h2⟩
theorem xp_bound (e:Nat) (he:e<2048):-1074≤B.xp e∧B.xp e≤971:=by unfold B.xp;split <;> (try split) <;> omega
theorem fr_bound (e f:Nat) (hf:f<4503599627370496):(B.fr e f).toNat<9007199254740992:=by unfold B.fr;split <;> (try split) <;> omega
end
section
open Go.RowKit
def Acc7 (w:World) (g:Nat) (V:Int) (s:Sp):Prop:=∃ L:List Nat,L.length=133∧Wf L∧(val L:Int)=V%(PB:Int)∧-(HB:Int)<V∧V<(HB:Int)∧Ac w g L s
theorem Acc7.lt {w:World}{g:Nat}{V:Int}{s:Sp}(h:Acc7 w g V s):g<w.heap.size:=by obtain ⟨L,_,_,_,_,_,h⟩:=h;exact h.lt
theorem Acc7.below {w w':World}{g B:Nat}{V:Int}{s:Sp}(h:Acc7 w g V s) (hb:Below B w w') (hg:g<B):Acc7 w' g V s:=by
 obtain ⟨L,h1,h2,h3,h4,h5,h6⟩:=h;exact ⟨L,h1,h2,h3,h4,h5,h6.below hb hg⟩
theorem Acc7.bel {w w':World}{g:Nat}{V:Int}{s:Sp}(h:Acc7 w g V s) (hb:Below w.heap.size w w'):Acc7 w' g V s:=h.below hb h.lt
theorem PB_HB:PB=262144*HB:=by rw [PB_top,HB_eq];omega
theorem bey_val (N:Nat) (V:Int) (h:(N:Int)=V%(PB:Int)) (h0:-(2*HB:Int)<V) (h1:V<2*(HB:Int)):bey N=!(decide (-(HB:Int)<V∧V<(HB:Int))):=by
 have e:=PB_HB;have hp:=HB_pos;unfold bey
 by_cases hv:0≤V
 · rw [Int.emod_eq_of_lt hv (by omega)] at h
   by_cases hc:V<(HB:Int)
   · rw [decide_eq_false (by omega),decide_eq_true (by omega)];rfl
   · rw [decide_eq_true (by omega),decide_eq_false (by omega)];rfl
 · have h2:V%(PB:Int)=V+PB:=by
    rw [←Int.add_emod_right,Int.emod_eq_of_lt (by omega) (by omega)]
   rw [h2] at h
   by_cases hc:-(HB:Int)<V
   · rw [decide_eq_false (by omega),decide_eq_true (by omega)];rfl
   · rw [decide_eq_true (by omega),decide_eq_false (by omega)];rfl
def Did (g:Nat) (w:World) (X:Int×Int×Sp) (r:Ending) (w':World):Prop:=r=.returned (.int .i64 X.1)∧Acc7 w' g X.2.1 X.2.2∧But g w w'
def step7 (V:Int) (s:Sp) (T:Int) (t:Sp):Int×Int×Sp:=if -(HB:Int)<V+T∧V+T<(HB:Int) then (0,V+T,t) else (2,V,s)
def putS (V:Int) (s:Sp) (k:Nat) (T:Int):Int×Int×Sp:=if s.a=1099511627776 then (2,V,s) else step7 V s T (s.cnt k 1)
theorem become_any (g:Nat) (L M:List Nat) (V T:Int) (s t:Sp) (w:World) (hA:Ac w g L s) (hl:L.length=133) (hL:Wf L) (hv:(val L:Int)=V%(PB:Int)) (h0:-(HB:Int)<V) (h1:V<(HB:Int)) (hM:Wf M) (hm:M.length=133)
 (hvM:(val M:Int)=(V+T)%(PB:Int)) (hT0:-(HB:Int)<T) (hT1:T<(HB:Int)) :
 Calls Tryz.prog 99 #[.pointer (some ⟨g,0,none⟩),.agg (M.map U).toArray,t.agg] w (Did g w (step7 V s T t)):=by
 have hb:=bey_val (val M) (V+T) hvM (by omega) (by omega)
 by_cases hc:-(HB:Int)<V+T∧V+T<(HB:Int)
 · rw [decide_eq_true hc] at hb
   refine (become_yes g L M s t w hA hl hM hm hb).mono fun r w' ⟨a,b,c⟩=>?_
   unfold step7;rw [if_pos hc];exact ⟨a,⟨M,hm,hM,hvM,hc.1,hc.2,b⟩,c⟩
 · rw [decide_eq_false hc] at hb
   refine (become_no g L M s t w hA hM hm hb).mono fun r w' ⟨a,b⟩=>?_
   unfold step7;rw [if_neg hc];exact ⟨a,⟨L,hl,hL,hv,h0,h1,hA.below b hA.lt⟩,(But.refl g w).of_bel b⟩
end
section
open Go Go.RowKit
section
variable {P : Program} {ops : Array Oper} {Q : Exit → Act → World → Prop} {md : Region.Mode} {S : World → Prop} {stop : Nat}
def wpUntil (P:Program) (md:Region.Mode) (ops:Array Oper) (Q:Exit→Act→World→Prop) (S:World→Prop) (stop:Nat):Nat→Array Bool→Act→World→Prop
 | 0,listed,a,w=>Region.ready md ops listed=[]∧Q .normal a w
 | fuel+1,listed,a,w=>(Region.ready md ops listed=[]→Q .normal a w) ∧
  ∀ i ∈ Region.ready md ops listed,wpOp P ops Q i (fun b u=>(i<stop→S u)∧wpUntil P md ops Q S stop fuel (listed.setIfInBounds i true) b u) a w
theorem wpAny_until:∀ (fuel:Nat) (listed:Array Bool) (a:Act) (w:World),wpUntil P md ops Q S stop fuel listed a w→wpAny P md ops Q fuel listed a w
 | 0,_,_,_,h=>h
 | fuel+1,_,_,_,h=>⟨h.1,fun i hi=>wpOp_mono (fun b u k=>wpAny_until fuel _ b u k.2) (h.2 i hi)⟩
theorem until_region {id:Nat}{a:Act}{w:World}(S:World→Prop) (stop:Nat) (hm:P.follows .mixedOrders=true) (h:wpUntil P .any ops Q S stop ops.size (Array.replicate ops.size false) a w.drew):(Code.region id ops true).wp P Q a w :=
 wp_region_any hm (wpAny_until _ _ _ _ h)
def waits (md:Region.Mode) (ops:Array Oper) (i stop:Nat) (C:List Nat):Bool :=
 (List.range ops.size).all fun j=>!(C.contains j || decide (stop≤j)) || (match ops[j]? with | some o=>o.after.any (fun e=>Region.binds md e&&(e.on==i || C.contains e.on)) | none=>true)
def unlisted (listed:Array Bool) (C:List Nat):Bool:=C.all fun k=>listed.getD k true==false
theorem waits_spec {i:Nat}{C:List Nat}(h:waits md ops i stop C=true) {j:Nat}{oj:Oper}(hj:ops[j]?=some oj) (hc:j ∈ C∨stop≤j):∃ e ∈ oj.after,Region.binds md e=true∧(e.on=i∨e.on ∈ C):=by
 have h1:=(List.all_eq_true.1 h) j (by simp;exact (Array.getElem?_eq_some_iff.1 hj).1)
 rw [hj] at h1
 have h2:(C.contains j || decide (stop≤j))=true:=by
  rcases hc with hc|hc
  · simp [hc]
  · simp [hc]
 rw [h2] at h1;simp only [Bool.not_true,Bool.false_or] at h1;rw [←Array.any_toList] at h1;obtain ⟨e,he,hb⟩:=List.any_eq_true.1 h1;have he:=Array.mem_toList_iff.1 he;simp only [Bool.and_eq_true,Bool.or_eq_true,beq_iff_eq,List.contains_iff_mem] at hb;exact ⟨e,he,hb.1,hb.2⟩
theorem until_first {i:Nat}{C:List Nat}{oi:Oper}{v:Value}(hi:ops[i]?=some oi) (hsel:∀ (j:Nat) (o:Oper) cs b,ops[j]?=some o→o.op≠.select cs b)
 (hQ:∀ x a w,Q (.panic x) (a.put oi.dst v) w→Q (.panic x) a w) (hlate:waits md ops i stop C=true) :
 ∀ (fuel:Nat) (listed:Array Bool) (a:Act) (w:World),
   (∀ j oj,ops[j]?=some oj→j≠i→listed.getD j true=false→(∀ e ∈ oj.after,Region.binds md e=true→e.on≠i)→oi.apart ops oj=true) →
   i ∈ Region.ready md ops listed→(∀ k ∈ C,listed.getD k true=false)→YieldsIf P ops S oi v a→S w →
   wpUntil P md ops Q S stop fuel (listed.setIfInBounds i true) (a.put oi.dst v) w→wpUntil P md ops Q S stop (fuel+1) listed a w:=by
 intro fuel
 induction fuel with
 | zero =>
   intro listed a w _ hr _ hy hS H;refine ⟨fun h=>(by rw [h] at hr;cases hr),fun j hj=>?_⟩
   by_cases hji:j=i
   · subst hji;exact hy.wpOp hi hS ⟨fun _=>hS,H⟩
   · have:=ready_mono hj hji
     rw [H.1] at this
     cases this
 | succ fuel ih =>
   intro listed a w hfree hr hcl hy hS H;refine ⟨fun h=>(by rw [h] at hr;cases hr),fun j hj=>?_⟩
   by_cases hji:j=i
   · subst hji;exact hy.wpOp hi hS ⟨fun _=>hS,H⟩
   · have h1:=H.2 j (ready_mono hj hji)
     obtain ⟨hjun,oj,hoj,hall⟩:=mem_ready.1 hj;have h0:=(mem_ready.1 hr).1
     have un:∀ k,listed.getD k true=false→listed.getD k false=true→False:=fun k a1 a2=>by
      rcases Nat.lt_or_ge k listed.size with h'|h'
      · simp [h'] at a1 a2;rw [a1] at a2;cases a2
      · simp [Array.getElem?_eq_none h'] at a2
     have hnot:∀ e ∈ oj.after,Region.binds md e=true→e.on≠i:=fun e he hb heq=>un i h0 (heq ▸ hall e he hb)
     have hnw:¬(j ∈ C∨stop≤j):=fun hc=>by
      obtain ⟨e,he,hb,heq⟩:=waits_spec hlate hoj hc
      rcases heq with heq|heq
      · exact hnot e he hb heq
      · exact un _ (hcl _ heq) (hall e he hb)
     have hjs:j<stop:=by
      rcases Nat.lt_or_ge j stop with h|h
      · exact h
      · exact (hnw (Or.inr h)).elim
     have h2:=wpOp_putIf hoj (hfree j oj hoj hji hjun hnot) (fun cs b=>hsel i oi cs b hi) (fun cs b=>hsel j oj cs b hoj) hQ hy h1
     have hfree':∀ k ok,ops[k]?=some ok→k≠i→(listed.setIfInBounds j true).getD k true=false →
      (∀ e ∈ ok.after,Region.binds md e=true→e.on≠i)→oi.apart ops ok=true:=fun k ok hk hki hun hno=>by
      refine hfree k ok hk hki ?_ hno
      by_cases hjk:j=k
      · subst hjk;exact hjun
      · rw [Go.getD_set_ne true hjk] at hun;exact hun
     refine wpOp_mono (fun b u h3=>⟨h3.2.1,ih (listed.setIfInBounds j true) b u hfree' (ready_mono hr (Ne.symm hji)) (fun k hk=>by rw [Go.getD_set_ne true (show j≠k from fun e=>hnw (Or.inl (by rw [e];exact hk)))];exact hcl k hk) h3.1 (h3.2.1 hjs) ?_⟩) h2
     rw [Array.setIfInBounds_comm _ _ hji];exact h3.2.2
theorem until_take {i:Nat}(C:List Nat) {oi:Oper}{v:Value}{fuel:Nat}{listed:Array Bool}{a:Act}{w:World}(hi:ops[i]?=some oi)
 (hs:Region.noSelect ops=true) (hf:Region.free md ops listed i=true) (hr:(Region.ready md ops listed).contains i=true) (hw:waits md ops i stop C=true) (hun:unlisted listed C=true)
 (hQ:∀ c a w,Q (.panic c) (a.put oi.dst v) w→Q (.panic c) a w) (hy:YieldsIf P ops S oi v a) (hS:S w)
 (h:wpUntil P md ops Q S stop fuel (listed.setIfInBounds i true) (a.put oi.dst v) w):wpUntil P md ops Q S stop (fuel+1) listed a w :=
 until_first hi (Region.noSelect_spec hs) hQ hw fuel listed a w (Region.free_spec hi hf) (by simpa using hr) (fun k hk=>by have:=(List.all_eq_true.1 hun) k hk;simpa using this) hy hS h
theorem until_one {i:Nat}{o:Oper}{fuel:Nat}{listed:Array Bool}{a:Act}{w:World}(hr:Region.ready md ops listed=[i]) (ho:ops[i]?=some o)
 (h:∀ K':Act→World→Prop,Shut (∀ b u,(i<stop→S u)→wpUntil P md ops Q S stop fuel (listed.setIfInBounds i true) b u→K' b u)→if Region.wanted o (yielded ops a.tmps)=true then Oper.wp P o a w K' Q else K' (a.put o.dst undef) w):wpUntil P md ops Q S stop (fuel+1) listed a w :=
 ⟨fun h0=>(by rw [hr] at h0;cases h0),fun j hj=>by
  rw [hr] at hj;obtain rfl:=List.mem_singleton.1 hj;exact wpOp_step ho (fun K' hK=>h K' (fun b u h1 h2=>hK b u ⟨h1,h2⟩))⟩
theorem until_done {listed:Array Bool}{a:Act}{w:World}(hr:Region.ready md ops listed=[]) (h:Q .normal a w):∀ fuel,wpUntil P md ops Q S stop fuel listed a w
 | 0=>⟨hr,h⟩
 | _+1=>⟨fun _=>h,by rw [hr];simp⟩
end
end
section
open Go.RowKit
def Rf (lo:Nat) (w:World) (v:Value) (R:List Nat):Prop:=w.ownsRow lo 24 1 v R.length (R.map Fw10)
theorem Rf.nil (lo:Nat) (w:World):Rf lo w (.slice none 0 0) []:=World.ownsRow_nil w lo 24 1
theorem Rf.drew {lo:Nat}{w:World}{v:Value}{R:List Nat}(h:Rf lo w v R):Rf lo w.drew v R:=h
theorem Rf.alloc {lo:Nat}{w:World}{v:Value}{R:List Nat}(h:Rf lo w v R) (o:Obj):Rf lo (w.alloc o) v R:=World.ownsRow.alloc h o
theorem Rf.grown {lo:Nat}{w w':World}{v:Value}{R:List Nat}{row:Option Nat}(h:Rf lo w v R) (hg:w.grownBy w' row) (hne:∀ b,v.ownBlock=some b→row≠some b):Rf lo w' v R:=by
 refine ⟨h.1,?_⟩
 rcases h.2 with hn|⟨g,cap,cur,rfl,hlo,hgc,rest⟩
 · exact .inl hn
 · exact .inr ⟨g,cap,cur,rfl,hlo,(hg.block g (Array.getElem?_eq_some_iff.1 hgc).1 (fun e=>hne g rfl e.symm)).trans hgc,rest⟩
theorem Rf.lt {lo:Nat}{w:World}{v:Value}{R:List Nat}(h:Rf lo w v R) (b:Nat) (hb:v.ownBlock=some b):lo≤b∧b<w.heap.size:=by
 rcases h.2 with ⟨rfl,_⟩|⟨g,cap,cur,rfl,hlo,hg,_⟩
 · simp [Value.ownBlock] at hb
 · simp [Value.ownBlock] at hb
   subst hb;exact ⟨hlo,(Array.getElem?_eq_some_iff.1 hg).1⟩
theorem Rf.shape {lo:Nat}{w:World}{v:Value}{R:List Nat}(h:Rf lo w v R) (hR:0<R.length):∃ g cap,v=.slice (some ⟨g,0,none⟩) R.length cap∧lo≤g∧g<w.heap.size∧R.length≤cap∧cap≤maxLen∧∀ i,i<R.length→w.cell? ⟨g,i,none⟩=some (.float .f64 (R.getD i 0)):=by
 have h':=h
 rcases h.2 with ⟨_,h0⟩|⟨g,cap,cur,rfl,hlo,hg,hn,hm,hs,ht⟩
 · omega
 · refine ⟨g,cap,rfl,hlo,(Array.getElem?_eq_some_iff.1 hg).1,hn,hm,fun i hi=>?_⟩
   have:=World.ownsRow.cellAt h' i (by omega)
   rw [this,List.getElem?_map,List.getElem?_eq_getElem hi,List.getD_eq_getElem?_getD,List.getElem?_eq_getElem hi]
   rfl
theorem Rf.shape0 {lo:Nat}{w:World}{v:Value}{R:List Nat}(h:Rf lo w v R):∃ ao cap,v=.slice ao R.length cap∧R.length≤cap:=by
 rcases h.2 with ⟨rfl,h0⟩|⟨g,cap,cur,rfl,_,_,hn,_⟩
 · exact ⟨none,0,by rw [h0],by omega⟩
 · exact ⟨_,cap,rfl,hn⟩
theorem Rf.fs {lo:Nat}{w:World}{ao:Option Addr}{n c:Nat}{R:List Nat}(h:Rf lo w (.slice ao n c) R):Fs w.heap.size w ao R:=by
 intro hne;obtain ⟨g,cap,e,h1,h2,h3,h4,h5⟩:=h.shape (List.length_pos_iff.2 hne)
 cases e
 exact ⟨g,0,h2,rfl,fun i hi=>by rw [Nat.zero_add];exact h5 i hi⟩
theorem append_flts (w:World) (lo:Nat) (v:Value) (xs src:List Nat) (ao:Option Addr) (m c:Nat) (ty:TypeId) (hown:Rf lo w v xs) (hm:m=src.length)
 (hR:src≠[]→∃ b off,ao=some ⟨b,off,none⟩∧∀ i,i<src.length→w.cell? ⟨b,off+i,none⟩=some (.float .f64 (src.getD i 0)))
 (hnn:ao≠none) (hbig:xs.length+m≤100000) (hlo:lo≤w.heap.size) :
 ∃ v' w',(Builtin.append_ #[23,23] ty #[v,.slice ao m c]).run Tryz.prog w=.ok v' w'∧Rf lo w' v' (xs++src)∧w.grownBy w' v.ownBlock∧(v'.ownBlock=v.ownBlock∨v'.ownBlock=some w.heap.size):=by
 obtain ⟨i0,hi,hz0,hz1,hz2⟩:=info_parts Tryz.info_f64;subst hm;obtain ⟨a,rfl⟩:∃ a,ao=some a:=by cases ao;exact absurd rfl hnn;exact ⟨_,rfl⟩
 obtain ⟨v',w',h1,h2,h3,_,h5⟩:=run_append_own_at (P:=Tryz.prog) w lo 23 ty 24 i0 (.float .f64 0) 1 8 Tryz.und_floats hi hz0 hz1 hz2 rfl (by decide) v xs.length (xs.map Fw10) hown a src.length c (src.map Fw10) (by simp) (by
  intro j u hj;have hj2:j<src.length:=by have:=(List.getElem?_eq_some_iff.1 hj).1;simpa using this
  obtain ⟨b,off,e,hc⟩:=hR (by intro e;subst e;simp at hj2)
  cases e
  have hadd:(⟨b,off,none⟩:Addr).add j=⟨b,off+j,none⟩:=by unfold Addr.add;split <;> simp_all
  rw [hadd,hc j hj2];rw [List.getElem?_map,List.getElem?_eq_getElem hj2] at hj
  rw [List.getD_eq_getElem?_getD,List.getElem?_eq_getElem hj2]
  exact hj) (by
  intro u hu;obtain ⟨x,_,rfl⟩:=List.mem_map.1 hu
  rfl) (by unfold maxLen;omega) (by omega) hlo
 exact ⟨v',w',h1,by unfold Rf;rw [List.map_append,List.length_append];exact h2,h3,h5⟩
theorem wpList_append_flt {w:World}{ops:Array Oper}{rest:List Oper}{o:Oper}{a:Act}{Q:Exit→Act→World→Prop}(hgd:o.guard=none) (s x:Operand)
 (ho:o.op=.call { callee:=.builtin .append,args:=#[s,x],argTypes:=#[23,23] }) (v u:Value) (hs:a.eval s=v) (hx:a.eval x=u) (v':Value) (w':World)
 (hrun:(Builtin.append_ #[23,23] o.type #[v,u]).run Tryz.prog w=.ok v' w') (h:wpList Tryz.prog ops Q rest (a.put o.dst v') w'):wpList Tryz.prog ops Q (o::rest) a w:=by
 refine wpList_plain hgd fun K hK=>?_
 unfold Oper.wp;simp [execOp,ho,resolve,invoke,builtin,hs,hx,hrun,Result.andThen];exact hK _ _ h
end
section
open Go.RowKit J
structure R2 (w v:World) (v1 v2:Value) (L1 L2:List Nat):Prop where
 a:Rf w.heap.size v v1 L1
 b:Rf w.heap.size v v2 L2
 d:∀ g,v1.ownBlock=some g→v2.ownBlock≠some g
 bel:Below w.heap.size w v
theorem R2.nil {w v:World}(h:Below w.heap.size w v):R2 w v (.slice none 0 0) (.slice none 0 0) [] []:=⟨Rf.nil _ _,Rf.nil _ _,fun g e=>by simp [Value.ownBlock] at e,h⟩
theorem R2.swap {w v:World}{v1 v2:Value}{L1 L2:List Nat}(h:R2 w v v1 v2 L1 L2):R2 w v v2 v1 L2 L1:=⟨h.b,h.a,fun g e q=>h.d g q e,h.bel⟩
end
section
open Go.RowKit J
def I19 (n:Nat):Value:=.int .i64 (n:Int)
theorem info_int19:(Tryz.prog.info? 3).map (fun i=>(i.zero,i.size,i.bytes))=some (some (.int .i64 0),1,8):=by kernel_rfl
theorem und_ints19:Tryz.prog.underlying 36=some (.slice 3):=by kernel_rfl
def Rj (lo:Nat) (w:World) (v:Value) (R:List Nat):Prop:=w.ownsRow lo 3 1 v R.length (R.map I19)
theorem Rj.nil (lo:Nat) (w:World):Rj lo w (.slice none 0 0) []:=World.ownsRow_nil w lo 3 1
theorem Rj.alloc {lo:Nat}{w:World}{v:Value}{R:List Nat}(h:Rj lo w v R) (o:Obj):Rj lo (w.alloc o) v R:=World.ownsRow.alloc h o
theorem Rj.grown {lo:Nat}{w w':World}{v:Value}{R:List Nat}{row:Option Nat}(h:Rj lo w v R) (hg:w.grownBy w' row) (hne:∀ b,v.ownBlock=some b→row≠some b):Rj lo w' v R:=by
 refine ⟨h.1,?_⟩
 rcases h.2 with hn|⟨g,cap,cur,rfl,hlo,hgc,rest⟩
 · exact .inl hn
 · exact .inr ⟨g,cap,cur,rfl,hlo,(hg.block g (Array.getElem?_eq_some_iff.1 hgc).1 (fun e=>hne g rfl e.symm)).trans hgc,rest⟩
theorem Rj.lt {lo:Nat}{w:World}{v:Value}{R:List Nat}(h:Rj lo w v R) (b:Nat) (hb:v.ownBlock=some b):lo≤b∧b<w.heap.size:=by
 rcases h.2 with ⟨rfl,_⟩|⟨g,cap,cur,rfl,hlo,hg,_⟩
 · simp [Value.ownBlock] at hb
 · simp [Value.ownBlock] at hb
   subst hb;exact ⟨hlo,(Array.getElem?_eq_some_iff.1 hg).1⟩
theorem Rj.shape {lo:Nat}{w:World}{v:Value}{R:List Nat}(h:Rj lo w v R) (hR:0<R.length):∃ g cap,v=.slice (some ⟨g,0,none⟩) R.length cap∧lo≤g∧g<w.heap.size∧R.length≤cap∧cap≤maxLen∧∀ i,i<R.length→w.cell? ⟨g,i,none⟩=some (.int .i64 ((R.getD i 0:Nat):Int)):=by
 have h':=h
 rcases h.2 with ⟨_,h0⟩|⟨g,cap,cur,rfl,hlo,hg,hn,hm,hs,ht⟩
 · omega
 · refine ⟨g,cap,rfl,hlo,(Array.getElem?_eq_some_iff.1 hg).1,hn,hm,fun i hi=>?_⟩
   have:=World.ownsRow.cellAt h' i (by omega)
   rw [this,List.getElem?_map,List.getElem?_eq_getElem hi,List.getD_eq_getElem?_getD,List.getElem?_eq_getElem hi]
   rfl
theorem Rj.shape0 {lo:Nat}{w:World}{v:Value}{R:List Nat}(h:Rj lo w v R):∃ ao cap,v=.slice ao R.length cap∧R.length≤cap:=by
 rcases h.2 with ⟨rfl,h0⟩|⟨g,cap,cur,rfl,_,_,hn,_⟩
 · exact ⟨none,0,by rw [h0],by omega⟩
 · exact ⟨_,cap,rfl,hn⟩
theorem append_jnts (w:World) (lo:Nat) (v:Value) (xs src:List Nat) (ao:Option Addr) (m c:Nat) (ty:TypeId) (hown:Rj lo w v xs) (hm:m=src.length)
 (hR:src≠[]→∃ b off,ao=some ⟨b,off,none⟩∧∀ i,i<src.length→w.cell? ⟨b,off+i,none⟩=some (.int .i64 ((src.getD i 0:Nat):Int)))
 (hnn:ao≠none) (hbig:xs.length+m≤100000) (hlo:lo≤w.heap.size) :
 ∃ v' w',(Builtin.append_ #[36,36] ty #[v,.slice ao m c]).run Tryz.prog w=.ok v' w'∧Rj lo w' v' (xs++src)∧w.grownBy w' v.ownBlock∧(v'.ownBlock=v.ownBlock∨v'.ownBlock=some w.heap.size):=by
 obtain ⟨i0,hi,hz0,hz1,hz2⟩:=info_parts info_int19;subst hm;obtain ⟨a,rfl⟩:∃ a,ao=some a:=by cases ao;exact absurd rfl hnn;exact ⟨_,rfl⟩
 obtain ⟨v',w',h1,h2,h3,_,h5⟩:=run_append_own_at (P:=Tryz.prog) w lo 36 ty 3 i0 (.int .i64 0) 1 8 und_ints19 hi hz0 hz1 hz2 rfl (by decide) v xs.length (xs.map I19) hown a src.length c (src.map I19) (by simp) (by
  intro j u hj;have hj2:j<src.length:=by have:=(List.getElem?_eq_some_iff.1 hj).1;simpa using this
  obtain ⟨b,off,e,hc⟩:=hR (by intro e;subst e;simp at hj2)
  cases e
  have hadd:(⟨b,off,none⟩:Addr).add j=⟨b,off+j,none⟩:=by unfold Addr.add;split <;> simp_all
  rw [hadd,hc j hj2];rw [List.getElem?_map,List.getElem?_eq_getElem hj2] at hj
  rw [List.getD_eq_getElem?_getD,List.getElem?_eq_getElem hj2]
  exact hj) (by
  intro u hu;obtain ⟨x,_,rfl⟩:=List.mem_map.1 hu
  rfl) (by unfold maxLen;omega) (by omega) hlo
 exact ⟨v',w',h1,by unfold Rj;rw [List.map_append,List.length_append];exact h2,h3,h5⟩
theorem wpList_append_jnt {w:World}{ops:Array Oper}{rest:List Oper}{o:Oper}{a:Act}{Q:Exit→Act→World→Prop}(hgd:o.guard=none) (s x:Operand)
 (ho:o.op=.call { callee:=.builtin .append,args:=#[s,x],argTypes:=#[36,36] }) (v u:Value) (hs:a.eval s=v) (hx:a.eval x=u) (v':Value) (w':World)
 (hrun:(Builtin.append_ #[36,36] o.type #[v,u]).run Tryz.prog w=.ok v' w') (h:wpList Tryz.prog ops Q rest (a.put o.dst v') w'):wpList Tryz.prog ops Q (o::rest) a w:=by
 refine wpList_plain hgd fun K hK=>?_
 unfold Oper.wp;simp [execOp,ho,resolve,invoke,builtin,hs,hx,hrun,Result.andThen];exact hK _ _ h
theorem wp_append_jnt {w:World}{o:Oper}{a:Act}{K:Act→World→Prop}{Q:Exit→Act→World→Prop}(s x:Operand)
 (ho:o.op=.call { callee:=.builtin .append,args:=#[s,x],argTypes:=#[36,36] }) (v u:Value) (hs:a.eval s=v) (hx:a.eval x=u) (v':Value) (w':World)
 (hrun:(Builtin.append_ #[36,36] o.type #[v,u]).run Tryz.prog w=.ok v' w') (h:K (a.put o.dst v') w'):Oper.wp Tryz.prog o a w K Q:=by
 unfold Oper.wp;simp [execOp,ho,resolve,invoke,builtin,hs,hx,hrun,Result.andThen];exact h
theorem drop19 (w W2:World) (R:List Nat) (gR cap p:Nat) (hp:p<R.length) (hl:R.length≤1000) (hR2:Rj w.heap.size W2 (.slice (some ⟨gR,0,none⟩) R.length cap) R) (hbl2:Below w.heap.size w W2) :
 ∃ v3 W3 v4 W4,(Builtin.append_ #[36,36] 36 #[.slice (some ⟨W2.heap.size,0,none⟩) 0 0,.slice (some ⟨gR,0,none⟩) p cap]).run Tryz.prog (W2.drew.alloc (Obj.cells #[] 3))=.ok v3 W3 ∧
   (Builtin.append_ #[36,36] 36 #[v3,.slice (if cap=p+1 then some ⟨gR,0,none⟩ else some ⟨gR,p+1,none⟩) (R.length-(p+1)) (cap-(p+1))]).run Tryz.prog W3=.ok v4 W4 ∧
   Rj w.heap.size W4 v4 (R.take p++R.drop (p+1))∧(∀ b,v4.ownBlock=some b→W2.heap.size≤b)∧Below w.heap.size w W4∧(∀ v L,Rf w.heap.size W2 v L→Rf w.heap.size W4 v L):=by
 obtain ⟨g',cap',e',_,hg2,hcp,hcm,hc2⟩:=hR2.shape (by omega)
 cases e'
 obtain ⟨v3,W3,hrun1,hR3,hgr3,hb3⟩:=append_jnts (W2.drew.alloc (Obj.cells #[] 3)) w.heap.size (.slice (some ⟨W2.heap.size,0,none⟩) 0 0) [] (R.take p) (some ⟨gR,0,none⟩) p cap 36 (World.ownsRow_made W2.drew #[] 0 hbl2.size (Nat.zero_le _) (by simp)) (by simp;omega)
  (fun _=>⟨gR,0,rfl,fun i hi=>by
   have hi2:i<p:=by simp at hi;omega
   rw [Nat.zero_add,show (R.take p).getD i 0=R.getD i 0 by rw [List.getD_eq_getElem?_getD,List.getD_eq_getElem?_getD,List.getElem?_take,if_pos hi2]]
   exact Lib.cell?_alloc_some _ (hc2 i (by omega))⟩) (by simp) (by simp;omega) (by have:=hbl2.size;simp;omega)
 have hWc:∀ i,i<R.length→W3.cell? ⟨gR,i,none⟩=some (.int .i64 ((R.getD i 0:Nat):Int)):=fun i hi=>hgr3.cell (Lib.cell?_alloc_some _ (hc2 i hi)) (by simp [Value.ownBlock];omega)
 obtain ⟨ao2,hao2⟩:∃ a:Option Addr,a=if cap=p+1 then some ⟨gR,0,none⟩ else some ⟨gR,p+1,none⟩:=⟨_,rfl⟩
 have hs3:W2.heap.size<W3.heap.size:=by have:=hgr3.size;simp at this;omega
 obtain ⟨v4,W4,hrun2,hR4,hgr4,hb4⟩:=append_jnts W3 w.heap.size v3 ([]++R.take p) (R.drop (p+1)) ao2 (R.length-(p+1)) (cap-(p+1)) 36 hR3 (by simp)
  (fun hne=>⟨gR,p+1,by rw [hao2,if_neg (fun e=>hne (List.drop_eq_nil_of_le (by omega)))],fun i hi=>by
   have hi2:p+1+i<R.length:=by simp at hi;omega
   rw [show (R.drop (p+1)).getD i 0=R.getD (p+1+i) 0 by rw [List.getD_eq_getElem?_getD,List.getD_eq_getElem?_getD,List.getElem?_drop]]
   exact hWc _ hi2⟩) (by rw [hao2];split <;> simp) (by simp;omega) (by have:=hbl2.size;omega)
 have b3:∀ b,v3.ownBlock=some b→W2.heap.size≤b:=fun b e=>by
  rcases hb3 with q|q
  · rw [q] at e;simp [Value.ownBlock] at e;omega
  · rw [q] at e;simp at e;omega
 have b4:∀ b,v4.ownBlock=some b→W2.heap.size≤b:=fun b e=>by
  rcases hb4 with q|q
  · exact b3 b (by rw [←q];exact e)
  · rw [q] at e;simp at e;omega
 refine ⟨v3,W3,v4,W4,hrun1,by rw [←hao2];exact hrun2,?_,b4,?_,fun v L hL=>?_⟩
 · rw [List.nil_append] at hR4;exact hR4
 · have q1:Below w.heap.size w (W2.drew.alloc (Obj.cells #[] 3)):=hbl2.drew.alloc hbl2.size _
   have q2:=q1.grown hgr3 q1.size (fun k e=>by simp [Value.ownBlock] at e;have:=hbl2.size;omega)
   exact q2.grown hgr4 q2.size (fun k e=>by have:=b3 k e;have:=hbl2.size;omega)
 · have o3:Rf w.heap.size W3 v L:=(hL.drew.alloc _).grown hgr3 (fun b hb e=>by have:=(hL.lt b hb).2;simp [Value.ownBlock] at e;omega)
   exact o3.grown hgr4 (fun b hb e=>by have:=(hL.lt b hb).2;have:=b3 b e;omega)
structure R3 (w v:World) (v1 v2 v3:Value) (L1 L2 R:List Nat):Prop where
 r:R2 w v v1 v2 L1 L2
 c:Rj w.heap.size v v3 R
 d1:∀ g,v3.ownBlock=some g→v1.ownBlock≠some g
 d2:∀ g,v3.ownBlock=some g→v2.ownBlock≠some g
theorem R3.swap {w v:World}{v1 v2 v3:Value}{L1 L2 R:List Nat}(h:R3 w v v1 v2 v3 L1 L2 R):R3 w v v2 v1 v3 L2 L1 R:=⟨h.r.swap,h.c,h.d2,h.d1⟩
theorem R3.push {w v:World}{v1 v2 v3:Value}{L1 L2 R:List Nat}(h:R3 w v v1 v2 v3 L1 L2 R) (x:Nat) (hl:L1.length≤90000) :
 ∃ v' w',(Builtin.append_ #[23,23] 23 #[v1,.slice (some ⟨v.heap.size,0,none⟩) 1 1]).run Tryz.prog (v.alloc (Obj.cells #[.float .f64 x] 24))=.ok v' w'∧R3 w w' v' v2 v3 (L1++[x]) L2 R:=by
 have hs:=h.r.bel.size
 obtain ⟨v',w',r1,r2,r3,r4⟩:=append_flts (v.alloc (Obj.cells #[.float .f64 x] 24)) w.heap.size v1 L1 [x] (some ⟨v.heap.size,0,none⟩) 1 1 23 (h.r.a.alloc _) rfl
  (fun _=>⟨v.heap.size,0,rfl,fun i hi=>by
   obtain rfl:i=0:=by simp at hi;omega
   unfold World.cell?;simp only [heap_alloc_new];rfl⟩) (by simp) (by omega) (by simp;omega)
 refine ⟨v',w',r1,⟨r2,(h.r.b.alloc _).grown r3 (fun g hb e=>h.r.d g e hb),fun g e q=>?_,(h.r.bel.alloc hs _).grown r3 (by simp;omega) (fun k e=>(h.r.a.lt k e).1)⟩,(h.c.alloc _).grown r3 (fun g hb e=>h.d1 g hb e),fun g e q=>?_,h.d2⟩
 · rcases r4 with r | r
   · exact h.r.d g (by rw [←r];exact e) q
   · rw [r] at e
     have:=(h.r.b.lt g q).2;simp at e;omega
 · rcases r4 with r | r
   · exact h.d1 g e (by rw [←r];exact q)
   · rw [r] at q
     have:=(h.c.lt g e).2;simp at q;omega
theorem Rj.push {w v:World}{v3:Value}{R:List Nat}(h:Rj w.heap.size v v3 R) (hb:Below w.heap.size w v) (x:Nat) (hl:R.length≤90000) :
 ∃ v' w',(Builtin.append_ #[36,36] 36 #[v3,.slice (some ⟨v.heap.size,0,none⟩) 1 1]).run Tryz.prog (v.alloc (Obj.cells #[.int .i64 (x:Nat)] 3))=.ok v' w'∧Rj w.heap.size w' v' (R++[x])∧Below w.heap.size w w':=by
 have hs:=hb.size
 obtain ⟨v',w',r1,r2,r3,r4⟩:=append_jnts (v.alloc (Obj.cells #[.int .i64 (x:Nat)] 3)) w.heap.size v3 R [x] (some ⟨v.heap.size,0,none⟩) 1 1 36 (h.alloc _) rfl
  (fun _=>⟨v.heap.size,0,rfl,fun i hi=>by
   obtain rfl:i=0:=by simp at hi;omega
   unfold World.cell?;simp only [heap_alloc_new];rfl⟩) (by simp) (by omega) (by simp;omega)
 exact ⟨v',w',r1,r2,(hb.alloc hs _).grown r3 (by simp;omega) (fun k e=>(h.lt k e).1)⟩
end
section
open Go.RowKit
theorem put_core (g:Nat) (L xs:List Nat) (V T:Int) (s:Sp) (k:Nat) (ng:Bool) (ao:Option Addr) (n cap p:Nat) (w:World) (hs:s.ok) (hk:k≤5) (hA:Ac w g L s) (hl:L.length=133) (hL:Wf L) (hv:(val L:Int)=V%(PB:Int)) (h0:-(HB:Int)<V) (h1:V<(HB:Int))
 (hx:Arg w ao n cap xs) (hp:p+32*n≤4256) (hT:sgn7 ng (val xs*2^p)=T) (hT0:-(HB:Int)<T) (hT1:T<(HB:Int)) :
 Calls Tryz.prog 78 #[.pointer (some ⟨g,0,none⟩),.agg #[.int .i64 (k:Nat),.bool ng,.slice ao n cap,.int .i64 (p:Nat)]] w (Did g w (putS V s k T)):=by
 obtain ⟨t,ht⟩:∃ t,t=s.cnt k 1:=⟨_,rfl⟩;obtain ⟨X,hX⟩:∃ X,X=putS V s k T:=⟨_,rfl⟩;rw [←hX];have HC:=hid (fun u:World=>counted_any s k 1 u hk hs (by decide) (by decide))
 rw [←ht] at HC;obtain ⟨sn,su,sd,sm,sp,sa⟩:=s;obtain ⟨tn,tu,td,tm,tp,ta⟩:=t;have HR:Aside (Ac w g L ⟨sn,su,sd,sm,sp,sa⟩∧L.length=133∧Wf L∧(val L:Int)=V%(PB:Int)∧-(HB:Int)<V∧V<(HB:Int)∧Arg w ao n cap xs∧p+32*n≤4256∧sgn7 ng (val xs*2^p)=T∧-(HB:Int)<T∧T<(HB:Int)):=⟨hA,hl,hL,hv,h0,h1,hx,hp,hT,hT0,hT1⟩;have HX:Aside (X=putS V ⟨sn,su,sd,sm,sp,sa⟩ k T∧⟨tn,tu,td,tm,tp,ta⟩=Sp.cnt ⟨sn,su,sd,sm,sp,sa⟩ k 1):=⟨hX,ht⟩;simp only [Sp.agg] at HC;clear hA hl hL hv h0 h1 hx hp hT hT0 hT1 hX ht hs;go_enter Tryz.func78,Tryz.ntmps78;have a5:=HR.out.1.cell HR.out.2.1 5 _ rfl;have alt:=HR.out.1.lt
 by_cases hmax:sa=1099511627776
 · subst hmax
   go_wp2;go_ret;rw [HX.out.1];unfold putS;rw [if_pos rfl];obtain ⟨hA,hl,hL,hv,h0,h1,_⟩:=HR.out;exact ⟨rfl,⟨L,hl,hL,hv,h0,h1,hA.alloc _⟩,(But.refl g w).of_bel (bel_alloc _ _)⟩
 have hmax':(sa==1099511627776)=false:=by simpa using hmax
 go_wp2
 have HP:Aside (X=step7 V ⟨sn,su,sd,sm,sp,sa⟩ T ⟨tn,tu,td,tm,tp,ta⟩):=by
  refine qsd ?_;rw [HX.out.1,HX.out.2];unfold putS;rw [if_neg hmax]
 obtain ⟨w1,hw1⟩:∃ w1,w1=w.alloc (Obj.cells #[.int .i64 (k:Nat),.bool ng,.slice ao n cap,.int .i64 (p:Nat)] 117):=⟨_,rfl⟩;rw [←hw1]
 have H1:Aside (Bl w1 w.heap.size 117 [.int .i64 (k:Nat),.bool ng,.slice ao n cap,.int .i64 (p:Nat)]∧Below w.heap.size w w1∧w1.heap.size=w.heap.size+1):=by
  subst hw1;exact ⟨Bl.new w 117 [_,_,_,_],bel_alloc _ _,by simp⟩
 clear hw1 hmax hmax' a5 alt;have hu:=Tryz.desc_words;have hsz:(Tryz.prog.info? 112).map (·.size)=some (L.map U).length:=by rw [Tryz.size_words,List.length_map,HR.out.2.1]
 have A0:=qsd (HR.out.1.below H1.out.2.1 HR.out.1.lt);have BB:Aside (Below w1.heap.size w1 w1.drew):=(Below.refl _ _).drew;have kS:=qsd (ai (A0.out.drew.range) (ai (A0.out.drew.cell HR.out.2.1 0 _ rfl) (ai (A0.out.drew.cell HR.out.2.1 1 _ rfl) (ai (A0.out.drew.cell HR.out.2.1 2 _ rfl) (ai (A0.out.drew.cell HR.out.2.1 3 _ rfl) (ai (A0.out.drew.cell HR.out.2.1 4 _ rfl) (ai (A0.out.drew.cell HR.out.2.1 5 _ rfl) (H1.out.1.drew.four))))))));have HW:=hid (fun (u:World) (hb:Below w1.heap.size w1 u)=>with_any L xs ao n cap p (k:Nat) ng u HR.out.2.1 HR.out.2.2.1 ((HR.out.2.2.2.2.2.2.1.below H1.out.2.1).below hb) HR.out.2.2.2.2.2.2.2.1)
 have hTT:Aside (sgn7 ng (val xs*2^p)=T∧-(HB:Int)<T∧T<(HB:Int)):=by
  have h:=HR.out.2.2.2.2.2.2.2.2;refine ⟨?_,by omega,by omega⟩
  first | exact h.1 | (rw [←h.1];cases ng <;> simp [sgn7])
 refine until_region (fun w'=>w'.rangeAt g 0 (L.map U)∧w'.cell? ⟨g,133,none⟩=some (.int .i64 sn)∧w'.cell? ⟨g,134,none⟩=some (.int .i64 su)∧w'.cell? ⟨g,135,none⟩=some (.int .i64 sd)∧w'.cell? ⟨g,136,none⟩=some (.int .i64 sm)∧w'.cell? ⟨g,137,none⟩=some (.int .i64 sp)∧w'.cell? ⟨g,138,none⟩=some (.int .i64 sa)∧w'.cell? ⟨w.heap.size,0,none⟩=some (.int .i64 (k:Nat))∧w'.cell? ⟨w.heap.size,1,none⟩=some (.bool ng)∧w'.cell? ⟨w.heap.size,2,none⟩=some (.slice ao n cap)∧w'.cell? ⟨w.heap.size,3,none⟩=some (.int .i64 (p:Nat))) 14 (by kernel_rfl) ?_
 refine until_take (i:=0) [] (v:=?_) rfl (by kernel_rfl) (by kernel_rfl) (by kernel_rfl) (by kernel_rfl) (by kernel_rfl) (fun _ _ _ h=>h) (Or.inl ⟨by rfl,?_⟩) kS.out ?_
 rotate_left
 · intro u hSu
   try dsimp only at hSu
   first | (go_simp;done) | (go_simp;with_reducible rfl)
 try simp only [Act.put,List.setIfInBounds_toArray,List.set_cons_zero,List.set_cons_succ]
 refine until_take (i:=1) [2,3,4,6] (v:=?_) rfl (by kernel_rfl) (by kernel_rfl) (by kernel_rfl) (by kernel_rfl) (by kernel_rfl) (fun _ _ _ h=>h) (Or.inl ⟨by rfl,?_⟩) kS.out ?_
 rotate_left
 · intro u hSu
   try dsimp only at hSu
   first | (go_simp;done) | (go_simp;with_reducible rfl)
 try simp only [Act.put,List.setIfInBounds_toArray,List.set_cons_zero,List.set_cons_succ]
 refine until_take (i:=2) [3,4,6] (v:=?_) rfl (by kernel_rfl) (by kernel_rfl) (by kernel_rfl) (by kernel_rfl) (by kernel_rfl) (fun _ _ _ h=>h) (Or.inl ⟨by rfl,?_⟩) kS.out ?_
 rotate_left
 · intro u hSu
   try dsimp only at hSu
   first | (go_simp;done) | (go_simp;with_reducible rfl)
 try simp only [Act.put,List.setIfInBounds_toArray,List.set_cons_zero,List.set_cons_succ]
 refine until_take (i:=3) [4,6] (v:=?_) rfl (by kernel_rfl) (by kernel_rfl) (by kernel_rfl) (by kernel_rfl) (by kernel_rfl) (fun _ _ _ h=>h) (Or.inl ⟨by rfl,?_⟩) kS.out ?_
 rotate_left
 · intro u hSu
   try dsimp only at hSu
   first | (go_simp;done) | (go_simp;with_reducible rfl)
 try simp only [Act.put,List.setIfInBounds_toArray,List.set_cons_zero,List.set_cons_succ]
 refine until_take (i:=4) [6] rfl (by kernel_rfl) (by kernel_rfl) (by kernel_rfl) (by kernel_rfl) (by kernel_rfl) (fun _ _ _ h=>h) (yieldsIf_load_mid (by rfl) _ _ rfl g 0 rfl (L.map U) _ (fun u h=>h.1) hu rfl hsz) kS.out ?_
 try simp only [Act.put,List.setIfInBounds_toArray,List.set_cons_zero,List.set_cons_succ]
 refine until_take (i:=5) [6] (v:=?_) rfl (by kernel_rfl) (by kernel_rfl) (by kernel_rfl) (by kernel_rfl) (by kernel_rfl) (fun _ _ _ h=>h) (Or.inl ⟨by rfl,?_⟩) kS.out ?_
 rotate_left
 · intro u hSu
   try dsimp only at hSu
   first | (go_simp;done) | (go_simp;with_reducible rfl)
 try simp only [Act.put,List.setIfInBounds_toArray,List.set_cons_zero,List.set_cons_succ]
 refine until_take (i:=7) [8,9,10,13] (v:=?_) rfl (by kernel_rfl) (by kernel_rfl) (by kernel_rfl) (by kernel_rfl) (by kernel_rfl) (fun _ _ _ h=>h) (Or.inl ⟨by rfl,?_⟩) kS.out ?_
 rotate_left
 · intro u hSu
   try dsimp only at hSu
   first | (go_simp;done) | (go_simp;with_reducible rfl)
 try simp only [Act.put,List.setIfInBounds_toArray,List.set_cons_zero,List.set_cons_succ]
 refine until_take (i:=8) [9,10,13] (v:=?_) rfl (by kernel_rfl) (by kernel_rfl) (by kernel_rfl) (by kernel_rfl) (by kernel_rfl) (fun _ _ _ h=>h) (Or.inl ⟨by rfl,?_⟩) kS.out ?_
 rotate_left
 · intro u hSu
   try dsimp only at hSu
   first | (go_simp;done) | (go_simp;with_reducible rfl)
 try simp only [Act.put,List.setIfInBounds_toArray,List.set_cons_zero,List.set_cons_succ]
 refine until_take (i:=9) [10,13] (v:=?_) rfl (by kernel_rfl) (by kernel_rfl) (by kernel_rfl) (by kernel_rfl) (by kernel_rfl) (fun _ _ _ h=>h) (Or.inl ⟨by rfl,?_⟩) kS.out ?_
 rotate_left
 · intro u hSu
   try dsimp only at hSu
   first | (go_simp;done) | (go_simp;with_reducible rfl)
 try simp only [Act.put,List.setIfInBounds_toArray,List.set_cons_zero,List.set_cons_succ]
 refine until_take (i:=10) [13] (v:=?_) rfl (by kernel_rfl) (by kernel_rfl) (by kernel_rfl) (by kernel_rfl) (by kernel_rfl) (fun _ _ _ h=>h) (Or.inl ⟨by rfl,?_⟩) kS.out ?_
 rotate_left
 · intro u hSu
   try dsimp only at hSu
   first | (go_simp;done) | (go_simp;with_reducible rfl)
 try simp only [Act.put,List.setIfInBounds_toArray,List.set_cons_zero,List.set_cons_succ]
 refine until_take (i:=11) [12,13] (v:=?_) rfl (by kernel_rfl) (by kernel_rfl) (by kernel_rfl) (by kernel_rfl) (by kernel_rfl) (fun _ _ _ h=>h) (Or.inl ⟨by rfl,?_⟩) kS.out ?_
 rotate_left
 · intro u hSu
   try dsimp only at hSu
   first | (go_simp;done) | (go_simp;with_reducible rfl)
 try simp only [Act.put,List.setIfInBounds_toArray,List.set_cons_zero,List.set_cons_succ]
 refine until_take (i:=12) [13] (v:=?_) rfl (by kernel_rfl) (by kernel_rfl) (by kernel_rfl) (by kernel_rfl) (by kernel_rfl) (fun _ _ _ h=>h) (Or.inl ⟨by rfl,?_⟩) kS.out ?_
 rotate_left
 · intro u hSu
   try dsimp only at hSu
   first | (go_simp;done) | (go_simp;with_reducible rfl)
 try simp only [Act.put,List.setIfInBounds_toArray,List.set_cons_zero,List.set_cons_succ]
 refine until_one (i:=6) (by kernel_rfl) rfl (fun K' hK=>?_)
 go_simp
 refine (HW.out _ BB.out).mono ?_;rintro r u1 ⟨M,rfl,hMl,hMw,hMv,hb⟩;have HM:=qsd (ai hMl (ai hMw hMv));have BB:=qsd (BB.out.trans (hb.mono BB.out.size));have A1:=A0.out.below BB.out A0.out.lt;have Z1:=H1.out.1.below BB.out H1.out.1.lt;have kS:=qsd (ai (A1.range) (ai (A1.cell HR.out.2.1 0 _ rfl) (ai (A1.cell HR.out.2.1 1 _ rfl) (ai (A1.cell HR.out.2.1 2 _ rfl) (ai (A1.cell HR.out.2.1 3 _ rfl) (ai (A1.cell HR.out.2.1 4 _ rfl) (ai (A1.cell HR.out.2.1 5 _ rfl) (Z1.four))))))));clear hb A1 Z1 hMl hMw hMv
 dsimp only
 refine hK.out _ _ (fun _=>kS.out) ?_
 clear hK K'
 try simp only [Act.put,List.setIfInBounds_toArray,List.set_cons_zero,List.set_cons_succ]
 refine until_one (i:=13) (by kernel_rfl) rfl (fun K' hK=>?_)
 go_simp
 refine (HC.out _).mono ?_;rintro r u2 ⟨rfl,hb⟩;have BB:=qsd (BB.out.trans (hb.mono BB.out.size));have A1:=A0.out.below BB.out A0.out.lt;have Z1:=H1.out.1.below BB.out H1.out.1.lt;have kS:=qsd (ai (A1.range) (ai (A1.cell HR.out.2.1 0 _ rfl) (ai (A1.cell HR.out.2.1 1 _ rfl) (ai (A1.cell HR.out.2.1 2 _ rfl) (ai (A1.cell HR.out.2.1 3 _ rfl) (ai (A1.cell HR.out.2.1 4 _ rfl) (ai (A1.cell HR.out.2.1 5 _ rfl) (Z1.four))))))));clear hb A1 Z1
 dsimp only
 refine hK.out _ _ (fun _=>kS.out) ?_
 clear hK K'
 try simp only [Act.put,List.setIfInBounds_toArray,List.set_cons_zero,List.set_cons_succ]
 refine until_one (i:=14) (by kernel_rfl) rfl (fun K' hK=>?_)
 go_simp
 have CB:=become_any g L M V T ⟨sn,su,sd,sm,sp,sa⟩ ⟨tn,tu,td,tm,tp,ta⟩ u2 (A0.out.below BB.out A0.out.lt) HR.out.2.1 HR.out.2.2.1 HR.out.2.2.2.1 HR.out.2.2.2.2.1 HR.out.2.2.2.2.2.1 HM.out.2.1 HM.out.1 (by rw [HM.out.2.2,hTT.out.1,HR.out.2.2.2.1,emod_add']) hTT.out.2.1 hTT.out.2.2
 rw [←HP.out] at CB;simp only [Sp.agg] at CB;refine CB.mono ?_;rintro r u3 hD;have HD3:=qsd hD;obtain ⟨rfl,_,_⟩:=hD;clear CB
 dsimp only
 refine hK.out _ _ (fun h=>absurd h (by decide)) ?_
 clear hK K'
 try simp only [Act.put,List.setIfInBounds_toArray,List.set_cons_zero,List.set_cons_succ]
 refine until_one (i:=15) (by kernel_rfl) rfl (fun K' hK=>?_)
 go_simp
 refine hK.out _ _ (fun h=>absurd h (by decide)) ?_
 clear hK K';refine until_done (by kernel_rfl) ?_ _
 clear kS;go_wp2;go_ret;obtain ⟨h1,h2,h3⟩:=HD3.out;exact ⟨rfl,h2,((But.refl g w).of_bel H1.out.2.1).trans (((But.refl g w1).of_bel BB.out).trans h3)⟩
end
end Go.Proofs.YtopgffjnejaijaaGreatDoor
