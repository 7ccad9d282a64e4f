import Derived.Test.YtblkpkgebigojaaGreatDoorW17x
import Derived.Deep.RegionHeld
import Ieee.Arith
import Derived.WalkKit
import Derived.Test.YtblkpkgebigojaaGreatDoorProg
import Derived.WalkLawsBesides
import Derived.WalkSpells
import Derived.Laws.Externs
import Derived.BigQuiet
import Derived.ArgAppend
import Derived.Maps.AppendAt
import Derived.WalkMore
import Derived.Test.YtblkpkgebigojaaGreatDoorW13x
set_option linter.unusedVariables false
set_option linter.unusedSimpArgs false
set_option maxHeartbeats 16000000
set_option maxRecDepth 20000
namespace Go.Proofs.YtblkpkgebigojaaGreatDoor
section
open Go.RowKit
theorem But.of_bel {g:Nat}{a w w':World}(h:But g a w) (hb:Below w.heap.size w w'):But g a w' :=
 h.trans ⟨hb.os,hb.tape,hb.output,hb.size,fun k hk _=>hb.block k hk⟩
structure Sp where
 (n u d m p a:Int)
def Sp.cells (s:Sp):List Value:=[.int .i64 s.n,.int .i64 s.u,.int .i64 s.d,.int .i64 s.m,.int .i64 s.p,.int .i64 s.a]
def Sp.agg (s:Sp):Value:=.agg #[.int .i64 s.n,.int .i64 s.u,.int .i64 s.d,.int .i64 s.m,.int .i64 s.p,.int .i64 s.a]
def Ac (w:World) (g:Nat) (L:List Nat) (s:Sp):Prop:=Bl w g 163 (L.map U++s.cells)
theorem Ac.lt {w:World}{g:Nat}{L:List Nat}{s:Sp}(h:Ac w g L s):g<w.heap.size:=Bl.lt h
theorem Ac.hd {w:World}{g:Nat}{L:List Nat}{s:Sp}(h:Ac w g L s):Hd w g L:=Bl.hd h
theorem Ac.cell {w:World}{g:Nat}{L:List Nat}{s:Sp}(h:Ac w g L s) (hl:L.length=133) (k:Nat) (v:Value) (hk:s.cells[k]?=some v):w.cell? ⟨g,133+k,none⟩=some v :=
 Bl.cell h _ _ (by rw [List.getElem?_append_right (by simp;omega)];simpa [hl] using hk)
theorem Ac.frozen {w:World}{g:Nat}{L:List Nat}{s:Sp}(h:Ac w g L s) (k:Nat):w.frozen? ⟨g,k,none⟩=false:=Bl.frozen h k
theorem Ac.below {w w':World}{g B:Nat}{L:List Nat}{s:Sp}(h:Ac w g L s) (hb:Below B w w') (hg:g<B):Ac w' g L s:=Bl.below h hb hg
theorem Ac.drew {w:World}{g:Nat}{L:List Nat}{s:Sp}(h:Ac w g L s):Ac w.drew g L s:=h
theorem Ac.alloc {w:World}{g:Nat}{L:List Nat}{s:Sp}(h:Ac w g L s) (o:Obj):Ac (w.alloc o) g L s:=Bl.alloc h o
theorem Ac.there {w:World}{g:Nat}{L:List Nat}{s:Sp}(h:Ac w g L s) (hl:L.length=133):w.there g 0 133:=Bl.there h 0 133 (by simp [hl])
theorem Ac.range {w:World}{g:Nat}{L:List Nat}{s:Sp}(h:Ac w g L s):w.rangeAt g 0 (L.map U):=Bl.range h 0 _ (fun j v hv=>by
 rw [Nat.zero_add,List.getElem?_append_left (List.getElem?_eq_some_iff.1 hv).1];exact hv)
theorem Zh3 (L:List Nat):∀ v ∈ L.map U,v.oneCell'=true:=fun v hv=>by
 obtain ⟨x,_,rfl⟩:=List.mem_map.1 hv;rfl
theorem Zh4 (g:Nat) (L M:List Nat) (s t:Sp) (w:World) (hA:Ac w g L s) (hl:L.length=133) (hM:Wf M) (hm:M.length=133) (hb:bey (val M)=false) :
 Calls Tryz.prog 183 #[.pointer (some ⟨g,0,none⟩),.agg (M.map U).toArray,t.agg] w fun r w' =>
  r=.returned (.int .i64 0)∧Ac w' g M t∧But g w w':=by
 obtain ⟨tn,tu,td,tm,tp,ta⟩:=t;simp only [Sp.agg];have HR:Aside (Ac w g L s∧L.length=133∧Wf M∧M.length=133∧bey (val M)=false):=⟨hA,hl,hM,hm,hb⟩;clear hA hl hM hm hb;go_enter Tryz.func183,Tryz.ntmps183
 go_wp2_with fail
 obtain ⟨w2,hw2⟩:∃ w2,w2=((w.alloc (Obj.cells (M.map U).toArray 161)).alloc (Obj.cells #[.int .i64 tn,.int .i64 tu,.int .i64 td,.int .i64 tm,.int .i64 tp,.int .i64 ta] 119)):=⟨_,rfl⟩;rw [←hw2]
 have H2:Aside (Ac w2 g L s∧Wb w2 w.heap.size M∧Bl w2 (w.heap.size+1) 119 [.int .i64 tn,.int .i64 tu,.int .i64 td,.int .i64 tm,.int .i64 tp,.int .i64 ta]∧Below w.heap.size w w2∧g<w.heap.size):=by
  subst hw2;refine ⟨(HR.out.1.alloc _).alloc _,((Bl.new w 161 (M.map U)).alloc _).wb,Bl.new' _ 119 _ [_,_,_,_,_,_] (by simp),(Zd w _).trans ((Zd _ _).mono (by simp)),HR.out.1.lt⟩
 clear hw2;refine Calls.mono (Zcr w.heap.size M w2 HR.out.2.2.2.1 HR.out.2.2.1 H2.out.2.1.hd) ?_;rintro r w3 ⟨rfl,rfl⟩;rw [HR.out.2.2.2.2];go_wp2;have hne1:g≠w.heap.size:=Nat.ne_of_lt H2.out.2.2.2.2;have hne2:g≠w.heap.size+1:=by have:=H2.out.2.2.2.2;omega
 have hu:=Tryz.desc_words;have hsz:(Tryz.prog.info? 161).map (·.size)=some (M.map U).length:=by rw [Tryz.size_words,List.length_map,HR.out.2.2.2.1]
 have hlen:(M.map U).length=133:=by rw [List.length_map,HR.out.2.2.2.1]
 have hone:=Zh3 M;obtain ⟨A2,B2,C2,_,hlt⟩:=H2.out;have hB0:But g w3 (w3.drew):=(But.refl _ _).drew;have hB1:But g w3 (w3.drew.setCells g 0 (M.map U)):=But.setCells _ _ hB0;have hB2:But g w3 (((((((w3.drew.setCells g 0 (M.map U)).setCell ⟨g,133,none⟩ (.int .i64 tn)).setCell ⟨g,134,none⟩ (.int .i64 tu)).setCell ⟨g,135,none⟩ (.int .i64 td)).setCell ⟨g,136,none⟩ (.int .i64 tm)).setCell ⟨g,137,none⟩ (.int .i64 tp)).setCell ⟨g,138,none⟩ (.int .i64 ta)):=(((((hB1.set _ _).set _ _).set _ _).set _ _).set _ _).set _ _
 have hA1:Bl (w3.drew.setCells g 0 (M.map U)) g 163 (M.map U++s.cells):=by
  have:=Bl.setCells (M.map U) 0 A2.drew (by simp [HR.out.2.1,HR.out.2.2.2.1])
  rw [List.take_zero,List.nil_append,Nat.zero_add,List.drop_left' (by simp [HR.out.2.1,HR.out.2.2.2.1])] at this
  exact this
 have hA2:Bl (((((((w3.drew.setCells g 0 (M.map U)).setCell ⟨g,133,none⟩ (.int .i64 tn)).setCell ⟨g,134,none⟩ (.int .i64 tu)).setCell ⟨g,135,none⟩ (.int .i64 td)).setCell ⟨g,136,none⟩ (.int .i64 tm)).setCell ⟨g,137,none⟩ (.int .i64 tp)).setCell ⟨g,138,none⟩ (.int .i64 ta)) g 163 (M.map U++[.int .i64 tn,.int .i64 tu,.int .i64 td,.int .i64 tm,.int .i64 tp,.int .i64 ta]):=by
  have:=(((((hA1.set 133 (.int .i64 tn)).set 134 (.int .i64 tu)).set 135 (.int .i64 td)).set 136 (.int .i64 tm)).set 137 (.int .i64 tp)).set 138 (.int .i64 ta);have hm:=HR.out.2.2.2.1;simpa [List.set_append,hm,Sp.cells] using this
 have kS0:Aside ((w3.drew).rangeAt w.heap.size 0 (M.map U)∧(w3.drew).there g 0 133∧(w3.drew).cell? ⟨w.heap.size+1,0,none⟩=some (.int .i64 tn)∧(w3.drew).cell? ⟨w.heap.size+1,1,none⟩=some (.int .i64 tu)∧(w3.drew).cell? ⟨w.heap.size+1,2,none⟩=some (.int .i64 td)∧(w3.drew).cell? ⟨w.heap.size+1,3,none⟩=some (.int .i64 tm)∧(w3.drew).cell? ⟨w.heap.size+1,4,none⟩=some (.int .i64 tp)∧(w3.drew).cell? ⟨w.heap.size+1,5,none⟩=some (.int .i64 ta)) :=
  ⟨(Bl.but B2.bl hB0 (by omega)).range 0 _ (fun j v hv=>by simpa using hv),A2.drew.there HR.out.2.1,(Bl.but C2 hB0 (by omega)).cell 0 _ rfl,(Bl.but C2 hB0 (by omega)).cell 1 _ rfl,(Bl.but C2 hB0 (by omega)).cell 2 _ rfl,(Bl.but C2 hB0 (by omega)).cell 3 _ rfl,(Bl.but C2 hB0 (by omega)).cell 4 _ rfl,(Bl.but C2 hB0 (by omega)).cell 5 _ rfl⟩
 have kS1:Aside ((w3.drew.setCells g 0 (M.map U)).rangeAt w.heap.size 0 (M.map U)∧(w3.drew.setCells g 0 (M.map U)).there g 0 133∧(w3.drew.setCells g 0 (M.map U)).cell? ⟨w.heap.size+1,0,none⟩=some (.int .i64 tn)∧(w3.drew.setCells g 0 (M.map U)).cell? ⟨w.heap.size+1,1,none⟩=some (.int .i64 tu)∧(w3.drew.setCells g 0 (M.map U)).cell? ⟨w.heap.size+1,2,none⟩=some (.int .i64 td)∧(w3.drew.setCells g 0 (M.map U)).cell? ⟨w.heap.size+1,3,none⟩=some (.int .i64 tm)∧(w3.drew.setCells g 0 (M.map U)).cell? ⟨w.heap.size+1,4,none⟩=some (.int .i64 tp)∧(w3.drew.setCells g 0 (M.map U)).cell? ⟨w.heap.size+1,5,none⟩=some (.int .i64 ta)) :=
  ⟨(Bl.but B2.bl hB1 (by omega)).range 0 _ (fun j v hv=>by simpa using hv),Bl.there hA1 0 133 (by simp [HR.out.2.2.2.1]),(Bl.but C2 hB1 (by omega)).cell 0 _ rfl,(Bl.but C2 hB1 (by omega)).cell 1 _ rfl,(Bl.but C2 hB1 (by omega)).cell 2 _ rfl,(Bl.but C2 hB1 (by omega)).cell 3 _ rfl,(Bl.but C2 hB1 (by omega)).cell 4 _ rfl,(Bl.but C2 hB1 (by omega)).cell 5 _ rfl⟩
 have kS2:Aside (((((((((w3.drew.setCells g 0 (M.map U)).setCell ⟨g,133,none⟩ (.int .i64 tn)).setCell ⟨g,134,none⟩ (.int .i64 tu)).setCell ⟨g,135,none⟩ (.int .i64 td)).setCell ⟨g,136,none⟩ (.int .i64 tm)).setCell ⟨g,137,none⟩ (.int .i64 tp)).setCell ⟨g,138,none⟩ (.int .i64 ta))).rangeAt w.heap.size 0 (M.map U)∧((((((((w3.drew.setCells g 0 (M.map U)).setCell ⟨g,133,none⟩ (.int .i64 tn)).setCell ⟨g,134,none⟩ (.int .i64 tu)).setCell ⟨g,135,none⟩ (.int .i64 td)).setCell ⟨g,136,none⟩ (.int .i64 tm)).setCell ⟨g,137,none⟩ (.int .i64 tp)).setCell ⟨g,138,none⟩ (.int .i64 ta))).there g 0 133∧((((((((w3.drew.setCells g 0 (M.map U)).setCell ⟨g,133,none⟩ (.int .i64 tn)).setCell ⟨g,134,none⟩ (.int .i64 tu)).setCell ⟨g,135,none⟩ (.int .i64 td)).setCell ⟨g,136,none⟩ (.int .i64 tm)).setCell ⟨g,137,none⟩ (.int .i64 tp)).setCell ⟨g,138,none⟩ (.int .i64 ta))).cell? ⟨w.heap.size+1,0,none⟩=some (.int .i64 tn)∧((((((((w3.drew.setCells g 0 (M.map U)).setCell ⟨g,133,none⟩ (.int .i64 tn)).setCell ⟨g,134,none⟩ (.int .i64 tu)).setCell ⟨g,135,none⟩ (.int .i64 td)).setCell ⟨g,136,none⟩ (.int .i64 tm)).setCell ⟨g,137,none⟩ (.int .i64 tp)).setCell ⟨g,138,none⟩ (.int .i64 ta))).cell? ⟨w.heap.size+1,1,none⟩=some (.int .i64 tu)∧((((((((w3.drew.setCells g 0 (M.map U)).setCell ⟨g,133,none⟩ (.int .i64 tn)).setCell ⟨g,134,none⟩ (.int .i64 tu)).setCell ⟨g,135,none⟩ (.int .i64 td)).setCell ⟨g,136,none⟩ (.int .i64 tm)).setCell ⟨g,137,none⟩ (.int .i64 tp)).setCell ⟨g,138,none⟩ (.int .i64 ta))).cell? ⟨w.heap.size+1,2,none⟩=some (.int .i64 td)∧((((((((w3.drew.setCells g 0 (M.map U)).setCell ⟨g,133,none⟩ (.int .i64 tn)).setCell ⟨g,134,none⟩ (.int .i64 tu)).setCell ⟨g,135,none⟩ (.int .i64 td)).setCell ⟨g,136,none⟩ (.int .i64 tm)).setCell ⟨g,137,none⟩ (.int .i64 tp)).setCell ⟨g,138,none⟩ (.int .i64 ta))).cell? ⟨w.heap.size+1,3,none⟩=some (.int .i64 tm)∧((((((((w3.drew.setCells g 0 (M.map U)).setCell ⟨g,133,none⟩ (.int .i64 tn)).setCell ⟨g,134,none⟩ (.int .i64 tu)).setCell ⟨g,135,none⟩ (.int .i64 td)).setCell ⟨g,136,none⟩ (.int .i64 tm)).setCell ⟨g,137,none⟩ (.int .i64 tp)).setCell ⟨g,138,none⟩ (.int .i64 ta))).cell? ⟨w.heap.size+1,4,none⟩=some (.int .i64 tp)∧((((((((w3.drew.setCells g 0 (M.map U)).setCell ⟨g,133,none⟩ (.int .i64 tn)).setCell ⟨g,134,none⟩ (.int .i64 tu)).setCell ⟨g,135,none⟩ (.int .i64 td)).setCell ⟨g,136,none⟩ (.int .i64 tm)).setCell ⟨g,137,none⟩ (.int .i64 tp)).setCell ⟨g,138,none⟩ (.int .i64 ta))).cell? ⟨w.heap.size+1,5,none⟩=some (.int .i64 ta)) :=
  ⟨(Bl.but B2.bl hB2 (by omega)).range 0 _ (fun j v hv=>by simpa using hv),Bl.there hA2 0 133 (by simp [HR.out.2.2.2.1]),(Bl.but C2 hB2 (by omega)).cell 0 _ rfl,(Bl.but C2 hB2 (by omega)).cell 1 _ rfl,(Bl.but C2 hB2 (by omega)).cell 2 _ rfl,(Bl.but C2 hB2 (by omega)).cell 3 _ rfl,(Bl.but C2 hB2 (by omega)).cell 4 _ rfl,(Bl.but C2 hB2 (by omega)).cell 5 _ rfl⟩
 have o0:=hA1.cell 133 _ (by rw [List.getElem?_append_right (by simp [HR.out.2.2.2.1])];simp [HR.out.2.2.2.1,Sp.cells];rfl)
 have f0:=hA1.frozen 133;have o1:=hA1.cell 134 _ (by rw [List.getElem?_append_right (by simp [HR.out.2.2.2.1])];simp [HR.out.2.2.2.1,Sp.cells];rfl)
 have f1:=hA1.frozen 134;have o2:=hA1.cell 135 _ (by rw [List.getElem?_append_right (by simp [HR.out.2.2.2.1])];simp [HR.out.2.2.2.1,Sp.cells];rfl)
 have f2:=hA1.frozen 135;have o3:=hA1.cell 136 _ (by rw [List.getElem?_append_right (by simp [HR.out.2.2.2.1])];simp [HR.out.2.2.2.1,Sp.cells];rfl)
 have f3:=hA1.frozen 136;have o4:=hA1.cell 137 _ (by rw [List.getElem?_append_right (by simp [HR.out.2.2.2.1])];simp [HR.out.2.2.2.1,Sp.cells];rfl)
 have f4:=hA1.frozen 137;have o5:=hA1.cell 138 _ (by rw [List.getElem?_append_right (by simp [HR.out.2.2.2.1])];simp [HR.out.2.2.2.1,Sp.cells];rfl)
 have f5:=hA1.frozen 138;have fw0:=H2.out.1.frozen 133;have fw1:=H2.out.1.frozen 134;have fw2:=H2.out.1.frozen 135;have fw3:=H2.out.1.frozen 136;have fw4:=H2.out.1.frozen 137;have fw5:=H2.out.1.frozen 138;have HE:Aside (Ac (((((((w3.drew.setCells g 0 (M.map U)).setCell ⟨g,133,none⟩ (.int .i64 tn)).setCell ⟨g,134,none⟩ (.int .i64 tu)).setCell ⟨g,135,none⟩ (.int .i64 td)).setCell ⟨g,136,none⟩ (.int .i64 tm)).setCell ⟨g,137,none⟩ (.int .i64 tp)).setCell ⟨g,138,none⟩ (.int .i64 ta)) g M ⟨tn,tu,td,tm,tp,ta⟩∧But g w3 (((((((w3.drew.setCells g 0 (M.map U)).setCell ⟨g,133,none⟩ (.int .i64 tn)).setCell ⟨g,134,none⟩ (.int .i64 tu)).setCell ⟨g,135,none⟩ (.int .i64 td)).setCell ⟨g,136,none⟩ (.int .i64 tm)).setCell ⟨g,137,none⟩ (.int .i64 tp)).setCell ⟨g,138,none⟩ (.int .i64 ta))):=⟨hA2,hB2⟩;clear A2 B2 C2 hB0 hB1 hB2 hA1 hA2
 go_region_held (fun w'=>(w').rangeAt w.heap.size 0 (M.map U)∧(w').there g 0 133∧(w').cell? ⟨w.heap.size+1,0,none⟩=some (.int .i64 tn)∧(w').cell? ⟨w.heap.size+1,1,none⟩=some (.int .i64 tu)∧(w').cell? ⟨w.heap.size+1,2,none⟩=some (.int .i64 td)∧(w').cell? ⟨w.heap.size+1,3,none⟩=some (.int .i64 tm)∧(w').cell? ⟨w.heap.size+1,4,none⟩=some (.int .i64 tp)∧(w').cell? ⟨w.heap.size+1,5,none⟩=some (.int .i64 ta)) (first | with_reducible exact kS2.out | with_reducible exact kS1.out | with_reducible exact kS0.out) (fail)
 clear kS0 kS1 kS2 o0 o1 o2 o3 o4 o5 f0 f1 f2 f3 f4 f5 fw0 fw1 fw2 fw3 fw4 fw5 hsz hone hlen hu;go_wp2;go_ret;exact ⟨rfl,HE.out.1,((But.refl g w).of_bel H2.out.2.2.2.1).trans HE.out.2⟩
theorem Zlu (g:Nat) (L M:List Nat) (s t:Sp) (w:World) (hA:Ac w g L s) (hM:Wf M) (hm:M.length=133) (hb:bey (val M)=true) :
 Calls Tryz.prog 183 #[.pointer (some ⟨g,0,none⟩),.agg (M.map U).toArray,t.agg] w fun r w' =>
  r=.returned (.int .i64 2)∧Below w.heap.size w w':=by
 obtain ⟨tn,tu,td,tm,tp,ta⟩:=t;simp only [Sp.agg];have HR:Aside (Wf M∧M.length=133∧bey (val M)=true):=⟨hM,hm,hb⟩;clear hA hM hm hb;go_enter Tryz.func183,Tryz.ntmps183
 go_wp2_with fail
 obtain ⟨w2,hw2⟩:∃ w2,w2=((w.alloc (Obj.cells (M.map U).toArray 161)).alloc (Obj.cells #[.int .i64 tn,.int .i64 tu,.int .i64 td,.int .i64 tm,.int .i64 tp,.int .i64 ta] 119)):=⟨_,rfl⟩;rw [←hw2]
 have H2:Aside (Wb w2 w.heap.size M∧Below w.heap.size w w2):=by
  subst hw2;exact ⟨((Bl.new w 161 (M.map U)).alloc _).wb,(Zd w _).trans ((Zd _ _).mono (by simp))⟩
 clear hw2;refine Calls.mono (Zcr w.heap.size M w2 HR.out.2.1 HR.out.1 H2.out.1.hd) ?_;rintro r w3 ⟨rfl,rfl⟩;rw [HR.out.2.2];go_wp2;go_ret;exact ⟨rfl,H2.out.2⟩
def Sp.ok (s:Sp):Prop:=(-4398046511104≤s.n∧s.n≤4398046511104)∧(-4398046511104≤s.u∧s.u≤4398046511104)∧(-4398046511104≤s.d∧s.d≤4398046511104)∧(-4398046511104≤s.m∧s.m≤4398046511104)∧(-4398046511104≤s.p∧s.p≤4398046511104)∧(-4398046511104≤s.a∧s.a≤4398046511104)
def Sp.cnt (s:Sp) (k:Nat) (c:Int):Sp :=
 ⟨if k=1 then s.n+c else s.n,if k=2 then s.u+c else s.u,if k=3 then s.d+c else s.d,if k=4 then s.m+c else s.m,if k=5 then s.p+c else s.p,s.a+c⟩
theorem Y9 (b:Bool) (x y:Int) (w:World):Calls Tryz.prog 186 #[.bool b,.int .i64 x,.int .i64 y] w fun r w'=>r=.returned (.int .i64 (if b then x else y))∧w'=w:=by
 cases b
 · go_enter Tryz.func186,Tryz.ntmps186
   go_wp2;go_ret;exact ⟨rfl,rfl⟩
 · go_enter Tryz.func186,Tryz.ntmps186
   go_wp2;go_ret;exact ⟨rfl,rfl⟩
theorem Zfw (s:Sp) (k:Nat) (c:Int) (w:World) (hk:k≤5) (hs:s.ok) (hc0:-1≤c) (hc1:c≤1):Calls Tryz.prog 185 #[s.agg,.int .i64 (k:Nat),.int .i64 c] w fun r w'=>r=.returned (s.cnt k c).agg∧Below w.heap.size w w':=by
 obtain ⟨n,u,d,m,p,a⟩:=s;obtain ⟨h0,h1,h2,h3,h4,h5⟩:=hs;simp only [Sp.agg] at *;have hc:k=0∨k=1∨k=2∨k=3∨k=4∨k=5:=by omega
 rcases hc with rfl|rfl|rfl|rfl|rfl|rfl
 all_goals (
  go_enter Tryz.func185,Tryz.ntmps185;go_wp2;exact bodyPost_ret (v:=(Sp.cnt ⟨n,u,d,m,p,a⟩ _ c).agg) (by simp [results,Tryz.results185,go_sem,Sp.agg,Sp.cnt]) rfl ⟨rfl,(Zd _ _).trans ((Zd _ _).mono (by simp))⟩)
end
namespace B
open Ieee
def val (f:Format) (r:Nat):Nat:=if r<f.binade then r else (f.binade+r%f.binade)*2^(r/f.binade-1)
theorem binade_pos (f:Format):0<f.binade:=Nat.two_pow_pos _
theorem val_succ (f:Format) (r:Nat):val f (r+1)=val f r+2^(r/f.binade-1):=by
 have hb:=binade_pos f;unfold val;generalize hB:f.binade=B at *
 by_cases h:r<B
 · rw [if_pos h,Nat.div_eq_of_lt h]
   by_cases h1:r+1<B
   · rw [if_pos h1]
   · have e:r+1=B:=by omega
     rw [if_neg h1,e,Nat.mod_self,Nat.div_self hb];simp
 · have h1:¬ r+1<B:=by omega
   rw [if_neg h,if_neg h1]
   have hq:1≤r/B:=by
    have:=Nat.div_le_div_right (c:=B) (Nat.le_of_not_lt h);rw [Nat.div_self hb] at this;exact this
   have hm:=Nat.mod_lt r hb;have hd:=Nat.div_add_mod r B;generalize r/B=q at *;generalize hmm:r%B=m at *;obtain ⟨q,rfl⟩:∃ k,q=k+1:=⟨q-1,by omega⟩
   by_cases h2:m+1<B
   · have e:r+1=B*(q+1)+(m+1):=by omega
     have e1:(r+1)%B=m+1:=by rw [e,Nat.mul_add_mod,Nat.mod_eq_of_lt h2]
     have e2:(r+1)/B=q+1:=by rw [e,Nat.mul_add_div hb,Nat.div_eq_of_lt h2]
     rw [e1,e2,Nat.add_sub_cancel,←Nat.add_assoc,Nat.add_mul,Nat.one_mul]
   · have hm1:m+1=B:=by omega
     have e:r+1=B*(q+2):=by rw [show q+2=(q+1)+1 from rfl,Nat.mul_succ];omega
     have e1:(r+1)%B=0:=by rw [e,Nat.mul_mod_right]
     have e2:(r+1)/B=q+2:=by rw [e,Nat.mul_div_cancel_left _ hb]
     rw [e1,e2];have:B+m=2*B-1:=by omega
     have h3:(B+m)*2^q+2^q=(2*B)*2^q:=by
      rw [←Nat.succ_mul];congr 1;omega
     show (B+0)*2^(q+1)=(B+m)*2^q+2^q
     rw [h3,Nat.pow_succ,Nat.add_zero,Nat.mul_comm 2 B,Nat.mul_assoc,Nat.mul_comm 2]
theorem val_lt_succ (f:Format) (r:Nat):val f r<val f (r+1):=by
 rw [val_succ];exact Nat.lt_add_of_pos_right (Nat.two_pow_pos _)
theorem val_lt (f:Format) {r s:Nat}(h:r<s):val f r<val f s:=by
 induction s with
 | zero=>omega
 | succ s ih =>
   by_cases e:r=s
   · subst e;exact val_lt_succ f r
   · exact Nat.lt_trans (ih (by omega)) (val_lt_succ f s)
theorem val_lt_iff (f:Format) {r s:Nat}:val f r<val f s↔r<s:=by
 constructor
 · intro h
   by_cases e:r<s
   · exact e
   · by_cases e2:r=s
     · subst e2;omega
     · have:=val_lt f (show s<r by omega);omega
 · exact val_lt f
theorem val_inj (f:Format) {r s:Nat}(h:val f r=val f s):r=s:=by
 by_cases e:r<s
 · have:=val_lt f e;omega
 · by_cases e2:s<r
   · have:=val_lt f e2;omega
   · omega
theorem val_zero (f:Format):val f 0=0:=by
 unfold val;rw [if_pos (binade_pos f)]
def sg (s:Bool) (r:Nat):Int:=if s then -(r:Int) else r
theorem sg_val_lt (f:Format) (s t:Bool) (r u:Nat):sg s (val f r)<sg t (val f u)↔sg s r<sg t u:=by
 have h1:=@val_lt_iff f r u;have h2:=@val_lt_iff f u r;have z:=val_zero f;have h3:=@val_lt_iff f 0 r;have h4:=@val_lt_iff f 0 u
 cases s <;> cases t <;> simp only [sg,if_true,if_false,Bool.false_eq_true] <;> omega
theorem signed_eq (s:Bool) (m k:Nat):signed s m k=sg s (m*2^k):=by
 unfold signed sg;rw [Nat.shiftLeft_eq]
theorem read_word (f:Format) (s:Bool) (r:Nat) (hr:r<f.infRung) (hs:f.infRung<f.signWeight) :
 ∃ m:Nat,∃ k:Nat,f.read (f.word s r)=.number s m (f.leastPlace+k)∧m*2^k=val f r:=by
 have e1:(f.word s r/f.signWeight%2==1)=s:=by
  unfold Format.word
  cases s
  · simp only [Bool.false_eq_true,if_false]
    rw [Nat.div_eq_of_lt (by omega)];rfl
  · simp only [if_true]
    rw [Nat.add_div_left _ (by omega),Nat.div_eq_of_lt (by omega)];rfl
 have e2:f.word s r%f.signWeight=r:=by
  unfold Format.word
  cases s
  · simp only [Bool.false_eq_true,if_false];exact Nat.mod_eq_of_lt (by omega)
  · simp only [if_true];rw [Nat.add_mod_left];exact Nat.mod_eq_of_lt (by omega)
 unfold Format.read;simp only [e1,e2];unfold val
 by_cases h:r<f.binade
 · rw [if_pos h,if_pos h]
   exact ⟨r,0,by simp,by simp⟩
 · rw [if_neg h,if_neg h,if_pos hr]
   exact ⟨_,_,rfl,rfl⟩
theorem read_inf (f:Format) (s:Bool) (hs:f.infRung<f.signWeight) (hb:f.binade≤f.infRung) :
 f.read (f.word s f.infRung)=.infinity s:=by
 have e1:(f.word s f.infRung/f.signWeight%2==1)=s:=by
  unfold Format.word
  cases s
  · simp only [Bool.false_eq_true,if_false]
    rw [Nat.div_eq_of_lt (by omega)];rfl
  · simp only [if_true]
    rw [Nat.add_div_left _ (by omega),Nat.div_eq_of_lt (by omega)];rfl
 have e2:f.word s f.infRung%f.signWeight=f.infRung:=by
  unfold Format.word
  cases s
  · simp only [Bool.false_eq_true,if_false];exact Nat.mod_eq_of_lt (by omega)
  · simp only [if_true];rw [Nat.add_mod_left];exact Nat.mod_eq_of_lt (by omega)
 unfold Format.read;simp only [e1,e2];rw [if_neg (by omega),if_neg (by omega),if_pos trivial]
theorem read_nan (f:Format) (w:Nat) (h:f.infRung<w%f.signWeight) (hb:f.binade≤f.infRung) :
 f.read w=.nan (w/f.signWeight%2==1) (w%f.signWeight-f.infRung):=by
 unfold Format.read;simp only;rw [if_neg (by omega),if_neg (by omega),if_neg (by omega)]
theorem compare_of (a b c d:Int) (h1:a<b↔c<d) (h2:b<a↔d<c):compare a b=compare c d:=by
 by_cases x:a<b
 · rw [Int.compare_eq_lt.2 x,Int.compare_eq_lt.2 (h1.1 x)]
 · by_cases y:b<a
   · rw [Int.compare_eq_gt.2 y,Int.compare_eq_gt.2 (h2.1 y)]
   · have e1:a=b:=by omega
     have e2:c=d:=by
      have n1:=mt h1.2 x;have n2:=mt h2.2 y;omega
     rw [Int.compare_eq_eq.2 e1,Int.compare_eq_eq.2 e2]
theorem sg_mul (s:Bool) (a k:Nat):sg s (a*k)=sg s a*(k:Int):=by
 unfold sg;cases s <;> simp [Int.neg_mul]
theorem order_num (s t:Bool) (m n j k:Nat) (p:Int) :
 Datum.order (.number s m (p+j)) (.number t n (p+k))=some (compare (sg s (m*2^j)) (sg t (n*2^k))):=by
 unfold Datum.order;simp only [signed_eq]
 congr 1
 have hb:∃ c:Nat,min (p+(j:Int)) (p+(k:Int))=p+c:=⟨min j k,by omega⟩
 obtain ⟨c,hc⟩:=hb;have hj:(p+(j:Int)-min (p+(j:Int)) (p+(k:Int))).toNat=j-c:=by rw [hc];omega
 have hk:(p+(k:Int)-min (p+(j:Int)) (p+(k:Int))).toNat=k-c:=by rw [hc];omega
 have cj:c≤j:=by omega
 have ck:c≤k:=by omega
 rw [hj,hk];have ej:m*2^j=m*2^(j-c)*2^c:=by rw [Nat.mul_assoc,←Nat.pow_add,Nat.sub_add_cancel cj]
 have ek:n*2^k=n*2^(k-c)*2^c:=by rw [Nat.mul_assoc,←Nat.pow_add,Nat.sub_add_cancel ck]
 rw [ej,ek,sg_mul s (m*2^(j-c)),sg_mul t (n*2^(k-c))];have hp:(0:Int)<((2^c:Nat):Int):=by exact_mod_cast Nat.two_pow_pos c
 refine compare_of _ _ _ _ ?_ ?_
 · exact ⟨fun h=>Int.mul_lt_mul_of_pos_right h hp,fun h=>Int.lt_of_mul_lt_mul_right h (Int.le_of_lt hp)⟩
 · exact ⟨fun h=>Int.mul_lt_mul_of_pos_right h hp,fun h=>Int.lt_of_mul_lt_mul_right h (Int.le_of_lt hp)⟩
theorem order_word (f:Format) (hs:f.infRung<f.signWeight) (hb:f.binade≤f.infRung) (s t:Bool) (r u:Nat) (hr:r≤f.infRung) (hu:u≤f.infRung) :
 f.order (f.word s r) (f.word t u)=some (compare (sg s r) (sg t u)):=by
 have hB:=binade_pos f;unfold Format.order
 by_cases r1:r=f.infRung
 · by_cases u1:u=f.infRung
   · subst r1 u1
     rw [read_inf f s hs hb,read_inf f t hs hb];unfold Datum.order;simp only
     congr 1
     cases s <;> cases t <;> simp only [sg,Bool.toNat_true,Bool.toNat_false,if_true,if_false,Bool.false_eq_true]
     · rw [Int.compare_eq_eq.2 rfl];rfl
     · rw [Int.compare_eq_gt.2 (by omega)];rfl
     · rw [Int.compare_eq_lt.2 (by omega)];rfl
     · rw [Int.compare_eq_eq.2 rfl];rfl
   · obtain ⟨n,k,e,hv⟩:=read_word f t u (by omega) hs
     subst r1;rw [read_inf f s hs hb,e];unfold Datum.order;simp only
     cases s <;> cases t <;> simp only [sg,if_true,if_false,Bool.false_eq_true] <;>
      first | rw [Int.compare_eq_gt.2 (by omega)] | rw [Int.compare_eq_lt.2 (by omega)]
 · obtain ⟨m,j,e,hv⟩:=read_word f s r (by omega) hs
   by_cases u1:u=f.infRung
   · subst u1
     rw [read_inf f t hs hb,e];unfold Datum.order;simp only
     cases s <;> cases t <;> simp only [sg,if_true,if_false,Bool.false_eq_true] <;>
      first | rw [Int.compare_eq_gt.2 (by omega)] | rw [Int.compare_eq_lt.2 (by omega)]
   · obtain ⟨n,k,e2,hv2⟩:=read_word f t u (by omega) hs
     rw [e,e2,order_num,hv,hv2]
     congr 1
     exact compare_of _ _ _ _ (sg_val_lt f s t r u) (sg_val_lt f t s u r)
def rte (n g:Nat):Nat:=n/g+(decide (g<2*(n%g)) || (g==2*(n%g)&&n/g%2==1)).toNat
theorem cut_even (neg:Bool) (n drop:Nat):Toward.even.cut neg n drop=rte n (2^drop):=by
 unfold Toward.cut rte;simp only [Nat.shiftLeft_eq,Nat.one_mul]
 by_cases h:drop≤n.log2+2
 · rw [Nat.min_eq_left h]
 · rw [Nat.min_eq_right (by omega)]
   have hn:n<2^(n.log2+1):=Nat.lt_log2_self;have h1:n<2^(n.log2+2):=by rw [Nat.pow_succ];omega
   have h2:2^(n.log2+2)≤2^drop:=Nat.pow_le_pow_right (by omega) (by omega)
   have h3:2*n<2^(n.log2+2):=by rw [Nat.pow_succ];omega
   rw [Nat.div_eq_of_lt h1,Nat.mod_eq_of_lt h1,Nat.div_eq_of_lt (show n<2^drop by omega),Nat.mod_eq_of_lt (show n<2^drop by omega)]
   have a1:decide (2^(n.log2+2)<2*n)=false:=by simp;omega
   have a2:decide (2^drop<2*n)=false:=by simp;omega
   simp only [a1,a2,Nat.zero_mod];simp
theorem rte_exact (n g:Nat) (hg:0<g):rte (n*g) g=n:=by
 unfold rte;rw [Nat.mul_div_cancel _ hg,Nat.mul_mod_left];have:decide (g<2*0)=false:=by simp
 have h2:(g==2*0)=false:=by simp;omega
 rw [this,h2];simp
theorem rte_one (n:Nat):rte n 1=n:=by
 have:=rte_exact n 1 (by omega)
 rwa [Nat.mul_one] at this
theorem nearest_exact (f:Format) (neg:Bool) (mag k r:Nat) (hr:r<f.infRung) (h:mag*2^k=val f r) :
 f.nearest neg mag (f.leastPlace+k)=f.word neg r:=by
 unfold Format.nearest
 by_cases hm:mag=0
 · rw [if_pos hm]
   have:val f r=val f 0:=by rw [val_zero,←h,hm,Nat.zero_mul]
   rw [val_inj f this]
 · rw [if_neg hm]
   simp only [cut_even,Nat.shiftLeft_eq];have hl:=(Nat.log2_eq_iff hm (k:=mag.log2)).1 rfl;generalize mag.log2=L at *;have hB:f.binade=2^f.fractionBits:=rfl;have hb:=binade_pos f;unfold val at h
   by_cases hlt:r<f.binade
   · rw [if_pos hlt] at h
     have h1:2^(L+k)<2^f.fractionBits:=by
      rw [Nat.pow_add,←hB];exact Nat.lt_of_le_of_lt (Nat.mul_le_mul_right _ hl.1) (by omega)
     have h2:=(Nat.pow_lt_pow_iff_right (a:=2) (by omega)).1 h1
     have e:max (f.leastPlace+(k:Int)+(L:Int)-(f.fractionBits:Int)) f.leastPlace=f.leastPlace:=by omega
     rw [e];have e1:(f.leastPlace+(k:Int)-f.leastPlace).toNat=k:=by omega
     have e2:(f.leastPlace-(f.leastPlace+(k:Int))).toNat=0:=by omega
     have e3:(f.leastPlace-f.leastPlace).toNat=0:=by omega
     rw [e1,e2,e3,h,Nat.pow_zero,rte_one,Nat.zero_mul,Nat.zero_add,Nat.min_eq_left (by omega)]
   · rw [if_neg hlt] at h
     have hq:1≤r/f.binade:=by
      have:=Nat.div_le_div_right (c:=f.binade) (Nat.le_of_not_lt hlt);rw [Nat.div_self hb] at this;exact this
     have hmm:=Nat.mod_lt r hb;have hd:=Nat.div_add_mod r f.binade;generalize r/f.binade=q at *;generalize r%f.binade=m at *;obtain ⟨q,rfl⟩:∃ j,q=j+1:=⟨q-1,by omega⟩
     rw [Nat.add_sub_cancel] at h
     -- the logarithms
     have lo1:2^(L+k)≤mag*2^k:=by rw [Nat.pow_add];exact Nat.mul_le_mul_right _ hl.1
     have hi1:mag*2^k<2^(L+1+k):=by rw [Nat.pow_add];exact Nat.mul_lt_mul_of_pos_right hl.2 (Nat.two_pow_pos _)
     have lo2:2^(f.fractionBits+q)≤(f.binade+m)*2^q:=by rw [Nat.pow_add];exact Nat.mul_le_mul_right _ (by omega)
     have hi2:(f.binade+m)*2^q<2^(f.fractionBits+1+q):=by
      rw [Nat.pow_add,Nat.pow_succ];exact Nat.mul_lt_mul_of_pos_right (by omega) (Nat.two_pow_pos _)
     have c1:=(Nat.pow_lt_pow_iff_right (a:=2) (by omega)).1 (show 2^(L+k)<2^(f.fractionBits+1+q) by omega)
     have c2:=(Nat.pow_lt_pow_iff_right (a:=2) (by omega)).1 (show 2^(f.fractionBits+q)<2^(L+1+k) by omega)
     have cL:L+k=f.fractionBits+q:=by omega
     have e:max (f.leastPlace+(k:Int)+(L:Int)-(f.fractionBits:Int)) f.leastPlace=f.leastPlace+q:=by omega
     rw [e];have e3:(f.leastPlace+(q:Int)-f.leastPlace).toNat=q:=by omega
     rw [e3]
     have fin:q*f.binade+(f.binade+m)=r:=by
      rw [←hd,Nat.mul_succ,Nat.mul_comm q];omega
     by_cases hk:q≤k
     · have e1:(f.leastPlace+(k:Int)-(f.leastPlace+(q:Int))).toNat=k-q:=by omega
       have e2:(f.leastPlace+(q:Int)-(f.leastPlace+(k:Int))).toNat=0:=by omega
       have hh:mag*2^(k-q)=f.binade+m:=by
        have:mag*2^(k-q)*2^q=(f.binade+m)*2^q:=by
         rw [Nat.mul_assoc,←Nat.pow_add,Nat.sub_add_cancel hk];exact h
        exact Nat.eq_of_mul_eq_mul_right (Nat.two_pow_pos _) this
       rw [e1,e2,hh,Nat.pow_zero,rte_one,fin,Nat.min_eq_left (by omega)]
     · have e1:(f.leastPlace+(k:Int)-(f.leastPlace+(q:Int))).toNat=0:=by omega
       have e2:(f.leastPlace+(q:Int)-(f.leastPlace+(k:Int))).toNat=q-k:=by omega
       have hh:mag=(f.binade+m)*2^(q-k):=by
        have:mag*2^k=(f.binade+m)*2^(q-k)*2^k:=by
         rw [Nat.mul_assoc,←Nat.pow_add,Nat.sub_add_cancel (by omega)];exact h
        exact Nat.eq_of_mul_eq_mul_right (Nat.two_pow_pos _) this
       rw [e1,e2,Nat.pow_zero,Nat.mul_one,hh,rte_exact _ _ (Nat.two_pow_pos _),fin,Nat.min_eq_left (by omega)]
end B
namespace B
def bw (s:Bool) (e f:Nat):Nat:=s.toNat*9223372036854775808+e*4503599627370496+f
theorem bw_of (b:Nat) (hb:b<18446744073709551616):∃ s e f,e<2048∧f<4503599627370496∧b=bw s e f:=by
 refine ⟨decide (9223372036854775808≤b),b%9223372036854775808/4503599627370496,b%4503599627370496,by omega,by omega,?_⟩
 unfold bw
 by_cases h:9223372036854775808≤b
 · rw [decide_eq_true h];simp only [Bool.toNat_true];omega
 · rw [decide_eq_false h];simp only [Bool.toNat_false];omega
theorem bw_lt (s:Bool) (e f:Nat) (he:e<2048) (hf:f<4503599627370496):bw s e f<18446744073709551616:=by
 unfold bw;cases s <;> simp only [Bool.toNat_true,Bool.toNat_false] <;> omega
theorem wraps_i64 (n:Int) (h0:0≤n) (h1:n<2^63):IntKind.i64.wrap n=n:=by rw [IntKind.wrap_i64];omega
theorem wraps_u64 (n:Int) (h0:0≤n) (h1:n<2^64):IntKind.u64.wrap n=n:=by
 simp [IntKind.wrap,IntKind.bits,IntKind.signed];omega
theorem bw_exp (s:Bool) (e f:Nat) (he:e<2048) (hf:f<4503599627370496):bits .and .i64 ((bw s e f:Int)/4503599627370496) 2047=(e:Int):=by
 have hl:=bw_lt s e f he hf;have h:=bits_mask .i64 63 (by decide) wraps_i64 11 (by decide) ((bw s e f:Int)/4503599627370496) (by omega) (by omega)
 rw [show ((2:Int)^11-1)=2047 from rfl] at h
 rw [h];unfold bw;cases s <;> simp only [Bool.toNat_true,Bool.toNat_false] <;> omega
theorem bw_frac (s:Bool) (e f:Nat) (he:e<2048) (hf:f<4503599627370496):bits .and .u64 ((bw s e f:Nat):Int) 4503599627370495=(f:Int):=by
 have hl:=bw_lt s e f he hf;have h:=bits_mask .u64 64 (by decide) wraps_u64 52 (by decide) (bw s e f:Int) (by omega) (by omega)
 rw [show ((2:Int)^52-1)=4503599627370495 from rfl] at h
 rw [h];unfold bw;cases s <;> simp only [Bool.toNat_true,Bool.toNat_false] <;> omega
theorem bw_sign (s:Bool) (e f:Nat) (he:e<2048) (hf:f<4503599627370496):bits .and .u64 ((bw s e f:Int)/9223372036854775808) 1=(s.toNat:Int):=by
 have hl:=bw_lt s e f he hf;have h:=bits_mask .u64 64 (by decide) wraps_u64 1 (by decide) ((bw s e f:Int)/9223372036854775808) (by omega) (by omega)
 rw [show ((2:Int)^1-1)=1 from rfl] at h
 rw [h];unfold bw;cases s <;> simp only [Bool.toNat_true,Bool.toNat_false] <;> omega
theorem frac_or (f:Nat) (hf:f<4503599627370496):bits .or .u64 (f:Int) 4503599627370496=(f:Int)+4503599627370496:=by
 have hc:bits .or .u64 (f:Int) 4503599627370496=bits .or .u64 4503599627370496 (f:Int):=by simp only [bits,BitVec.or_comm]
 rw [hc,bits_join .u64 64 (by decide) wraps_u64 52 4503599627370496 (f:Int) (by decide) (by decide) (by decide) (by omega) (by omega) (by omega)]
 omega
theorem or_sign (x:Int) (h0:0≤x) (h1:x<9223372036854775808):bits .or .u64 x 9223372036854775808=x+9223372036854775808:=by
 have hc:bits .or .u64 x 9223372036854775808=bits .or .u64 9223372036854775808 x:=by simp only [bits,BitVec.or_comm]
 rw [hc,bits_join .u64 64 (by decide) wraps_u64 63 9223372036854775808 x (by decide) (by decide) (by decide) h0 (by omega) (by omega)]
 omega
def pv (neg:Bool) (c x:Int) (f:Int):Value:=.agg #[.bool neg,.int .i64 c,.int .i64 x,.int .u64 f]
def cls (e f:Nat):Int:=if e=2047 then (if f=0 then 3 else 4) else if e=0 then (if f=0 then 0 else 1) else 2
def xp (e:Nat):Int:=if e=2047 then 0 else if e=0 then -1074 else (e:Int)-1075
def fr (e f:Nat):Int:=if e=2047 then 0 else if e=0 then (f:Int) else (f:Int)+4503599627370496
def ng (s:Bool) (e f:Nat):Bool:=if e=2047∧f≠0 then false else s
def splitV (s:Bool) (e f:Nat):Value:=pv (ng s e f) (cls e f) (xp e) (fr e f)
theorem splitV_odd (s:Bool) (e f:Nat) (h:e=2047) (h2:((f:Int) != 0)=true):splitV s e f=.agg #[.bool false,.int .i64 4,.int .i64 0,.int .u64 0]:=by
 have:f≠0:=by intro h;subst h;simp at h2
 simp [splitV,pv,ng,cls,xp,fr,h,this]
theorem splitV_end (s:Bool) (e f:Nat) (h:e=2047) (h2:((f:Int) != 0)=false):splitV s e f=.agg #[.bool s,.int .i64 3,.int .i64 0,.int .u64 0]:=by
 have:f=0:=by simp at h2;omega
 simp [splitV,pv,ng,cls,xp,fr,h,this]
theorem splitV_nought (s:Bool) (e f:Nat) (h:e=0) (h2:((f:Int)==0)=true):splitV s e f=.agg #[.bool s,.int .i64 0,.int .i64 (-1074),.int .u64 0]:=by
 have:f=0:=by simp at h2;omega
 simp [splitV,pv,ng,cls,xp,fr,h,this]
theorem splitV_small (s:Bool) (e f:Nat) (h:e=0) (h2:((f:Int)==0)=false):splitV s e f=.agg #[.bool s,.int .i64 1,.int .i64 (-1074),.int .u64 f]:=by
 have:f≠0:=by intro h;subst h;simp at h2
 simp [splitV,pv,ng,cls,xp,fr,h,this]
theorem splitV_plain (s:Bool) (e f:Nat) (h:e≠2047) (h2:e≠0):splitV s e f=.agg #[.bool s,.int .i64 2,.int .i64 ((e:Int)-1075),.int .u64 ((f:Int)+4503599627370496)]:=by
 simp [splitV,pv,ng,cls,xp,fr,h,h2]
theorem beq_nat_true (e n:Nat) (h:((e:Int)==(n:Int))=true):e=n:=by
 have:(e:Int)=n:=by simpa using h
 omega
theorem bw_exp2 (s:Bool) (e f:Nat) (he:e<2048) (hf:f<4503599627370496):(bw s e f:Int)/4503599627370496%2048=e:=by
 unfold bw;cases s <;> simp only [Bool.toNat_true,Bool.toNat_false] <;> omega
theorem bw_frac2 (s:Bool) (e f:Nat) (hf:f<4503599627370496):(bw s e f:Int)%4503599627370496=f:=by
 unfold bw;cases s <;> simp only [Bool.toNat_true,Bool.toNat_false] <;> omega
theorem bw_sign2 (s:Bool) (e f:Nat) (he:e<2048) (hf:f<4503599627370496):(bw s e f:Int)/9223372036854775808%2=s.toNat:=by
 unfold bw;cases s <;> simp only [Bool.toNat_true,Bool.toNat_false] <;> omega
def odd (e f:Nat):Bool:=e==2047&&f != 0
theorem not_odd (e f:Nat) (h:odd e f=false):¬ (e=2047∧f≠0):=by
 rintro ⟨h1,h2⟩;simp [odd,h1,h2] at h
theorem is_odd (e f:Nat) (h:odd e f=true):e=2047∧f≠0:=by
 simpa [odd] using h
def cb (s:Bool) (e f:Nat):Nat:=if e=2047∧f≠0 then 9221120237041090560 else bw s e f
theorem cb_odd (s:Bool) (e f:Nat) (h:e=2047∧f≠0):cb s e f=9221120237041090560:=if_pos h
theorem cb_else (s:Bool) (e f:Nat) (h:¬ (e=2047∧f≠0)):cb s e f=bw s e f:=if_neg h
theorem bw_mod (s:Bool) (e f:Nat) (he:e<2048) (hf:f<4503599627370496):(bw s e f:Int)%9223372036854775808=(e:Int)*4503599627370496+f:=by
 unfold bw;cases s <;> simp only [Bool.toNat_true,Bool.toNat_false] <;> omega
theorem dInf:Ieee.double.infRung=9218868437227405312:=by decide
theorem dSign:Ieee.double.signWeight=9223372036854775808:=by decide
theorem dBin:Ieee.double.binade=4503599627370496:=by decide
theorem dHs:Ieee.double.infRung<Ieee.double.signWeight:=by decide
theorem dHb:Ieee.double.binade≤Ieee.double.infRung:=by decide
theorem bw_word (s:Bool) (e f:Nat):bw s e f=Ieee.double.word s (e*4503599627370496+f):=by
 unfold bw Ieee.Format.word;rw [dSign]
 cases s <;> simp [Nat.add_assoc]
theorem bw_read_odd (s:Bool) (e f:Nat) (hf:f<4503599627370496) (h:odd e f=true):Ieee.double.read (bw s e f)=.nan s f:=by
 have h0:e=2047∧f≠0:=by simpa [odd] using h
 have e1:bw s e f%Ieee.double.signWeight=e*4503599627370496+f:=by
  rw [dSign];unfold bw;cases s <;> simp only [Bool.toNat_true,Bool.toNat_false] <;> omega
 have e2:(bw s e f/Ieee.double.signWeight%2==1)=s:=by
  rw [dSign]
  cases s
  · have:bw false e f/9223372036854775808%2=0:=by unfold bw;simp only [Bool.toNat_false];omega
    rw [this];rfl
  · have:bw true e f/9223372036854775808%2=1:=by unfold bw;simp only [Bool.toNat_true];omega
    rw [this];rfl
 rw [read_nan Ieee.double _ (by rw [e1,dInf];omega) dHb,e1,e2,dInf,show e*4503599627370496+f-9218868437227405312=f from by omega]
theorem rung_le (e f:Nat) (he:e<2048) (hf:f<4503599627370496) (h:odd e f=false):e*4503599627370496+f≤Ieee.double.infRung:=by
 rw [dInf];have:=not_odd e f h;omega
def pl (s:Bool) (e f:Nat):Int:=sg s (e*4503599627370496+f)
theorem ord (s t:Bool) (e f u v:Nat) (he:e<2048) (hf:f<4503599627370496) (hu:u<2048) (hv:v<4503599627370496) :
 FloatKind.f64.format.order (bw s e f) (bw t u v)=if odd e f || odd u v then none else some (compare (pl s e f) (pl t u v)):=by
 show Ieee.double.order _ _=_
 by_cases h1:odd e f=true
 · rw [h1]
   show (Ieee.double.read (bw s e f)).order _=none
   rw [bw_read_odd s e f hf h1];rfl
 · by_cases h2:odd u v=true
   · rw [h2]
     show (Ieee.double.read (bw s e f)).order (Ieee.double.read (bw t u v))=if (odd e f || true)=true then none else _
     rw [bw_read_odd t u v hv h2,Bool.or_true,if_pos rfl]
     cases Ieee.double.read (bw s e f) <;> rfl
   · have h3:odd e f=false:=by simpa using h1
     have h4:odd u v=false:=by simpa using h2
     rw [h3,h4,bw_word,bw_word];rw [order_word Ieee.double dHs dHb s t _ _ (rung_le e f he hf h3) (rung_le u v hu hv h4)];simp [pl]
theorem order_self (s:Bool) (e f:Nat) (he:e<2048) (hf:f<4503599627370496):(FloatKind.f64.format.order (bw s e f) (bw s e f) != some .eq)=odd e f:=by
 rw [ord s s e f e f he hf he hf,Bool.or_self,Int.compare_eq_eq.2 rfl]
 cases odd e f <;> rfl
end B
namespace B
open Go.RowKit
theorem split_any (s:Bool) (e f:Nat) (he:e<2048) (hf:f<4503599627370496) (w:World) :
 Calls Tryz.prog 124 #[.int .u64 (bw s e f),.int .u64 52,.int .u64 11,.int .i64 (-1074)] w fun r w'=>r=.returned (splitV s e f)∧Below w.heap.size w w':=by
 have hl:=bw_lt s e f he hf;have h1:=bw_exp s e f he hf;have h2:=bw_frac s e f he hf;have h3:=bw_sign s e f he hf;have h4:=frac_or f hf;have h5:((s.toNat:Int)==1)=s:=by cases s <;> rfl
 go_enter Tryz.func124,Tryz.ntmps124;go_wp2
 · rw [splitV_odd s e f (by omega) ‹_›]
   exact bodyPost_ret (v:=.agg #[.bool false,.int .i64 4,.int .i64 0,.int .u64 0]) (by simp [results,Tryz.results124,go_sem]) rfl ⟨rfl,(by repeat (first | exact Below.refl _ _ | assumption | exact Nat.le_refl _ | (simp;done) | (simp;omega) | refine Below.alloc ?_ ?_ _ | refine Below.setCell ?_ ?_ _ | refine Below.drew ?_))⟩
 · rw [splitV_end s e f (by omega) ‹_›]
   exact bodyPost_ret (v:=.agg #[.bool s,.int .i64 3,.int .i64 0,.int .u64 0]) (by simp [results,Tryz.results124,go_sem]) rfl ⟨rfl,(by repeat (first | exact Below.refl _ _ | assumption | exact Nat.le_refl _ | (simp;done) | (simp;omega) | refine Below.alloc ?_ ?_ _ | refine Below.setCell ?_ ?_ _ | refine Below.drew ?_))⟩
 · rw [splitV_nought s e f (by omega) ‹_›]
   exact bodyPost_ret (v:=.agg #[.bool s,.int .i64 0,.int .i64 (-1074),.int .u64 0]) (by simp [results,Tryz.results124,go_sem]) rfl ⟨rfl,(by repeat (first | exact Below.refl _ _ | assumption | exact Nat.le_refl _ | (simp;done) | (simp;omega) | refine Below.alloc ?_ ?_ _ | refine Below.setCell ?_ ?_ _ | refine Below.drew ?_))⟩
 · rw [splitV_small s e f (by omega) ‹_›]
   exact bodyPost_ret (v:=.agg #[.bool s,.int .i64 1,.int .i64 (-1074),.int .u64 f]) (by simp [results,Tryz.results124,go_sem]) rfl ⟨rfl,(by repeat (first | exact Below.refl _ _ | assumption | exact Nat.le_refl _ | (simp;done) | (simp;omega) | refine Below.alloc ?_ ?_ _ | refine Below.setCell ?_ ?_ _ | refine Below.drew ?_))⟩
 · rw [splitV_plain s e f (by omega) (by omega)]
   refine bodyPost_ret (v:=.agg #[.bool s,.int .i64 2,.int .i64 ((e:Int)-1075),.int .u64 ((f:Int)+4503599627370496)]) (by simp [results,Tryz.results124,go_sem];try omega) rfl ⟨rfl,(by repeat (first | exact Below.refl _ _ | assumption | exact Nat.le_refl _ | (simp;done) | (simp;omega) | refine Below.alloc ?_ ?_ _ | refine Below.setCell ?_ ?_ _ | refine Below.drew ?_))⟩
end B
namespace B
theorem f64bits (b:Nat) (w:World):(callFunc 29 #[.float .f64 b]).run Tryz.prog w=.ok (.value (.int .u64 b)) w:=by
 rw [run_callFunc_extern (e:=Extern.MathFloatBits.float64bits) Tryz.func29 (by kernel_rfl) (by kernel_rfl) (by kernel_rfl) (by kernel_rfl)];rfl
theorem f64frombits (n:Int) (w:World):(callFunc 72 #[.int .u64 n]).run Tryz.prog w=.ok (.value (.float .f64 n.toNat)) w:=by
 rw [run_callFunc_extern (e:=Extern.MathFloatBits.float64frombits) Tryz.func72 (by kernel_rfl) (by kernel_rfl) (by kernel_rfl) (by kernel_rfl)];rfl
end B
namespace B
open Go.RowKit
attribute [local go_sem] f64bits f64frombits
theorem bcell {W w1:World}(hb:Below W.heap.size W w1):(∀ b o,b<W.heap.size→w1.cell? ⟨b,o,none⟩=W.cell? ⟨b,o,none⟩)∧(∀ b o,b<W.heap.size→w1.frozen? ⟨b,o,none⟩=W.frozen? ⟨b,o,none⟩) :=
 ⟨fun b o h=>hb.cell (p:=⟨b,o,none⟩) h,fun b o h=>hb.frozen (p:=⟨b,o,none⟩) h⟩
theorem split_lit (s:Bool) (e f:Nat) (he:e<2048) (hf:f<4503599627370496) (w:World) :
 Calls Tryz.prog 124 #[.int .u64 (bw s e f),.int .u64 52,.int .u64 11,.int .i64 (-1074)] w fun r w'=>r=.returned (.agg #[.bool (ng s e f),.int .i64 (cls e f),.int .i64 (xp e),.int .u64 (fr e f)])∧Below w.heap.size w w' :=
 split_any s e f he hf w
theorem Split_any (s:Bool) (e f:Nat) (he:e<2048) (hf:f<4503599627370496) (w:World) :
 Calls Tryz.prog 84 #[.float .f64 (bw s e f)] w fun r w'=>r=.returned (.agg #[.bool (ng s e f),.int .i64 (cls e f),.int .i64 (xp e),.int .u64 (fr e f)])∧Below w.heap.size w w':=by
 go_enter Tryz.func84,Tryz.ntmps84
 go_wp2_with (go_at_call 124;refine (split_lit s e f he hf _).mono ?_;rintro r w1 ⟨rfl,hb⟩;(obtain ⟨hc,hfz⟩:=bcell hb;have hz:w.heap.size<w1.heap.size:=by (have:=hb.size;simp at this;omega)))
 exact bodyPost_ret (v:=(.agg #[.bool (ng s e f),.int .i64 (cls e f),.int .i64 (xp e),.int .u64 (fr e f)])) (by simp [results,Tryz.results84,go_sem,hc]) rfl ⟨rfl,(by repeat (first | exact Below.refl _ _ | exact ((Below.refl _ _).alloc (Nat.le_refl _) _).trans (hb.mono (by simp)) | exact Nat.le_refl _ | (simp;done) | (simp;omega) | refine Below.alloc ?_ ?_ _ | refine Below.setCell ?_ ?_ _ | refine Below.drew ?_))⟩
theorem rBits_any (s:Bool) (e f:Nat) (he:e<2048) (hf:f<4503599627370496) (w:World) :
 Calls Tryz.prog 134 #[.float .f64 (bw s e f)] w fun r w'=>r=.returned (.int .u64 (cb s e f))∧w'=w:=by
 have hl:=bw_lt s e f he hf;have h1:=bw_mod s e f he hf
 by_cases h:e=2047∧f≠0
 · have h2:(9218868437227405312:Int)<(e:Int)*4503599627370496+f:=by omega
   rw [cb_odd s e f h];clear h;go_enter Tryz.func134,Tryz.ntmps134;go_wp2;go_ret;exact ⟨rfl,rfl⟩
 · have h2:¬ (9218868437227405312:Int)<(e:Int)*4503599627370496+f:=by omega
   rw [cb_else s e f h];clear h;go_enter Tryz.func134,Tryz.ntmps134;go_wp2;go_ret;exact ⟨rfl,rfl⟩
theorem isNaN_any (s:Bool) (e f:Nat) (he:e<2048) (hf:f<4503599627370496) (w:World) :
 Calls Tryz.prog 31 #[.float .f64 (bw s e f)] w fun r w'=>r=.returned (.bool (odd e f))∧w'=w:=by
 have h1:=order_self s e f he hf;go_enter Tryz.func31,Tryz.ntmps31;go_wp2;go_ret;exact ⟨rfl,rfl⟩
theorem parts_any (s:Bool) (e f:Nat) (he:e<2048) (hf:f<4503599627370496) (w:World) :
 Calls Tryz.prog 133 #[.int .u64 (bw s e f),.int .i64 11,.int .i64 52] w fun r w'=>r=.returned (splitV s e f)∧Below w.heap.size w w':=by
 have hl:=bw_lt s e f he hf;have h1:=bw_exp2 s e f he hf;have h2:=bw_frac2 s e f hf;have h3:=bw_sign2 s e f he hf;have h5:((s.toNat:Int)==1)=s:=by cases s <;> rfl
 go_enter Tryz.func133,Tryz.ntmps133;go_wp2
 · have hh:e=2047:=by first | omega | exact beq_nat_true e 2047 ‹_›
   rw [splitV_odd s e f hh (by simp;omega)]
   exact bodyPost_ret (v:=.agg #[.bool false,.int .i64 4,.int .i64 0,.int .u64 0]) (by simp [results,Tryz.results133,go_sem]) rfl ⟨rfl,(by repeat (first | exact Below.refl _ _ | assumption | exact Nat.le_refl _ | (simp;done) | (simp;omega) | refine Below.alloc ?_ ?_ _ | refine Below.setCell ?_ ?_ _ | refine Below.drew ?_))⟩
 · have hh:e=2047:=by first | omega | exact beq_nat_true e 2047 ‹_›
   rw [splitV_end s e f hh (by simp;omega)]
   exact bodyPost_ret (v:=.agg #[.bool s,.int .i64 3,.int .i64 0,.int .u64 0]) (by simp [results,Tryz.results133,go_sem]) rfl ⟨rfl,(by repeat (first | exact Below.refl _ _ | assumption | exact Nat.le_refl _ | (simp;done) | (simp;omega) | refine Below.alloc ?_ ?_ _ | refine Below.setCell ?_ ?_ _ | refine Below.drew ?_))⟩
 · have hh:e≠2047:=by intro hq;subst hq;simp_all
   rw [splitV_plain s e f hh (by omega)]
   refine bodyPost_ret (v:=.agg #[.bool s,.int .i64 2,.int .i64 ((e:Int)-1075),.int .u64 ((f:Int)+4503599627370496)]) (by simp [results,Tryz.results133,go_sem];try omega) rfl ⟨rfl,(by repeat (first | exact Below.refl _ _ | assumption | exact Nat.le_refl _ | (simp;done) | (simp;omega) | refine Below.alloc ?_ ?_ _ | refine Below.setCell ?_ ?_ _ | refine Below.drew ?_))⟩
 · rw [splitV_small s e f (by omega) (by simp;omega)]
   exact bodyPost_ret (v:=.agg #[.bool s,.int .i64 1,.int .i64 (-1074),.int .u64 f]) (by simp [results,Tryz.results133,go_sem]) rfl ⟨rfl,(by repeat (first | exact Below.refl _ _ | assumption | exact Nat.le_refl _ | (simp;done) | (simp;omega) | refine Below.alloc ?_ ?_ _ | refine Below.setCell ?_ ?_ _ | refine Below.drew ?_))⟩
 · rw [splitV_nought s e f (by omega) (by simp;omega)]
   refine bodyPost_ret (v:=.agg #[.bool s,.int .i64 0,.int .i64 (-1074),.int .u64 0]) (by simp [results,Tryz.results133,go_sem];try omega) rfl ⟨rfl,(by repeat (first | exact Below.refl _ _ | assumption | exact Nat.le_refl _ | (simp;done) | (simp;omega) | refine Below.alloc ?_ ?_ _ | refine Below.setCell ?_ ?_ _ | refine Below.drew ?_))⟩
end B
section
open Go.RowKit
theorem But.drewN {g:Nat}{a w:World}(h:But g a w) (n:Nat):But g a (w.drewN n):=⟨h.os,h.tape,h.output,h.size,h.block⟩
abbrev Rw (lo:Nat) (w:World) (v:Value) (n:Nat) (ys:List Value):Prop:=w.ownsRow lo 147 1 v n ys
theorem row_other {w w':World}{lo e s:Nat}{v:Value}{n:Nat}{ys:List Value}(h:w.ownsRow lo e s v n ys) (hb:∀ g,v.ownBlock=some g→w'.heap[g]?=w.heap[g]?):w'.ownsRow lo e s v n ys:=by
 refine ⟨h.1,?_⟩
 rcases h.2 with hn|⟨g,cap,cur,rfl,hlo,hg,rest⟩
 · exact .inl hn
 · refine .inr ⟨g,cap,cur,rfl,hlo,?_,rest⟩
   rw [hb g rfl];exact hg
theorem append_word (w:World) (lo:Nat) (v:Value) (n:Nat) (ys:List Value) (x:Value) (s:Nat) (ty:TypeId) (hown:Rw lo w v n ys) (hx:w.cell? ⟨s,0,none⟩=some x) (h1:x.oneCell'=true)
 (hbig:n+1≤35184372088832) (hlo:lo≤w.heap.size) :
 ∃ v' w',(Builtin.append_ #[60,60] ty #[v,.slice (some ⟨s,0,none⟩) 1 1]).run Tryz.prog w=.ok v' w'∧Rw lo w' v' (n+1) (ys++[x])∧w.grownBy w' v.ownBlock ∧
   (v'.ownBlock=v.ownBlock∨∃ g,v'.ownBlock=some g∧w.heap.size≤g)∧(∀ (u:Value) (k:Nat) (zs:List Value),Rw lo w u k zs→(u.ownBlock=v.ownBlock→k≤n)→Rw lo w' u k zs):=by
 obtain ⟨i0,hi,hz0,hz1,hz2⟩:=info_parts Tryz.info147
 have hnews:∀ j u,[x][j]?=some u→w.cell? ((⟨s,0,none⟩:Addr).add j)=some u:=by
  intro j u hj
  match j,hj with
  | 0,hj=>simp at hj;subst hj;simpa [Addr.add] using hx
 have h1':∀ u ∈ [x],u.oneCell'=true:=by intro u hu;simp at hu;subst hu;exact h1
 have keep:∀ w',w.grownBy w' none→∀ (u:Value) (k:Nat) (zs:List Value),Rw lo w u k zs→Rw lo w' u k zs:=by
  intro w' hg u k zs hr
  rcases hr.2 with hn|⟨g,cap,cur,rfl,hl,hgb,rest⟩
  · exact ⟨hr.1,.inl hn⟩
  · refine ⟨hr.1,.inr ⟨g,cap,cur,rfl,hl,?_,rest⟩⟩
    rw [hg.block g (Array.getElem?_eq_some_iff.1 hgb).1 (by simp)];exact hgb
 have newb:∀ (v':Value) (w':World) (m:Nat) (zs:List Value),w'.ownsRow w.heap.size 147 1 v' (m+1) zs→∃ g,v'.ownBlock=some g∧w.heap.size≤g:=by
  intro v' w' m zs h
  rcases h.2 with ⟨_,h0⟩|⟨g,cap,cur,rfl,hl,_⟩
  · omega
  · exact ⟨g,rfl,hl⟩
 have mono:∀ (v':Value) (w':World) (m:Nat) (zs:List Value),w'.ownsRow w.heap.size 147 1 v' m zs→Rw lo w' v' m zs:=by
  intro v' w' m zs h;refine ⟨h.1,?_⟩
  rcases h.2 with hn|⟨g,cap,cur,rfl,hl,rest⟩
  · exact .inl hn
  · exact .inr ⟨g,cap,cur,rfl,by omega,rest⟩
 rcases hown.2 with ⟨rfl,rfl⟩|⟨g,cap,cur,rfl,hlg,hg,hnc,hm,hs,ht⟩
 · obtain ⟨v',w',r1,r2,r3,_,_⟩:=run_append_own_at (P:=Tryz.prog) w w.heap.size 60 ty 147 i0 (.int .u32 0) 1 4 Tryz.underlying60 hi hz0 hz1 hz2 rfl (by decide) (.slice none 0 0) 0 [] (World.ownsRow_nil _ _ _ _) ⟨s,0,none⟩ 1 1 [x] rfl hnews h1' (by unfold maxLen;omega) (by omega) (Nat.le_refl _)
   have hy:ys=[]:=List.eq_nil_of_length_eq_zero (by simpa using hown.1)
   subst hy;exact ⟨v',w',r1,mono _ _ _ _ (by simpa using r2),r3,.inr (newb _ _ 0 _ (by simpa using r2)),fun u k zs hr _=>keep _ r3 u k zs hr⟩
 · by_cases hroom:n+1≤cap
   · have hr:=run_append_room (P:=Tryz.prog) w 60 ty 147 i0 Tryz.underlying60 hi g n cap cur hg ⟨s,0,none⟩ 1 1 [x] (by rw [hz1];rfl) hnews h1' hroom (by rw [hz1,hs];simp;omega)
     rw [hz1] at hr;refine ⟨_,_,hr,⟨by simpa using hown.1,.inr ⟨g,cap,_,rfl,hlg,setRow_heap w g cur _ 147 _ hg,hroom,hm,?_,?_⟩⟩,⟨rfl,rfl,rfl,by simp,fun k _ hk=>setRow_other w g k _ (fun e=>hk (by simp [Value.ownBlock,e]))⟩,.inl rfl,?_⟩
     · simp only [List.size_toArray,List.length_append,List.length_take,List.length_drop,Array.length_toList,List.length_cons,List.length_nil]
       omega
     · rw [ht]
       have hyl:ys.length=n:=by simpa using hown.1
       simp only [Nat.mul_one,List.append_assoc];rw [←List.append_assoc];rw [List.take_append_of_le_length (by simp [hyl])]
       rw [List.take_of_length_le (by simp [hyl])]
     · intro u k zs hr2 hle
       rcases hr2.2 with hn|⟨g2,cap2,cur2,rfl,hl2,hg2,hnc2,hm2,hs2,ht2⟩
       · exact ⟨hr2.1,.inl hn⟩
       · by_cases he:g2=g
         · subst he
           rw [hg] at hg2
           cases hg2
           have hk:=hle rfl;refine ⟨hr2.1,.inr ⟨g2,cap2,_,rfl,hl2,setRow_heap w g2 cur _ 147 _ hg,hnc2,hm2,?_,?_⟩⟩
           · simp only [List.size_toArray,List.length_append,List.length_take,List.length_drop,Array.length_toList,List.length_cons,List.length_nil]
             omega
           · have hcl:cur.toList.length=cap2:=by simpa using hs2
             rw [←ht2];simp only [Nat.mul_one,List.append_assoc];rw [List.take_append_of_le_length (by rw [List.length_take];omega),List.take_take,Nat.min_eq_left hk]
         · refine ⟨hr2.1,.inr ⟨g2,cap2,cur2,rfl,hl2,?_,hnc2,hm2,hs2,ht2⟩⟩
           rw [setRow_other w g g2 _ he];exact hg2
   · obtain ⟨v',w',r1,r2,r3⟩:=run_append_arg_grows (P:=Tryz.prog) w 60 ty 147 i0 (.int .u32 0) 1 4 Tryz.underlying60 hi hz0 hz1 hz2 rfl (by decide) ⟨g,0,none⟩ n cap ys (by simpa using hown.1) (fun j u hj=>hown.cells (g:=g) (by simp [Value.ownBlock]) j u hj) ⟨s,0,none⟩ 1 1 [x] rfl hnews (by omega) (by unfold maxLen;omega) (by omega)
     exact ⟨v',w',r1,mono _ _ _ _ r2,⟨r3.os,r3.tape,r3.output,r3.size,fun k hk _=>r3.block k hk (by simp)⟩,.inr (newb _ _ n _ r2),fun u k zs hr _=>keep _ r3 u k zs hr⟩
theorem wpList_append_run2 {w:World}{ops:Array Oper}{rest:List Oper}{o:Oper}{a:Act}{Q:Exit→Act→World→Prop}(hgd:o.guard=none) (s x:Operand) (t:TypeId)
 (ho:o.op=.call { callee:=.builtin .append,args:=#[s,x],argTypes:=#[t,t] }) (v u:Value) (hs:a.eval s=v) (hx:a.eval x=u) (v':Value) (w':World)
 (hrun:(Builtin.append_ #[t,t] o.type #[v,u]).run Tryz.prog w=.ok v' w') (h:wpList Tryz.prog ops Q rest (a.put o.dst v') w'):wpList Tryz.prog ops Q (o::rest) a w:=by
 refine wpList_plain hgd fun K hK=>?_
 unfold Oper.wp;simp [execOp,ho,resolve,invoke,builtin,hs,hx,hrun,Result.andThen];exact hK _ _ h
theorem Rw.lt {lo:Nat}{w:World}{v:Value}{n:Nat}{ys:List Value}(h:Rw lo w v n ys) (b:Nat) (hb:v.ownBlock=some b):lo≤b∧b<w.heap.size∧∃ cur,w.heap[b]?=some (.cells cur 147 (0,0)):=by
 rcases h.2 with ⟨rfl,h0⟩|⟨g,cap,cur,rfl,hlo,hg,_⟩
 · cases hb
 · cases hb
   exact ⟨hlo,(Array.getElem?_eq_some_iff.1 hg).1,cur,hg⟩
theorem Rw.cell {lo:Nat}{w:World}{g n cap:Nat}{ys:List Value}(h:Rw lo w (.slice (some ⟨g,0,none⟩) n cap) n ys) (k:Nat) (u:Value) (hk:ys[k]?=some u):w.cell? ⟨g,k,none⟩=some u:=by
 have h1:=h.cells (g:=g) (by simp [Value.ownBlock]) k u hk
 have e:(⟨g,0,none⟩:Addr).add k=⟨g,k,none⟩:=by unfold Addr.add;split <;> simp_all
 rw [e] at h1;exact h1
theorem Rw.words {lo:Nat}{w:World}{v:Value}{n:Nat}{L:List Nat}(h:Rw lo w v n (L.map U)):∃ ao cap,v=.slice ao n cap∧n≤cap∧n=L.length∧(ao=none→cap=0)∧Rd w.heap.size w ao L:=by
 have hl:n=L.length:=by have:=h.1;simp at this;omega
 rcases h.2 with ⟨rfl,h0⟩|⟨g,cap,cur,rfl,hlo,hg,hn,hm,hs,ht⟩
 · refine ⟨none,0,by rw [h0],by omega,hl,fun _=>rfl,?_⟩
   have:L=[]:=List.length_eq_zero_iff.1 (by omega)
   rw [this];exact Rd.nil _ _ _
 · refine ⟨_,cap,rfl,hn,hl,(fun e=>by cases e),fun _=>⟨g,0,(Array.getElem?_eq_some_iff.1 hg).1,rfl,fun i hi=>?_⟩⟩
   have h1:=Rw.cell h i (U (L.getD i 0)) (by simp [hi])
   rw [Nat.zero_add];exact h1
theorem Ya (xs:List Nat) (k:Nat):val (xs.take (k+1))=val (xs.take k)+pw k*xs.getD k 0:=by
 by_cases h:k<xs.length
 · exact Qk xs k h
 · rw [List.take_of_length_le (by omega),List.take_of_length_le (by omega)]
   simp [List.getD_eq_getElem?_getD,List.getElem?_eq_none (show xs.length≤k by omega)]
theorem Zlv (p V c a b x y s d:Nat) (h:V+c*p=a+b) (e:s+d*4294967296=x+y+c):(V+p*s)+d*(4294967296*p)=(a+p*x)+(b+p*y):=Zad p a b V c x y s d h e
theorem Zh5 (p V c a b x y s d:Nat) (h:V+b=a+c*p) (e:s+y+c=x+d*4294967296):(V+p*s)+(b+p*y)=(a+p*x)+d*(4294967296*p):=Jh p a b V c x y s d h e
theorem Ze6 (xs:List Nat) (ao:Option Addr) (n cap B i:Nat) (w:World) (hn:n=xs.length) (hm:n≤70368744177664) (hx:Wf xs) (hR:Rd B w ao xs) (hi:i≤70368744177664) :
 Calls Tryz.prog 182 #[.slice ao n cap,.int .i64 (i:Nat)] w fun r w'=>r=.returned (.int .u64 ((xs.getD i 0:Nat):Int))∧w'=w:=by
 by_cases hin:i<n
 · obtain ⟨b,off,hB,rfl,hcell⟩:=hR (by intro e;subst e;simp at hn;omega)
   have hck:=hcell i (by omega)
   have hxl:=hx.get i;obtain ⟨t,ht⟩:∃ t,xs.getD i 0=t:=⟨_,rfl⟩;rw [ht] at hck hxl ⊢;clear hcell hR hn hx ht;go_enter Tryz.func182,Tryz.ntmps182;go_wp2;go_ret;exact ⟨rfl,rfl⟩
 · have e:xs.getD i 0=0:=by simp [List.getD_eq_getElem?_getD,List.getElem?_eq_none (show xs.length≤i by omega)]
   rw [e];clear hR hn hx e;go_enter Tryz.func182,Tryz.ntmps182;go_wp2;go_ret;exact ⟨rfl,rfl⟩
theorem Znv (X Y V c n m N:Nat) (hX:X<pw n) (hY:Y<pw m) (hn:n≤N) (hm:m≤N) (h:V+c*pw (N+1)=X+Y):c=0:=by
 rcases Nat.eq_zero_or_pos c with h0|h0
 · exact h0
 · exfalso
   have h1:=Yd hn;have h2:=Yd hm;have h3:1*pw (N+1)≤c*pw (N+1):=Nat.mul_le_mul_right _ h0;rw [Zh] at h3 h;have:=Qj N;omega
theorem Zlw (xs ys:List Nat) (ao bo:Option Addr) (n cap m capb B:Nat) (w:World) (hn:n=xs.length) (hm:m=ys.length) (hc:n≤cap) (hcb:m≤capb) (hbig:n≤35184372088000) (hbig2:m≤35184372088000)
 (hx:Wf xs) (hy:Wf ys) (hR:Rd B w ao xs) (hS:Rd B w bo ys) (hB:B≤w.heap.size) :
 Calls Tryz.prog 136 #[.slice ao n cap,.slice bo m capb] w fun r w'=>∃ v,r=.returned v∧Nt w.heap.size w' v (val xs+val ys)∧Below w.heap.size w w':=by
 have hX:=val_lt xs hx;have hY:=val_lt ys hy;rw [←hn] at hX;rw [←hm] at hY;obtain ⟨N,hN⟩:∃ N,N=max n m:=⟨_,rfl⟩;have hnN:n≤N:=by omega
 have hmN:m≤N:=by omega
 have hNb:N≤35184372088000:=by omega
 have HR:=(qsd (ai hR (ai hS (ai hn (ai hm (ai hx (ai hy (ai hB (ai hX (ai hY hN))))))))));clear hR hS hn hm hx hy hB hX hY hN;go_enter Tryz.func136,Tryz.ntmps136;go_wp2
 go_loopg [5,6,7] (N+1) (fun gk ov cv iv wr=>∃ (i c:Nat) (L:List Nat),gk+i=N+1∧cv=.int .u64 (c:Nat)∧c≤1∧iv=.int .i64 (i:Nat)∧Hid (Rw w.heap.size wr ov i (L.map U))∧Hid (Below w.heap.size w wr) ∧
  Aside (Wf L∧val L+c*pw i=val (xs.take i)+val (ys.take i)))
 case atStart=>exact ⟨0,0,[],by omega,rfl,by omega,rfl,World.ownsRow_nil _ _ _ _,Below.refl _ _,Wf.nil,by simp [val]⟩
 case round =>
  obtain ⟨i,c,L,hgi,rfl,hc1,rfl,HO,HB,HA⟩:=hrel
  by_cases hgo:i<n∨i<m∨c=1
  · have hiN:i≤N:=by
     rcases hgo with h|h|h
     · omega
     · omega
     · by_cases hi1:i=N+1
       · exfalso
         obtain ⟨hR,hS,hn,hm,hx,hy,hB,hX,hY,hN⟩:=HR.out;have h1:=HA.out.2;rw [List.take_of_length_le (by omega),List.take_of_length_le (by omega),hi1] at h1
         have:=Znv _ _ _ _ _ _ _ hX hY hnN hmN h1;omega
       · omega
    obtain ⟨hR,hS,hn,hm,hx,hy,hB,hX,hY,hN⟩:=HR.out;have HA1:=hid (Ze6 xs ao n cap B i wr hn (by omega) hx (hR.below (HB.out.mono hB)) (by omega))
    have HA2:=hid (Ze6 ys bo m capb B i wr hm (by omega) hy (hS.below (HB.out.mono hB)) (by omega))
    obtain ⟨x,hxx⟩:∃ x,xs.getD i 0=x:=⟨_,rfl⟩;obtain ⟨y,hyy⟩:∃ y,ys.getD i 0=y:=⟨_,rfl⟩;have hxl:x<4294967296:=hxx ▸ hx.get i;have hyl:y<4294967296:=hyy ▸ hy.get i;rw [hxx] at HA1;rw [hyy] at HA2;obtain ⟨s,hs⟩:∃ s:Nat,s=(x+y+c)%4294967296:=⟨_,rfl⟩;obtain ⟨d,hd⟩:∃ d:Nat,d=(x+y+c)/4294967296:=⟨_,rfl⟩;have e1:((x:Int)+y+c)%4294967296=(s:Int):=by omega
    have e2:((x:Int)+y+c)/4294967296=(d:Int):=by omega
    have hsz:=HB.out.size;obtain ⟨v',w',hap,hown,hgrow,_,_⟩:=append_word (wr.alloc (.cells #[.int .u32 (s:Nat)] 147)) w.heap.size u5 i (L.map U) (.int .u32 (s:Nat)) wr.heap.size 60 (HO.out.alloc _) (by unfold World.cell?;simp only [heap_alloc_new];rfl) rfl (by omega) (by simp;omega)
    have HX:Aside (xs.getD i 0=x∧ys.getD i 0=y∧s+d*4294967296=x+y+c∧s<4294967296∧d≤1):=⟨hxx,hyy,by omega,by omega,by omega⟩
    have hbel:Below w.heap.size w w':=(HB.out.alloc hsz _).grown hgrow (by simp;omega) (fun k hk=>(HO.out.lt k hk).1)
    have HI:=(qsd (ai hown hbel));have HAP:=hid hap;clear hap hown hgrow hbel hs hd hxx hyy hR hS hn hm hx hy hB hX hY hN hsz
    have hways:(decide (i<n)=true)∨(decide (i<n)=false∧decide (i<m)=true)∨(decide (i<n)=false∧decide (i<m)=false∧decide (0<c)=true):=by
     by_cases a:i<n
     · exact .inl (decide_eq_true (by omega))
     · by_cases b:i<m
       · exact .inr (.inl ⟨decide_eq_false (by omega),decide_eq_true (by omega)⟩)
       · exact .inr (.inr ⟨decide_eq_false (by omega),decide_eq_false (by omega),decide_eq_true (by omega)⟩)
    rcases hways with h1|⟨h1,h2⟩|⟨h1,h2,h3⟩
    all_goals (
     go_wp2_with fail
     refine HA1.out.mono ?_;rintro r w1 ⟨rfl,rfl⟩
     go_wp2_with fail
     refine HA2.out.mono ?_;rintro r w1 ⟨rfl,rfl⟩
     go_wp2_with (at_builtin;refine wpList_append_run2 rfl (.tmp 34) (.tmp 37) 60 rfl _ _ rfl rfl _ _ HAP.out ?_)
     go_roundg (gk-1)
     case measure=>omega
     case rel =>
      obtain ⟨a1,a2,a3,a4,a5⟩:=HX.out;obtain ⟨hLw,hLv⟩:=HA.out;refine ⟨i+1,d,L++[s],by omega,by first | rfl | rw [e2],a5,by first | go_num | (congr 1;omega),by rw [List.map_append];exact HI.out.1,HI.out.2,hLw.append (Wf.cons a4 Wf.nil),?_⟩
      have hLl:L.length=i:=by have:=HO.out.1;simp at this;omega
      rw [Qg,hLl,Ya,Ya,a1,a2,Zh];simpa [val] using Zlv (pw i) _ _ _ _ x y s d hLv a3)
  · have hi:N≤i:=by have:=HR.out.2.2.2.2.2.2.2.2.2;omega
    obtain rfl:c=0:=by omega
    obtain ⟨aoo,capo,hsh,hcap,hl,hnil,hRo⟩:=HO.out.words;subst hsh;obtain ⟨hR,hS,hn,hm,hx,hy,hB,hX,hY,hN⟩:=HR.out;have HNm:=hid (Qy L aoo i capo wr.heap.size wr hl hcap (by omega) HA.out.1 hRo hnil)
    have hLv:val L=val xs+val ys:=by
     have h1:=HA.out.2;rw [List.take_of_length_le (by omega),List.take_of_length_le (by omega)] at h1
     omega
    rw [hLv] at HNm;have h1:decide (i<n)=false:=decide_eq_false (by omega)
    have h2:decide (i<m)=false:=decide_eq_false (by omega)
    clear hR hS hn hm hx hy hB hX hY hN hl hnil hRo hLv hgo HO
    go_wp2_with fail
    refine HNm.out.mono ?_;rintro r w1 ⟨v,rfl,hNt,hb⟩;have HZ:=(qsd (ai hNt hb));clear hNt hb;go_wp2;go_ret;have hsz:=HB.out.size;exact ⟨v,rfl,HZ.out.1.mono hsz,HB.out.trans (HZ.out.2.mono hsz)⟩
theorem Zdv (xs:List Nat) (hx:Wf xs) (k r:Nat) (hk:k<xs.length) (hr:r<32):val xs/2^(32*k+r)%2=xs.getD k 0/2^r%2:=by
 have e:=Zx xs k (by omega)
 have hl:val (xs.take k)<pw k:=by
  have:=val_lt _ (hx.take k);rwa [List.length_take,Nat.min_eq_left (by omega)] at this
 rw [Jc,←Nat.div_div_eq_div_mul,e,Nat.add_mul_div_left _ _ (Qj k),Nat.div_eq_of_lt hl,Nat.zero_add,Zp xs k hk]
 have e2:4294967296*val (xs.drop (k+1))=2^r*(2*(2^(31-r)*val (xs.drop (k+1)))):=by
  have:(4294967296:Nat)=2^r*(2*2^(31-r)):=by
   rw [←Nat.mul_assoc,Nat.mul_comm (2^r) 2,Nat.mul_assoc,←Nat.pow_add,show r+(31-r)=31 by omega]
  rw [this];grind
 rw [e2,Nat.add_mul_div_left _ _ (Nat.two_pow_pos r),Nat.add_mul_mod_self_left]
theorem Zco (xs:List Nat) (hx:Wf xs) (i:Nat) (h:xs.length≤i/32):val xs/2^i%2=0:=by
 have h1:=val_lt xs hx
 have h2:pw xs.length≤2^i:=by
  have:pw xs.length=2^(32*xs.length):=by rw [←Nat.add_zero (32*xs.length),Jc];simp
  rw [this];exact Nat.pow_le_pow_right (by decide) (by omega)
 rw [Nat.div_eq_of_lt (by omega)]
theorem Zjf (z:Nat) (h:z<4294967296):bits BinOp.and IntKind.u32 (z:Int) 1=((z%2:Nat):Int):=by
 have:=Zj5 z 1 h (by decide)
 rw [Nat.and_one_is_mod] at this;exact this
theorem Zqo (ao:Option Addr) (n cap:Nat) (i:Int) (w:World) (hi:i<0) :
 Calls Tryz.prog 175 #[.slice ao n cap,.int .i64 i] w fun r w'=>r=.returned (.bool false)∧w'=w:=by
 go_enter Tryz.func175,Tryz.ntmps175;go_wp2;go_ret;exact ⟨rfl,rfl⟩
theorem Zb3 (xs:List Nat) (ao:Option Addr) (n cap B i:Nat) (w:World) (hn:n=xs.length) (hx:Wf xs) (hR:Rd B w ao xs) (hi:i≤9223372036854775807) :
 Calls Tryz.prog 175 #[.slice ao n cap,.int .i64 (i:Int)] w fun r w'=>r=.returned (.bool (decide (val xs/2^i%2=1)))∧w'=w:=by
 obtain ⟨k,hk⟩:∃ k,k=i/32:=⟨_,rfl⟩;obtain ⟨r,hr⟩:∃ r,r=i%32:=⟨_,rfl⟩;have e1:(i:Int)/32=(k:Int):=by omega
 have e2:(i:Int)%32=(r:Int):=by omega
 by_cases hkn:k<n
 · have hb:=Zdv xs hx k r (by omega) (by omega)
   rw [show 32*k+r=i by omega] at hb
   rw [hb];obtain ⟨b,off,hB,rfl,hcell⟩:=hR (by intro e;subst e;simp at hn;omega)
   have hck:=hcell k (by omega)
   obtain ⟨t,ht⟩:∃ t,xs.getD k 0=t:=⟨_,rfl⟩;have htl:t<4294967296:=ht ▸ hx.get k;rw [ht] at hck ⊢;obtain ⟨z,hz⟩:∃ z,z=t/2^r:=⟨_,rfl⟩;have hzt:z≤t:=by rw [hz];exact Nat.div_le_self _ _
   have e3:(t:Int)/2^r=(z:Int):=by rw [hz];simp
   have e4:=Zjf z (by omega)
   have hr32:r<32:=by omega
   rw [←hz];clear hb hn hx hR hcell ht hz hk hr
   rcases (by omega:z%2=0∨z%2=1) with hz2|hz2
   · rw [hz2] at e4 ⊢
     clear hz2;go_enter Tryz.func175,Tryz.ntmps175;go_wp2;go_ret;exact ⟨rfl,rfl⟩
   · rw [hz2] at e4 ⊢
     clear hz2;go_enter Tryz.func175,Tryz.ntmps175;go_wp2;go_ret;exact ⟨rfl,rfl⟩
 · rw [Zco xs hx i (by omega)]
   clear hn hx hR hk hr;go_enter Tryz.func175,Tryz.ntmps175;go_wp2;go_ret;exact ⟨rfl,rfl⟩
def smallV (X:Nat):Value:=if X<18446744073709551616 then .tuple #[.int .u64 (X:Int),.int .i64 0] else .tuple #[.int .u64 0,.int .i64 2]
theorem Zs6 (xs:List Nat) (hx:Wf xs):nl xs≤2↔val xs<18446744073709551616:=by
 rw [Z9 xs hx,Zf];rfl
theorem Zlx (xs:List Nat) (ao:Option Addr) (n cap B:Nat) (w:World) (hn:n=xs.length) (hc:n≤cap) (hm:n≤70368744177664) (hx:Wf xs) (hR:Rd B w ao xs) :
 Calls Tryz.prog 203 #[.slice ao n cap] w fun r w'=>r=.returned (smallV (val xs))∧w'=w:=by
 have H:=hid (Zz xs ao n cap B w hn hc (by omega) hR)
 have hl:=Q7 xs;have h2:=Zs6 xs hx;have hf:=Yk xs hx;obtain ⟨m,hm'⟩:∃ m,nl xs=m:=⟨_,rfl⟩;rw [hm'] at H hl h2 hf;unfold smallV
 by_cases h:2<m
 · rw [if_neg (by omega)]
   clear h2 hl hn hx hR hm' hf;go_enter Tryz.func203,Tryz.ntmps203
   go_wp2_with fail
   refine H.out.mono ?_;rintro r w1 ⟨rfl,rfl⟩;go_wp2
   go_ret2
   exact ⟨rfl,rfl⟩
 · rw [if_pos (by omega)]
   rw [←Q0] at hf;have HR:=(qsd (ai hR (ai hn (ai hx (ai hl hf)))));have hm2:m≤2:=by omega
   clear h2 hl hn hx hR hm' hf h;go_enter Tryz.func203,Tryz.ntmps203
   go_wp2_with fail
   refine H.out.mono ?_;rintro r w1 ⟨rfl,rfl⟩;go_wp2
   go_loopg [4,14] m (fun gk s i wr=>∃ (k sv:Nat),gk+k=m∧s=.int .u64 (sv:Nat)∧i=.int .i64 (k:Nat)∧wr=w1∧Aside (sv=sg xs 0 k))
   case atStart=>exact ⟨0,0,by omega,rfl,rfl,rfl,(Zy _ _).symm⟩
   case round =>
    obtain ⟨k,sv,hgk,rfl,rfl,rfl,HA⟩:=hrel
    by_cases hk:k<m
    · obtain ⟨hR,hn,hx,hl,hf⟩:=HR.out
      obtain ⟨b,off,hB,rfl,hcell⟩:=hR (by intro e;subst e;simp at hl;omega)
      have hck:=hcell k (by omega)
      obtain ⟨t,ht⟩:∃ t,xs.getD k 0=t:=⟨_,rfl⟩;have htl:t<4294967296:=ht ▸ hx.get k;rw [ht] at hck;have hs1:=Je xs 0 k hx (by omega)
      have hs2:=Zi xs 0 k (by omega)
      rw [Nat.zero_add,ht,←HA.out] at hs2;rw [←HA.out] at hs1;have HX:=(qsd (ai hs1 hs2));clear hR hn hx hl hf hcell ht hs1 hs2
      rcases (by omega:k=0∨k=1) with rfl|rfl
      · have hsv:sv=0:=by have:=HX.out.1;rw [Qv] at this;omega
        have e:bits BinOp.or IntKind.u64 (sv:Int) (t:Int)=(t:Int):=by rw [bits_or_u64_nat _ _ (by omega) (by omega),hsv,Nat.zero_or]
        rw [Nat.add_zero] at hck;have HS:=(qsd hsv);clear hsv;go_wp2
        go_roundg (gk-1)
        case measure=>omega
        case rel =>
         refine ⟨1,t,by omega,by first | rfl | rw [e],by go_num,rfl,?_⟩
         have:=HX.out.2;rw [Qv,HS.out] at this;rw [Aside,this];omega
      · have hsv:sv<4294967296:=by have:=HX.out.1;rw [show (1:Nat)=0+1 from rfl,Zh,Qv] at this;omega
        have e:=Zcp t sv htl hsv;go_wp2
        go_roundg (gk-1)
        case measure=>omega
        case rel =>
         refine ⟨2,sv+t*4294967296,by omega,by first | rfl | rw [e] | (rw [e];rfl),by go_num,rfl,?_⟩
         have:=HX.out.2;rw [show pw 1=4294967296 from rfl] at this
         rw [Aside,this];omega
    · obtain rfl:k=m:=by omega
      go_wp2
      go_ret2
      obtain ⟨hR,hn,hx,hl,hf⟩:=HR.out;rw [←hf,←HA.out];exact ⟨rfl,rfl⟩
theorem Zcc (ys:List Nat) (hy:Wf ys) (n:Nat) (h:val ys<pw n):val (ys.take n)=val ys:=by
 by_cases hn:n≤ys.length
 · have h1:=Zx ys n hn
   have:val (ys.drop n)=0:=by
    rcases Nat.eq_zero_or_pos (val (ys.drop n)) with h0|h0
    · exact h0
    · have h2:pw n*1≤pw n*val (ys.drop n):=Nat.mul_le_mul_left _ h0
      omega
   rw [this] at h1;omega
 · rw [List.take_of_length_le (by omega)]
theorem Zly (V Y X c p:Nat) (hV:V<p) (hle:Y≤X) (hc:c≤1) (h:V+Y=X+c*p):V=X-Y:=by
 rcases (by omega:c=0∨c=1) with rfl|rfl <;> omega
theorem Zh6 (xs ys:List Nat) (ao bo:Option Addr) (n cap m capb B:Nat) (w:World) (hn:n=xs.length) (hm:m=ys.length) (hc:n≤cap) (hcb:m≤capb) (hbig:n≤35184372088000) (hbig2:m≤35184372088000)
 (hx:Wf xs) (hy:Wf ys) (hR:Rd B w ao xs) (hS:Rd B w bo ys) (hB:B≤w.heap.size) (hle:val ys≤val xs) :
 Calls Tryz.prog 138 #[.slice ao n cap,.slice bo m capb] w fun r w'=>∃ v,r=.returned v∧Nt w.heap.size w' v (val xs-val ys)∧Below w.heap.size w w':=by
 have hX:=val_lt xs hx;rw [←hn] at hX;have HR:=(qsd (ai hR (ai hS (ai hn (ai hm (ai hx (ai hy (ai hB (ai hX hle)))))))));clear hR hS hn hm hx hy hB hX hle;go_enter Tryz.func138,Tryz.ntmps138;go_wp2
 go_loopg [5,6,7] n (fun gk ov cv iv wr=>∃ (i c:Nat) (L:List Nat),gk+i=n∧cv=.int .u64 (c:Nat)∧c≤1∧iv=.int .i64 (i:Nat)∧Hid (Rw w.heap.size wr ov i (L.map U))∧Hid (Below w.heap.size w wr) ∧
  Aside (Wf L∧val L+val (ys.take i)=val (xs.take i)+c*pw i))
 case atStart=>exact ⟨0,0,[],by omega,rfl,by omega,rfl,World.ownsRow_nil _ _ _ _,Below.refl _ _,Wf.nil,by simp [val]⟩
 case round =>
  obtain ⟨i,c,L,hgi,rfl,hc1,rfl,HO,HB,HA⟩:=hrel
  by_cases hgo:i<n
  · obtain ⟨hR,hS,hn,hm,hx,hy,hB,hX,hle⟩:=HR.out
    have HA1:=hid (Ze6 xs ao n cap B i wr hn (by omega) hx (hR.below (HB.out.mono hB)) (by omega))
    have HA2:=hid (Ze6 ys bo m capb B i wr hm (by omega) hy (hS.below (HB.out.mono hB)) (by omega))
    obtain ⟨x,hxx⟩:∃ x,xs.getD i 0=x:=⟨_,rfl⟩;obtain ⟨y,hyy⟩:∃ y,ys.getD i 0=y:=⟨_,rfl⟩;have hxl:x<4294967296:=hxx ▸ hx.get i;have hyl:y<4294967296:=hyy ▸ hy.get i;rw [hxx] at HA1;rw [hyy] at HA2;obtain ⟨s,hs⟩:∃ s:Nat,s=(x+4294967296-y-c)%4294967296:=⟨_,rfl⟩;obtain ⟨q,hq⟩:∃ q:Nat,q=(x+4294967296-y-c)/4294967296:=⟨_,rfl⟩;obtain ⟨d,hd⟩:∃ d:Nat,d=1-q:=⟨_,rfl⟩;have e1:((x:Int)+4294967296-y-c)%4294967296=(s:Int):=by omega
    have e2:((x:Int)+4294967296-y-c)/4294967296=(q:Int):=by omega
    have e3:(1:Int)-(q:Int)=(d:Int):=by omega
    have hsz:=HB.out.size;obtain ⟨v',w',hap,hown,hgrow,_,_⟩:=append_word (wr.alloc (.cells #[.int .u32 (s:Nat)] 147)) w.heap.size u5 i (L.map U) (.int .u32 (s:Nat)) wr.heap.size 60 (HO.out.alloc _) (by unfold World.cell?;simp only [heap_alloc_new];rfl) rfl (by omega) (by simp;omega)
    have HX:Aside (xs.getD i 0=x∧ys.getD i 0=y∧s+y+c=x+d*4294967296∧s<4294967296∧d≤1):=⟨hxx,hyy,by omega,by omega,by omega⟩
    have hbel:Below w.heap.size w w':=(HB.out.alloc hsz _).grown hgrow (by simp;omega) (fun k hk=>(HO.out.lt k hk).1)
    have HI:=(qsd (ai hown hbel));have HAP:=hid hap;clear hap hown hgrow hbel hs hd hq hxx hyy hR hS hn hm hx hy hB hX hsz hle
    go_wp2_with fail
    refine HA1.out.mono ?_;rintro r w1 ⟨rfl,rfl⟩
    go_wp2_with fail
    refine HA2.out.mono ?_;rintro r w1 ⟨rfl,rfl⟩
    go_wp2_with (at_builtin;refine wpList_append_run2 rfl (.tmp 25) (.tmp 28) 60 rfl _ _ rfl rfl _ _ HAP.out ?_)
    go_roundg (gk-1)
    case measure=>omega
    case rel =>
     obtain ⟨a1,a2,a3,a4,a5⟩:=HX.out;obtain ⟨hLw,hLv⟩:=HA.out;refine ⟨i+1,d,L++[s],by omega,by first | rfl | rw [e3] | rw [e2,e3],a5,by first | go_num | (congr 1;omega),by rw [List.map_append];exact HI.out.1,HI.out.2,hLw.append (Wf.cons a4 Wf.nil),?_⟩
     have hLl:L.length=i:=by have:=HO.out.1;simp at this;omega
     rw [Qg,hLl,Ya,Ya,a1,a2,Zh];simpa [val] using Zh5 (pw i) _ _ _ _ x y s d hLv a3
  · obtain rfl:i=n:=by omega
    obtain ⟨aoo,capo,hsh,hcap,hl,hnil,hRo⟩:=HO.out.words;subst hsh;obtain ⟨hR,hS,hn,hm,hx,hy,hB,hX,hle⟩:=HR.out;have HNm:=hid (Qy L aoo i capo wr.heap.size wr hl hcap (by omega) HA.out.1 hRo hnil)
    have hLv:val L=val xs-val ys:=by
     have h1:=HA.out.2;rw [List.take_of_length_le (l:=xs) (by omega),Zcc ys hy i (by omega)] at h1
     have h2:=val_lt L HA.out.1;rw [←hl] at h2;exact Zly _ _ _ _ _ h2 hle hc1 h1
    rw [hLv] at HNm;clear hR hS hn hm hx hy hB hX hl hnil hRo hLv hgo HO hle
    go_wp2_with fail
    refine HNm.out.mono ?_;rintro r w1 ⟨v,rfl,hNt,hb⟩;have HZ:=(qsd (ai hNt hb));clear hNt hb;go_wp2;go_ret;have hsz:=HB.out.size;exact ⟨v,rfl,HZ.out.1.mono hsz,HB.out.trans (HZ.out.2.mono hsz)⟩
theorem Below.drewN' {B:Nat}{a w:World}(h:Below B a w) (n:Nat):Below B a (w.drewN n):=⟨h.os,h.tape,h.output,h.size,h.block⟩
theorem Znw (xs ys:List Nat) (ao bo:Option Addr) (n cap m capb B:Nat) (w:World) (hn:n=xs.length) (hm:m=ys.length) (hbig:n≤70368744177664) (hbig2:m≤70368744177664)
 (hx:Wf xs) (hy:Wf ys) (hR:Rd B w ao xs) (hS:Rd B w bo ys) :
 Calls Tryz.prog 137 #[.slice ao n cap,.slice bo m capb] w fun r w'=>r=.returned (.int .i64 (cmpI (val xs) (val ys)))∧Below w.heap.size w w':=by
 have H1:=hid (Jl xs ao n cap B w hn (by omega) hR)
 have H2:=hid (Jl ys bo m capb B w hm (by omega) hS)
 have hl1:=Q7 xs;have hl2:=Q7 ys;have f1:=Yk xs hx;have f2:=Yk ys hy;rw [←Q0] at f1 f2
 rcases Nat.lt_trichotomy (nl xs) (nl ys) with he|he|he
 · rw [Jb (Zb5 xs ys hx hy he)]
   obtain ⟨k1,hk1⟩:∃ k,nl xs=k:=⟨_,rfl⟩;obtain ⟨k2,hk2⟩:∃ k,nl ys=k:=⟨_,rfl⟩;rw [hk1] at H1 he;rw [hk2] at H2 he;clear hk1 hk2 hn hm hx hy hR hS f1 f2 hl1 hl2;go_enter Tryz.func137,Tryz.ntmps137
   go_wp2_with fail
   refine H1.out.mono ?_;rintro r w1 ⟨rfl,rfl⟩
   go_wp2_with fail
   refine H2.out.mono ?_;rintro r w1 ⟨rfl,rfl⟩;have hne:decide (k1=k2)=false:=decide_eq_false (by omega)
   have hne2:k1≠k2:=by omega
   go_wp2;go_ret;exact ⟨rfl,Below.refl _ _⟩
 · obtain ⟨k0,hk0⟩:∃ k,nl ys=k:=⟨_,rfl⟩
   rw [he] at H1 hl1 f1;rw [hk0] at H1 H2 hl1 hl2 f1 f2;have HR:=(qsd (ai hR (ai hS (ai hn (ai hm (ai hx (ai hy (ai hl1 (ai hl2 (ai f1 f2))))))))));have hkn:k0≤n:=by omega
   have hkm:k0≤m:=by omega
   clear hR hS hn hm hx hy hl1 hl2 f1 f2 he hk0;go_enter Tryz.func137,Tryz.ntmps137
   go_wp2_with fail
   refine H1.out.mono ?_;rintro r w1 ⟨rfl,rfl⟩
   go_wp2_with fail
   refine H2.out.mono ?_;rintro r w1 ⟨rfl,rfl⟩;go_wp2
   go_loopg [5] k0 (fun k i wr=>k≤k0∧i=.int .i64 ((k:Int)-1)∧Hid (Below w1.heap.size w1 wr)∧Aside (sg xs k (k0-k)=sg ys k (k0-k)))
   case atStart=>exact ⟨Nat.le_refl _,by first | rfl | go_num,Below.refl _ _,by rw [Nat.sub_self,Zy,Zy];exact rfl⟩
   case round =>
    obtain ⟨hk,rfl,HB,HA⟩:=hrel
    by_cases hk0:gk=0
    · subst hk0
      go_wp2;go_ret;obtain ⟨hR,hS,hn,hm,hx,hy,hl1,hl2,f1,f2⟩:=HR.out;have h:=HA.out;rw [Nat.sub_zero,f1,f2] at h;rw [Zjp h];exact ⟨rfl,HB.out⟩
    · obtain ⟨k,rfl⟩:∃ k,gk=k+1:=⟨gk-1,by omega⟩
      obtain ⟨hR,hS,hn,hm,hx,hy,hl1,hl2,f1,f2⟩:=HR.out;obtain ⟨b,off,hB1,rfl,hc1⟩:=hR (by intro e;subst e;simp at hl1;omega)
      obtain ⟨b2,off2,hB2,rfl,hc2⟩:=hS (by intro e;subst e;simp at hl2;omega)
      have g1:wr.cell? ⟨b,off+k,none⟩=some (.int .u32 ((xs.getD k 0:Nat):Int)) :=
       (HB.out.cell (p:=⟨b,off+k,none⟩) (World.block_lt_of_cell? w1 ⟨b,off+k,none⟩ (hc1 k (by omega)))).trans (hc1 k (by omega))
      have g2:wr.cell? ⟨b2,off2+k,none⟩=some (.int .u32 ((ys.getD k 0:Nat):Int)) :=
       (HB.out.cell (p:=⟨b2,off2+k,none⟩) (World.block_lt_of_cell? w1 ⟨b2,off2+k,none⟩ (hc2 k (by omega)))).trans (hc2 k (by omega))
      obtain ⟨x,hxx⟩:∃ x:Nat,xs.getD k 0=x:=⟨_,rfl⟩;obtain ⟨y,hyy⟩:∃ y:Nat,ys.getD k 0=y:=⟨_,rfl⟩;rw [hxx] at g1;rw [hyy] at g2;have HX:=(qsd (ai hxx hyy));have hki:(k:Int)<(n:Int):=by omega
      have hki0:0≤(k:Int):=by omega
      have hki2:(k:Int)<(m:Int):=by omega
      clear hR hS hn hm hx hy hl1 hl2 f1 f2 hc1 hc2 hxx hyy hk0
      rcases Nat.lt_trichotomy x y with hxy|hxy|hxy
      · go_wp2
        go_quiet (fail)
        go_wp2;go_ret;obtain ⟨hR,hS,hn,hm,hx,hy,hl1,hl2,f1,f2⟩:=HR.out;have h:=HA.out;have t1:=J0 xs ys hx hy k (k0-(k+1)) (by omega) (by omega) h (by rw [HX.out.1,HX.out.2];exact hxy)
        rw [show k+1+(k0-(k+1))=k0 by omega,f1,f2] at t1
        rw [Jb t1];exact ⟨rfl,Below.drewN' HB.out _⟩
      · subst hxy
        go_wp2
        go_quiet (fail)
        go_wp2
        go_quiet (fail)
        go_wp2
        go_roundg k
        case measure=>omega
        case rel =>
         obtain ⟨hR,hS,hn,hm,hx,hy,hl1,hl2,f1,f2⟩:=HR.out;refine ⟨by omega,by first | go_num | (congr 1;omega),hid (Below.drewN' HB.out _),?_⟩
         have h:=HA.out;obtain ⟨r,hr⟩:∃ r,k0-k=r+1:=⟨k0-(k+1),by omega⟩
         rw [show k0-(k+1)=r by omega] at h
         rw [Aside,hr,Yl xs k r (by omega),Yl ys k r (by omega),h,HX.out.1,HX.out.2]
      · have hxy2:decide (x<y)=false:=decide_eq_false (by omega)
        go_wp2
        go_quiet (fail)
        go_wp2
        go_quiet (fail)
        go_wp2;go_ret;obtain ⟨hR,hS,hn,hm,hx,hy,hl1,hl2,f1,f2⟩:=HR.out;have h:=HA.out;have t1:=J0 ys xs hy hx k (k0-(k+1)) (by omega) (by omega) h.symm (by rw [HX.out.1,HX.out.2];exact hxy)
        rw [show k+1+(k0-(k+1))=k0 by omega,f1,f2] at t1
        rw [Zax t1];exact ⟨rfl,Below.drewN' (Below.drewN' HB.out _) _⟩
 · rw [Zax (Zb5 ys xs hy hx he)]
   obtain ⟨k1,hk1⟩:∃ k,nl xs=k:=⟨_,rfl⟩;obtain ⟨k2,hk2⟩:∃ k,nl ys=k:=⟨_,rfl⟩;rw [hk1] at H1 he;rw [hk2] at H2 he;clear hk1 hk2 hn hm hx hy hR hS f1 f2 hl1 hl2;go_enter Tryz.func137,Tryz.ntmps137
   go_wp2_with fail
   refine H1.out.mono ?_;rintro r w1 ⟨rfl,rfl⟩
   go_wp2_with fail
   refine H2.out.mono ?_;rintro r w1 ⟨rfl,rfl⟩;have hne:decide (k1=k2)=false:=decide_eq_false (by omega)
   have hlt:decide (k1<k2)=false:=decide_eq_false (by omega)
   have hne2:k1≠k2:=by omega
   go_wp2;go_ret;exact ⟨rfl,Below.refl _ _⟩
theorem Znx (xs:List Nat) (ao:Option Addr) (n cap B i:Nat) (w:World) (hn:n=xs.length) (hx:Wf xs) (hR:Rd B w ao xs) (hi:i≤9223372036854775807) :
 Calls Tryz.prog 168 #[.slice ao n cap,.int .i64 (i:Int)] w fun r w'=>r=.returned (.bool (decide (val xs/2^i%2=1)))∧w'=w:=by
 obtain ⟨k,hk⟩:∃ k,k=i/32:=⟨_,rfl⟩;obtain ⟨r,hr⟩:∃ r,r=i%32:=⟨_,rfl⟩;have e1:(i:Int)/32=(k:Int):=by omega
 have e2:(i:Int)%32=(r:Int):=by omega
 by_cases hkn:k<n
 · have hb:=Zdv xs hx k r (by omega) (by omega)
   rw [show 32*k+r=i by omega] at hb
   rw [hb];obtain ⟨b,off,hB,rfl,hcell⟩:=hR (by intro e;subst e;simp at hn;omega)
   have hck:=hcell k (by omega)
   obtain ⟨t,ht⟩:∃ t,xs.getD k 0=t:=⟨_,rfl⟩;have htl:t<4294967296:=ht ▸ hx.get k;rw [ht] at hck ⊢;obtain ⟨z,hz⟩:∃ z,z=t/2^r:=⟨_,rfl⟩;have hzt:z≤t:=by rw [hz];exact Nat.div_le_self _ _
   have e3:(t:Int)/2^r=(z:Int):=by rw [hz];simp
   have e4:=Zjf z (by omega)
   have hr32:r<32:=by omega
   have hnk:decide ((n:Int)≤(k:Int))=false:=decide_eq_false (by omega)
   have hnk2:decide (n≤k)=false:=decide_eq_false (by omega)
   rw [←hz];clear hb hn hx hR hcell ht hz hk hr
   rcases (by omega:z%2=0∨z%2=1) with hz2|hz2
   · rw [hz2] at e4 ⊢
     clear hz2;go_enter Tryz.func168,Tryz.ntmps168;go_wp2;go_ret;exact ⟨rfl,rfl⟩
   · rw [hz2] at e4 ⊢
     clear hz2;go_enter Tryz.func168,Tryz.ntmps168;go_wp2;go_ret;exact ⟨rfl,rfl⟩
 · rw [Zco xs hx i (by omega)]
   have hnk:decide ((n:Int)≤(k:Int))=true:=decide_eq_true (by omega)
   clear hn hx hR hk hr;go_enter Tryz.func168,Tryz.ntmps168;go_wp2;go_ret;exact ⟨rfl,rfl⟩
end
end Go.Proofs.YtblkpkgebigojaaGreatDoor
