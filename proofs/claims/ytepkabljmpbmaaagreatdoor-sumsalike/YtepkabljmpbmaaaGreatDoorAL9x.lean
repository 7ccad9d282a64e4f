import Derived.Test.YtepkabljmpbmaaaGreatDoorG18x
import Derived.Test.YtepkabljmpbmaaaGreatDoorS9x
import Derived.Deep.RegionHeld
import Derived.Test.YtepkabljmpbmaaaGreatDoorW53x
import Derived.Test.YtepkabljmpbmaaaGreatDoorW33x
import Derived.Test.YtepkabljmpbmaaaGreatDoorBIeeex
import Derived.Deep.RegionWith
import Derived.Test.YtepkabljmpbmaaaGreatDoorD21x
import Derived.Test.YtepkabljmpbmaaaGreatDoorD16x
set_option linter.unusedVariables false
set_option linter.unusedSimpArgs false
set_option maxHeartbeats 16000000
set_option maxRecDepth 20000
namespace Go.Proofs.YtepkabljmpbmaaaGreatDoor
section
open Go.RowKit Go.Maps
theorem rRound9d (g f gr cap:Nat) (L:List Nat) (v:Value) (mode:Int) (w:World) (h:Ra9 w g f L v gr cap) (hl:L.length≤65536) (hf1:1≤f) (hf8:f≤8) (z:Nat×Int) (hz:rndS (fo8 (kvz f L)) mode=z) :
 Calls Tryz.prog 44 #[.pointer (some ⟨g,0,none⟩),.int .i64 mode] w fun r w'=>r=.returned (.tuple #[.float .f64 z.1,.int .i64 z.2])∧Below w.heap.size w w':=by
 obtain ⟨X,E⟩:=z;simp only;obtain ⟨O,hO⟩:∃ o,o=fo8 (kvz f L):=⟨_,rfl⟩;have HK:=hid (rKept9d g f gr cap L v w h hl hf1 hf8 O hO)
 have HRo:Hid (∀ (u:World) (a:Option Addr) (c:Nat),Nt 0 u (.slice a (ws (dX O)).length c) (dX O)→Calls Tryz.prog 68 #[.agg #[.bool (dN O),.slice a (ws (dX O)).length c,.int .i64 (dE O)],.int .i64 mode] u fun r w'=>r=.returned (.tuple #[.float .f64 X,.int .i64 E])∧Below u.heap.size u w'):=fun u a c hN=>by
  have hb:=kvz_EB f L h.fin (by omega);have k1:=(fo8_len (kvz f L) EB (by have:=EB5;omega) hb).1;rw [hO] at hN ⊢;obtain ⟨_,_,e,A⟩:=hN.arg (by omega)
  cases e
  have:=rround8 (kvz f L) EB (by have:=EB5;omega) hb mode u a c A;rw [hz] at this;exact this
 clear h hl hf1 hf8 hz hO;go_enter Tryz.func44,Tryz.ntmps44;go_wp2_with fail;refine HK.out.mono ?_;rintro r u1 ⟨⟨a,c,rfl,hN⟩,hb⟩;have C:=hid (HRo.out u1 a c hN);have BD:=qsd hb;clear hN hb HK HRo;go_wp2_with fail;refine C.out.mono ?_;rintro r u2 ⟨rfl,hb⟩;have BD:=qsd (BD.out.trans (hb.mono BD.out.size));clear hb C;go_wp2;exact bodyPost_ret (v:=.tuple #[.float .f64 X,.int .i64 E]) (by simp [results,Tryz.results44,go_sem]) rfl ⟨rfl,BD.out⟩
theorem ra_of9 {w:World}{g f:Nat}{L:List Nat}(h:Rb9 w g f (L.map fun x=>(x,1)) L.length) (hF:Fin9 L):∃ v gr cap,Ra9 w g f L v gr cap:=by
 have hg:=h.lt;obtain ⟨v,h1,h2⟩:=h;obtain ⟨ao,cp,rfl,hR⟩:=h2.rd;rw [List.length_map] at h1 hR
 by_cases hn:L=[]
 · subst hn;exact ⟨_,g,cp,h1,⟨ao,rfl,fun q=>absurd q (by simp)⟩,hg,fun i hi=>absurd hi (by simp),hF⟩
 · obtain ⟨gr,hlt,rfl,hc⟩:=hR (by simpa using hn);refine ⟨_,gr,cp,h1,⟨_,rfl,fun _=>rfl⟩,hlt,fun i hi=>?_,hF⟩;have:=hc i hi
   have e:(L.map fun x=>(x,1)).getD i (0,0)=(L.getD i 0,1):=by
    rw [List.getD_eq_getElem?_getD,List.getElem?_map,List.getElem?_eq_getElem hi,List.getD_eq_getElem?_getD,List.getElem?_eq_getElem hi];rfl
   rw [e] at this;exact this
theorem rSum9d (xs:List Nat) (a:Option Addr) (n c f:Nat) (mode:Int) (w:World) (hn:n=xs.length) (hF:Fs w.heap.size w a xs) (hf:Fin9 xs) (hf1:1≤f) (hf8:f≤8) (hl:n≤65536) (z:Nat×Int) (hz:rndS (fo8 (kvz f xs)) mode=z) :
 Calls Tryz.prog 20 #[.slice a n c,.int .i64 (f:Nat),.int .i64 mode] w fun r w'=>r=.returned (.float .f64 z.1)∧Below w.heap.size w w':=by
 obtain ⟨X,E⟩:=z;simp only;have HN:=hid (rNew9 f hf1 hf8 w);have HX:=(qsd (ai hn (ai hF (ai hf hl))));have HRo:=hid (fun (u:World) (g gr cap:Nat) (v:Value) (h:Ra9 u g f xs v gr cap)=>rRound9d g f gr cap xs v mode u h (by omega) hf1 hf8 (X,E) hz);clear hn hF hf hf1 hf8 hz;go_enter Tryz.func20,Tryz.ntmps20;go_wp2_with fail;refine HN.out.mono ?_;rintro r u1 ⟨rfl,hB,hb⟩;obtain ⟨g,hg⟩:∃ g,g=w.heap.size:=⟨_,rfl⟩;rw [←hg] at hB ⊢;have B0:=qsd (ai hB (ai hb (show g=w.heap.size from hg)));clear hB hb hg HN;go_wp2
 go_loopg [8] n (fun gk iv wr=>∃ k:Nat,gk+k=n∧iv=.int .i64 (k:Nat)∧Aside (Rb9 wr g f ((xs.take k).map fun x=>(x,1)) k∧Below w.heap.size w wr∧g=w.heap.size))
 case atStart=>exact ⟨0,by omega,rfl,by rw [List.take_zero];exact B0.out⟩
 case round =>
  obtain ⟨k,hk,rfl,HA⟩:=hrel
  by_cases hkn:k<n
  case neg =>
   obtain rfl:k=n:=by omega
   have d1:decide ((k:Int)<(k:Int))=false:=decide_eq_false (by omega)
   have HR:Aside (∃ v gr cap,Ra9 wr g f xs v gr cap):=qsd (by
    have:=HA.out.1;rw [List.take_of_length_le (by have:=HX.out.1;omega)] at this;have e:=HX.out.1
    exact ra_of9 (by rw [←e];exact this) HX.out.2.2.1)
   obtain ⟨v,gr,cap,hR⟩:=HR.out;have C:=hid (HRo.out wr g gr cap v hR);clear hR HR HRo;go_wp2_with fail;refine C.out.mono ?_;rintro r u2 ⟨rfl,hb⟩;have BD:=qsd (HA.out.2.1.trans (hb.mono HA.out.2.1.size));clear hb C;go_wp2;go_ret;exact ⟨rfl,BD.out⟩
  case pos =>
   have d1:decide ((k:Int)<(n:Int))=true:=decide_eq_true (by omega);have hkl:k<xs.length:=by have:=HX.out.1;omega
   obtain ⟨bb,off,hlt2,rfl,hcell⟩:=(HX.out.2.1.below HA.out.2.1) (by intro e;rw [e] at hkl;simp at hkl);have hxc:=hcell k hkl;obtain ⟨x,hx0⟩:∃ x,x=xs.getD k 0:=⟨_,rfl⟩
   have hx:Wd x∧finW x:=by
    rw [hx0,List.getD_eq_getElem?_getD,List.getElem?_eq_getElem hkl];exact HX.out.2.2.1 _ (List.getElem_mem hkl)
   rw [←hx0] at hxc;have C:=hid (rAdd9d x hx g f k _ wr HA.out.1 (by have:=HX.out.2.2.2;omega) (by rw [List.length_map,List.length_take];have:=HX.out.2.2.2;omega))
   have HT:Aside (((xs.take k).map fun x=>(x,1))++[(x,1)]=(xs.take (k+1)).map fun x=>(x,1)):=qsd (by
    rw [List.take_succ_eq_append_getElem hkl,List.map_append,hx0,List.getD_eq_getElem?_getD,List.getElem?_eq_getElem hkl];rfl)
   clear hlt2 hcell hx0 hx hkl;go_wp2_with fail;refine C.out.mono ?_;rintro r u2 ⟨rfl,hB,hb⟩
   have HA2:Aside (Rb9 u2 g f ((xs.take (k+1)).map fun x=>(x,1)) (k+1)∧Below w.heap.size w u2∧g=w.heap.size):=qsd (by
    rw [←HT.out];have e:=HA.out.2.2;refine ⟨hB,HA.out.2.1.trans ?_,e⟩
    rw [←e];exact hb)
   clear hB hb C HA HT hxc;go_wp2;go_roundg (gk-1)
   case measure=>omega
   case rel=>exact ⟨k+1,by omega,by first | rfl | go_num,HA2.out⟩
end
section
open Go.RowKit
theorem put_core (g:Nat) (L xs:List Nat) (V T:Int) (s:Sp) (k:Nat) (ng:Bool) (ao:Option Addr) (n cap p:Nat) (w:World) (hs:s.ok) (hk:k≤5) (hA:Ac w g L s) (hl:L.length=133) (hL:Wf L) (hv:(val L:Int)=V%(PB:Int)) (h0:-(HB:Int)<V) (h1:V<(HB:Int))
 (hx:Arg w ao n cap xs) (hp:p+32*n≤4256) (hT:sgn7 ng (val xs*2^p)=T) (hT0:-(HB:Int)<T) (hT1:T<(HB:Int)) :
 Calls Tryz.prog 51 #[.pointer (some ⟨g,0,none⟩),.agg #[.int .i64 (k:Nat),.bool ng,.slice ao n cap,.int .i64 (p:Nat)]] w (Did g w (putS V s k T)):=by
 obtain ⟨t,ht⟩:∃ t,t=s.cnt k 1:=⟨_,rfl⟩;obtain ⟨X,hX⟩:∃ X,X=putS V s k T:=⟨_,rfl⟩;rw [←hX];have HC:=hid (fun u:World=>counted_any s k 1 u hk hs (by decide) (by decide));rw [←ht] at HC;obtain ⟨sn,su,sd,sm,sp,sa⟩:=s;obtain ⟨tn,tu,td,tm,tp,ta⟩:=t;have HR:Aside (Ac w g L ⟨sn,su,sd,sm,sp,sa⟩∧L.length=133∧Wf L∧(val L:Int)=V%(PB:Int)∧-(HB:Int)<V∧V<(HB:Int)∧Arg w ao n cap xs∧p+32*n≤4256∧sgn7 ng (val xs*2^p)=T∧-(HB:Int)<T∧T<(HB:Int)):=⟨hA,hl,hL,hv,h0,h1,hx,hp,hT,hT0,hT1⟩;have HX:Aside (X=putS V ⟨sn,su,sd,sm,sp,sa⟩ k T∧⟨tn,tu,td,tm,tp,ta⟩=Sp.cnt ⟨sn,su,sd,sm,sp,sa⟩ k 1):=⟨hX,ht⟩;simp only [Sp.agg] at HC;clear hA hl hL hv h0 h1 hx hp hT hT0 hT1 hX ht hs;go_enter Tryz.func51,Tryz.ntmps51;have a5:=HR.out.1.cell HR.out.2.1 5 _ rfl;have alt:=HR.out.1.lt
 by_cases hmax:sa=1099511627776
 · subst hmax;go_wp2;go_ret;rw [HX.out.1];unfold putS;rw [if_pos rfl];obtain ⟨hA,hl,hL,hv,h0,h1,_⟩:=HR.out;exact ⟨rfl,⟨L,hl,hL,hv,h0,h1,hA.alloc _⟩,(But.refl g w).of_bel (bel_alloc _ _)⟩
 have hmax':(sa==1099511627776)=false:=by simpa using hmax
 go_wp2
 have HP:Aside (X=step7 V ⟨sn,su,sd,sm,sp,sa⟩ T ⟨tn,tu,td,tm,tp,ta⟩):=by
  refine qsd ?_;rw [HX.out.1,HX.out.2];unfold putS;rw [if_neg hmax]
 obtain ⟨w1,hw1⟩:∃ w1,w1=w.alloc (Obj.cells #[.int .i64 (k:Nat),.bool ng,.slice ao n cap,.int .i64 (p:Nat)] 90):=⟨_,rfl⟩;rw [←hw1]
 have H1:Aside (Bl w1 w.heap.size 90 [.int .i64 (k:Nat),.bool ng,.slice ao n cap,.int .i64 (p:Nat)]∧Below w.heap.size w w1∧w1.heap.size=w.heap.size+1):=by
  subst hw1;exact ⟨Bl.new w 90 [_,_,_,_],bel_alloc _ _,by simp⟩
 clear hw1 hmax hmax' a5 alt;have hu:=Tryz.desc_words;have hsz:(Tryz.prog.info? 83).map (·.size)=some (L.map U).length:=by rw [Tryz.size_words,List.length_map,HR.out.2.1]
 have A0:=qsd (HR.out.1.below H1.out.2.1 HR.out.1.lt);have BB:Aside (Below w1.heap.size w1 w1.drew):=(Below.refl _ _).drew;have kS:=qsd (ai (A0.out.drew.range) (ai (A0.out.drew.cell HR.out.2.1 0 _ rfl) (ai (A0.out.drew.cell HR.out.2.1 1 _ rfl) (ai (A0.out.drew.cell HR.out.2.1 2 _ rfl) (ai (A0.out.drew.cell HR.out.2.1 3 _ rfl) (ai (A0.out.drew.cell HR.out.2.1 4 _ rfl) (ai (A0.out.drew.cell HR.out.2.1 5 _ rfl) (H1.out.1.drew.four))))))));have HW:=hid (fun (u:World) (hb:Below w1.heap.size w1 u)=>with_any L xs ao n cap p (k:Nat) ng u HR.out.2.1 HR.out.2.2.1 ((HR.out.2.2.2.2.2.2.1.below H1.out.2.1).below hb) HR.out.2.2.2.2.2.2.2.1)
 have hTT:Aside (sgn7 ng (val xs*2^p)=T∧-(HB:Int)<T∧T<(HB:Int)):=by
  have h:=HR.out.2.2.2.2.2.2.2.2;refine ⟨?_,by omega,by omega⟩
  first | exact h.1 | (rw [←h.1];cases ng <;> simp [sgn7])
 refine until_region (fun w'=>w'.rangeAt g 0 (L.map U)∧w'.cell? ⟨g,133,none⟩=some (.int .i64 sn)∧w'.cell? ⟨g,134,none⟩=some (.int .i64 su)∧w'.cell? ⟨g,135,none⟩=some (.int .i64 sd)∧w'.cell? ⟨g,136,none⟩=some (.int .i64 sm)∧w'.cell? ⟨g,137,none⟩=some (.int .i64 sp)∧w'.cell? ⟨g,138,none⟩=some (.int .i64 sa)∧w'.cell? ⟨w.heap.size,0,none⟩=some (.int .i64 (k:Nat))∧w'.cell? ⟨w.heap.size,1,none⟩=some (.bool ng)∧w'.cell? ⟨w.heap.size,2,none⟩=some (.slice ao n cap)∧w'.cell? ⟨w.heap.size,3,none⟩=some (.int .i64 (p:Nat))) 14 (by kernel_rfl) ?_;refine until_take (i:=0) [] (v:=?_) rfl (by kernel_rfl) (by kernel_rfl) (by kernel_rfl) (by kernel_rfl) (by kernel_rfl) (fun _ _ _ h=>h) (Or.inl ⟨by rfl,?_⟩) kS.out ?_
 rotate_left
 · intro u hSu
   try dsimp only at hSu
   first | (go_simp;done) | (go_simp;with_reducible rfl)
 try simp only [Act.put,List.setIfInBounds_toArray,List.set_cons_zero,List.set_cons_succ]
 refine until_take (i:=1) [2,3,4,6] (v:=?_) rfl (by kernel_rfl) (by kernel_rfl) (by kernel_rfl) (by kernel_rfl) (by kernel_rfl) (fun _ _ _ h=>h) (Or.inl ⟨by rfl,?_⟩) kS.out ?_
 rotate_left
 · intro u hSu
   try dsimp only at hSu
   first | (go_simp;done) | (go_simp;with_reducible rfl)
 try simp only [Act.put,List.setIfInBounds_toArray,List.set_cons_zero,List.set_cons_succ]
 refine until_take (i:=2) [3,4,6] (v:=?_) rfl (by kernel_rfl) (by kernel_rfl) (by kernel_rfl) (by kernel_rfl) (by kernel_rfl) (fun _ _ _ h=>h) (Or.inl ⟨by rfl,?_⟩) kS.out ?_
 rotate_left
 · intro u hSu
   try dsimp only at hSu
   first | (go_simp;done) | (go_simp;with_reducible rfl)
 try simp only [Act.put,List.setIfInBounds_toArray,List.set_cons_zero,List.set_cons_succ]
 refine until_take (i:=3) [4,6] (v:=?_) rfl (by kernel_rfl) (by kernel_rfl) (by kernel_rfl) (by kernel_rfl) (by kernel_rfl) (fun _ _ _ h=>h) (Or.inl ⟨by rfl,?_⟩) kS.out ?_
 rotate_left
 · intro u hSu
   try dsimp only at hSu
   first | (go_simp;done) | (go_simp;with_reducible rfl)
 try simp only [Act.put,List.setIfInBounds_toArray,List.set_cons_zero,List.set_cons_succ]
 refine until_take (i:=4) [6] rfl (by kernel_rfl) (by kernel_rfl) (by kernel_rfl) (by kernel_rfl) (by kernel_rfl) (fun _ _ _ h=>h) (yieldsIf_load_mid (by rfl) _ _ rfl g 0 rfl (L.map U) _ (fun u h=>h.1) hu rfl hsz) kS.out ?_
 try simp only [Act.put,List.setIfInBounds_toArray,List.set_cons_zero,List.set_cons_succ]
 refine until_take (i:=5) [6] (v:=?_) rfl (by kernel_rfl) (by kernel_rfl) (by kernel_rfl) (by kernel_rfl) (by kernel_rfl) (fun _ _ _ h=>h) (Or.inl ⟨by rfl,?_⟩) kS.out ?_
 rotate_left
 · intro u hSu
   try dsimp only at hSu
   first | (go_simp;done) | (go_simp;with_reducible rfl)
 try simp only [Act.put,List.setIfInBounds_toArray,List.set_cons_zero,List.set_cons_succ]
 refine until_take (i:=7) [8,9,10,13] (v:=?_) rfl (by kernel_rfl) (by kernel_rfl) (by kernel_rfl) (by kernel_rfl) (by kernel_rfl) (fun _ _ _ h=>h) (Or.inl ⟨by rfl,?_⟩) kS.out ?_
 rotate_left
 · intro u hSu
   try dsimp only at hSu
   first | (go_simp;done) | (go_simp;with_reducible rfl)
 try simp only [Act.put,List.setIfInBounds_toArray,List.set_cons_zero,List.set_cons_succ]
 refine until_take (i:=8) [9,10,13] (v:=?_) rfl (by kernel_rfl) (by kernel_rfl) (by kernel_rfl) (by kernel_rfl) (by kernel_rfl) (fun _ _ _ h=>h) (Or.inl ⟨by rfl,?_⟩) kS.out ?_
 rotate_left
 · intro u hSu
   try dsimp only at hSu
   first | (go_simp;done) | (go_simp;with_reducible rfl)
 try simp only [Act.put,List.setIfInBounds_toArray,List.set_cons_zero,List.set_cons_succ]
 refine until_take (i:=9) [10,13] (v:=?_) rfl (by kernel_rfl) (by kernel_rfl) (by kernel_rfl) (by kernel_rfl) (by kernel_rfl) (fun _ _ _ h=>h) (Or.inl ⟨by rfl,?_⟩) kS.out ?_
 rotate_left
 · intro u hSu
   try dsimp only at hSu
   first | (go_simp;done) | (go_simp;with_reducible rfl)
 try simp only [Act.put,List.setIfInBounds_toArray,List.set_cons_zero,List.set_cons_succ]
 refine until_take (i:=10) [13] (v:=?_) rfl (by kernel_rfl) (by kernel_rfl) (by kernel_rfl) (by kernel_rfl) (by kernel_rfl) (fun _ _ _ h=>h) (Or.inl ⟨by rfl,?_⟩) kS.out ?_
 rotate_left
 · intro u hSu
   try dsimp only at hSu
   first | (go_simp;done) | (go_simp;with_reducible rfl)
 try simp only [Act.put,List.setIfInBounds_toArray,List.set_cons_zero,List.set_cons_succ]
 refine until_take (i:=11) [12,13] (v:=?_) rfl (by kernel_rfl) (by kernel_rfl) (by kernel_rfl) (by kernel_rfl) (by kernel_rfl) (fun _ _ _ h=>h) (Or.inl ⟨by rfl,?_⟩) kS.out ?_
 rotate_left
 · intro u hSu
   try dsimp only at hSu
   first | (go_simp;done) | (go_simp;with_reducible rfl)
 try simp only [Act.put,List.setIfInBounds_toArray,List.set_cons_zero,List.set_cons_succ]
 refine until_take (i:=12) [13] (v:=?_) rfl (by kernel_rfl) (by kernel_rfl) (by kernel_rfl) (by kernel_rfl) (by kernel_rfl) (fun _ _ _ h=>h) (Or.inl ⟨by rfl,?_⟩) kS.out ?_
 rotate_left
 · intro u hSu
   try dsimp only at hSu
   first | (go_simp;done) | (go_simp;with_reducible rfl)
 try simp only [Act.put,List.setIfInBounds_toArray,List.set_cons_zero,List.set_cons_succ]
 refine until_one (i:=6) (by kernel_rfl) rfl (fun K' hK=>?_);go_simp;refine (HW.out _ BB.out).mono ?_;rintro r u1 ⟨M,rfl,hMl,hMw,hMv,hb⟩;have HM:=qsd (ai hMl (ai hMw hMv));have BB:=qsd (BB.out.trans (hb.mono BB.out.size));have A1:=A0.out.below BB.out A0.out.lt;have Z1:=H1.out.1.below BB.out H1.out.1.lt;have kS:=qsd (ai (A1.range) (ai (A1.cell HR.out.2.1 0 _ rfl) (ai (A1.cell HR.out.2.1 1 _ rfl) (ai (A1.cell HR.out.2.1 2 _ rfl) (ai (A1.cell HR.out.2.1 3 _ rfl) (ai (A1.cell HR.out.2.1 4 _ rfl) (ai (A1.cell HR.out.2.1 5 _ rfl) (Z1.four))))))));clear hb A1 Z1 hMl hMw hMv;dsimp only;refine hK.out _ _ (fun _=>kS.out) ?_;clear hK K'
 try simp only [Act.put,List.setIfInBounds_toArray,List.set_cons_zero,List.set_cons_succ]
 refine until_one (i:=13) (by kernel_rfl) rfl (fun K' hK=>?_);go_simp;refine (HC.out _).mono ?_;rintro r u2 ⟨rfl,hb⟩;have BB:=qsd (BB.out.trans (hb.mono BB.out.size));have A1:=A0.out.below BB.out A0.out.lt;have Z1:=H1.out.1.below BB.out H1.out.1.lt;have kS:=qsd (ai (A1.range) (ai (A1.cell HR.out.2.1 0 _ rfl) (ai (A1.cell HR.out.2.1 1 _ rfl) (ai (A1.cell HR.out.2.1 2 _ rfl) (ai (A1.cell HR.out.2.1 3 _ rfl) (ai (A1.cell HR.out.2.1 4 _ rfl) (ai (A1.cell HR.out.2.1 5 _ rfl) (Z1.four))))))));clear hb A1 Z1;dsimp only;refine hK.out _ _ (fun _=>kS.out) ?_;clear hK K'
 try simp only [Act.put,List.setIfInBounds_toArray,List.set_cons_zero,List.set_cons_succ]
 refine until_one (i:=14) (by kernel_rfl) rfl (fun K' hK=>?_);go_simp;have CB:=become_any g L M V T ⟨sn,su,sd,sm,sp,sa⟩ ⟨tn,tu,td,tm,tp,ta⟩ u2 (A0.out.below BB.out A0.out.lt) HR.out.2.1 HR.out.2.2.1 HR.out.2.2.2.1 HR.out.2.2.2.2.1 HR.out.2.2.2.2.2.1 HM.out.2.1 HM.out.1 (by rw [HM.out.2.2,hTT.out.1,HR.out.2.2.2.1,emod_add']) hTT.out.2.1 hTT.out.2.2;rw [←HP.out] at CB;simp only [Sp.agg] at CB;refine CB.mono ?_;rintro r u3 hD;have HD3:=qsd hD;obtain ⟨rfl,_,_⟩:=hD;clear CB;dsimp only;refine hK.out _ _ (fun h=>absurd h (by decide)) ?_;clear hK K'
 try simp only [Act.put,List.setIfInBounds_toArray,List.set_cons_zero,List.set_cons_succ]
 refine until_one (i:=15) (by kernel_rfl) rfl (fun K' hK=>?_);go_simp;refine hK.out _ _ (fun h=>absurd h (by decide)) ?_;clear hK K';refine until_done (by kernel_rfl) ?_ _;clear kS;go_wp2;go_ret;obtain ⟨h1,h2,h3⟩:=HD3.out;exact ⟨rfl,h2,((But.refl g w).of_bel H1.out.2.1).trans (((But.refl g w1).of_bel BB.out).trans h3)⟩
end
section
open Go.RowKit
def sW (x:Nat):Bool:=decide (9223372036854775808≤x)
def eW (x:Nat):Nat:=x%9223372036854775808/4503599627370496
def fW (x:Nat):Nat:=x%4503599627370496
theorem bw_parts (x:Nat) (hx:x<18446744073709551616):x=B.bw (sW x) (eW x) (fW x)∧eW x<2048∧fW x<4503599627370496:=by
 unfold B.bw sW eW fW;refine ⟨?_,by omega,by omega⟩
 by_cases h:9223372036854775808≤x
 · simp only [h,decide_true,Bool.toNat_true];omega
 · simp only [h,decide_false,Bool.toNat_false];omega
def clW (x:Nat):Int:=B.cls (eW x) (fW x)
def xpW (x:Nat):Int:=B.xp (eW x)
def frW (x:Nat):Nat:=(B.fr (eW x) (fW x)).toNat
def ngW (x:Nat):Bool:=B.ng (sW x) (eW x) (fW x)
def pK (x y:Nat):Nat:=pk (max (clW x) (clW y)) (min (clW x) (clW y)) (!ngW x==ngW y)
def pT (x y:Nat):Int:=pv7 (max (clW x) (clW y)) (min (clW x) (clW y)) (!ngW x==ngW y) (frW x) (frW y) (xpW x+xpW y)
theorem pk_le (hi lo:Int) (ng:Bool):pk hi lo ng≤5:=by
 unfold pk
 split
 · omega
 · split
   · split <;> omega
   · split
     · split <;> omega
     · omega
theorem HB_two (k:Nat) (hk:k=4238):HB=2^k:=by
 obtain ⟨j,hj⟩:∃ j,j=32*132:=⟨_,rfl⟩;rw [HB_eq,pw_pow,←hj,show k=14+j by omega,Nat.pow_add]
theorem sgn_bound (ng:Bool) (X B:Nat) (h:X<B):-(B:Int)<sgn7 ng X∧sgn7 ng X<(B:Int):=by cases ng <;> simp only [sgn7,if_true,if_false] <;> constructor <;> (try simp) <;> omega
theorem pT_bound (x y:Nat) (hx:x<18446744073709551616) (hy:y<18446744073709551616):-(HB:Int)<pT x y∧pT x y<(HB:Int):=by
 unfold pT pv7;have hp:=HB_pos
 split
 · refine sgn_bound _ _ _ ?_;have f1:=fr_bound (eW x) (fW x) (bw_parts x hx).2.2;have f2:=fr_bound (eW y) (fW y) (bw_parts y hy).2.2;have x1:=xp_bound (eW x) (bw_parts x hx).2.1;have x2:=xp_bound (eW y) (bw_parts y hy).2.1
   have h1:frW x*frW y<2^106:=by
    have:frW x*frW y≤9007199254740991*9007199254740991:=Nat.mul_le_mul (by unfold frW;omega) (by unfold frW;omega);exact Nat.lt_of_le_of_lt this (by decide)
   obtain ⟨k,hk⟩:∃ k,k=4238:=⟨_,rfl⟩;rw [HB_two k hk];refine Nat.lt_of_lt_of_le (Nat.mul_lt_mul_of_pos_right h1 (Nat.two_pow_pos _)) ?_;rw [←Nat.pow_add];exact Nat.pow_le_pow_right (by decide) (by unfold xpW;omega)
 · constructor <;> omega
theorem product7 (x y:Nat) (hx:x<18446744073709551616) (hy:y<18446744073709551616) (w:World) :
 Calls Tryz.prog 73 #[.float .f64 x,.float .f64 y] w fun r w'=>∃ v,r=.returned v∧Th w.heap.size w' v (pK x y) (pT x y)∧Below w.heap.size w w':=by
 obtain ⟨a1,a2,a3⟩:=bw_parts x hx;obtain ⟨b1,b2,b3⟩:=bw_parts y hy;have h1:=splitIs (sW x) (eW x) (fW x) a2 a3;have h2:=splitIs (sW y) (eW y) (fW y) b2 b3;rw [←a1] at h1;rw [←b1] at h2;exact product_any x y _ _ _ _ _ _ _ _ w h1 h2 (xp_bound _ a2) (xp_bound _ b2) (fr_bound _ _ a3) (fr_bound _ _ b3)
theorem number7 (x:Nat) (hx:x<18446744073709551616) (w:World) :
 Calls Tryz.prog 52 #[.float .f64 x] w fun r w'=>∃ v,r=.returned v∧Th w.heap.size w' v (pK x 4607182418800017408) (pT x 4607182418800017408)∧Below w.heap.size w w':=by
 have HP:=hid (fun u:World=>product7 x 4607182418800017408 hx (by decide) u);clear hx;go_enter Tryz.func52,Tryz.ntmps52;go_wp2_with fail;refine (HP.out _).mono ?_;rintro r w1 ⟨v,rfl,hT,hb⟩;obtain ⟨ng,a,n,c,p,xs,hlo,rfl,hA,hp,hv⟩:=hT;have HL:=qsd hlo;have Z:=qsd ((Bl.new w 90 [Value.int .i64 0,Value.bool false,Value.slice none 0 0,Value.int .i64 0]).below hb (by simp));have HA:=qsd (ai hA (ai hp (ai hv hb)));obtain ⟨z0,z1,z2,z3⟩:=Z.out.four;have g0:=Z.out.frozen 0;have g1:=Z.out.frozen 1;have g2:=Z.out.frozen 2;have g3:=Z.out.frozen 3;clear hA hp hv hb hlo;go_wp2;obtain ⟨w5,hw5⟩:∃ w5,w5=((((w1.setCell ⟨w.heap.size,0,none⟩ (.int .i64 (pK x 4607182418800017408:Nat))).setCell ⟨w.heap.size,1,none⟩ (.bool ng)).setCell ⟨w.heap.size,2,none⟩ (.slice a n c)).setCell ⟨w.heap.size,3,none⟩ (.int .i64 (p:Nat))):=⟨_,rfl⟩;rw [←hw5];have q:Bl w5 w.heap.size 90 [.int .i64 (pK x 4607182418800017408:Nat),.bool ng,.slice a n c,.int .i64 (p:Nat)]:=by rw [hw5];exact put4 Z.out
 have hbut:But w.heap.size w1 w5:=by rw [hw5];exact ((((But.refl _ w1).set 0 _).set 1 _).set 2 _).set 3 _
 have hBw:Below w.heap.size w w1:=(bel_alloc w _).trans (HA.out.2.2.2.mono (by simp));have qb:Below w.heap.size w w5:=But.below hBw hbut hBw.size (Nat.le_refl _);clear hw5;obtain ⟨q0,q1,q2,q3⟩:=q.four;refine bodyPost_ret (v:=.agg #[.int .i64 (pK x 4607182418800017408:Nat),.bool ng,.slice a n c,.int .i64 (p:Nat)]) (by simp [results,Tryz.results52,go_sem,q0,q1,q2,q3]) rfl ?_;refine ⟨_,rfl,⟨ng,a,n,c,p,xs,fun ad e=>?_,rfl,?_,HA.out.2.1,HA.out.2.2.1⟩,qb⟩
 · have:=HL.out ad e;simp at this;omega
 · obtain ⟨r1,r2,r3,r4,r5,r6⟩:=HA.out.1;refine ⟨r1,r2,r3,r4,fun hne=>?_,r6⟩;obtain ⟨b,off,hlt,rfl,hc⟩:=r5 hne;have hbb:=HL.out _ rfl;simp at hbb;refine ⟨b,off,Nat.lt_of_lt_of_le hlt hbut.size,rfl,fun i hi=>?_⟩;rw [←hc i hi];exact World.cell?_of_block (a:=⟨b,off+i,none⟩) (hbut.block b hlt (by omega))
theorem put7 (g:Nat) (V T:Int) (s:Sp) (k lo:Nat) (v:Value) (w:World) (hA:Acc7 w g V s) (hs:s.ok) (hk:k≤5) (ht:Th lo w v k T) (h0:-(HB:Int)<T) (h1:T<(HB:Int)) :
 Calls Tryz.prog 51 #[.pointer (some ⟨g,0,none⟩),v] w (Did g w (putS V s k T)):=by
 obtain ⟨L,a1,a2,a3,a4,a5,a6⟩:=hA;obtain ⟨ng,a,n,c,p,xs,_,rfl,hx,hp,hv⟩:=ht;exact put_core g L xs V T s k ng a n c p w hs hk a6 a1 a2 a3 a4 a5 hx hp hv h0 h1
theorem Add7 (g:Nat) (V:Int) (s:Sp) (x:Nat) (w:World) (hA:Acc7 w g V s) (hs:s.ok) (hx:x<18446744073709551616) :
 Calls Tryz.prog 26 #[.pointer (some ⟨g,0,none⟩),.float .f64 x] w (Did g w (putS V s (pK x 4607182418800017408) (pT x 4607182418800017408))):=by
 obtain ⟨X,hX⟩:∃ X,X=putS V s (pK x 4607182418800017408) (pT x 4607182418800017408):=⟨_,rfl⟩;rw [←hX];have HP:=hid (fun u:World=>number7 x hx u);have HB:=qsd (pT_bound x 4607182418800017408 hx (by decide));have HA:=qsd (ai hA (ai hs hX));clear hA hs hX hx;go_enter Tryz.func26,Tryz.ntmps26;go_wp2_with fail;refine (HP.out _).mono ?_;rintro r w1 ⟨v,rfl,hT,hb⟩;have HT:=qsd (ai hT hb);clear hT hb;go_wp2_with fail;have CP:=put7 g V (pT x 4607182418800017408) s (pK x 4607182418800017408) w.heap.size v w1 (HA.out.1.bel HT.out.2) HA.out.2.1 (pk_le _ _ _) HT.out.1 HB.out.1 HB.out.2;rw [←HA.out.2.2] at CP;refine CP.mono ?_;rintro r w2 hD;have HD:=qsd hD;obtain ⟨rfl,_,_⟩:=hD;clear CP;go_wp2;go_ret;exact ⟨rfl,HD.out.2.1,((But.refl g w).of_bel HT.out.2).trans HD.out.2.2⟩
end
section
open Go.RowKit
theorem neg7_val (N:Nat) (V:Int) (h:(N:Int)=V%(PB:Int)) (h0:-(HB:Int)<V) (h1:V<(HB:Int)):neg7 N=decide (V<0)∧mag7 N=V.natAbs:=by
 have e:=PB_HB;have hp:=HB_pos;unfold mag7 neg7
 by_cases hv:0≤V
 · rw [Int.emod_eq_of_lt hv (by omega)] at h;rw [decide_eq_false (by omega),decide_eq_false (by omega)];refine ⟨rfl,?_⟩;rw [if_neg (by decide)];omega
 · have h2:V%(PB:Int)=V+PB:=by
    rw [←Int.add_emod_right,Int.emod_eq_of_lt (by omega) (by omega)]
   rw [h2] at h;rw [decide_eq_true (by omega),decide_eq_true (by omega)];refine ⟨rfl,?_⟩;rw [if_pos rfl];omega
def exV (V:Int):Option (Bool×Nat×Int):=mkS (decide (V<0)) V.natAbs (-2148)
theorem _root_.Nat.le.ne7 {a b c:Nat}(h:a≤b) (e:a=c+1):b≠c:=by omega
theorem Nt.lo7 {lo k:Nat}{w:World}{v:Value}{X:Nat}(h:Nt lo w v X) (hk:k≤lo):k≤lo:=hk
theorem Tryz.row_dyad:∃ d:TypeDesc,Tryz.prog.underlying 70=some d∧d.isRow=true:=by
 have h:(Tryz.prog.underlying 70).any (·.isRow)=true:=by kernel_rfl
 obtain ⟨d,h1,h2⟩:=(Option.any_eq_true _ _).1 h;exact ⟨d,h1,h2⟩
theorem Tryz.size_dyad:(Tryz.prog.info? 70).map (·.size)=some 3:=by kernel_rfl
theorem row_result {fn:Func}{p:Tmp}{ty:TypeId}(h:fn.results=#[.cell p ty]) (tmps:Array Value) (w:World) (g:Nat) (cs:List Value)
 (hp:tmps.getD p undef=.pointer (some ⟨g,0,none⟩)) (hg:Bl w g ty cs) (hdr:∃ d:TypeDesc,Tryz.prog.underlying ty=some d∧d.isRow=true) (hi:(Tryz.prog.info? ty).map (·.size)=some cs.toArray.size) :
 (results fn tmps).run Tryz.prog w=.ok (.agg cs.toArray) w:=by
 obtain ⟨d,h1,h2⟩:=hdr
 cases d <;> first
  | exact results_cell_row (P:=Tryz.prog) h tmps w g ty _ _ _ hp hg h1 rfl hi
  | exact absurd h2 (by simp [TypeDesc.isRow])
theorem exact_close {w base:World}{tmps:Array Value}{o:Option (Bool×Nat×Int)}{v x y z:Value}{lo:Nat}(h2:tmps.getD 2 undef=.pointer (some ⟨w.heap.size,0,none⟩))
 (hZ:Bl base w.heap.size 70 [x,y,z]) (hbw:Below w.heap.size w base) (hN:Nt lo base v (dX o)) (hlo:w.heap.size<lo) :
 bodyPost Tryz.prog Tryz.f54 (fun r w'=>∃ v,r=.returned (.agg #[.bool (dN o),v,.int .i64 (dE o)])∧Nt w.heap.size w' v (dX o)∧Below w.heap.size w w') .ret ⟨tmps,[]⟩
  (((base.setCell ⟨w.heap.size,0,none⟩ (.bool (dN o))).setCell ⟨w.heap.size,1,none⟩ v).setCell ⟨w.heap.size,2,none⟩ (.int .i64 (dE o))):=by
 have q:Bl (((base.setCell ⟨w.heap.size,0,none⟩ (.bool (dN o))).setCell ⟨w.heap.size,1,none⟩ v).setCell ⟨w.heap.size,2,none⟩ (.int .i64 (dE o))) w.heap.size 70 [.bool (dN o),v,.int .i64 (dE o)]:=((hZ.set 0 _).set 1 _).set 2 _;have hbut:But w.heap.size base (((base.setCell ⟨w.heap.size,0,none⟩ (.bool (dN o))).setCell ⟨w.heap.size,1,none⟩ v).setCell ⟨w.heap.size,2,none⟩ (.int .i64 (dE o))):=(((But.refl _ _).set 0 _).set 1 _).set 2 _;refine bodyPost_ret (v:=.agg #[.bool (dN o),v,.int .i64 (dE o)]) (row_result Tryz.results54 _ _ w.heap.size [.bool (dN o),v,.int .i64 (dE o)] h2 q Tryz.row_dyad (by rw [Tryz.size_dyad];rfl)) rfl ?_;exact ⟨v,rfl,(hN.but7 hbut hlo).mono (by omega),But.below hbw hbut hbw.size (Nat.le_refl _)⟩
theorem exact_close2 {w base:World}{tmps:Array Value}{o:Option (Bool×Nat×Int)}{v x y z:Value}{lo:Nat}{ob:Obj}(h2:tmps.getD 2 undef=.pointer (some ⟨w.heap.size,0,none⟩))
 (hZ:Bl base w.heap.size 70 [x,y,z]) (hbw:Below w.heap.size w base) (hN:Nt lo base v (dX o)) (hlo:w.heap.size<lo) :
 bodyPost Tryz.prog Tryz.f54 (fun r w'=>∃ v,r=.returned (.agg #[.bool (dN o),v,.int .i64 (dE o)])∧Nt w.heap.size w' v (dX o)∧Below w.heap.size w w') .ret ⟨tmps,[]⟩
  ((((base.setCell ⟨w.heap.size,0,none⟩ (.bool (dN o))).setCell ⟨w.heap.size,1,none⟩ v).setCell ⟨w.heap.size,2,none⟩ (.int .i64 (dE o))).alloc ob):=by
 have q:Bl (((base.setCell ⟨w.heap.size,0,none⟩ (.bool (dN o))).setCell ⟨w.heap.size,1,none⟩ v).setCell ⟨w.heap.size,2,none⟩ (.int .i64 (dE o))) w.heap.size 70 [.bool (dN o),v,.int .i64 (dE o)]:=((hZ.set 0 _).set 1 _).set 2 _;have hbut:But w.heap.size base (((base.setCell ⟨w.heap.size,0,none⟩ (.bool (dN o))).setCell ⟨w.heap.size,1,none⟩ v).setCell ⟨w.heap.size,2,none⟩ (.int .i64 (dE o))):=(((But.refl _ _).set 0 _).set 1 _).set 2 _;have hW:=But.below hbw hbut hbw.size (Nat.le_refl _);refine bodyPost_ret (v:=.agg #[.bool (dN o),v,.int .i64 (dE o)]) (row_result Tryz.results54 _ _ w.heap.size [.bool (dN o),v,.int .i64 (dE o)] h2 (q.alloc ob) Tryz.row_dyad (by rw [Tryz.size_dyad];rfl)) rfl ?_;exact ⟨v,rfl,((hN.but7 hbut hlo).mono (by omega)).below (bel_alloc _ _),hW.trans ((bel_alloc _ _).mono hW.size)⟩
theorem Exact7 (g:Nat) (V:Int) (s:Sp) (w:World) (hA:Acc7 w g V s) (hT:Tab w):Calls Tryz.prog 54 #[.pointer (some ⟨g,0,none⟩)] w fun r w' =>
 ∃ v,r=.returned (.agg #[.bool (dN (exV V)),v,.int .i64 (dE (exV V))])∧Nt w.heap.size w' v (dX (exV V))∧Below w.heap.size w w':=by
 obtain ⟨o,ho⟩:∃ o,o=exV V:=⟨_,rfl⟩;rw [←ho];obtain ⟨L,a1,a2,a3,a4,a5,a6⟩:=hA;have hnm:=neg7_val (val L) V a3 a4 a5;have HA:=qsd (ai a1 (ai a2 (ai a6.hd (ai hT (ai ho hnm)))));have hlt:=a6.lt;clear a1 a2 a3 a4 a5 a6 hT ho hnm;have HLT:=qsd hlt;clear hlt;obtain ⟨W1,hW1⟩:∃ W,W=w.alloc (.cells #[.bool false,.slice none 0 0,.int .i64 0] 70):=⟨_,rfl⟩
 have H1:Aside (Below w.heap.size w W1∧Bl W1 w.heap.size 70 [.bool false,.slice none 0 0,.int .i64 0]∧W1.heap.size=w.heap.size+1):=by
  subst hW1;exact ⟨bel_alloc _ _,Bl.new _ 70 [_,_,_],by simp⟩
 go_enter Tryz.func54,Tryz.ntmps54;go_wp2;rw [←hW1];clear hW1;have BB:Aside (Below W1.heap.size W1 W1.drew):=(Below.refl _ _).drew;have HH:Aside (∀ W:World,Below W1.heap.size W1 W→Hd W g L):=fun W h=>(HA.out.2.2.1.below H1.out.1 HLT.out (Nat.le_refl _)).below h (Nat.lt_of_lt_of_le HLT.out H1.out.1.size) (Nat.le_refl _);have HTT:Aside (∀ W:World,Below W1.heap.size W1 W→Tab W):=fun W h=>(HA.out.2.2.2.1.belows H1.out.1).belows h
 go_region_with (first
  | (go_at_call 77
     with_reducible refine (below_any g L _ HA.out.1 HA.out.2.1 (HH.out _ (by first | exact BB.out | exact BB.out.trans ((bel_alloc _ _).mono BB.out.size) | exact (bel_alloc _ _).drew))).mono ?_
     rintro r u ⟨rfl,rfl⟩)
  | (go_at_call 78
     with_reducible refine (size7_any L g _ HA.out.1 HA.out.2.1 (HH.out _ (by first | exact BB.out | exact BB.out.trans ((bel_alloc _ _).mono BB.out.size) | exact (bel_alloc _ _).drew))).mono ?_
     rintro r u ⟨b,cap,M,rfl,hM,hMv,hb⟩;have hu:Below W1.heap.size W1 u:=by first | exact BB.out.trans (hb.mono BB.out.size) | exact (BB.out.trans ((bel_alloc _ _).mono BB.out.size)).trans (hb.mono (by have:=BB.out.size;simp;omega)) | exact ((bel_alloc _ _).drew).trans (hb.mono (by simp))
     try have DZ:=qsd (ai (DZ.out.1.below hb DZ.out.1.lt) DZ.out.2)
     try have DZ:=qsd (ai ((Bl.new _ 70 [Value.bool false,Value.slice none 0 0,Value.int .i64 0]).below hb (by simp)) BB.out.size)
     try have DZ:=qsd (ai ((Bl.new W1 70 [Value.bool false,Value.slice none 0 0,Value.int .i64 0]).drew.below hb (by simp)) (Nat.le_refl W1.heap.size))
     have BB:=qsd hu;have HM:=qsd (ai hM (show mkS (neg7 (val L)) (val M) (-2148)=o by rw [HA.out.2.2.2.2.1,hMv,HA.out.2.2.2.2.2.1,HA.out.2.2.2.2.2.2];rfl))
     clear hM hMv hb hu)
  | (go_at_call 76
     with_reducible refine (Make_any (by first | exact HM.out.1 | exact HM.out.1.below (bel_alloc _ _)) (HTT.out _ (by first | exact BB.out | exact BB.out.trans ((bel_alloc _ _).mono BB.out.size) | exact (bel_alloc _ _).drew)) (neg7 (val L)) (-2148) (by decide) (by decide)).mono ?_
     rintro r u ⟨hD,hb⟩;rw [HM.out.2] at hD;obtain ⟨v,rfl,hN⟩:=hD
     try have DL:=qsd DZ.out.1.lt
     have hu:Below W1.heap.size W1 u:=by first | exact BB.out.trans (hb.mono BB.out.size) | exact (BB.out.trans ((bel_alloc _ _).mono BB.out.size)).trans (hb.mono (by have:=BB.out.size;simp;omega)) | exact ((bel_alloc _ _).drew).trans (hb.mono (by simp))
     try have DZ:=qsd (ai (DZ.out.1.below hb DZ.out.1.lt) DZ.out.2)
     try have DZ:=qsd (ai ((Bl.new _ 70 [Value.bool false,Value.slice none 0 0,Value.int .i64 0]).below hb (by simp)) BB.out.size)
     try have DZ:=qsd (ai ((Bl.new W1 70 [Value.bool false,Value.slice none 0 0,Value.int .i64 0]).drew.below hb (by simp)) (Nat.le_refl W1.heap.size))
     have hN2:=ai hN (hN.lo7 (k:=W1.heap.size) (by first | exact BB.out.size | (have:=BB.out.size;simp;omega)))
     obtain ⟨a,c,rfl,_⟩:=hN.arg (by
      refine Nat.le_trans ((ws_len_le _ 133).2 ?_) (by decide);have e:=HM.out.2;have hm:=val_lt M HM.out.1.wf;rw [←HM.out.1.len] at hm;rw [←e];refine Nat.lt_of_le_of_lt ?_ hm;unfold mkS dX
      split
      · exact Nat.zero_le _
      · split
        · exact Nat.zero_le _
        · exact Nat.div_le_self _ _)
     have HN:=qsd (ai hN2 hu);have Z:=qsd (H1.out.2.1.below hu (by have:=H1.out.2.2;omega));have z0:=Z.out.cell 0 _ rfl;have z1:=Z.out.cell 1 _ rfl;have z2:=Z.out.cell 2 _ rfl;have g0:=Z.out.frozen 0;have g1:=Z.out.frozen 1;have g2:=Z.out.frozen 2
     try have d0:=DZ.out.1.cell 0 _ rfl
     try have d1:=DZ.out.1.cell 1 _ rfl
     try have d2:=DZ.out.1.cell 2 _ rfl
     try have e0:=DZ.out.1.frozen 0
     try have e1:=DZ.out.1.frozen 1
     try have e2:=DZ.out.1.frozen 2
     have hlu:w.heap.size<u.heap.size:=Z.out.lt
     try have nx:=DZ.out.2.ne7 H1.out.2.2
     try have ny:=nx.symm
     clear hN hN2 hb hu))
 all_goals (
  clear HM HA HH HTT BB;go_wp2;have hW:Below w.heap.size w u:=H1.out.1.trans (HN.out.2.mono H1.out.1.size);have hlo:=HN.out.1.2;have hl1:=H1.out.2.2
  first
   | (with_reducible refine exact_close2 (x:=.bool false) (y:=.slice none 0 0) (z:=.int .i64 0) ?_ Z.out hW HN.out.1.1 (by omega)
      rfl)
   | (with_reducible refine exact_close (x:=.bool false) (y:=.slice none 0 0) (z:=.int .i64 0) ?_ (Bl.but Z.out ((((But.refl _ _).set 0 _).set 1 _).set 2 _) ny) (But.below hW ((((But.refl _ _).set 0 _).set 1 _).set 2 _) hW.size (by have:=DZ.out.2;omega)) (HN.out.1.1.but7 ((((But.refl _ _).set 0 _).set 1 _).set 2 _) (by first | exact DL.out | (simp;done) | (simp;omega))) (by omega)
      rfl))
end
section
open Go.RowKit
open Go.Proofs.YtepkabljmpbmaaaGreatDoor.B (f64bits f64frombits bw)
attribute [local go_sem] f64bits f64frombits
def kn (a:Int):Bool:=decide (0≤a)&&decide (a≤2)
def may (a b:Int):Bool:=kn a&&kn b
def ct (a:Int):Bool:=decide (0≤a)&&decide (a≤1099511627776)
theorem known_any (a:Int) (w:World):Calls Tryz.prog 50 #[.int .i64 a] w fun r w'=>r=.returned (.bool (kn a))∧w'=w:=by
 unfold kn
 by_cases h:0≤a
 · have hd:decide (0≤a)=true:=decide_eq_true h;rw [hd];go_enter Tryz.func50,Tryz.ntmps50;go_wp2;go_ret;exact ⟨by first | rfl | simp,rfl⟩
 · have hd:decide (0≤a)=false:=decide_eq_false h;rw [hd];go_enter Tryz.func50,Tryz.ntmps50;go_wp2;go_ret;exact ⟨by first | rfl | simp,rfl⟩
theorem countable_any (a:Int) (w:World):Calls Tryz.prog 134 #[.int .i64 a] w fun r w'=>r=.returned (.bool (ct a))∧w'=w:=by
 unfold ct
 by_cases h:0≤a
 · have hd:decide (0≤a)=true:=decide_eq_true h;rw [hd];go_enter Tryz.func134,Tryz.ntmps134;go_wp2;go_ret;exact ⟨by first | rfl | simp,rfl⟩
 · have hd:decide (0≤a)=false:=decide_eq_false h;rw [hd];go_enter Tryz.func134,Tryz.ntmps134;go_wp2;go_ret;exact ⟨by first | rfl | simp,rfl⟩
theorem May_any (a b:Int) (w:World):Calls Tryz.prog 24 #[.agg #[.int .i64 a,.int .i64 b]] w fun r w'=>r=.returned (.bool (may a b))∧Below w.heap.size w w':=by
 unfold may;rcases ha:kn a with _|_
 · have H:=hid (fun w=>ha ▸ known_any a w);clear ha;go_enter Tryz.func24,Tryz.ntmps24;go_wp2_with fail;refine (H.out _).mono ?_;rintro r w1 ⟨rfl,rfl⟩;go_wp2;go_ret;exact ⟨rfl,(Below.refl _ _).alloc (Nat.le_refl _) _⟩
 · have H:=hid (fun w=>ha ▸ known_any a w);have H2:=hid (fun w=>known_any b w);obtain ⟨kb,hkb⟩:∃ k,kn b=k:=⟨_,rfl⟩;rw [hkb] at H2 ⊢;clear ha hkb;go_enter Tryz.func24,Tryz.ntmps24;go_wp2_with fail;refine (H.out _).mono ?_;rintro r w1 ⟨rfl,rfl⟩;go_wp2_with fail;refine (H2.out _).mono ?_;rintro r w1 ⟨rfl,rfl⟩;go_wp2;go_ret;exact ⟨by first | rfl | simp,(Below.refl _ _).alloc (Nat.le_refl _) _⟩
theorem mInf_up (w:World):Calls Tryz.prog 49 #[.int .i64 1] w fun r w'=>r=.returned (.float .f64 9218868437227405312)∧w'=w:=by
 go_enter Tryz.func49,Tryz.ntmps49;go_wp2;go_ret;exact ⟨rfl,rfl⟩
theorem mInf_down (w:World):Calls Tryz.prog 49 #[.int .i64 (-1)] w fun r w'=>r=.returned (.float .f64 18442240474082181120)∧w'=w:=by
 go_enter Tryz.func49,Tryz.ntmps49;go_wp2;go_ret;exact ⟨rfl,rfl⟩
theorem minus_any (w:World):Calls Tryz.prog 48 #[.float .f64 0,.float .f64 13830554455654793216] w fun r w'=>r=.returned (.float .f64 9223372036854775808)∧w'=w:=by
 have h1:bits .andNot .u64 0 9223372036854775808=0:=by decide +kernel
 have h2:bits .and .u64 13830554455654793216 9223372036854775808=9223372036854775808:=by decide +kernel
 have h3:bits .or .u64 0 9223372036854775808=9223372036854775808:=by decide +kernel
 go_enter Tryz.func48,Tryz.ntmps48;go_wp2;go_ret;exact ⟨rfl,rfl⟩
open Go.RowKit
open Go.Proofs.YtepkabljmpbmaaaGreatDoor.B (f64bits f64frombits bw bcell)
attribute [local go_sem] f64bits f64frombits
def snd (n u d m p a:Int):Bool:=ct n&&ct u&&ct d&&(ct m&&ct p&&ct a)&&decide (n+u+d+m+p≤a)
theorem ct_true {n:Int}(h:ct n=true):0≤n∧n≤1099511627776:=by unfold ct at h;simpa using h
theorem ct_five {n u d m p:Int}(i:Nat) (hi:i<5) (h:ct ([n,u,d,m,p].getD i 0)=false) (a:Int):snd n u d m p a=false:=by
 unfold snd;obtain rfl|rfl|rfl|rfl|rfl:i=0∨i=1∨i=2∨i=3∨i=4:=by omega
 all_goals (simp at h;simp [h])
def ps (L:List Int) (i:Nat):Int:=(L.take i).sum
theorem ps_succ (L:List Int) (i:Nat) (h:i<L.length):ps L (i+1)=ps L i+L.getD i 0:=by
 unfold ps;rw [List.take_succ_eq_append_getElem h,List.sum_append,List.getD_eq_getElem?_getD,List.getElem?_eq_getElem h];simp
theorem sound_any (n u d m p a:Int) (w:World):Calls Tryz.prog 103 #[.agg #[.int .i64 n,.int .i64 u,.int .i64 d,.int .i64 m,.int .i64 p,.int .i64 a]] w fun r w'=>r=.returned (.bool (snd n u d m p a))∧Below w.heap.size w w':=by
 obtain ⟨L,hL⟩:∃ L:List Int,L=[n,u,d,m,p]:=⟨_,rfl⟩;have hlen:L.length=5:=by rw [hL];rfl
 have HL:=(qsd (ai hL hlen));obtain ⟨W,hW⟩:∃ W,W=(w.alloc (.cells #[.int .i64 n,.int .i64 u,.int .i64 d,.int .i64 m,.int .i64 p,.int .i64 a] 85)).alloc (.cells #[.int .i64 n,.int .i64 u,.int .i64 d,.int .i64 m,.int .i64 p] 168):=⟨_,rfl⟩
 have hcell:∀ i,i<5→W.cell? ⟨w.heap.size+1,i,none⟩=some (.int .i64 (L.getD i 0)):=by
  intro i hi;have h1:=heap_alloc_new (w.alloc (.cells #[.int .i64 n,.int .i64 u,.int .i64 d,.int .i64 m,.int .i64 p,.int .i64 a] 85)) (.cells #[.int .i64 n,.int .i64 u,.int .i64 d,.int .i64 m,.int .i64 p] 168);rw [←hW] at h1;simp only [World.size_alloc] at h1;subst hL;simp only [World.cell?,h1];obtain rfl|rfl|rfl|rfl|rfl:i=0∨i=1∨i=2∨i=3∨i=4:=by omega
  all_goals simp
 have ha5:W.cell? ⟨w.heap.size,5,none⟩=some (.int .i64 a):=by rw [hW];simp [go_sem]
 have hbel:Below w.heap.size w W:=by rw [hW];exact ((Below.refl _ _).alloc (Nat.le_refl _) _).alloc (by simp) _
 have HC:=(qsd (ai hcell (ai hbel (ai hW ha5))));clear hL hlen hcell hbel hW ha5;have HA:=hid (countable_any a);go_enter Tryz.func103,Tryz.ntmps103;go_wp2
 go_loopg [4,17] 5 (fun gk sv iv wr=>∃ i:Nat,gk+i=5∧sv=.int .i64 (ps L i)∧iv=.int .i64 (i:Nat)∧wr=W∧Aside (∀ j,j<i→ct (L.getD j 0)=true)∧0≤ps L i∧ps L i≤(i:Int)*1099511627776)
 case atStart=>exact ⟨0,rfl,rfl,rfl,by rw [HC.out.2.2.1],fun j hj=>absurd hj (by omega),by simp [ps],by simp [ps]⟩
 case round =>
  obtain ⟨i,hi,rfl,rfl,rfl,HT,hp0,hp1⟩:=hrel;obtain ⟨hcell,hbel,hW,ha5⟩:=HC.out
  by_cases hi5:i=5
  · obtain rfl:gk=0:=by omega
    subst hi5
    have hs:snd n u d m p a=(ct a&&decide (ps L 5≤a)):=by
     have h0:=HT.out 0 (by omega);have h1:=HT.out 1 (by omega);have h2:=HT.out 2 (by omega);have h3:=HT.out 3 (by omega);have h4:=HT.out 4 (by omega);have e:=HL.out.1;subst e;have e2:ps [n,u,d,m,p] 5=n+u+d+m+p:=by simp [ps];omega
     rw [e2];simp at h0 h1 h2 h3 h4;unfold snd;rw [h0,h1,h2,h3,h4];simp
    obtain ⟨q,hq⟩:∃ q,ps L 5=q:=⟨_,rfl⟩;rw [hq] at hp0 hp1 hs ⊢;have HS:=qsd hs;clear hcell hW hs hq;rcases ha:ct a with _|_
    · rw [ha] at HA HS;clear ha;go_wp2_with fail;refine (HA.out _).mono ?_;rintro r w1 ⟨rfl,rfl⟩;go_wp2;go_ret;exact ⟨by rw [HS.out];first | rfl | simp,hbel⟩
    · rw [ha] at HA HS;clear ha;go_wp2_with fail;refine (HA.out _).mono ?_;rintro r w1 ⟨rfl,rfl⟩;go_wp2;go_ret;exact ⟨by rw [HS.out];first | rfl | simp,hbel⟩
  · have hil:i<5:=by omega
    have hci:=hcell i hil;have HK:=hid (countable_any (L.getD i 0));have hps:=ps_succ L i (by rw [HL.out.2];exact hil);obtain ⟨x,hx⟩:∃ x,L.getD i 0=x:=⟨_,rfl⟩;rw [hx] at hci HK hps;rcases hc:ct x with _|_
    · rw [hc] at HK
      have HS:Aside (snd n u d m p a=false):=by
       have h1:=hc;rw [←hx,HL.out.1] at h1;exact ct_five i hil h1 a
      have HB:=qsd hbel;clear hcell hbel hW ha5 hps hx hc hi5 HC HL;go_wp2_with fail;refine (HK.out _).mono ?_;rintro r w1 ⟨rfl,rfl⟩;go_wp2;go_ret;exact ⟨by rw [HS.out];rfl,HB.out⟩
    · rw [hc] at HK;have hb:=ct_true hc;obtain ⟨q,hq⟩:∃ q,ps L i=q:=⟨_,rfl⟩;obtain ⟨q2,hq2⟩:∃ q,ps L (i+1)=q:=⟨_,rfl⟩;rw [hq,hq2] at hps;rw [hq] at hp0 hp1 ⊢;have hq3:q+x=q2:=hps.symm
      have hq4:0≤q2∧q2≤((i:Int)+1)*1099511627776:=by
       have:((i:Int)+1)*1099511627776=(i:Int)*1099511627776+1099511627776:=by omega
       omega
      have hq5:q2≤9223372036854775807:=by omega
      have hq6:-9223372036854775808≤q2:=by omega
      have HR:=(qsd (ai hq2 (ai hq4 (ai hx (ai hc hq3)))));clear hcell hbel hW ha5 hps hx hc hi5 HC hq2 hq hp0 hp1 hb hq4;go_wp2_with fail;refine (HK.out _).mono ?_;rintro r w1 ⟨rfl,rfl⟩;go_wp2;go_roundg (5-(i+1))
      case measure=>omega
      case rel =>
       obtain ⟨hq2,hq4,hx,hc,hq3⟩:=HR.out;refine ⟨i+1,by omega,?_,by first | go_num | (congr 1;omega),rfl,?_,by rw [hq2];exact hq4.1,by rw [hq2];have:=hq4.2;push_cast;exact this⟩
       · first | (rw [hq2];done) | (rw [hq2,←hq3];done)
       · intro j hj
         by_cases hji:j=i
         · subst hji;rw [hx];exact hc
         · exact HT.out j (by omega)
def vd (ok:Bool) (n u d a b:Int):Nat×Bool :=
 if ok=false then (0,false) else if 0<n∧a=0 then (9221120237041090560,true) else if ¬ b=0 then (0,false)
 else if 0<u∧0<d then (9221120237041090560,true) else if 0<u then (9218868437227405312,true) else if 0<d then (18442240474082181120,true) else (0,false)
def nt (ok:Bool) (n u d m p a mode:Int):Nat :=
 if ok=false then 0 else if a-n-u-d=0 then 0 else if m=a-n-u-d then 9223372036854775808 else if p=a-n-u-d then 0 else if mode=3 then 9223372036854775808 else 0
theorem snd_bd {n u d m p a:Int}(h:snd n u d m p a=true):(0≤n∧n≤1099511627776)∧(0≤u∧u≤1099511627776)∧(0≤d∧d≤1099511627776)∧(0≤a∧a≤1099511627776):=by
 unfold snd at h;simp only [Bool.and_eq_true] at h;exact ⟨ct_true h.1.1.1.1,ct_true h.1.1.1.2,ct_true h.1.1.2,ct_true h.1.2.2⟩
end
section
open Go.RowKit
open Go.Proofs.YtepkabljmpbmaaaGreatDoor.B (f64bits f64frombits bw bcell)
attribute [local go_sem] f64bits f64frombits
theorem Verdict_any (n u d m p l a b:Int) (w:World):Calls Tryz.prog 74 #[.agg #[.int .i64 n,.int .i64 u,.int .i64 d,.int .i64 m,.int .i64 p,.int .i64 l],.agg #[.int .i64 a,.int .i64 b]] w fun r w'=>r=.returned (.tuple #[.float .f64 (vd (snd n u d m p l&&may a b) n u d a b).1,.bool (vd (snd n u d m p l&&may a b) n u d a b).2])∧Below w.heap.size w w':=by
 have HS:=hid (sound_any n u d m p l);have HM:=hid (May_any a b);have HN:=hid (B.nan_any);have HU:=hid (mInf_up);have HD:=hid (mInf_down);rcases hs:snd n u d m p l with _|_
 · rw [hs] at HS;rw [Bool.false_and];have hv:vd false n u d a b=(0,false):=by unfold vd;rw [if_pos rfl]
   rw [hv];clear hs hv;go_enter Tryz.func74,Tryz.ntmps74;go_wp2_with fail;refine (HS.out _).mono ?_;rintro r w1 ⟨rfl,hb1⟩;have hz1:=hb1.size;simp at hz1;obtain ⟨hc1,hf1⟩:=bcell hb1;have B1:=qsd hb1;clear hb1;go_wp2
   go_ret2
   exact ⟨by first | rfl | simp,(((Below.refl _ w).alloc (Nat.le_refl _) _).alloc (by simp) _).trans (B1.out.mono (by simp;omega))⟩
 rcases hm:may a b with _|_
 · rw [hs] at HS;rw [hm] at HM;have hv:vd (true&&false) n u d a b=(0,false):=if_pos rfl;rw [hv];clear hs hm hv;go_enter Tryz.func74,Tryz.ntmps74;go_wp2_with fail;refine (HS.out _).mono ?_;rintro r w1 ⟨rfl,hb1⟩;have hz1:=hb1.size;simp at hz1;obtain ⟨hc1,hf1⟩:=bcell hb1;have B1:=qsd hb1;clear hb1;go_wp2_with fail;refine (HM.out _).mono ?_;rintro r w2 ⟨rfl,hb2⟩;have hz2:=hb2.size;obtain ⟨hc2,hf2⟩:=bcell hb2;have hc3:∀ b o,b<w.heap.size+1+1→w2.cell? ⟨b,o,none⟩=w1.cell? ⟨b,o,none⟩:=fun b o h=>hc2 b o (by omega);have B2:=qsd hb2;clear hb2 hc2 hf2;go_wp2
   go_ret2
   exact ⟨by first | rfl | simp,((((Below.refl _ w).alloc (Nat.le_refl _) _).alloc (by simp) _).trans (B1.out.mono (by simp;omega))).trans (B2.out.mono (by omega))⟩
 rw [hs] at HS;rw [hm] at HM;rw [Bool.true_and];clear hs hm
 have way1:0<n→a=0→Calls Tryz.prog 74 #[.agg #[.int .i64 n,.int .i64 u,.int .i64 d,.int .i64 m,.int .i64 p,.int .i64 l],.agg #[.int .i64 a,.int .i64 b]] w fun r w'=>r=.returned (.tuple #[.float .f64 (vd true n u d a b).1,.bool (vd true n u d a b).2])∧Below w.heap.size w w':=by
  intro p1 p2;have hv:vd true n u d a b=(9221120237041090560,true):=by unfold vd;rw [if_neg (by decide),if_pos ⟨p1,p2⟩]
  rw [hv];clear hv;have q1:0<n:=p1;have q2:a=0:=p2;subst q2;go_enter Tryz.func74,Tryz.ntmps74;go_wp2_with fail;refine (HS.out _).mono ?_;rintro r w1 ⟨rfl,hb1⟩;have hz1:=hb1.size;simp at hz1;obtain ⟨hc1,hf1⟩:=bcell hb1;have B1:=qsd hb1;clear hb1;go_wp2_with fail;refine (HM.out _).mono ?_;rintro r w2 ⟨rfl,hb2⟩;have hz2:=hb2.size;obtain ⟨hc2,hf2⟩:=bcell hb2;have hc3:∀ b o,b<w.heap.size+1+1→w2.cell? ⟨b,o,none⟩=w1.cell? ⟨b,o,none⟩:=fun b o h=>hc2 b o (by omega);have B2:=qsd hb2;clear hb2 hc2 hf2;go_wp2_with fail;refine (HN.out _).mono ?_;rintro r w3 ⟨rfl,rfl⟩;go_wp2
  go_ret2
  exact ⟨by first | rfl | simp,((((Below.refl _ w).alloc (Nat.le_refl _) _).alloc (by simp) _).trans (B1.out.mono (by simp;omega))).trans (B2.out.mono (by omega))⟩
 have way2:0<n→¬ (a=0)→¬ (b=0)→Calls Tryz.prog 74 #[.agg #[.int .i64 n,.int .i64 u,.int .i64 d,.int .i64 m,.int .i64 p,.int .i64 l],.agg #[.int .i64 a,.int .i64 b]] w fun r w'=>r=.returned (.tuple #[.float .f64 (vd true n u d a b).1,.bool (vd true n u d a b).2])∧Below w.heap.size w w':=by
  intro p1 p2 p3;have hv:vd true n u d a b=(0,false):=by unfold vd;rw [if_neg (by decide),if_neg (fun h=>p2 h.2),if_pos p3]
  rw [hv];clear hv;have q1:0<n:=p1;have q2:(a==0)=false:=by rw [beq_eq_false_iff_ne];exact p2
  have q3:(b==0)=false:=by rw [beq_eq_false_iff_ne];exact p3
  go_enter Tryz.func74,Tryz.ntmps74;go_wp2_with fail;refine (HS.out _).mono ?_;rintro r w1 ⟨rfl,hb1⟩;have hz1:=hb1.size;simp at hz1;obtain ⟨hc1,hf1⟩:=bcell hb1;have B1:=qsd hb1;clear hb1;go_wp2_with fail;refine (HM.out _).mono ?_;rintro r w2 ⟨rfl,hb2⟩;have hz2:=hb2.size;obtain ⟨hc2,hf2⟩:=bcell hb2;have hc3:∀ b o,b<w.heap.size+1+1→w2.cell? ⟨b,o,none⟩=w1.cell? ⟨b,o,none⟩:=fun b o h=>hc2 b o (by omega);have B2:=qsd hb2;clear hb2 hc2 hf2;go_wp2
  go_ret2
  exact ⟨by first | rfl | simp,((((Below.refl _ w).alloc (Nat.le_refl _) _).alloc (by simp) _).trans (B1.out.mono (by simp;omega))).trans (B2.out.mono (by omega))⟩
 have way3:0<n→¬ (a=0)→b=0→0<u→0<d→Calls Tryz.prog 74 #[.agg #[.int .i64 n,.int .i64 u,.int .i64 d,.int .i64 m,.int .i64 p,.int .i64 l],.agg #[.int .i64 a,.int .i64 b]] w fun r w'=>r=.returned (.tuple #[.float .f64 (vd true n u d a b).1,.bool (vd true n u d a b).2])∧Below w.heap.size w w':=by
  intro p1 p2 p3 p4 p5;have hv:vd true n u d a b=(9221120237041090560,true):=by unfold vd;rw [if_neg (by decide),if_neg (fun h=>p2 h.2),if_neg (not_not_intro p3),if_pos ⟨p4,p5⟩]
  rw [hv];clear hv;have q1:0<n:=p1;have q2:(a==0)=false:=by rw [beq_eq_false_iff_ne];exact p2
  have q3:b=0:=p3;have q4:0<u:=p4;have q5:0<d:=p5;subst q3;go_enter Tryz.func74,Tryz.ntmps74;go_wp2_with fail;refine (HS.out _).mono ?_;rintro r w1 ⟨rfl,hb1⟩;have hz1:=hb1.size;simp at hz1;obtain ⟨hc1,hf1⟩:=bcell hb1;have B1:=qsd hb1;clear hb1;go_wp2_with fail;refine (HM.out _).mono ?_;rintro r w2 ⟨rfl,hb2⟩;have hz2:=hb2.size;obtain ⟨hc2,hf2⟩:=bcell hb2;have hc3:∀ b o,b<w.heap.size+1+1→w2.cell? ⟨b,o,none⟩=w1.cell? ⟨b,o,none⟩:=fun b o h=>hc2 b o (by omega);have B2:=qsd hb2;clear hb2 hc2 hf2;go_wp2_with fail;refine (HN.out _).mono ?_;rintro r w3 ⟨rfl,rfl⟩;go_wp2
  go_ret2
  exact ⟨by first | rfl | simp,((((Below.refl _ w).alloc (Nat.le_refl _) _).alloc (by simp) _).trans (B1.out.mono (by simp;omega))).trans (B2.out.mono (by omega))⟩
 have way4:0<n→¬ (a=0)→b=0→0<u→¬ (0<d)→Calls Tryz.prog 74 #[.agg #[.int .i64 n,.int .i64 u,.int .i64 d,.int .i64 m,.int .i64 p,.int .i64 l],.agg #[.int .i64 a,.int .i64 b]] w fun r w'=>r=.returned (.tuple #[.float .f64 (vd true n u d a b).1,.bool (vd true n u d a b).2])∧Below w.heap.size w w':=by
  intro p1 p2 p3 p4 p5;have hv:vd true n u d a b=(9218868437227405312,true):=by unfold vd;rw [if_neg (by decide),if_neg (fun h=>p2 h.2),if_neg (not_not_intro p3),if_neg (fun h=>p5 h.2),if_pos p4]
  rw [hv];clear hv;have q1:0<n:=p1;have q2:(a==0)=false:=by rw [beq_eq_false_iff_ne];exact p2
  have q3:b=0:=p3;have q4:0<u:=p4;have q5:decide (0<d)=false:=decide_eq_false p5;subst q3;go_enter Tryz.func74,Tryz.ntmps74;go_wp2_with fail;refine (HS.out _).mono ?_;rintro r w1 ⟨rfl,hb1⟩;have hz1:=hb1.size;simp at hz1;obtain ⟨hc1,hf1⟩:=bcell hb1;have B1:=qsd hb1;clear hb1;go_wp2_with fail;refine (HM.out _).mono ?_;rintro r w2 ⟨rfl,hb2⟩;have hz2:=hb2.size;obtain ⟨hc2,hf2⟩:=bcell hb2;have hc3:∀ b o,b<w.heap.size+1+1→w2.cell? ⟨b,o,none⟩=w1.cell? ⟨b,o,none⟩:=fun b o h=>hc2 b o (by omega);have B2:=qsd hb2;clear hb2 hc2 hf2;go_wp2_with fail;refine (HU.out _).mono ?_;rintro r w3 ⟨rfl,rfl⟩;go_wp2
  go_ret2
  exact ⟨by first | rfl | simp,((((Below.refl _ w).alloc (Nat.le_refl _) _).alloc (by simp) _).trans (B1.out.mono (by simp;omega))).trans (B2.out.mono (by omega))⟩
 have way5:0<n→¬ (a=0)→b=0→¬ (0<u)→0<d→Calls Tryz.prog 74 #[.agg #[.int .i64 n,.int .i64 u,.int .i64 d,.int .i64 m,.int .i64 p,.int .i64 l],.agg #[.int .i64 a,.int .i64 b]] w fun r w'=>r=.returned (.tuple #[.float .f64 (vd true n u d a b).1,.bool (vd true n u d a b).2])∧Below w.heap.size w w':=by
  intro p1 p2 p3 p4 p5;have hv:vd true n u d a b=(18442240474082181120,true):=by unfold vd;rw [if_neg (by decide),if_neg (fun h=>p2 h.2),if_neg (not_not_intro p3),if_neg (fun h=>p4 h.1),if_neg p4,if_pos p5]
  rw [hv];clear hv;have q1:0<n:=p1;have q2:(a==0)=false:=by rw [beq_eq_false_iff_ne];exact p2
  have q3:b=0:=p3;have q4:decide (0<u)=false:=decide_eq_false p4;have q5:0<d:=p5;subst q3;go_enter Tryz.func74,Tryz.ntmps74;go_wp2_with fail;refine (HS.out _).mono ?_;rintro r w1 ⟨rfl,hb1⟩;have hz1:=hb1.size;simp at hz1;obtain ⟨hc1,hf1⟩:=bcell hb1;have B1:=qsd hb1;clear hb1;go_wp2_with fail;refine (HM.out _).mono ?_;rintro r w2 ⟨rfl,hb2⟩;have hz2:=hb2.size;obtain ⟨hc2,hf2⟩:=bcell hb2;have hc3:∀ b o,b<w.heap.size+1+1→w2.cell? ⟨b,o,none⟩=w1.cell? ⟨b,o,none⟩:=fun b o h=>hc2 b o (by omega);have B2:=qsd hb2;clear hb2 hc2 hf2;go_wp2_with fail;refine (HD.out _).mono ?_;rintro r w3 ⟨rfl,rfl⟩;go_wp2
  go_ret2
  exact ⟨by first | rfl | simp,((((Below.refl _ w).alloc (Nat.le_refl _) _).alloc (by simp) _).trans (B1.out.mono (by simp;omega))).trans (B2.out.mono (by omega))⟩
 have way6:0<n→¬ (a=0)→b=0→¬ (0<u)→¬ (0<d)→Calls Tryz.prog 74 #[.agg #[.int .i64 n,.int .i64 u,.int .i64 d,.int .i64 m,.int .i64 p,.int .i64 l],.agg #[.int .i64 a,.int .i64 b]] w fun r w'=>r=.returned (.tuple #[.float .f64 (vd true n u d a b).1,.bool (vd true n u d a b).2])∧Below w.heap.size w w':=by
  intro p1 p2 p3 p4 p5;have hv:vd true n u d a b=(0,false):=by unfold vd;rw [if_neg (by decide),if_neg (fun h=>p2 h.2),if_neg (not_not_intro p3),if_neg (fun h=>p4 h.1),if_neg p4,if_neg p5]
  rw [hv];clear hv;have q1:0<n:=p1;have q2:(a==0)=false:=by rw [beq_eq_false_iff_ne];exact p2
  have q3:b=0:=p3;have q4:decide (0<u)=false:=decide_eq_false p4;have q5:decide (0<d)=false:=decide_eq_false p5;subst q3;go_enter Tryz.func74,Tryz.ntmps74;go_wp2_with fail;refine (HS.out _).mono ?_;rintro r w1 ⟨rfl,hb1⟩;have hz1:=hb1.size;simp at hz1;obtain ⟨hc1,hf1⟩:=bcell hb1;have B1:=qsd hb1;clear hb1;go_wp2_with fail;refine (HM.out _).mono ?_;rintro r w2 ⟨rfl,hb2⟩;have hz2:=hb2.size;obtain ⟨hc2,hf2⟩:=bcell hb2;have hc3:∀ b o,b<w.heap.size+1+1→w2.cell? ⟨b,o,none⟩=w1.cell? ⟨b,o,none⟩:=fun b o h=>hc2 b o (by omega);have B2:=qsd hb2;clear hb2 hc2 hf2;go_wp2
  go_ret2
  exact ⟨by first | rfl | simp,((((Below.refl _ w).alloc (Nat.le_refl _) _).alloc (by simp) _).trans (B1.out.mono (by simp;omega))).trans (B2.out.mono (by omega))⟩
 have way7:¬ (0<n)→¬ (b=0)→Calls Tryz.prog 74 #[.agg #[.int .i64 n,.int .i64 u,.int .i64 d,.int .i64 m,.int .i64 p,.int .i64 l],.agg #[.int .i64 a,.int .i64 b]] w fun r w'=>r=.returned (.tuple #[.float .f64 (vd true n u d a b).1,.bool (vd true n u d a b).2])∧Below w.heap.size w w':=by
  intro p1 p3;have hv:vd true n u d a b=(0,false):=by unfold vd;rw [if_neg (by decide),if_neg (fun h=>p1 h.1),if_pos p3]
  rw [hv];clear hv;have q1:decide (0<n)=false:=decide_eq_false p1;have q3:(b==0)=false:=by rw [beq_eq_false_iff_ne];exact p3
  go_enter Tryz.func74,Tryz.ntmps74;go_wp2_with fail;refine (HS.out _).mono ?_;rintro r w1 ⟨rfl,hb1⟩;have hz1:=hb1.size;simp at hz1;obtain ⟨hc1,hf1⟩:=bcell hb1;have B1:=qsd hb1;clear hb1;go_wp2_with fail;refine (HM.out _).mono ?_;rintro r w2 ⟨rfl,hb2⟩;have hz2:=hb2.size;obtain ⟨hc2,hf2⟩:=bcell hb2;have hc3:∀ b o,b<w.heap.size+1+1→w2.cell? ⟨b,o,none⟩=w1.cell? ⟨b,o,none⟩:=fun b o h=>hc2 b o (by omega);have B2:=qsd hb2;clear hb2 hc2 hf2;go_wp2
  go_ret2
  exact ⟨by first | rfl | simp,((((Below.refl _ w).alloc (Nat.le_refl _) _).alloc (by simp) _).trans (B1.out.mono (by simp;omega))).trans (B2.out.mono (by omega))⟩
 have way8:¬ (0<n)→b=0→0<u→0<d→Calls Tryz.prog 74 #[.agg #[.int .i64 n,.int .i64 u,.int .i64 d,.int .i64 m,.int .i64 p,.int .i64 l],.agg #[.int .i64 a,.int .i64 b]] w fun r w'=>r=.returned (.tuple #[.float .f64 (vd true n u d a b).1,.bool (vd true n u d a b).2])∧Below w.heap.size w w':=by
  intro p1 p3 p4 p5;have hv:vd true n u d a b=(9221120237041090560,true):=by unfold vd;rw [if_neg (by decide),if_neg (fun h=>p1 h.1),if_neg (not_not_intro p3),if_pos ⟨p4,p5⟩]
  rw [hv];clear hv;have q1:decide (0<n)=false:=decide_eq_false p1;have q3:b=0:=p3;have q4:0<u:=p4;have q5:0<d:=p5;subst q3;go_enter Tryz.func74,Tryz.ntmps74;go_wp2_with fail;refine (HS.out _).mono ?_;rintro r w1 ⟨rfl,hb1⟩;have hz1:=hb1.size;simp at hz1;obtain ⟨hc1,hf1⟩:=bcell hb1;have B1:=qsd hb1;clear hb1;go_wp2_with fail;refine (HM.out _).mono ?_;rintro r w2 ⟨rfl,hb2⟩;have hz2:=hb2.size;obtain ⟨hc2,hf2⟩:=bcell hb2;have hc3:∀ b o,b<w.heap.size+1+1→w2.cell? ⟨b,o,none⟩=w1.cell? ⟨b,o,none⟩:=fun b o h=>hc2 b o (by omega);have B2:=qsd hb2;clear hb2 hc2 hf2;go_wp2_with fail;refine (HN.out _).mono ?_;rintro r w3 ⟨rfl,rfl⟩;go_wp2
  go_ret2
  exact ⟨by first | rfl | simp,((((Below.refl _ w).alloc (Nat.le_refl _) _).alloc (by simp) _).trans (B1.out.mono (by simp;omega))).trans (B2.out.mono (by omega))⟩
 have way9:¬ (0<n)→b=0→0<u→¬ (0<d)→Calls Tryz.prog 74 #[.agg #[.int .i64 n,.int .i64 u,.int .i64 d,.int .i64 m,.int .i64 p,.int .i64 l],.agg #[.int .i64 a,.int .i64 b]] w fun r w'=>r=.returned (.tuple #[.float .f64 (vd true n u d a b).1,.bool (vd true n u d a b).2])∧Below w.heap.size w w':=by
  intro p1 p3 p4 p5;have hv:vd true n u d a b=(9218868437227405312,true):=by unfold vd;rw [if_neg (by decide),if_neg (fun h=>p1 h.1),if_neg (not_not_intro p3),if_neg (fun h=>p5 h.2),if_pos p4]
  rw [hv];clear hv;have q1:decide (0<n)=false:=decide_eq_false p1;have q3:b=0:=p3;have q4:0<u:=p4;have q5:decide (0<d)=false:=decide_eq_false p5;subst q3;go_enter Tryz.func74,Tryz.ntmps74;go_wp2_with fail;refine (HS.out _).mono ?_;rintro r w1 ⟨rfl,hb1⟩;have hz1:=hb1.size;simp at hz1;obtain ⟨hc1,hf1⟩:=bcell hb1;have B1:=qsd hb1;clear hb1;go_wp2_with fail;refine (HM.out _).mono ?_;rintro r w2 ⟨rfl,hb2⟩;have hz2:=hb2.size;obtain ⟨hc2,hf2⟩:=bcell hb2;have hc3:∀ b o,b<w.heap.size+1+1→w2.cell? ⟨b,o,none⟩=w1.cell? ⟨b,o,none⟩:=fun b o h=>hc2 b o (by omega);have B2:=qsd hb2;clear hb2 hc2 hf2;go_wp2_with fail;refine (HU.out _).mono ?_;rintro r w3 ⟨rfl,rfl⟩;go_wp2
  go_ret2
  exact ⟨by first | rfl | simp,((((Below.refl _ w).alloc (Nat.le_refl _) _).alloc (by simp) _).trans (B1.out.mono (by simp;omega))).trans (B2.out.mono (by omega))⟩
 have way10:¬ (0<n)→b=0→¬ (0<u)→0<d→Calls Tryz.prog 74 #[.agg #[.int .i64 n,.int .i64 u,.int .i64 d,.int .i64 m,.int .i64 p,.int .i64 l],.agg #[.int .i64 a,.int .i64 b]] w fun r w'=>r=.returned (.tuple #[.float .f64 (vd true n u d a b).1,.bool (vd true n u d a b).2])∧Below w.heap.size w w':=by
  intro p1 p3 p4 p5;have hv:vd true n u d a b=(18442240474082181120,true):=by unfold vd;rw [if_neg (by decide),if_neg (fun h=>p1 h.1),if_neg (not_not_intro p3),if_neg (fun h=>p4 h.1),if_neg p4,if_pos p5]
  rw [hv];clear hv;have q1:decide (0<n)=false:=decide_eq_false p1;have q3:b=0:=p3;have q4:decide (0<u)=false:=decide_eq_false p4;have q5:0<d:=p5;subst q3;go_enter Tryz.func74,Tryz.ntmps74;go_wp2_with fail;refine (HS.out _).mono ?_;rintro r w1 ⟨rfl,hb1⟩;have hz1:=hb1.size;simp at hz1;obtain ⟨hc1,hf1⟩:=bcell hb1;have B1:=qsd hb1;clear hb1;go_wp2_with fail;refine (HM.out _).mono ?_;rintro r w2 ⟨rfl,hb2⟩;have hz2:=hb2.size;obtain ⟨hc2,hf2⟩:=bcell hb2;have hc3:∀ b o,b<w.heap.size+1+1→w2.cell? ⟨b,o,none⟩=w1.cell? ⟨b,o,none⟩:=fun b o h=>hc2 b o (by omega);have B2:=qsd hb2;clear hb2 hc2 hf2;go_wp2_with fail;refine (HD.out _).mono ?_;rintro r w3 ⟨rfl,rfl⟩;go_wp2
  go_ret2
  exact ⟨by first | rfl | simp,((((Below.refl _ w).alloc (Nat.le_refl _) _).alloc (by simp) _).trans (B1.out.mono (by simp;omega))).trans (B2.out.mono (by omega))⟩
 have way11:¬ (0<n)→b=0→¬ (0<u)→¬ (0<d)→Calls Tryz.prog 74 #[.agg #[.int .i64 n,.int .i64 u,.int .i64 d,.int .i64 m,.int .i64 p,.int .i64 l],.agg #[.int .i64 a,.int .i64 b]] w fun r w'=>r=.returned (.tuple #[.float .f64 (vd true n u d a b).1,.bool (vd true n u d a b).2])∧Below w.heap.size w w':=by
  intro p1 p3 p4 p5;have hv:vd true n u d a b=(0,false):=by unfold vd;rw [if_neg (by decide),if_neg (fun h=>p1 h.1),if_neg (not_not_intro p3),if_neg (fun h=>p4 h.1),if_neg p4,if_neg p5]
  rw [hv];clear hv;have q1:decide (0<n)=false:=decide_eq_false p1;have q3:b=0:=p3;have q4:decide (0<u)=false:=decide_eq_false p4;have q5:decide (0<d)=false:=decide_eq_false p5;subst q3;go_enter Tryz.func74,Tryz.ntmps74;go_wp2_with fail;refine (HS.out _).mono ?_;rintro r w1 ⟨rfl,hb1⟩;have hz1:=hb1.size;simp at hz1;obtain ⟨hc1,hf1⟩:=bcell hb1;have B1:=qsd hb1;clear hb1;go_wp2_with fail;refine (HM.out _).mono ?_;rintro r w2 ⟨rfl,hb2⟩;have hz2:=hb2.size;obtain ⟨hc2,hf2⟩:=bcell hb2;have hc3:∀ b o,b<w.heap.size+1+1→w2.cell? ⟨b,o,none⟩=w1.cell? ⟨b,o,none⟩:=fun b o h=>hc2 b o (by omega);have B2:=qsd hb2;clear hb2 hc2 hf2;go_wp2
  go_ret2
  exact ⟨by first | rfl | simp,((((Below.refl _ w).alloc (Nat.le_refl _) _).alloc (by simp) _).trans (B1.out.mono (by simp;omega))).trans (B2.out.mono (by omega))⟩
 by_cases p1:0<n
 · by_cases p2:a=0
   · exact way1 p1 p2
   · by_cases p3:b=0
     · by_cases p4:0<u <;> by_cases p5:0<d
       · exact way3 p1 p2 p3 p4 p5
       · exact way4 p1 p2 p3 p4 p5
       · exact way5 p1 p2 p3 p4 p5
       · exact way6 p1 p2 p3 p4 p5
     · exact way2 p1 p2 p3
 · by_cases p3:b=0
   · by_cases p4:0<u <;> by_cases p5:0<d
     · exact way8 p1 p3 p4 p5
     · exact way9 p1 p3 p4 p5
     · exact way10 p1 p3 p4 p5
     · exact way11 p1 p3 p4 p5
   · exact way7 p1 p3
end
section
open Go.RowKit
open Go.Proofs.YtepkabljmpbmaaaGreatDoor.B (f64bits f64frombits bw bcell)
attribute [local go_sem] f64bits f64frombits
theorem Nought_any (n u d m p l mode:Int) (w:World):Calls Tryz.prog 75 #[.agg #[.int .i64 n,.int .i64 u,.int .i64 d,.int .i64 m,.int .i64 p,.int .i64 l],.int .i64 mode] w fun r w'=>r=.returned (.float .f64 (nt (snd n u d m p l) n u d m p l mode))∧Below w.heap.size w w':=by
 have HS:=hid (sound_any n u d m p l);have HM:=hid (minus_any);rcases hs:snd n u d m p l with _|_
 · rw [hs] at HS;have hv:nt false n u d m p l mode=0:=if_pos rfl;rw [hv];clear hs hv;go_enter Tryz.func75,Tryz.ntmps75;go_wp2_with fail;refine (HS.out _).mono ?_;rintro r w1 ⟨rfl,hb1⟩;have hz1:=hb1.size;simp at hz1;obtain ⟨hc1,hf1⟩:=bcell hb1;have B1:=qsd hb1;clear hb1;go_wp2;go_ret;exact ⟨by first | rfl | simp,((Below.refl _ w).alloc (Nat.le_refl _) _).trans (B1.out.mono (by simp))⟩
 have bd:=snd_bd hs;rw [hs] at HS;obtain ⟨f,hf⟩:∃ f,l-n-u-d=f:=⟨_,rfl⟩;have hfb:-9223372036854775808≤f∧f≤9223372036854775807:=by omega
 have hb1:0≤n∧n≤1099511627776:=bd.1;have hb2:0≤u∧u≤1099511627776:=bd.2.1;have hb3:0≤d∧d≤1099511627776:=bd.2.2.1;have hb4:0≤l∧l≤1099511627776:=bd.2.2.2;unfold nt;rw [if_neg (by decide),hf];clear hs bd
 by_cases p1:f=0
 · rw [if_pos p1];have q1:(f==0)=true:=by rw [beq_iff_eq];exact p1
   clear p1;go_enter Tryz.func75,Tryz.ntmps75;go_wp2_with fail;refine (HS.out _).mono ?_;rintro r w1 ⟨rfl,hb1⟩;have hz1:=hb1.size;simp at hz1;obtain ⟨hc1,hf1⟩:=bcell hb1;have B1:=qsd hb1;clear hb1;go_wp2_with fail;refine (HM.out _).mono ?_;rintro r w3 ⟨rfl,rfl⟩;go_wp2;go_ret;exact ⟨by first | rfl | simp,((Below.refl _ w).alloc (Nat.le_refl _) _).trans (B1.out.mono (by simp))⟩
 rw [if_neg p1];have q1:(f==0)=false:=by rw [beq_eq_false_iff_ne];exact p1
 clear p1
 by_cases p2:m=f
 · rw [if_pos p2];have q2:(m==f)=true:=by rw [beq_iff_eq];exact p2
   clear p2;go_enter Tryz.func75,Tryz.ntmps75;go_wp2_with fail;refine (HS.out _).mono ?_;rintro r w1 ⟨rfl,hb1⟩;have hz1:=hb1.size;simp at hz1;obtain ⟨hc1,hf1⟩:=bcell hb1;have B1:=qsd hb1;clear hb1;go_wp2_with fail;refine (HM.out _).mono ?_;rintro r w3 ⟨rfl,rfl⟩;go_wp2;go_ret;exact ⟨by first | rfl | simp,((Below.refl _ w).alloc (Nat.le_refl _) _).trans (B1.out.mono (by simp))⟩
 rw [if_neg p2];have q2:(m==f)=false:=by rw [beq_eq_false_iff_ne];exact p2
 clear p2
 by_cases p3:p=f
 · rw [if_pos p3];have q3:(p==f)=true:=by rw [beq_iff_eq];exact p3
   clear p3;go_enter Tryz.func75,Tryz.ntmps75;go_wp2_with fail;refine (HS.out _).mono ?_;rintro r w1 ⟨rfl,hb1⟩;have hz1:=hb1.size;simp at hz1;obtain ⟨hc1,hf1⟩:=bcell hb1;have B1:=qsd hb1;clear hb1;go_wp2_with fail;refine (HM.out _).mono ?_;rintro r w3 ⟨rfl,rfl⟩;go_wp2;go_ret;exact ⟨by first | rfl | simp,((Below.refl _ w).alloc (Nat.le_refl _) _).trans (B1.out.mono (by simp))⟩
 rw [if_neg p3];have q3:(p==f)=false:=by rw [beq_eq_false_iff_ne];exact p3
 clear p3
 by_cases p4:mode=3
 · rw [if_pos p4];subst p4;go_enter Tryz.func75,Tryz.ntmps75;go_wp2_with fail;refine (HS.out _).mono ?_;rintro r w1 ⟨rfl,hb1⟩;have hz1:=hb1.size;simp at hz1;obtain ⟨hc1,hf1⟩:=bcell hb1;have B1:=qsd hb1;clear hb1;go_wp2_with fail;refine (HM.out _).mono ?_;rintro r w3 ⟨rfl,rfl⟩;go_wp2;go_ret;exact ⟨by first | rfl | simp,((Below.refl _ w).alloc (Nat.le_refl _) _).trans (B1.out.mono (by simp))⟩
 · rw [if_neg p4];have q4:(mode==3)=false:=by rw [beq_eq_false_iff_ne];exact p4
   clear p4;go_enter Tryz.func75,Tryz.ntmps75;go_wp2_with fail;refine (HS.out _).mono ?_;rintro r w1 ⟨rfl,hb1⟩;have hz1:=hb1.size;simp at hz1;obtain ⟨hc1,hf1⟩:=bcell hb1;have B1:=qsd hb1;clear hb1;go_wp2_with fail;refine (HM.out _).mono ?_;rintro r w3 ⟨rfl,rfl⟩;go_wp2;go_ret;exact ⟨by first | rfl | simp,((Below.refl _ w).alloc (Nat.le_refl _) _).trans (B1.out.mono (by simp))⟩
end
section
open Go.RowKit
def ahd (V:Int) (s:Sp) (mode a b:Int):Nat×Bool×Int :=
 if (vd (snd s.n s.u s.d s.m s.p s.a&&may a b) s.n s.u s.d a b).2 then ((vd (snd s.n s.u s.d s.m s.p s.a&&may a b) s.n s.u s.d a b).1,true,0)
 else if V=0 then (nt (snd s.n s.u s.d s.m s.p s.a) s.n s.u s.d s.m s.p s.a mode,true,0) else (0,false,0)
theorem zero_words (L:List Nat) (V:Int) (hl:L.length=133) (hL:Wf L) (hv:(val L:Int)=V%(PB:Int)) (h0:-(HB:Int)<V) (h1:V<(HB:Int)):decide (L=List.replicate 133 0)=decide (V=0):=by
 rw [decide_eq_decide];have e:=PB_HB;constructor
 · intro h;rw [h,val_zeros] at hv;have h2:=Int.emod_emod_of_dvd V (Int.dvd_refl (PB:Int));have h3:(PB:Int) ∣ V:=Int.dvd_of_emod_eq_zero (by simpa using hv.symm);obtain ⟨k,hk⟩:=h3
   by_cases hk0:k=0
   · rw [hk,hk0];simp
   · have hp:=HB_pos
     have:(PB:Int)≤V∨V≤-(PB:Int):=by
      rcases Int.lt_or_gt_of_ne hk0 with h|h
      · right
        have:(PB:Int)*k≤(PB:Int)*(-1):=Int.mul_le_mul_of_nonneg_left (by omega) (by omega);omega
      · left
        have:(PB:Int)*1≤(PB:Int)*k:=Int.mul_le_mul_of_nonneg_left (by omega) (by omega);omega
     omega
 · rintro rfl;refine val_inj (by simp [hl]) hL (Wf.zeros 133) ?_;rw [val_zeros];simpa using hv
theorem ahead7 (g:Nat) (V:Int) (s:Sp) (mode a b:Int) (w:World) (hA:Acc7 w g V s) (hs:s.ok) (hm0:0≤mode) (hm1:mode≤4) (hab:may a b=true) (ha:a≠2) (hb:b≠2) :
 Calls Tryz.prog 53 #[.pointer (some ⟨g,0,none⟩),.int .i64 mode,.agg #[.int .i64 a,.int .i64 b]] w fun r w'=>r=.returned (.tuple #[.float .f64 (ahd V s mode a b).1,.bool (ahd V s mode a b).2.1,.int .i64 (ahd V s mode a b).2.2])∧Below w.heap.size w w':=by
 obtain ⟨⟨X,tl,er⟩,hX⟩:∃ X,X=ahd V s mode a b:=⟨_,rfl⟩;rw [←hX];simp only;obtain ⟨L,a1,a2,a3,a4,a5,a6⟩:=hA;have hz:=zero_words L V a1 a2 a3 a4 a5;obtain ⟨n,u,d,m,p,l⟩:=s;have HM:=hid (fun u:World=>May_any a b u);rw [hab] at HM;have HV:=hid (fun w:World=>Verdict_any n u d m p l a b w);have HN:=hid (fun w:World=>Nought_any n u d m p l mode w);obtain ⟨⟨vx,vt⟩,hvd⟩:∃ v,v=vd (snd n u d m p l&&may a b) n u d a b:=⟨_,rfl⟩;obtain ⟨nx,hnt⟩:∃ v,v=nt (snd n u d m p l) n u d m p l mode:=⟨_,rfl⟩;rw [←hvd] at HV;rw [←hnt] at HN;simp only at HV;simp only [ahd] at hX;rw [←hvd,←hnt] at hX;simp only at hX;have HX:=qsd hX;have HA:=qsd (ai a1 (ai a6 hz));have hlt:=a6.lt;have hne:g≠w.heap.size:=Nat.ne_of_lt hlt;have hne1:g≠w.heap.size+1:=by omega
 have c0:=a6.cell a1 0 _ rfl;have c1:=a6.cell a1 1 _ rfl;have c2:=a6.cell a1 2 _ rfl;have c3:=a6.cell a1 3 _ rfl;have c4:=a6.cell a1 4 _ rfl;have c5:=a6.cell a1 5 _ rfl;obtain ⟨h0,h1,h2,h3,h4,h5⟩:=hs;have ha':(a==2)=false:=by simpa using ha
 have hb':(b==2)=false:=by simpa using hb
 have b0:decide (mode<0)=false:=by simp;omega
 have b1:decide (4<mode)=false:=by simp;omega
 clear a1 a2 a3 a4 a5 a6 hX hvd hnt hab ha hb hz;go_enter Tryz.func53,Tryz.ntmps53;go_wp2_with fail;refine (HM.out _).mono ?_;rintro r w1 ⟨rfl,hb1⟩;have hz1:w.heap.size+1<w1.heap.size:=by have:=hb1.size;simp at this;omega
 have B1:=qsd hb1
 have P1:Aside (Bl w1 w.heap.size 35 [.int .i64 a,.int .i64 b]∧Bl w1 (w.heap.size+1) 85 [.int .i64 n,.int .i64 u,.int .i64 d,.int .i64 m,.int .i64 p,.int .i64 l]∧Below w.heap.size w w1∧Ac w1 g L ⟨n,u,d,m,p,l⟩):=by
  have e0:=(bel_alloc w (Obj.cells #[.int .i64 a,.int .i64 b] 35)).trans ((bel_alloc (w.alloc (Obj.cells #[.int .i64 a,.int .i64 b] 35)) (Obj.cells #[.int .i64 n,.int .i64 u,.int .i64 d,.int .i64 m,.int .i64 p,.int .i64 l] 85)).mono (by simp));have e1:=e0.trans (hb1.mono e0.size);exact ⟨(((Bl.new w 35 [_,_]).alloc _).below hb1 (by simp;omega)),((Bl.new' (w.alloc _) 85 _ [_,_,_,_,_,_] (by simp)).below hb1 (by simp)),e1,HA.out.2.1.below e1 HA.out.2.1.lt⟩
 clear hb1 c0 c1 c2 c3 c4 c5;have q0:=P1.out.1.cell 0 _ rfl;have q1:=P1.out.1.cell 1 _ rfl;have s0:=P1.out.2.1.cell 0 _ rfl;have s1:=P1.out.2.1.cell 1 _ rfl;have s2:=P1.out.2.1.cell 2 _ rfl;have s3:=P1.out.2.1.cell 3 _ rfl;have s4:=P1.out.2.1.cell 4 _ rfl;have s5:=P1.out.2.1.cell 5 _ rfl
 by_cases hn:0<n <;> by_cases hu:0<u+d
 all_goals (
  go_wp2_with fail;refine (HV.out _).mono ?_;rintro r w2 ⟨rfl,hb2⟩
  have P2:Aside (Bl w2 (w.heap.size+1) 85 [.int .i64 n,.int .i64 u,.int .i64 d,.int .i64 m,.int .i64 p,.int .i64 l]∧Below w.heap.size w w2∧Ac w2 g L ⟨n,u,d,m,p,l⟩) :=
   ⟨P1.out.2.1.below hb2 P1.out.2.1.lt,P1.out.2.2.1.trans (hb2.mono P1.out.2.2.1.size),P1.out.2.2.2.below hb2 P1.out.2.2.2.lt⟩
  clear hb2 q0 q1 s0 s1 s2 s3 s4 s5 hn hu
  cases vt
  · have s0:=P2.out.1.cell 0 _ rfl;have s1:=P2.out.1.cell 1 _ rfl;have s2:=P2.out.1.cell 2 _ rfl;have s3:=P2.out.1.cell 3 _ rfl;have s4:=P2.out.1.cell 4 _ rfl;have s5:=P2.out.1.cell 5 _ rfl
    go_wp2_with (first | (with_reducible refine wpList_load_mid (P:=Tryz.prog) rfl 83 (.tmp 57) rfl g 0 rfl (L.map U) _ P2.out.2.2.range Tryz.desc_words rfl (by simp [Tryz.size_words,HA.out.1]) ?_))
    rw [Tryz.nought_words,eq_words L _ w2 HA.out.1 (by simp),HA.out.2.2];generalize (List.replicate 133 0).map U=zz
    by_cases hV:V=0
    · rw [decide_eq_true hV];simp only [Result.andThen_ok,Oper.upon];have HX2:=qsd (show (X,tl,er)=(nx,true,0) by rw [HX.out,if_neg (by decide),if_pos hV]);clear hV;go_wp2_with fail;refine (HN.out _).mono ?_;rintro r w3 ⟨rfl,hb3⟩;have B3:=qsd hb3;clear hb3;go_wp2;refine bodyPost_ret (v:=.tuple #[.float .f64 nx,.bool true,.int .i64 0]) (by simp [results,Tryz.results53,go_sem]) rfl ?_;have e:=HX2.out
      cases e
      exact ⟨rfl,P2.out.2.1.trans (B3.out.mono P2.out.2.1.size)⟩
    · rw [decide_eq_false hV];simp only [Result.andThen_ok,Oper.upon];have HX2:=qsd (show (X,tl,er)=(0,false,0) by rw [HX.out,if_neg (by decide),if_neg hV]);clear hV;go_wp2;refine bodyPost_ret (v:=.tuple #[.float .f64 0,.bool false,.int .i64 0]) (by simp [results,Tryz.results53,go_sem]) rfl ?_;have e:=HX2.out
      cases e
      exact ⟨rfl,P2.out.2.1⟩
  · go_wp2;refine bodyPost_ret (v:=.tuple #[.float .f64 vx,.bool true,.int .i64 0]) (by simp [results,Tryz.results53,go_sem]) rfl ?_;have e:=HX.out;rw [if_pos trivial] at e
    cases e
    exact ⟨rfl,P2.out.2.1⟩)
end
section
open Go.RowKit
def rd7 (V:Int) (s:Sp) (mode a b:Int):Nat×Int :=
 if (ahd V s mode a b).2.1 then ((ahd V s mode a b).1,0) else rndS (mkS (dN (exV V)) (dX (exV V)) (dE (exV V))) mode
theorem ahd_er (V:Int) (s:Sp) (mode a b:Int):(ahd V s mode a b).2.2=0:=by
 unfold ahd
 split
 · rfl
 · split <;> rfl
theorem dX_small {V:Int}(h0:-(HB:Int)<V) (h1:V<(HB:Int)):(ws (dX (exV V))).length≤133:=by
 refine (ws_len_le _ 133).2 ?_;have e:pw 133=PB:=by unfold PB;rfl
 rw [e];have hp:=PB_HB;have hq:=HB_pos;refine Nat.lt_of_le_of_lt (m:=V.natAbs) ?_ (by omega);unfold exV mkS dX
 split
 · exact Nat.zero_le _
 · split
   · exact Nat.zero_le _
   · exact Nat.div_le_self _ _
theorem dE_small (V:Int):-9223372036854775808≤dE (exV V)∧dE (exV V)≤9223372036854775807:=by
 unfold exV mkS dE
 split
 · simp
 · split
   · simp
   · next h=>simp only [Option.getD_some];omega
theorem Round7 (g:Nat) (V:Int) (s:Sp) (mode a b:Int) (w:World) (hA:Acc7 w g V s) (hs:s.ok) (hT:Tab w) (hm0:0≤mode) (hm1:mode≤4) (hab:may a b=true) (ha:a≠2) (hb:b≠2) :
 Calls Tryz.prog 27 #[.pointer (some ⟨g,0,none⟩),.int .i64 mode,.agg #[.int .i64 a,.int .i64 b]] w fun r w'=>r=.returned (.tuple #[.float .f64 (rd7 V s mode a b).1,.int .i64 (rd7 V s mode a b).2])∧Below w.heap.size w w':=by
 obtain ⟨⟨X,er⟩,hX⟩:∃ X,X=rd7 V s mode a b:=⟨_,rfl⟩;rw [←hX];simp only;have hb0:=bel_alloc w (Obj.cells #[.int .i64 a,.int .i64 b] 35);have HH:=hid (ahead7 g V s mode a b _ (hA.bel hb0) hs hm0 hm1 hab ha hb);have her:=ahd_er V s mode a b;unfold rd7 at hX;obtain ⟨⟨ax,at',ae⟩,hAh⟩:∃ Y,Y=ahd V s mode a b:=⟨_,rfl⟩;rw [←hAh] at HH her hX;simp only at HH her hX;subst her;have HX:=qsd hX;have HA:=qsd (ai hA (ai hT hb0));clear hA hT hb0 hX hAh hs hab ha hb;go_enter Tryz.func27,Tryz.ntmps27;go_wp2_with fail;refine HH.out.mono ?_;rintro r w1 ⟨rfl,hb1⟩;have B1:=qsd (HA.out.2.2.trans (hb1.mono HA.out.2.2.size));clear hb1
 cases at'
 · go_wp2_with fail;refine (Exact7 g V s w1 (HA.out.1.bel B1.out) (HA.out.2.1.belows B1.out)).mono ?_;rintro r w2 ⟨v,rfl,hN,hb2⟩;obtain ⟨L,_,_,_,h0,h1,_⟩:=HA.out.1;obtain ⟨ad,c,rfl,AV⟩:=hN.arg (Nat.le_trans (dX_small h0 h1) (by decide));have HR:=hid (Round_any AV (HA.out.2.1.belows (B1.out.trans (hb2.mono B1.out.size))) (dN (exV V)) (dE (exV V)) mode (dE_small V).1 (dE_small V).2);rw [val_ws] at HR;have HX2:=HX.out;rw [if_neg (by decide)] at HX2;rw [←HX2] at HR;simp only at HR;have B2:=qsd (B1.out.trans (hb2.mono B1.out.size));clear hN hb2 AV h0 h1 HX2;go_wp2_with fail;refine HR.out.mono ?_;rintro r w3 ⟨rfl,hb3⟩;have B3:=qsd hb3;clear hb3;go_wp2;refine bodyPost_ret (v:=.tuple #[.float .f64 X,.int .i64 er]) (by simp [results,Tryz.results27,go_sem]) rfl ?_;exact ⟨rfl,B2.out.trans (B3.out.mono B2.out.size)⟩
 · go_wp2;have HX2:=HX.out;rw [if_pos trivial] at HX2
   cases HX2
   refine bodyPost_ret (v:=.tuple #[.float .f64 X,.int .i64 0]) (by simp [results,Tryz.results27,go_sem]) rfl ?_;exact ⟨rfl,B1.out⟩
end
section
open Go.RowKit
theorem Tryz.zero_acc:Tryz.zeroCells87=((List.replicate 133 0).map U++Sp.cells ⟨0,0,0,0,0,0⟩).toArray:=by kernel_rfl
theorem zero_acc7 {w:World}{g:Nat}(h:Bl w g 87 ((List.replicate 133 0).map U++Sp.cells ⟨0,0,0,0,0,0⟩)):Acc7 w g 0 ⟨0,0,0,0,0,0⟩ :=
 ⟨List.replicate 133 0,by simp,Wf.zeros 133,by rw [val_zeros];simp,by have:=HB_pos;omega,by have:=HB_pos;omega,h⟩
theorem New7 (w:World):Calls Tryz.prog 25 #[] w fun r w'=>r=.returned (.pointer (some ⟨w.heap.size,0,none⟩))∧Acc7 w' w.heap.size 0 ⟨0,0,0,0,0,0⟩∧Below w.heap.size w w':=by
 go_enter Tryz.func25,Tryz.ntmps25;go_wp2;go_ret;refine ⟨rfl,?_,bel_alloc _ _⟩;rw [Tryz.zero_acc];exact zero_acc7 (Bl.new _ _ _)
end
section
open Go.RowKit
open Go.Proofs.YtepkabljmpbmaaaGreatDoor.B (bw)
theorem pK_one:pK 4607182418800017408 4607182418800017408=0:=by decide
theorem pT_pow (x:Nat) (ng:Bool) (j k:Nat) (h:pK x 4607182418800017408=0) (hf:frW x=2^52) (hn:(!ngW x==ngW 4607182418800017408)=ng) (hj:(xpW x+xpW 4607182418800017408+2148).toNat=j) (hk:k=104+j):pT x 4607182418800017408=sgn7 ng (2^k):=by
 unfold pT;rw [pv7_yes h,hf,show frW 4607182418800017408=2^52 by decide,hn,hj,hk,←Nat.pow_add,←Nat.pow_add]
theorem pT_one (k:Nat) (hk:k=2148):pT 4607182418800017408 4607182418800017408=((2^k:Nat):Int):=by
 obtain ⟨j,hj⟩:∃ j,j=2044:=⟨_,rfl⟩;rw [pT_pow 4607182418800017408 false j k pK_one (by decide) (by decide) (by rw [hj];decide) (by omega)];rfl
theorem bl_double7 (X:Nat) (h:X≠0):bl (2*X)=bl X+1:=by
 have:=bl_mul_pow 1 X h;rw [Nat.pow_one] at this;omega
theorem lo_double7 (X:Nat) (h:X≠0):lo (2*X)=lo X+1:=by
 obtain ⟨m,hm⟩:=lo_form X h;obtain ⟨k,hk⟩:∃ k,lo X=k:=⟨_,rfl⟩;rw [hk] at hm ⊢;have e:2*X=2^(k+1)*(2*m+1):=by rw [hm,Nat.pow_succ];grind
 rw [e];exact lo_eq (k+1) m
theorem mkS_double7 (n:Bool) (X:Nat) (e:Int):mkS n (2*X) e=mkS n X (e+1):=by
 unfold mkS
 by_cases h:X=0
 · subst h;simp
 · rw [if_neg (by omega),if_neg h,lo_double7 X h,bl_double7 X h]
   have e1:2*X/2^(lo X+1)=X/2^lo X:=by
    rw [Nat.pow_succ,Nat.mul_comm (2^lo X) 2,Nat.mul_div_mul_left _ _ (by omega)]
   rw [e1];have e2:(262144<bl X+1-(lo X+1)∨1048576-((lo X+1:Nat):Int)<e∨e < -1048576-((lo X+1:Nat):Int))↔(262144<bl X-lo X∨1048576-(lo X:Int)<e+1∨e+1 < -1048576-(lo X:Int)):=by omega
   by_cases h2:262144<bl X-lo X∨1048576-(lo X:Int)<e+1∨e+1 < -1048576-(lo X:Int)
   · rw [if_pos h2,if_pos (e2.2 h2)]
   · rw [if_neg h2,if_neg (fun h3=>h2 (e2.1 h3))];congr 3;omega
theorem mkS_pow7 (n:Bool) (k:Nat):∀ e:Int,mkS n (2^k) e=mkS n 1 (e+k):=by
 induction k with
 | zero=>intro e;simp
 | succ k ih=>intro e;rw [Nat.pow_succ,Nat.mul_comm,mkS_double7,ih];congr 1;omega
end
section
open Go.RowKit
def QB:Nat:=HB/4398046511104
theorem QB_HB:HB=4398046511104*QB:=by
 obtain ⟨k,hk⟩:∃ k,k=4238:=⟨_,rfl⟩;obtain ⟨j,hj⟩:∃ j,j=4196:=⟨_,rfl⟩;unfold QB;rw [HB_two k hk,show k=42+j by omega,Nat.pow_add];have e:(2:Nat)^42=4398046511104:=by decide
 rw [e,Nat.mul_div_cancel_left _ (by decide)]
theorem QB_pos:0<QB:=by have:=QB_HB;have:=HB_pos;omega
theorem pT_small (x y:Nat) (hx:x<18446744073709551616) (hy:y<18446744073709551616):-(QB:Int)≤pT x y∧pT x y≤(QB:Int):=by
 have hp:=QB_pos
 have e2:∃ j,j=4196∧QB=2^j:=by
  obtain ⟨k,hk⟩:∃ k,k=4238:=⟨_,rfl⟩;obtain ⟨j,hj⟩:∃ j,j=4196:=⟨_,rfl⟩;refine ⟨j,hj,?_⟩;unfold QB;rw [HB_two k hk,show k=42+j by omega,Nat.pow_add];have e:(2:Nat)^42=4398046511104:=by decide
  rw [e,Nat.mul_div_cancel_left _ (by decide)]
 obtain ⟨j,hj,hq⟩:=e2;unfold pT pv7
 split
 · have f1:=fr_bound (eW x) (fW x) (bw_parts x hx).2.2;have f2:=fr_bound (eW y) (fW y) (bw_parts y hy).2.2;have x1:=xp_bound (eW x) (bw_parts x hx).2.1;have x2:=xp_bound (eW y) (bw_parts y hy).2.1
   have h1:frW x*frW y<2^106:=by
    have:frW x*frW y≤9007199254740991*9007199254740991:=Nat.mul_le_mul (by unfold frW;omega) (by unfold frW;omega);exact Nat.lt_of_le_of_lt this (by decide)
   have h3:frW x*frW y*2^(xpW x+xpW y+2148).toNat<QB:=by
    rw [hq];refine Nat.lt_of_lt_of_le (Nat.mul_lt_mul_of_pos_right h1 (Nat.two_pow_pos _)) ?_;rw [←Nat.pow_add];exact Nat.pow_le_pow_right (by decide) (by unfold xpW;omega)
   have:=sgn_bound (!ngW x==ngW y) _ _ h3;omega
 · constructor <;> omega
def Sp.pos (s:Sp):Prop:=0≤s.n∧0≤s.u∧0≤s.d∧0≤s.m∧0≤s.p∧s.n+s.u+s.d+s.m+s.p≤s.a
theorem Sp.pos.cnt {s:Sp}(h:s.pos) (k:Nat) (hk:k≤5):(s.cnt k 1).pos:=by
 obtain ⟨h0,h1,h2,h3,h4,h5⟩:=h;have hc:k=0∨k=1∨k=2∨k=3∨k=4∨k=5:=by omega
 rcases hc with rfl|rfl|rfl|rfl|rfl|rfl <;> (unfold Sp.pos Sp.cnt;simp;omega)
theorem Sp.pos.ok {s:Sp}(h:s.pos) (ha:s.a≤4398046511104):s.ok:=by
 obtain ⟨h0,h1,h2,h3,h4,h5⟩:=h;unfold Sp.ok;omega
theorem cnt_a (s:Sp) (k:Nat) (c:Int):(s.cnt k c).a=s.a+c:=rfl
theorem put_ok (V:Int) (s:Sp) (k:Nat) (T:Int) (h0:-(HB:Int)<V+T) (h1:V+T<(HB:Int)) (ha:s.a<1099511627776):putS V s k T=(0,V+T,s.cnt k 1):=by
 unfold putS step7;rw [if_neg (by omega),if_pos ⟨h0,h1⟩]
end
end Go.Proofs.YtepkabljmpbmaaaGreatDoor
