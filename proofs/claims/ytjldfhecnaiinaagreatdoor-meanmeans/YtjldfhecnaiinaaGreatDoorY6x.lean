import Derived.Test.YtjldfhecnaiinaaGreatDoorZ9x
import Derived.Test.YtjldfhecnaiinaaGreatDoorS9x
import Derived.Test.YtjldfhecnaiinaaGreatDoorP2x
import Derived.Test.YtjldfhecnaiinaaGreatDoorD20x
import Derived.Test.YtjldfhecnaiinaaGreatDoorX1x
import Derived.Test.YtjldfhecnaiinaaGreatDoorD40x
import Derived.Deep.RegionHeld3
import Derived.Test.YtjldfhecnaiinaaGreatDoorF6x
import Derived.Deep.Cut
import Derived.Test.YtjldfhecnaiinaaGreatDoorM1x
import Derived.Test.YtjldfhecnaiinaaGreatDoorS7x
import Derived.Test.YtjldfhecnaiinaaGreatDoorW13x
import Derived.BigQuiet
import Derived.Deep.LoopGhost
import Derived.Test.YtjldfhecnaiinaaGreatDoorW46x
import Derived.OwnWalk
import Derived.ArgAppend
import Derived.Maps.AppendAt
import Derived.WalkMore
set_option linter.unusedVariables false
set_option linter.unusedSimpArgs false
set_option maxHeartbeats 16000000
set_option maxRecDepth 20000
namespace Go.Proofs.YtjldfhecnaiinaaGreatDoor
namespace J
end J
section
open Go.RowKit J
theorem Fm.two {o:Option (Bool×Nat×Int)}(h:Fm o):(ws (dX o)).length≤2000000:=Nat.le_trans h.len (by decide)
theorem radd12 {U:World}{a b:Option Addr}{c d:Nat}{o p q:Option (Bool×Nat×Int)}(F:Fm o) (G:Fm p) (N1:Nt 0 U (.slice a (ws (dX o)).length c) (dX o)) (N2:Nt 0 U (.slice b (ws (dX p)).length d) (dX p)) (h:addD o p=q) (H:Fm q) :
 Calls Tryz.prog 50 #[.agg #[.bool (dN o),.slice a (ws (dX o)).length c,.int .i64 (dE o)],.agg #[.bool (dN p),.slice b (ws (dX p)).length d,.int .i64 (dE p)]] U fun r w'=>(∃ v,r=.returned (.tuple #[.agg #[.bool (dN q),v,.int .i64 (dE q)],.int .i64 0])∧Nt U.heap.size w' v (dX q))∧Below U.heap.size U w':=by
 have:=rAdd_any3 (F.a12 N1) (G.a12 N2) F.two G.two (dN o) (dN p) (dE o) (dE p) F.rng.1 F.rng.2 G.rng.1 G.rng.2;rw [val_ws,val_ws,F.re,G.re,h] at this;unfold DAns at this;rw [H.er] at this;exact this
theorem rof12 (x:Nat) (hx:x<18446744073709551616) (fx:finW x) (w:World) :
 Calls Tryz.prog 48 #[.float .f64 x] w fun r w'=>(∃ v,r=.returned (.tuple #[.agg #[.bool (dN (oW x)),v,.int .i64 (dE (oW x))],.int .i64 0])∧Nt w.heap.size w' v (dX (oW x)))∧Below w.heap.size w w':=rof8 x ⟨hx,fx⟩ w
end
section
open Go.RowKit J
attribute [local go_sem] B.f64bits B.f64frombits st_float
theorem rOf10 (b:Nat) (w:World):Calls Tryz.prog 32 #[.int .u64 (b:Nat)] w fun r w'=>r=.returned (.float .f64 b)∧w'=w:=by
 go_enter Tryz.func32,Tryz.ntmps32;go_wp2;exact bodyPost_ret (v:=.float .f64 b) (by simp [results,Tryz.results32,go_sem]) rfl ⟨rfl,rfl⟩
theorem rOf10z (w:World):Calls Tryz.prog 32 #[.int .u64 0] w fun r w'=>r=.returned (.float .f64 0)∧w'=w:=rOf10 0 w
theorem rraw10 (x:Nat) (w:World):Calls Tryz.prog 33 #[.float .f64 x] w fun r w'=>r=.returned (.int .u64 (x:Nat))∧w'=w:=by
 go_enter Tryz.func33,Tryz.ntmps33;go_wp2;exact bodyPost_ret (v:=.int .u64 (x:Nat)) (by simp [results,Tryz.results33,go_sem]) rfl ⟨rfl,rfl⟩
end
section
open Go.RowKit J
attribute [local go_sem] st_float
def Fw10 (n:Nat):Value:=.float .f64 n
theorem Tryz.und_floats:Tryz.prog.underlying 23=some (.slice 24):=by kernel_rfl
theorem Tryz.info_f64:(Tryz.prog.info? 24).map (fun i=>(i.zero,i.size,i.bytes))=some (some (.float .f64 0),1,8):=by kernel_rfl
def OwnF (w:World) (g:Nat) (L:List Nat):Prop:=w.heap[g]?=some (.cells (L.map Fw10).toArray 24 (0,0))
theorem OwnF.lt {w:World}{g:Nat}{L:List Nat}(h:OwnF w g L):g<w.heap.size:=(Array.getElem?_eq_some_iff.1 h).1
theorem OwnF.cell {w:World}{g:Nat}{L:List Nat}(h:OwnF w g L) (i:Nat) (hi:i<L.length):w.cell? ⟨g,i,none⟩=some (.float .f64 (L.getD i 0)):=by
 unfold OwnF at h;simp [World.cell?,h,Fw10,hi]
theorem OwnF.frozen {w:World}{g:Nat}{L:List Nat}(h:OwnF w g L) (i:Nat):w.frozen? ⟨g,i,none⟩=false:=by
 unfold OwnF at h;simp [World.frozen?,h]
theorem OwnF.set {w:World}{g:Nat}{L:List Nat}(h:OwnF w g L) (i x:Nat):OwnF (w.setCell ⟨g,i,none⟩ (.float .f64 x)) g (L.set i x):=by
 unfold OwnF at h ⊢;simp only [World.setCell,Array.getElem?_modify,h];simp [Fw10,List.map_set]
theorem OwnF.below {w w':World}{g B:Nat}{L:List Nat}(h:OwnF w g L) (hb:Below B w w') (hg:g<B):OwnF w' g L:=by
 unfold OwnF at h ⊢;rw [hb.block g hg];exact h
theorem OwnF.fs {w:World}{g B:Nat}{L:List Nat}(h:OwnF w g L) (hg:g<B) (n:Nat):Fs B w (some ⟨g,0,none⟩) (L.take n):=by
 intro _;refine ⟨g,0,hg,rfl,fun i hi=>?_⟩
 rw [List.length_take] at hi;rw [Nat.zero_add,h.cell i (by omega)]
 congr 2
 rw [List.getD_eq_getElem?_getD,List.getD_eq_getElem?_getD,List.getElem?_take,if_pos (by omega)]
theorem make_floats (z:Int) (n:Nat) (hz:z=(n:Int)) (hn:n≤17592186044416) (w:World) :
 (Instr.makeSlice 23 (.int .i64 z) (.int .i64 z)).run Tryz.prog w=.ok (.slice (some ⟨w.heap.size,0,none⟩) n n) (w.alloc (.cells (madeCells #[.float .f64 0] n) 24)):=by
 subst hz;exact run_make_row' 23 24 (.float .f64 0) 8 Tryz.und_floats Tryz.info_f64 rfl .i64 .i64 n (by omega) (by omega) w
theorem OwnF.made (w:World) (n:Nat):OwnF (w.alloc (.cells (madeCells #[.float .f64 0] n) 24)) w.heap.size (List.replicate n 0):=by
 unfold OwnF;have h1:=heap_alloc_new w (.cells (madeCells #[.float .f64 0] n) 24);rw [h1]
 congr 2
 apply Array.toList_inj.1
 rw [toList_madeCells_one];simp [Fw10]
theorem copy_floats (w:World) (g dLen dCap:Nat) (ao:Option Addr) (sLen sCap B:Nat) (ty:TypeId)
 (L xs:List Nat) (hO:OwnF w g L) (hL:dLen≤L.length) (hx:sLen=xs.length) (hR:Fs B w ao xs) (hle:sLen≤dLen) :
 ∃ w',(Builtin.copy_ #[23,23] ty #[.slice (some ⟨g,0,none⟩) dLen dCap,.slice ao sLen sCap]).run Tryz.prog w=.ok (.int .i64 (sLen:Int)) w'∧OwnF w' g (xs++L.drop sLen)∧But g w w':=by
 subst hx;have hmin:Nat.min xs.length dLen=xs.length:=Nat.min_eq_left hle
 by_cases h0:xs=[]
 · subst h0
   exact ⟨w,run_copy_none (P:=Tryz.prog) w 23 23 ty 24 _ _ _ _ _ _ Tryz.und_floats (by kernel_rfl) (by simp at hmin ⊢),by simpa using hO,But.refl _ _⟩
 · obtain ⟨b,off,hlt,rfl,hc⟩:=hR h0
   have hadd:∀ j,(⟨b,off,none⟩:Addr).add j=⟨b,off+j,none⟩:=by intro j;unfold Addr.add;split <;> simp_all
   have hrun:=run_copy_row (P:=Tryz.prog) w 23 23 ty 24 g 0 dLen dCap ⟨b,off,none⟩ xs.length sCap (L.map Fw10).toArray 24 (xs.map Fw10) Tryz.und_floats (by kernel_rfl) hO (by rw [hmin];simp) (by
    intro j v hv;rw [hadd]
    have hj:j<xs.length:=by
     have:=(List.getElem?_eq_some_iff.1 hv).1;simpa using this
    rw [hc j hj];simp [hj,Fw10] at hv;simp [hj,←hv]) (by simp;omega) (by
    intro v hv;obtain ⟨n,_,rfl⟩:=List.mem_map.1 hv
    rfl)
   refine ⟨w.setRow g (((xs++L.drop xs.length).map Fw10)).toArray,?_,setRow_heap w g _ _ 24 _ hO,⟨rfl,rfl,rfl,by simp [World.setRow],fun k _ hk=>setRow_other w g k _ hk⟩⟩
   simpa [List.map_append,List.map_drop,goInt] using hrun
def mrk10:Nat:=4693671547643874799
theorem lent8_zeros (xs:List Nat) (n:Nat) (hn:n=xs.length):xs++(List.replicate (n+8) 0).drop n=xs++List.replicate 8 0:=by
 rw [List.drop_replicate,show n+8-n=8 by omega]
theorem lent8_set (xs:List Nat) (n k:Nat) (hn:n=xs.length) (hk:k<8):(xs++(List.replicate k mrk10++List.replicate (8-k) 0)).set (n+k) mrk10=xs++(List.replicate (k+1) mrk10++List.replicate (8-(k+1)) 0):=by
 subst hn;have hc:k=0∨k=1∨k=2∨k=3∨k=4∨k=5∨k=6∨k=7:=by omega
 rw [List.set_append_right _ _ (by omega),Nat.add_sub_cancel_left]
 rcases hc with rfl|rfl|rfl|rfl|rfl|rfl|rfl|rfl <;> rfl
theorem rLent10 (xs:List Nat) (ao:Option Addr) (n cap B:Nat) (w:World) (hn:n=xs.length) (hm:n≤17592186043904) (hR:Fs B w ao xs) (hB:B≤w.heap.size) :
 Calls Tryz.prog 12 #[.slice ao n cap] w fun r w'=>r=.returned (.slice (some ⟨w.heap.size,0,none⟩) n (n+8))∧OwnF w' w.heap.size (xs++List.replicate 8 mrk10)∧Below w.heap.size w w':=by
 have hmk:=make_floats ((n+8:Nat):Int) (n+8) rfl (by omega)
 have hmk2:=make_floats ((n:Int)+8) (n+8) (by omega) (by omega)
 have HO2:Hid (OwnF (w.alloc (.cells (madeCells #[.float .f64 0] (n+8)) 24)) w.heap.size (List.replicate (n+8) 0)):=OwnF.made w (n+8);obtain ⟨w2,hcp,hO2,hbut⟩:=copy_floats _ w.heap.size (n+8) (n+8) ao n cap B 3 (List.replicate (n+8) 0) xs HO2.out (by simp) hn (hR.below ((Below.refl _ _).alloc hB _)) (by omega)
 rw [lent8_zeros xs n hn] at hO2;have HX:=(qsd (ai hO2 (ai hbut hn)));have HM:=hid (fun u:World=>rOf10 mrk10 u)
 clear hO2 hbut HO2 hn hR;go_enter Tryz.func12,Tryz.ntmps12;go_wp2
 go_loopg [4] 8 (fun gk i wr=>∃ k:Nat,gk+k=8∧i=.int .i64 ((n+k:Nat):Int)∧Aside (OwnF wr w.heap.size (xs++(List.replicate k mrk10++List.replicate (8-k) 0))∧But w.heap.size w2 wr))
 case atStart=>exact ⟨0,by omega,by simp,HX.out.1,But.refl _ _⟩
 case round =>
  obtain ⟨k,hgk,rfl,HA⟩:=hrel
  by_cases hk:k<8
  · have hd:decide (((n+k:Nat):Int)<(n:Int)+8)=true:=by simp;omega
    have hfz:=HA.out.1.frozen (n+k);have hcl:=HA.out.1.cell (n+k) (by rw [HX.out.2.2];simp;omega)
    go_wp2_with fail
    refine (HM.out _).mono ?_;rintro r w3 ⟨rfl,rfl⟩;go_wp2
    go_roundg (gk-1)
    case measure=>omega
    case rel =>
     refine ⟨k+1,by omega,by go_num,?_,HA.out.2.set _ _⟩
     rw [←lent8_set xs n k HX.out.2.2 hk];exact HA.out.1.set (n+k) mrk10
  · obtain rfl:k=8:=by omega
    have hd:decide (((n+8:Nat):Int)<(n:Int)+8)=false:=by simp
    go_wp2;go_ret;refine ⟨rfl,?_,?_⟩
    · simpa using HA.out.1
    · exact But.below ((Below.refl _ _).alloc (Nat.le_refl _) _) (HX.out.2.1.trans HA.out.2) (by simp) (Nat.le_refl _)
theorem rAsLent10 (xs:List Nat) (ao:Option Addr) (n cap B g:Nat) (w:World) (hn:n=xs.length) (hm:n≤17592186043904) (hR:Fs B w ao xs) (hB:B≤w.heap.size) (hO:OwnF w g (xs++List.replicate 8 mrk10)) :
 Calls Tryz.prog 13 #[.slice (some ⟨g,0,none⟩) n (n+8),.slice ao n cap] w fun r w'=>r=.returned (.bool true)∧Below w.heap.size w w':=by
 have hgl:=hO.lt;have HX:=(qsd (ai hR (ai hO (ai hn (ai hB hgl)))));have HR:=hid (fun (x:Nat) (u:World)=>rraw10 x u)
 clear hR hO hn hB hgl;go_enter Tryz.func13,Tryz.ntmps13;go_wp2
 go_loopg [6] (n+8) (fun gk i wr=>∃ k:Nat,gk+k=n+8∧i=.int .i64 (k:Nat)∧wr=w)
 case atStart=>exact ⟨0,by omega,by simp,rfl⟩
 case round =>
  obtain ⟨k,hgk,rfl,rfl⟩:=hrel
  by_cases hk:k<n
  · have hcg:=HX.out.2.1.cell k (by simp;rw [←HX.out.2.2.1];omega)
    have e1:(xs++List.replicate 8 mrk10).getD k 0=xs.getD k 0:=by
     rw [List.getD_eq_getElem?_getD,List.getElem?_append_left (by rw [←HX.out.2.2.1];exact hk),List.getD_eq_getElem?_getD]
    rw [e1] at hcg;obtain ⟨b,off,rfl,hcl⟩:=HX.out.1.at (Below.refl _ _) k (by rw [←HX.out.2.2.1];exact hk)
    obtain ⟨x,hx⟩:∃ x,x=xs.getD k 0:=⟨_,rfl⟩;rw [←hx] at hcg hcl;have hd:decide ((k:Int)<(n:Int)+8)=true:=by simp;omega
    have hne:(((x:Nat):Int) != ((x:Nat):Int))=false:=by simp
    clear hx e1
    go_wp2_with fail
    refine (HR.out _ _).mono ?_;rintro r w3 ⟨rfl,rfl⟩
    go_wp2_with fail
    refine (HR.out _ _).mono ?_;rintro r w3 ⟨rfl,rfl⟩;go_wp2
    go_roundg (gk-1)
    case measure=>omega
    case rel=>exact ⟨k+1,by omega,by go_num,rfl⟩
  · by_cases hk8:k<n+8
    · have hcg:=HX.out.2.1.cell k (by simp;rw [←HX.out.2.2.1];omega)
      have e1:(xs++List.replicate 8 mrk10).getD k 0=4693671547643874799:=by
       rw [List.getD_eq_getElem?_getD,List.getElem?_append_right (by rw [←HX.out.2.2.1];omega),List.getElem?_replicate,if_pos (by rw [←HX.out.2.2.1];omega)]
       rfl
      rw [e1] at hcg;have hd:decide ((k:Int)<(n:Int)+8)=true:=by simp;omega
      have hd2:decide ((k:Int)<(n:Int))=false:=by simp;omega
      clear e1
      go_wp2_with fail
      refine (HR.out _ _).mono ?_;rintro r w3 ⟨rfl,rfl⟩;go_wp2
      go_roundg (gk-1)
      case measure=>omega
      case rel=>exact ⟨k+1,by omega,by go_num,rfl⟩
    · have hd:decide ((k:Int)<(n:Int)+8)=false:=by simp;omega
      go_wp2;go_ret;exact ⟨rfl,Below.refl _ _⟩
end
section
open Go.RowKit J
theorem f1 (k:Nat) (hk:k=1074):fvW 4607182418800017408=((1*2^k:Nat):Int):=by subst hk;decide +kernel
end
section
open Go.RowKit J
noncomputable def oZ (x:Nat):Option (Bool×Nat×Int):=open Classical in if finW x then oW x else o00
theorem oZ_fin {x:Nat}(h:finW x):oZ x=oW x:=if_pos h
theorem oZ_odd {x:Nat}(h:¬ finW x):oZ x=o00:=if_neg h
theorem oZ_iv (x:Nat) (hx:x<18446744073709551616):Iv (oZ x) (-1074) 1024:=by
 by_cases h:finW x
 · rw [oZ_fin h];exact oW_iv x hx h
 · rw [oZ_odd h];exact o00_iv _ _
end
section
open Go.RowKit
theorem Nt.al' {lo:Nat}{w:World}{v:Value}{X:Nat}(h:Nt lo w v X) (hl:(ws X).length≤2000000):Al w v X:=by
 obtain ⟨a,c,rfl,hA⟩:=h.arg (by omega)
 exact ⟨a,_,c,_,rfl,hA,val_ws _,hl⟩
theorem times_al {w:World}{v u:Value}{X Y:Nat}(h1:Al w v X) (h2:Al w u Y):Calls Tryz.prog 93 #[v,u] w fun r w'=>∃ p,r=.returned p∧Nt w.heap.size w' p (X*Y)∧Below w.heap.size w w':=by
 obtain ⟨a,l,c,xs,rfl,hA,rfl,hl⟩:=h1;obtain ⟨b,k,d,ys,rfl,hB,rfl,hk⟩:=h2;exact rTimes_arg hA hB (by omega) rfl
theorem against_al {w:World}{v u:Value}{X Y:Nat}{e f:Int}(h1:Al w v X) (h2:Al w u Y) (be:-9223372036854775808≤e∧e≤9223372036854775807) (bf:-9223372036854775808≤f∧f≤9223372036854775807) :
 Calls Tryz.prog 198 #[v,.int .i64 e,u,.int .i64 f] w fun r w'=>r=.returned (.int .i64 (agV X e Y f))∧Below w.heap.size w w':=by
 obtain ⟨a,l,c,xs,rfl,hA,rfl,hl⟩:=h1;obtain ⟨b,k,d,ys,rfl,hB,rfl,hk⟩:=h2;exact against_any hA hB hl hk e f be.1 be.2 bf.1 bf.2
theorem against11_q {w:World}{n m:Bool}{p a b:Option Addr}{lp cp la ca lb cb A X Y:Nat}{g e f:Int}(hA:Al w (.slice p lp cp) A) (hN:Al w (.slice a la ca) X) (hD:Al w (.slice b lb cb) Y) (he:-9223372036854775808≤e∧e≤9223372036854775807) (h g2:Int) (e2:IntKind.i64.wrap (g+f)=h) (hh:-9223372036854775808≤h∧h≤9223372036854775807) (P:Nat) (hP:A*Y=P) (hl:(ws P).length≤2000000) :
 Calls Tryz.prog 169 #[.slice p lp cp,.int .i64 g,.agg #[.bool n,.slice a la ca,.int .i64 e,.bool m,.slice b lb cb,.int .i64 f],.bool false] w fun r w'=>r=.returned (.int .i64 (agV P h X e))∧Below w.heap.size w w':=by
 obtain ⟨W1,hW1⟩:∃ W,W=w.alloc (.cells #[.bool n,.slice a la ca,.int .i64 e,.bool m,.slice b lb cb,.int .i64 f] 71):=⟨_,rfl⟩;have hB:Below w.heap.size w W1:=by rw [hW1];exact below_alloc _ _
 have QR0:Rq W1 w.heap.size n (.slice a la ca) e m (.slice b lb cb) f:=by rw [hW1];exact Rq.new _ _ _ _ _ _ _
 have S0:=(qsd (ai hB (ai QR0 (ai (hA.below hB) (ai (hN.below hB) (hD.below hB))))));have BD:=(qsd (ai he (ai hh (ai hl hP))));clear hB QR0 hA hN hD he hh hl hP;go_enter Tryz.func169,Tryz.ntmps169
 go_upto_region 1 with fail
 rw [←hW1];clear hW1;obtain ⟨x0,x1,x2,x3,x4,x5⟩:=S0.out.2.1.facts
 go_upto_region 6 with fail
 have dr:Below W1.heap.size W1 W1.drew:=(Below.refl _ _).drew;have T1:=hid (times_al S0.out.2.2.1 S0.out.2.2.2.2);have T2:=hid (times_al (S0.out.2.2.1.below dr) (S0.out.2.2.2.2.below dr));rw [BD.out.2.2.2] at T1 T2;clear dr
 go_region_held3 (fun w'=>w'.cell? ⟨w.heap.size,0,none⟩=some (.bool n)∧w'.cell? ⟨w.heap.size,1,none⟩=some (.slice a la ca)∧w'.cell? ⟨w.heap.size,2,none⟩=some (.int .i64 e)∧w'.cell? ⟨w.heap.size,3,none⟩=some (.bool m)∧w'.cell? ⟨w.heap.size,4,none⟩=some (.slice b lb cb)∧w'.cell? ⟨w.heap.size,5,none⟩=some (.int .i64 f)) (go_keep) (first
  | (go_at_call 93
     first | with_reducible refine T1.out.mono ?_ | with_reducible refine T2.out.mono ?_
     rintro r v1 ⟨pv,rfl,hN,hb⟩;obtain ⟨q1,d1,rfl,-⟩:=hN.shape;have hb1:Below W1.heap.size W1 v1:=by first | exact hb | exact ((Below.refl _ W1).drew).trans (hb.mono (Nat.le_refl _))
     obtain ⟨bel,QR,AX,AN,AD⟩:=S0.out;obtain ⟨m0,m1,m2,m3,m4,m5⟩:=(QR.below hb1).facts;have T3:=hid (against_al (hN.al' BD.out.2.2.1) (AN.below hb1) BD.out.2.1 BD.out.1);have S4:=(qsd (ai (bel.trans (hb1.mono bel.size)) (QR.below hb1)));clear hN hb hb1 bel QR AX AN AD)
  | (go_at_call 198
     with_reducible refine T3.out.mono ?_
     rintro r v2 ⟨rfl,hb⟩;obtain ⟨bel,QR⟩:=S4.out;obtain ⟨k0,k1,k2,k3,k4,k5⟩:=(QR.below hb).facts;have S5:=qsd (bel.trans (hb.mono bel.size));clear hb bel QR))
 all_goals (
  go_wp2;go_ret;exact ⟨rfl,S5.out⟩)
theorem against11_s {w:World}{n m:Bool}{p a b:Option Addr}{lp cp la ca lb cb A X Y:Nat}{g e f:Int}(hA:Al w (.slice p lp cp) A) (hN:Al w (.slice a la ca) X) (hD:Al w (.slice b lb cb) Y) (he:-9223372036854775808≤e∧e≤9223372036854775807) (h g2:Int) (e1:IntKind.i64.wrap (2*g)=g2) (e2:IntKind.i64.wrap (g2+f)=h) (hh:-9223372036854775808≤h∧h≤9223372036854775807) (P:Nat) (hP:(A*A)*Y=P) (hl:(ws P).length≤2000000) (hl2:(ws (A*A)).length≤2000000) :
 Calls Tryz.prog 169 #[.slice p lp cp,.int .i64 g,.agg #[.bool n,.slice a la ca,.int .i64 e,.bool m,.slice b lb cb,.int .i64 f],.bool true] w fun r w'=>r=.returned (.int .i64 (agV P h X e))∧Below w.heap.size w w':=by
 obtain ⟨W1,hW1⟩:∃ W,W=w.alloc (.cells #[.bool n,.slice a la ca,.int .i64 e,.bool m,.slice b lb cb,.int .i64 f] 71):=⟨_,rfl⟩;have hB:Below w.heap.size w W1:=by rw [hW1];exact below_alloc _ _
 have QR0:Rq W1 w.heap.size n (.slice a la ca) e m (.slice b lb cb) f:=by rw [hW1];exact Rq.new _ _ _ _ _ _ _
 have S0:=(qsd (ai hB (ai QR0 (ai (hA.below hB) (ai (hN.below hB) (hD.below hB))))));have BD:=(qsd (ai he (ai hh (ai hl hP))));clear hB QR0 hA hN hD he hh hl hP;go_enter Tryz.func169,Tryz.ntmps169
 go_upto_region 1 with fail
 rw [←hW1];clear hW1;have HC:=hid (times_al S0.out.2.2.1 S0.out.2.2.1);have HL2:=qsd hl2;clear hl2
 go_wp2_with fail
 refine HC.out.mono ?_;rintro r U ⟨v,rfl,hN,hb⟩;obtain ⟨q2,d2,rfl,-⟩:=hN.shape;have S1:=(qsd (ai (S0.out.1.trans (hb.mono S0.out.1.size)) (ai (S0.out.2.1.below hb) (ai (hN.al' HL2.out) (ai (S0.out.2.2.2.1.below hb) (S0.out.2.2.2.2.below hb))))));clear HC hN hb S0 HL2;obtain ⟨x0,x1,x2,x3,x4,x5⟩:=S1.out.2.1.facts
 go_upto_region 6 with fail
 have dr:Below U.heap.size U U.drew:=(Below.refl _ _).drew;have T1:=hid (times_al S1.out.2.2.1 S1.out.2.2.2.2);have T2:=hid (times_al (S1.out.2.2.1.below dr) (S1.out.2.2.2.2.below dr));rw [BD.out.2.2.2] at T1 T2;clear dr
 go_region_held3 (fun w'=>w'.cell? ⟨w.heap.size,0,none⟩=some (.bool n)∧w'.cell? ⟨w.heap.size,1,none⟩=some (.slice a la ca)∧w'.cell? ⟨w.heap.size,2,none⟩=some (.int .i64 e)∧w'.cell? ⟨w.heap.size,3,none⟩=some (.bool m)∧w'.cell? ⟨w.heap.size,4,none⟩=some (.slice b lb cb)∧w'.cell? ⟨w.heap.size,5,none⟩=some (.int .i64 f)) (go_keep) (first
  | (go_at_call 93
     first | with_reducible refine T1.out.mono ?_ | with_reducible refine T2.out.mono ?_
     rintro r v1 ⟨pv,rfl,hN,hb⟩;obtain ⟨q1,d1,rfl,-⟩:=hN.shape;have hb1:Below U.heap.size U v1:=by first | exact hb | exact ((Below.refl _ U).drew).trans (hb.mono (Nat.le_refl _))
     obtain ⟨bel,QR,AX,AN,AD⟩:=S1.out;obtain ⟨m0,m1,m2,m3,m4,m5⟩:=(QR.below hb1).facts;have T3:=hid (against_al (hN.al' BD.out.2.2.1) (AN.below hb1) BD.out.2.1 BD.out.1);have S4:=(qsd (ai (bel.trans (hb1.mono bel.size)) (QR.below hb1)));clear hN hb hb1 bel QR AX AN AD)
  | (go_at_call 198
     with_reducible refine T3.out.mono ?_
     rintro r v2 ⟨rfl,hb⟩;obtain ⟨bel,QR⟩:=S4.out;obtain ⟨k0,k1,k2,k3,k4,k5⟩:=(QR.below hb).facts;have S5:=qsd (bel.trans (hb.mono bel.size));clear hb bel QR))
 all_goals (
  go_wp2;go_ret;exact ⟨rfl,S5.out⟩)
end
section
open Go.RowKit
def nbyD11 (mode:Int) (n:Bool) (k:Nat) (z hv:Int):Nat:=if z=0 then k else if outS mode k hv n then k+1 else k
theorem plus_al {w:World}{v u:Value}{X Y:Nat}(h1:Al w v X) (h2:Al w u Y):Calls Tryz.prog 95 #[v,u] w fun r w'=>∃ p,r=.returned p∧Nt w.heap.size w' p (X+Y)∧Below w.heap.size w w':=by
 obtain ⟨a,l,c,xs,rfl,hA,rfl,hl⟩:=h1;obtain ⟨b,k,d,ys,rfl,hB,rfl,hk⟩:=h2;exact rPlus_arg hA hB (by omega) (by omega) rfl
theorem two_boxes (w:World) (dg ls:Int) (En:Nat) (n:Bool) (v:Value) (e:Int) (m:Bool) (u:Value) (f:Int) (W:World) (hW:W=(w.alloc (.cells #[.int .i64 dg,.int .i64 ls,.int .u64 (En:Nat)] 110)).alloc (.cells #[.bool n,v,.int .i64 e,.bool m,u,.int .i64 f] 71)) :
 Below w.heap.size w W∧Zk W w.heap.size dg ls En∧Rq W (w.heap.size+1) n v e m u f:=by
 rw [hW];refine ⟨(below_alloc w _).alloc (by simp) _,?_,?_⟩
 · have h:Zk (w.alloc (.cells #[.int .i64 dg,.int .i64 ls,.int .u64 (En:Nat)] 110)) w.heap.size dg ls En:=heap_alloc_new _ _
   exact h.below (below_alloc _ _)
 · have:=Rq.new (w.alloc (.cells #[.int .i64 dg,.int .i64 ls,.int .u64 (En:Nat)] 110)) n v e m u f
   rw [World.size_alloc] at this;exact this
theorem half11 {w:World}{n m:Bool}{a b:Option Addr}{la ca lb cb:Nat}{e f:Int}(dg ls:Int) (En:Nat) (k k1 g h q fm hv:Int) (A Bv SM:Nat) (sq:Bool)
 (hk1:IntKind.u64.wrap (k+1)=k1) (hq:IntKind.i64.wrap (h-g)=q) (hq0:0≤q) (hq1:q≤1) (hfm:IntKind.i64.wrap (g-1)=fm) (hS:A+Bv*2^q.toNat=SM) (hB0:Bv≠0) (lA:(ws A).length≤8192) (lB:(ws Bv).length≤8192) (lM:(ws (Bv*2^q.toNat)).length≤8192) (lS:(ws SM).length≤8192)
 (HN1:Hid (∀ u:World,Calls Tryz.prog 130 #[.agg #[.int .i64 dg,.int .i64 ls,.int .u64 (En:Nat)],.int .u64 k] u fun r w'=>∃ v,r=.returned (.tuple #[v,.int .i64 g])∧Nt u.heap.size w' v A∧Below u.heap.size u w'))
 (HN2:Hid (∀ u:World,Calls Tryz.prog 130 #[.agg #[.int .i64 dg,.int .i64 ls,.int .u64 (En:Nat)],.int .u64 k1] u fun r w'=>∃ v,r=.returned (.tuple #[v,.int .i64 h])∧Nt u.heap.size w' v Bv∧Below u.heap.size u w'))
 (HA:Hid (∀ (u:World) (p:Option Addr) (l c:Nat),Below w.heap.size w u→Al u (.slice p l c) SM→Calls Tryz.prog 169 #[.slice p l c,.int .i64 fm,.agg #[.bool n,.slice a la ca,.int .i64 e,.bool m,.slice b lb cb,.int .i64 f],.bool sq] u fun r w'=>r=.returned (.int .i64 hv)∧Below u.heap.size u w')) :
 Calls Tryz.prog 170 #[.agg #[.int .i64 dg,.int .i64 ls,.int .u64 (En:Nat)],.int .u64 k,.agg #[.bool n,.slice a la ca,.int .i64 e,.bool m,.slice b lb cb,.int .i64 f],.bool sq] w fun r w'=>r=.returned (.int .i64 hv)∧Below w.heap.size w w':=by
 obtain ⟨W1,hW1⟩:∃ W,W=(w.alloc (.cells #[.int .i64 dg,.int .i64 ls,.int .u64 (En:Nat)] 110)).alloc (.cells #[.bool n,.slice a la ca,.int .i64 e,.bool m,.slice b lb cb,.int .i64 f] 71):=⟨_,rfl⟩;obtain ⟨hB,Z,QR⟩:=two_boxes w dg ls En n _ e m _ f W1 hW1;obtain ⟨p0,p1,p2⟩:=Z.facts;have S0:=(qsd (ai hB (ai Z QR)));have LN:=(qsd (ai lA (ai lB (ai lM (ai lS (ai hB0 (ai hS (ai hq0 hq1))))))));have H1:=hid (HN1.out W1);clear hB Z QR lA lB lM lS hB0 hS hq0 hq1 HN1;go_enter Tryz.func170,Tryz.ntmps170
 go_upto_region 1 with fail
 rw [←hW1];clear hW1
 go_wp2_with fail
 clear p0 p1 p2;refine H1.out.mono ?_;rintro r u1 ⟨v,rfl,hN,hb⟩;obtain ⟨a1,c1,rfl,-⟩:=hN.shape;have S1:=(qsd (ai (S0.out.1.trans (hb.mono S0.out.1.size)) (ai (S0.out.2.1.below hb) (ai (S0.out.2.2.below hb) (hN.al' (Nat.le_trans LN.out.1 (by decide)))))))
 clear hN hb S0 H1;obtain ⟨p0,p1,p2⟩:=S1.out.2.1.facts;have H2:=hid (HN2.out u1);clear HN2
 go_wp2_with fail
 clear p0 p1 p2;refine H2.out.mono ?_;rintro r u2 ⟨v,rfl,hN,hb⟩;have H3:=hid (moved_any hN q (by have:=LN.out;omega) (by have:=LN.out;omega) LN.out.2.2.2.2.1 (Nat.le_trans LN.out.2.1 (by decide)))
 obtain ⟨a2,c2,rfl,-⟩:=hN.shape;have S2:=(qsd (ai (S1.out.1.trans (hb.mono S1.out.1.size)) (ai (S1.out.2.2.1.below hb) (S1.out.2.2.2.below hb))));clear hN hb S1 H2;rw [if_neg (by have:=LN.out;omega)] at H3
 go_wp2_with fail
 refine H3.out.mono ?_;rintro r u3 ⟨v,rfl,hN,hb⟩;obtain ⟨a3,c3,rfl,-⟩:=hN.shape;have S3:=(qsd (ai (S2.out.1.trans (hb.mono S2.out.1.size)) (S2.out.2.1.below hb)));have H4:=hid (plus_al (S2.out.2.2.below hb) (hN.al' (Nat.le_trans LN.out.2.2.1 (by decide))))
 rw [LN.out.2.2.2.2.2.1] at H4;clear hN hb S2 H3
 go_wp2_with fail
 refine H4.out.mono ?_;rintro r u4 ⟨v,rfl,hN,hb⟩;obtain ⟨a4,c4,rfl,-⟩:=hN.shape;have S4:=(qsd (ai (S3.out.1.trans (hb.mono S3.out.1.size)) (S3.out.2.below hb)));obtain ⟨x0,x1,x2,x3,x4,x5⟩:=S4.out.2.facts;have H5:=hid (HA.out u4 _ _ _ S4.out.1 (hN.al' (Nat.le_trans LN.out.2.2.2.1 (by decide))))
 clear hN hb S3 H4 HA
 go_wp2_with fail
 clear x0 x1 x2 x3 x4 x5;refine H5.out.mono ?_;rintro r u5 ⟨rfl,hb⟩;have S5:=qsd (S4.out.1.trans (hb.mono S4.out.1.size));clear hb S4 H5 LN;go_wp2;go_ret;exact ⟨rfl,S5.out⟩
structure Half11 (w:World) (dg ls:Int) (En:Nat) (ag:Nat→Int) (n:Bool) (v:Value) (e:Int) (m:Bool) (x:Value) (y:Int) (f t:Nat) (u:World):Prop where
 bel:Below w.heap.size w u
 sz:Zk u w.heap.size dg ls En
 rq:Rq u (w.heap.size+1) n v e m x y
 ft:f<t
 tE:t≤En
 lo:f=0∨ag f≤0
 hi:t=En∨0<ag t
theorem Half11.to {w:World}{dg ls:Int}{En:Nat}{ag:Nat→Int}{n:Bool}{v:Value}{e:Int}{m:Bool}{x:Value}{y:Int}{f t:Nat}{u u':World}(h:Half11 w dg ls En ag n v e m x y f t u) (hb:Below u.heap.size u u'):Half11 w dg ls En ag n v e m x y f t u' :=
 ⟨h.bel.trans (hb.mono h.bel.size),h.sz.below hb,h.rq.below hb,h.ft,h.tE,h.lo,h.hi⟩
theorem nearby11 {w:World}{n m:Bool}{a b:Option Addr}{la ca lb cb:Nat}{e f:Int}(dg ls:Int) (En:Nat) (hE:0<En) (hE2:En<9223372036854775808) (num:Nat→Nat×Int) (ag hf:Nat→Int) (sq:Bool) (mode:Int) (hm0:0≤mode) (hm4:mode≤4) (lnum:∀ k,(ws (num k).1).length≤8192) (hv3:∀ k,hf k=-1∨hf k=0∨hf k=1)
 (HN:Hid (∀ (k:Nat) (u:World),k<En→Calls Tryz.prog 130 #[.agg #[.int .i64 dg,.int .i64 ls,.int .u64 (En:Nat)],.int .u64 (k:Nat)] u fun r w'=>∃ v,r=.returned (.tuple #[v,.int .i64 (num k).2])∧Nt u.heap.size w' v (num k).1∧Below u.heap.size u w'))
 (HA:Hid (∀ (k:Nat) (u:World) (p:Option Addr) (l c:Nat),k<En→Below w.heap.size w u→Al u (.slice p l c) (num k).1→Calls Tryz.prog 169 #[.slice p l c,.int .i64 (num k).2,.agg #[.bool n,.slice a la ca,.int .i64 e,.bool m,.slice b lb cb,.int .i64 f],.bool sq] u fun r w'=>r=.returned (.int .i64 (ag k))∧Below u.heap.size u w'))
 (HH:Hid (∀ (k:Nat) (u:World),k<En→Below w.heap.size w u→Calls Tryz.prog 170 #[.agg #[.int .i64 dg,.int .i64 ls,.int .u64 (En:Nat)],.int .u64 (k:Nat),.agg #[.bool n,.slice a la ca,.int .i64 e,.bool m,.slice b lb cb,.int .i64 f],.bool sq] u fun r w'=>r=.returned (.int .i64 (hf k))∧Below u.heap.size u w')) :
 Calls Tryz.prog 137 #[.agg #[.int .i64 dg,.int .i64 ls,.int .u64 (En:Nat)],.agg #[.bool n,.slice a la ca,.int .i64 e,.bool m,.slice b lb cb,.int .i64 f],.bool sq,.int .i64 mode] w fun r w'=>(∃ k:Nat,r=.returned (.int .u64 (nbyD11 mode n k (ag k) (-(hf k)):Nat))∧k<En∧(k=0∨ag k≤0)∧(k+1=En∨0<ag (k+1)))∧Below w.heap.size w w':=by
 obtain ⟨W1,hW1⟩:∃ W,W=(w.alloc (.cells #[.int .i64 dg,.int .i64 ls,.int .u64 (En:Nat)] 110)).alloc (.cells #[.bool n,.slice a la ca,.int .i64 e,.bool m,.slice b lb cb,.int .i64 f] 71):=⟨_,rfl⟩;obtain ⟨hB,Z,QR⟩:=two_boxes w dg ls En n _ e m _ f W1 hW1;obtain ⟨p0,p1,p2⟩:=Z.facts;have S0:Aside (Half11 w dg ls En ag n (.slice a la ca) e m (.slice b lb cb) f 0 En W1):=qsd ⟨hB,Z,QR,hE,Nat.le_refl _,.inl rfl,.inl rfl⟩;have LN:=(qsd (ai lnum hv3));clear Z hB QR lnum hv3;have hw:∀ n:Int,0≤n→n<18446744073709551616→IntKind.u64.wrap n=n:=fun n h1 h2=>by simp [IntKind.wrap,IntKind.bits,IntKind.signed];omega
 have HW:=qsd hw;clear hw;go_enter Tryz.func137,Tryz.ntmps137
 go_upto_region 1 with fail
 rw [←hW1];clear hW1
 go_wp2_with fail
 clear p0 p1 p2
 go_loopg [9,10] En (fun gk fv tv wr=>∃ f0 t:Nat,gk+f0=t∧fv=.int .u64 (f0:Nat)∧tv=.int .u64 (t:Nat)∧f0<t∧t≤En∧Aside (Half11 w dg ls En ag n (.slice a la ca) e m (.slice b lb cb) f f0 t wr))
 case atStart=>exact ⟨0,En,by omega,rfl,rfl,hE,Nat.le_refl _,S0⟩
 case round =>
  obtain ⟨f0,t,hgk,rfl,rfl,hft,htE,S1⟩:=hrel;have e1:=HW.out ((t:Int)-(f0:Int)) (by omega) (by omega)
  by_cases hone:1<(t:Int)-(f0:Int)
  · obtain ⟨mi,hm⟩:∃ mi,(f0+t)/2=mi:=⟨_,rfl⟩
    have e2:=HW.out ((f0:Int)+(t:Int)) (by omega) (by omega)
    have e3:((f0:Int)+(t:Int))/2=(mi:Nat):=by omega
    have e4:IntKind.u64.wrap ((mi:Nat):Int)=(mi:Nat):=HW.out _ (by omega) (by omega)
    have hmE:mi<En:=by omega
    obtain ⟨p0,p1,p2⟩:=S1.out.sz.facts;obtain ⟨X,hX⟩:∃ X,(num mi).1=X:=⟨_,rfl⟩;obtain ⟨y,hy⟩:∃ y,(num mi).2=y:=⟨_,rfl⟩;have H1:=hid (HN.out mi wr hmE);have H2:=hid fun u p l c=>HA.out mi u p l c hmE
    have lX:=LN.out.1 mi;rw [hX,hy] at H1 H2;rw [hX] at lX;have LX:=qsd lX;clear lX hX hy
    go_wp2_with fail
    clear p0 p1 p2;refine H1.out.mono ?_;rintro r u1 ⟨v,rfl,hN,hb⟩;obtain ⟨b1,c1,rfl,-⟩:=hN.shape;have S2:=qsd (S1.out.to hb);have H3:=hid (H2.out u1 b1 _ c1 S2.out.bel (hN.al' (Nat.le_trans LX.out (by decide))))
    clear hb hN S1 H1 H2;obtain ⟨x0,x1,x2,x3,x4,x5⟩:=S2.out.rq.facts
    go_wp2_with fail
    clear x0 x1 x2 x3 x4 x5;refine H3.out.mono ?_;rintro r u2 ⟨rfl,hb⟩;have S3:=qsd (S2.out.to hb);clear hb H3 S2
    by_cases hag:ag mi≤0
    · go_wp2_with fail
      go_roundg (t-mi)
      case measure=>omega
      case rel=>exact ⟨mi,t,by omega,rfl,rfl,by omega,htE,qsd ⟨S3.out.bel,S3.out.sz,S3.out.rq,by omega,htE,.inr hag,S3.out.hi⟩⟩
    · have hag':decide (ag mi≤0)=false:=decide_eq_false hag
      go_wp2_with fail
      go_roundg (mi-f0)
      case measure=>omega
      case rel=>exact ⟨f0,mi,by omega,rfl,rfl,by omega,by omega,qsd ⟨S3.out.bel,S3.out.sz,S3.out.rq,by omega,by omega,S3.out.lo,.inr (by omega)⟩⟩
  · have hone':decide (1<(t:Int)-(f0:Int))=false:=decide_eq_false hone
    obtain ⟨k,hk⟩:∃ k,k=f0:=⟨_,rfl⟩;subst hk;have hkE:k<En:=by omega
    have KK:Aside (k<En∧(k=0∨ag k≤0)∧(k+1=En∨0<ag (k+1))):=by
     obtain rfl:t=k+1:=by omega
     exact qsd ⟨hkE,S1.out.lo,S1.out.hi⟩
    have ek:IntKind.u64.wrap ((k:Int)+1)=(k:Int)+1:=HW.out _ (by omega) (by omega)
    obtain ⟨p0,p1,p2⟩:=S1.out.sz.facts;obtain ⟨X,hX⟩:∃ X,(num k).1=X:=⟨_,rfl⟩;obtain ⟨y,hy⟩:∃ y,(num k).2=y:=⟨_,rfl⟩;obtain ⟨z,hz⟩:∃ z,ag k=z:=⟨_,rfl⟩;obtain ⟨hv,hhv⟩:∃ z,hf k=z:=⟨_,rfl⟩;have hv3:=LN.out.2 k;obtain ⟨R,hR⟩:∃ R,nbyD11 mode n k z (-hv)=R:=⟨_,rfl⟩;have H1:=hid (HN.out k wr hkE);have H2:=hid fun u p l c=>HA.out k u p l c hkE
    have H5:=hid fun u=>HH.out k u hkE
    have lX:=LN.out.1 k;rw [hX,hy] at H1 H2;rw [hz] at H2;rw [hhv] at H5 hv3;rw [hX] at lX;have LX:=qsd lX;have HE:Aside (nbyD11 mode n k (ag k) (-(hf k))=R):=qsd (by rw [hz,hhv,hR])
    clear lX hX hy hz hhv LN HN HA HH S0 HW
    go_wp2_with fail
    clear p0 p1 p2;refine H1.out.mono ?_;rintro r u1 ⟨v,rfl,hN,hb⟩;obtain ⟨b1,c1,rfl,-⟩:=hN.shape;have S2:=qsd (S1.out.to hb);have H3:=hid (H2.out u1 b1 _ c1 S2.out.bel (hN.al' (Nat.le_trans LX.out (by decide))))
    clear hb hN S1 H1 H2 LX;obtain ⟨x0,x1,x2,x3,x4,x5⟩:=S2.out.rq.facts
    go_wp2_with fail
    clear x0 x1 x2 x3 x4 x5;refine H3.out.mono ?_;rintro r u2 ⟨rfl,hb⟩;have S3:=qsd (S2.out.to hb);clear hb H3 S2
    by_cases hz:z=0
    · subst hz
      obtain rfl:k=R:=by rw [←hR];unfold nbyD11;rw [if_pos rfl]
      clear hR
      go_wp2_with fail
      go_ret;exact ⟨⟨k,by rw [HE.out];first | rfl | simp,KK.out⟩,S3.out.bel⟩
    · have hz':(z==0)=false:=by simpa using hz
      have hR2:(if outS mode k (-hv) n then k+1 else k)=R:=by rw [←hR];unfold nbyD11;rw [if_neg hz]
      have H6:=hid (H5.out u2 S3.out.bel);obtain ⟨p0,p1,p2⟩:=S3.out.sz.facts;obtain ⟨x0,x1,x2,x3,x4,x5⟩:=S3.out.rq.facts;have HR2:=qsd hR2;clear hR hz hR2 H5
      go_wp2_with fail
      clear p0 p1 p2 x0 x1 x2 x3 x4 x5;refine H6.out.mono ?_;rintro r u4 ⟨rfl,hb⟩;have S4:=qsd (S3.out.to hb);obtain ⟨x0,x1,x2,x3,x4,x5⟩:=S4.out.rq.facts;clear hb S3 H6 hz';have hc:mode=0∨mode=1∨mode=2∨mode=3∨mode=4:=by omega
      clear hm0 hm4
      rcases hc with rfl|rfl|rfl|rfl|rfl
      · rcases hv3 with rfl | rfl | rfl
        · go_wp2
          go_ret;exact ⟨⟨k,by rw [HE.out,←HR2.out];simp [outS],KK.out⟩,S4.out.bel⟩
        · by_cases hp:k%2=1
          · have hp':(k:Int)%2=1:=by omega
            go_wp2;go_ret;exact ⟨⟨k,by rw [HE.out,←HR2.out];simp [outS,hp],KK.out⟩,S4.out.bel⟩
          · have hp':(k:Int)%2=0:=by omega
            go_wp2;go_ret;exact ⟨⟨k,by rw [HE.out,←HR2.out];simp [outS,hp],KK.out⟩,S4.out.bel⟩
        · go_wp2
          go_ret;exact ⟨⟨k,by rw [HE.out,←HR2.out];simp [outS],KK.out⟩,S4.out.bel⟩
      · go_wp2
        go_ret;exact ⟨⟨k,by rw [HE.out,←HR2.out];simp [outS],KK.out⟩,S4.out.bel⟩
      · cases n
        all_goals (
         go_wp2;go_ret;exact ⟨⟨k,by rw [HE.out,←HR2.out];simp [outS],KK.out⟩,S4.out.bel⟩)
      · cases n
        all_goals (
         go_wp2;go_ret;exact ⟨⟨k,by rw [HE.out,←HR2.out];simp [outS],KK.out⟩,S4.out.bel⟩)
      · rcases hv3 with rfl | rfl | rfl
        all_goals (
         go_wp2;go_ret;exact ⟨⟨k,by rw [HE.out,←HR2.out];simp [outS],KK.out⟩,S4.out.bel⟩)
end
section
open Go.RowKit
theorem cmpZ_scale11' (x y c:Nat) (hc:0<c):cmpZ ((x*c:Nat):Int) ((y*c:Nat):Int)=cmpZ (x:Int) (y:Int):=by
 rw [Int.natCast_mul,Int.natCast_mul];exact cmpZ_scale11 _ _ _ (by omega)
theorem ag_gen (A v X Y:Nat) (g e f B:Int) (u n:Nat) (hB1:B≤g) (hB2:B≤-((n*u:Nat):Int)) (hA:A*2^(g-B).toNat=v*2^(-((n*u:Nat):Int)-B).toNat) :
 agV (A*Y) (g+f) X e=cmpZ ((v*rS11 Y e f u n:Nat):Int) ((rV11 X e f u n:Nat):Int):=by
 generalize hU:n*u=U at hB2 hA;obtain ⟨D,hD1,hD2⟩:∃ D:Int,D≤f∧B+D≤e:=⟨min f (e-B),Int.min_le_left _ _,by have:=Int.min_le_right f (e-B);omega⟩
 rw [agV_z (A*Y) (g+f) X e (B+D) (by omega) hD2]
 obtain ⟨c,hc⟩:∃ c:Nat,(-(U:Int)-B).toNat+(f-D).toNat=(-(e-f+(U:Int))).toNat+c:=⟨(-(U:Int)-B).toNat+(f-D).toNat-(-(e-f+(U:Int))).toNat,by omega⟩
 have hd:(e-(B+D)).toNat=(e-f+(U:Int)).toNat+c:=by omega
 have e1:A*Y*2^(g+f-(B+D)).toNat=v*rS11 Y e f u n*2^c:=by
  rw [show (g+f-(B+D)).toNat=(g-B).toNat+(f-D).toNat by omega,Nat.pow_add,Nat.mul_mul_mul_comm,hA,Nat.mul_mul_mul_comm,←Nat.pow_add,hc,Nat.pow_add]
  unfold rS11;rw [hU];simp only [Nat.mul_assoc]
 have e2:X*2^(e-(B+D)).toNat=rV11 X e f u n*2^c:=by
  rw [hd,Nat.pow_add];unfold rV11;rw [hU];simp only [Nat.mul_assoc]
 rw [e1,e2];exact cmpZ_scale11' _ _ _ (Nat.two_pow_pos c)
theorem half_units (v X Y:Nat) (e f:Int) (u n:Nat):cmpZ ((v*rS11 Y e f (u+1) n:Nat):Int) ((rV11 X e f (u+1) n:Nat):Int)=cmpZ ((v*rS11 Y e f u n:Nat):Int) ((2^n*rV11 X e f u n:Nat):Int):=by
 generalize hU:n*u=U;have hU':n*(u+1)=U+n:=by rw [Nat.mul_add,Nat.mul_one,hU]
 rw [←cmpZ_scale11' (v*rS11 Y e f (u+1) n) (rV11 X e f (u+1) n) (2^(-(e-f+(U:Int))).toNat) (Nat.two_pow_pos _),←cmpZ_scale11' (v*rS11 Y e f u n) (2^n*rV11 X e f u n) (2^(-(e-f+((U+n:Nat):Int))).toNat) (Nat.two_pow_pos _)]
 congr 2
 · unfold rS11
   rw [hU,hU'];simp only [Nat.mul_assoc];rw [Nat.mul_comm (2^_) (2^_)]
 · unfold rV11
   rw [hU,hU',Nat.mul_assoc,←Nat.pow_add,Nat.mul_comm (2^n),Nat.mul_assoc,Nat.mul_assoc,←Nat.pow_add,←Nat.pow_add]
   congr 2
   omega
theorem pow_units {A v:Nat}{g B:Int}{u n:Nat}(h1:B≤g) (h2:B≤-(u:Int)) (hA:A*2^(g-B).toNat=v*2^(-(u:Int)-B).toNat) (hn:n=1∨n=2):A^n*2^((n:Int)*g-(n:Int)*B).toNat=v^n*2^(-((n*u:Nat):Int)-(n:Int)*B).toNat:=by
 rcases hn with rfl|rfl
 · rw [Nat.pow_one,Nat.pow_one,Nat.one_mul]
   simpa using hA
 · rw [show (((2:Nat):Int)*g-((2:Nat):Int)*B).toNat=(g-B).toNat+(g-B).toNat by omega,show (-((2*u:Nat):Int)-((2:Nat):Int)*B).toNat=(-(u:Int)-B).toNat+(-(u:Int)-B).toNat by omega,Nat.pow_add,Nat.pow_add,Nat.pow_two,Nat.pow_two,Nat.mul_mul_mul_comm,hA,Nat.mul_mul_mul_comm]
theorem mid_units {A Bv v v1 SM:Nat}{g h q B:Int}{u:Nat}(h1:B≤g-1) (h2:B≤-((u+1:Nat):Int)) (hq:q=h-g) (hq0:0≤q) (hA:A*2^(g-B).toNat=v*2^(-(u:Int)-B).toNat) (hBv:Bv*2^(h-B).toNat=v1*2^(-(u:Int)-B).toNat) (hS:A+Bv*2^q.toNat=SM) :
 SM*2^(g-1-B).toNat=(v+v1)*2^(-((u+1:Nat):Int)-B).toNat:=by
 have k1:(g-B).toNat=(g-1-B).toNat+1:=by omega
 have k2:(-(u:Int)-B).toNat=(-((u+1:Nat):Int)-B).toNat+1:=by omega
 have k3:(h-B).toNat=q.toNat+((g-1-B).toNat+1):=by omega
 rw [k1,k2,Nat.pow_succ,Nat.pow_succ,←Nat.mul_assoc,←Nat.mul_assoc] at hA;rw [k3,k2,Nat.pow_add,Nat.pow_succ,Nat.pow_succ,←Nat.mul_assoc,←Nat.mul_assoc,←Nat.mul_assoc] at hBv;have e1:=Nat.eq_of_mul_eq_mul_right (by omega:0<2) hA
 have e2:=Nat.eq_of_mul_eq_mul_right (by omega:0<2) hBv
 rw [←hS,Nat.add_mul,Nat.add_mul,e1,e2]
end
section
open Go.RowKit
theorem num64_step11 (k:Nat):(num64 k).2≤(num64 (k+1)).2∧(num64 (k+1)).2≤(num64 k).2+1∧-1074≤(num64 k).2:=by
 unfold num64
 by_cases h:k/4503599627370496=0
 · rw [if_pos h]
   by_cases h':(k+1)/4503599627370496=0
   · rw [if_pos h'];simp only;omega
   · rw [if_neg h'];simp only;omega
 · rw [if_neg h,if_neg (by omega)]
   simp only;omega
namespace S
end S
structure Wd11 (dg ls:Int) (En:Nat) (v:Nat→Nat) (u:Nat) (num:Nat→Nat×Int):Prop where
 grid:Grid v En
 small:En<9223372036854775808
 ub:u≤2000
 call:∀ (k:Nat) (w:World),k≤En→Calls Tryz.prog 130 #[.agg #[.int .i64 dg,.int .i64 ls,.int .u64 (En:Nat)],.int .u64 (k:Nat)] w fun r w'=>∃ p,r=.returned (.tuple #[p,.int .i64 (num k).2])∧Nt w.heap.size w' p (num k).1∧Below w.heap.size w w'
 val:∀ (k:Nat) (B:Int),B≤-(u:Int)→(num k).1*2^((num k).2-B).toNat=v k*2^(-(u:Int)-B).toNat∧(num k).1<9007199254740992∧B≤(num k).2∧((num k).1=0↔k=0)
 step:∀ k:Nat,(num k).2≤(num (k+1)).2∧(num (k+1)).2≤(num k).2+1∧-(u:Int)≤(num k).2
 top:∀ k:Nat,k≤En→(num k).2≤2000
theorem wd64_is:Wd11 53 (-1074) 9218868437227405312 vK 1074 num64 :=
 ⟨grid64,by omega,by omega,fun k w hk=>rNumber64 k hk w,fun k B hB=>num64_vK k B hB,num64_step11,fun k hk=>by unfold num64;split <;> simp only <;> omega⟩
theorem len_prod {A Y:Nat}(hA:bl A≤200) (hY:bl Y≤262144):(ws (A*Y)).length≤2000000:=by
 have:=bl_mul_le A Y;rw [ws_len_bl];omega
theorem wrap_in (x:Int) (h0:-4611686018427387904≤x) (h1:x≤4611686018427387904):IntKind.i64.wrap x=x:=by rw [IntKind.wrap_i64];omega
theorem cmpZ_three (x y:Int):cmpZ x y=-1∨cmpZ x y=0∨cmpZ x y=1:=by unfold cmpZ;(repeat' split) <;> simp
theorem cmpZ_le0 {x y:Nat}:cmpZ (x:Int) (y:Int)≤0↔x≤y:=by unfold cmpZ;(repeat' split) <;> omega
theorem cmpZ_gt0 {x y:Nat}:0<cmpZ (x:Int) (y:Int)↔y<x:=by unfold cmpZ;(repeat' split) <;> omega
theorem cmpZ_eq0 {x y:Nat}:cmpZ (x:Int) (y:Int)=0↔x=y:=by unfold cmpZ;(repeat' split) <;> omega
theorem againstN {dg ls:Int}{En:Nat}{v:Nat→Nat}{u:Nat}{num:Nat→Nat×Int}(H:Wd11 dg ls En v u num) {w:World}{s mb:Bool}{p a b:Option Addr}{lp cp la ca lb cb X Y:Nat}{e f:Int}(hN:Al w (.slice a la ca) X) (hD:Al w (.slice b lb cb) Y) (he:-1048576≤e∧e≤1048576) (hf:-1048576≤f∧f≤1048576) (hY:bl Y≤262144)
 (A W n U:Nat) (g B:Int) (hA:Al w (.slice p lp cp) A) (hn:n=1∨n=2) (hAb:bl A≤100) (hg:-4000≤g∧g≤4000) (hU:U≤4000) (h1:B≤g) (h2:B≤-(U:Int)) (hv:A*2^(g-B).toNat=W*2^(-(U:Int)-B).toNat) (sq:Bool) (hsq:sq=decide (n=2)) :
 Calls Tryz.prog 169 #[.slice p lp cp,.int .i64 g,.agg #[.bool s,.slice a la ca,.int .i64 e,.bool mb,.slice b lb cb,.int .i64 f],.bool sq] w fun r w'=>r=.returned (.int .i64 (cmpZ ((W^n*rS11 Y e f U n:Nat):Int) ((rV11 X e f U n:Nat):Int)))∧Below w.heap.size w w':=by
 have P:=pow_units h1 h2 hv hn
 rcases hn with rfl|rfl
 · have e1:=ag_gen (A^1) (W^1) X Y (((1:Nat):Int)*g) e f (((1:Nat):Int)*B) U 1 (by omega) (by omega) P
   rw [Nat.pow_one,show ((1:Nat):Int)*g=g by omega] at e1
   subst hsq;rw [←e1];exact against11_q hA hN hD (by omega) (g+f) 0 (wrap_in _ (by omega) (by omega)) (by omega) (A*Y) rfl (len_prod (by omega) hY)
 · have e1:=ag_gen (A^2) (W^2) X Y (((2:Nat):Int)*g) e f (((2:Nat):Int)*B) U 2 (by omega) (by omega) P
   rw [Nat.pow_two,show ((2:Nat):Int)*g=2*g by omega] at e1
   subst hsq;rw [←e1];have hb:=bl_mul_le A A;exact against11_s hA hN hD (by omega) (2*g+f) (2*g) (wrap_in _ (by omega) (by omega)) (wrap_in _ (by omega) (by omega)) (by omega) (A*A*Y) rfl (len_prod (by omega) hY) (by rw [ws_len_bl];omega)
theorem nearbyG {dg ls:Int}{En:Nat}{v:Nat→Nat}{u:Nat}{num:Nat→Nat×Int}(H:Wd11 dg ls En v u num) {w:World}{s mb:Bool}{a b:Option Addr}{la ca lb cb X Y:Nat}{e f:Int}(hN:Al w (.slice a la ca) X) (hD:Al w (.slice b lb cb) Y) (he:-1048576≤e∧e≤1048576) (hf:-1048576≤f∧f≤1048576) (hY:bl Y≤262144)
 {n K:Nat} {t:Bool} {m:Int} (hn:n=1∨n=2) (L:LiesG v En n K t m (rV11 X e f u n) (rS11 Y e f u n)) (sq:Bool) (hsq:sq=decide (n=2)) (mode:Int) (hm0:0≤mode) (hm4:mode≤4) :
 Calls Tryz.prog 137 #[.agg #[.int .i64 dg,.int .i64 ls,.int .u64 (En:Nat)],.agg #[.bool s,.slice a la ca,.int .i64 e,.bool mb,.slice b lb cb,.int .i64 f],.bool sq,.int .i64 mode] w fun r w'=>r=.returned (.int .u64 ((if t then K else if outS mode K m s then K+1 else K:Nat):Nat))∧Below w.heap.size w w':=by
 have hub:=H.ub;have hone:=H.grid.one;have hsm:=H.small;have lnum:∀ k,bl (num k).1≤53:=fun k=>bl_le53 _ (H.val k _ (Int.le_refl _)).2.1
 have C:=nearby11 (w:=w) (n:=s) (m:=mb) (a:=a) (b:=b) (la:=la) (ca:=ca) (lb:=lb) (cb:=cb) (e:=e) (f:=f) dg ls En (by omega) hsm num
  (fun k=>cmpZ ((v k^n*rS11 Y e f u n:Nat):Int) ((rV11 X e f u n:Nat):Int)) (fun k=>cmpZ (((v k+v (k+1))^n*rS11 Y e f u n:Nat):Int) ((2^n*rV11 X e f u n:Nat):Int)) sq mode hm0 hm4
  (fun k=>len8 (by have:=lnum k;omega)) (fun k=>cmpZ_three _ _) (hid fun k w' hk=>H.call k w' (by omega))
  (hid fun k w' p l c hk hb hA=>by
   obtain ⟨h1,h2,h3,h4⟩:=H.val k (-(u:Int)) (Int.le_refl _);have h5:=H.top k (by omega)
   exact againstN H (hN.below hb) (hD.below hb) he hf hY (num k).1 (v k) n u (num k).2 (-(u:Int)) hA hn (by have:=lnum k;omega) (by omega) (by omega) h3 (Int.le_refl _) h1 sq hsq)
  (hid fun k w' hk hb=>by
   obtain ⟨h1,h2,h3,h4⟩:=H.val k (-(u:Int)-1) (by omega)
   obtain ⟨i1,i2,i3,i4⟩:=H.val (k+1) (-(u:Int)-1) (by omega)
   obtain ⟨j1,j2,j3⟩:=H.step k;have h5:=H.top k (by omega)
   have l1:=lnum k;have l2:=lnum (k+1);obtain ⟨q,hq⟩:∃ q,(num (k+1)).2-(num k).2=q:=⟨_,rfl⟩;have hq2:q=0∨q=1:=by omega
   have hp:(2:Nat)^q.toNat≤2:=by rcases hq2 with h | h <;> subst h <;> decide
   have hM:(num (k+1)).1*2^q.toNat≤(num (k+1)).1*2:=Nat.mul_le_mul_left _ hp;have M:=mid_units (u:=u) (B:=-(u:Int)-1) (by omega) (by omega) hq.symm (by omega) h1 i1 rfl
   have lM:bl ((num (k+1)).1*2^q.toNat)≤60:=bl_lt_pow (by rw [show (2:Nat)^60=1152921504606846976 by rfl];omega)
   have lS:bl ((num k).1+(num (k+1)).1*2^q.toNat)≤60:=bl_lt_pow (by rw [show (2:Nat)^60=1152921504606846976 by rfl];omega)
   refine half11 dg ls En (k:Int) ((k+1:Nat):Int) (num k).2 (num (k+1)).2 q ((num k).2-1) _ (num k).1 (num (k+1)).1 _ sq (by rw [IntKind.wrap_u64];omega) (by rw [hq];exact wrap_in _ (by omega) (by omega)) (by omega) (by omega) (wrap_in _ (by omega) (by omega)) rfl (fun h=>by have:=i4.1 h;omega) (len8 (by omega)) (len8 (by omega)) (len8 (by omega)) (len8 (by omega)) (hid fun x=>H.call k x (by omega)) (hid fun x=>H.call (k+1) x (by omega)) (hid fun x p l c hx hA=>?_)
   have:=againstN H ((hN.below hb).below hx) ((hD.below hb).below hx) he hf hY ((num k).1+(num (k+1)).1*2^q.toNat) (v k+v (k+1)) n (u+1) ((num k).2-1) (-(u:Int)-1) hA hn (by omega) (by omega) (by omega) (by omega) (by omega) M sq hsq (s:=s) (mb:=mb)
   rw [half_units] at this;exact this)
 refine C.mono ?_;rintro r w' ⟨⟨k,rfl,hk,k1,k2⟩,hb⟩;refine ⟨?_,hb⟩
 obtain ⟨d1,d2,d3⟩:=L.doc H.grid (by omega) k hk (by
  rcases k1 with rfl|h
  · rw [H.grid.zero,Nat.zero_pow (by omega),Nat.zero_mul];exact Nat.zero_le _
  · exact cmpZ_le0.1 h) (by
  rcases k2 with h|h
  · exact .inl h
  · exact .inr (cmpZ_gt0.1 h))
 subst d1
 congr 3
 unfold nbyD11
 by_cases hx:rV11 X e f u n=v k^n*rS11 Y e f u n
 · rw [if_pos (cmpZ_eq0.2 hx.symm),d2,decide_eq_true hx,if_pos rfl]
 · have ht:t=false:=by rw [d2];exact decide_eq_false hx
   have hm:-cmpZ (((v k+v (k+1))^n*rS11 Y e f u n:Nat):Int) ((2^n*rV11 X e f u n:Nat):Int)=m:=by
    rw [d3 ht,←cmpZ_neg];unfold cmpN cmpZ;simp only [Int.ofNat_lt]
   rw [if_neg (fun h=>hx (cmpZ_eq0.1 h).symm),hm,ht];rfl
end
section
open Go.RowKit
section
attribute [local go_sem] B.f64frombits
theorem wide64_any (k:Nat) (hk:k<9223372036854775808) (neg:Bool) (er:Int) (w:World) :
 Calls Tryz.prog 100 #[.int .u64 (k:Nat),.bool neg,.int .i64 er] w fun r w'=>r=.returned (.tuple #[.float .f64 (k+(if neg then 9223372036854775808 else 0)),.int .i64 er])∧w'=w:=by
 have e1:IntKind.u64.wrap ((k:Int)+9223372036854775808)=((k+9223372036854775808:Nat):Int):=by rw [IntKind.wrap_u64];omega
 cases neg
 · go_enter Tryz.func100,Tryz.ntmps100
   go_wp2;exact bodyPost_ret (v:=.tuple #[.float .f64 k,.int .i64 er]) (by simp [results,Tryz.results100,go_sem]) rfl ⟨by simp,rfl⟩
 · go_enter Tryz.func100,Tryz.ntmps100
   go_wp2;exact bodyPost_ret (v:=.tuple #[.float .f64 (k+9223372036854775808),.int .i64 er]) (by simp [results,Tryz.results100,go_sem] <;> omega) rfl ⟨by simp,rfl⟩
end
end
section
open Go.RowKit
theorem Tryz.und_ratios:Tryz.prog.underlying 147=some (.slice 71):=by kernel_rfl
theorem Tryz.info_ratio:(Tryz.prog.info? 71).map (fun i=>(i.zero,i.size,i.bytes))=some (some (.agg #[.bool false,.slice none 0 0,.int .i64 0,.bool false,.slice none 0 0,.int .i64 0]),6,80):=by kernel_rfl
structure R1 (w:World) (v:Value) (n:Bool) (x:Value) (e:Int) (m:Bool) (y:Value) (f:Int):Prop where
 ex:∃ g cap,v=.slice (some ⟨g,0,none⟩) 1 cap∧1≤cap∧g<w.heap.size∧(w.cell? ⟨g,0,none⟩=some (.bool n)∧w.cell? ⟨g,1,none⟩=some x∧w.cell? ⟨g,2,none⟩=some (.int .i64 e)∧w.cell? ⟨g,3,none⟩=some (.bool m)∧w.cell? ⟨g,4,none⟩=some y∧w.cell? ⟨g,5,none⟩=some (.int .i64 f))
theorem append_r (w:World) (n:Bool) (a:Option Addr) (l c:Nat) (e:Int) (m:Bool) (b:Option Addr) (k d:Nat) (f:Int) :
 ∃ v' w',(Builtin.append_ #[147,147] 147 #[.slice none 0 0,.slice (some ⟨w.heap.size,0,none⟩) 1 1]).run Tryz.prog (w.alloc (.cells #[.bool n,.slice a l c,.int .i64 e,.bool m,.slice b k d,.int .i64 f] 71))=.ok v' w'∧R1 w' v' n (.slice a l c) e m (.slice b k d) f∧Below w.heap.size w w':=by
 obtain ⟨i0,hi,hz0,hz1,hz2⟩:=info_parts Tryz.info_ratio;obtain ⟨W,hW⟩:∃ W,W=w.alloc (.cells #[.bool n,.slice a l c,.int .i64 e,.bool m,.slice b k d,.int .i64 f] 71):=⟨_,rfl⟩;have hq:Rq W w.heap.size n (.slice a l c) e m (.slice b k d) f:=by rw [hW];exact Rq.new _ _ _ _ _ _ _
 obtain ⟨x0,x1,x2,x3,x4,x5⟩:=hq.facts;have hWs:w.heap.size≤W.heap.size:=by subst hW;simp
 obtain ⟨v',w',r1,r2,r3,r4,r5⟩:=run_append_own_at (P:=Tryz.prog) W w.heap.size 147 147 71 i0 _ 6 80 Tryz.und_ratios hi hz0 hz1 hz2 rfl (by decide) (.slice none 0 0) 0 [] (World.ownsRow_nil W w.heap.size 71 6) ⟨w.heap.size,0,none⟩ 1 1 [.bool n,.slice a l c,.int .i64 e,.bool m,.slice b k d,.int .i64 f] rfl (by
  intro j u hj
  match j,hj with
  | 0,hj=>simp at hj;subst hj;simpa [Addr.add] using x0
  | 1,hj=>simp at hj;subst hj;simpa [Addr.add] using x1
  | 2,hj=>simp at hj;subst hj;simpa [Addr.add] using x2
  | 3,hj=>simp at hj;subst hj;simpa [Addr.add] using x3
  | 4,hj=>simp at hj;subst hj;simpa [Addr.add] using x4
  | 5,hj=>simp at hj;subst hj;simpa [Addr.add] using x5
  | j+6,hj=>simp at hj) (by intro u hu;simp at hu;rcases hu with rfl | rfl | rfl | rfl | rfl | rfl <;> rfl) (by unfold maxLen;omega) (by omega) hWs
 rw [←hW];refine ⟨v',w',r1,?_,?_⟩
 · rcases r2.2 with ⟨h1,h2⟩ | ⟨g,cap,cur,rfl,hlo,hg,hn1,hm,hs,ht⟩
   · exact absurd (r4.1 h1).2 (by decide)
   · have C:∀ i,i<6→w'.cell? ⟨g,i,none⟩=([.bool n,.slice a l c,.int .i64 e,.bool m,.slice b k d,.int .i64 f]:List Value)[i]?:=by
      intro i hi6;have:=World.ownsRow.cellAt r2 i (by simp;omega)
      simpa using this
     exact ⟨g,cap,rfl,hn1,(Array.getElem?_eq_some_iff.1 hg).1,C 0 (by omega),C 1 (by omega),C 2 (by omega),C 3 (by omega),C 4 (by omega),C 5 (by omega)⟩
 · have hlw:Below w.heap.size w W:=by subst hW;exact below_alloc _ _
   refine ⟨r3.os.trans hlw.os,r3.tape.trans hlw.tape,r3.output.trans hlw.output,Nat.le_trans hlw.size r3.size,fun k hkl=>?_⟩
   rw [r3.block k (by omega) (fun e=>by simp [Value.ownBlock] at e)]
   exact hlw.block k hkl
end
section
open Go.RowKit J
attribute [local go_sem] st_float
theorem wpList_append10 {w:World}{ops:Array Oper}{rest:List Oper}{o:Oper}{a:Act}{Q:Exit→Act→World→Prop}(hgd:o.guard=none) (s x:Operand) (t:TypeId)
 (ho:o.op=.call { callee:=.builtin .append,args:=#[s,x],argTypes:=#[t,t] }) (v u:Value) (hs:a.eval s=v) (hx:a.eval x=u) (v':Value) (w':World)
 (hrun:(Builtin.append_ #[t,t] o.type #[v,u]).run Tryz.prog w=.ok v' w') (h:wpList Tryz.prog ops Q rest (a.put o.dst v') w'):wpList Tryz.prog ops Q (o::rest) a w:=by
 refine wpList_plain hgd fun K hK=>?_
 unfold Oper.wp;simp [execOp,ho,resolve,invoke,builtin,hs,hx,hrun,Result.andThen];exact hK _ _ h
end
section
open Go.RowKit
theorem sign_al {w:World}{v:Value}{X:Nat}(h1:Al w v X) (ng:Bool) (e:Int):Calls Tryz.prog 168 #[.agg #[.bool ng,v,.int .i64 e]] w fun r w'=>r=.returned (.int .i64 (sgn ng X))∧Below w.heap.size w w':=by
 obtain ⟨a,l,c,xs,rfl,hA,rfl,hl⟩:=h1;exact rSign_any3 hA ng e
theorem made_al {w:World}{v:Value}{X:Nat}(h1:Al w v X) (n:Bool) (e:Int) (be:-9223372036854775808≤e∧e≤9223372036854775807) (o:Option (Bool×Nat×Int)) (ho:mkS n X e=o) (s:Bool) (hs:o.isSome=s):Calls Tryz.prog 59 #[.agg #[.bool n,v,.int .i64 e]] w fun r w'=>(∃ p,r=.returned (.tuple #[.agg #[.bool (dN o),p,.int .i64 (dE o)],.bool s])∧Nt w.heap.size w' p (dX o))∧Below w.heap.size w w':=by
 obtain ⟨a,l,c,xs,rfl,hA,rfl,hl⟩:=h1;subst ho hs;exact rMade_any hA hl n e be.1 be.2
def MayA (lo:Nat) (w:World) (r:Ending) (o p:Option (Bool×Nat×Int)) (er:Int):Prop :=
 ∃ v,r=.returned (.tuple #[v,.int .i64 er])∧(er=0→∃ x y,R1 w v (dN o) x (dE o) (dN p) y (dE p)∧Nt lo w x (dX o)∧Nt lo w y (dX p))
theorem may1 {w:World}{g:Nat}{n m:Bool}{a b:Option Addr}{la ca lb cb X Y:Nat}{e f:Int}(hq:Rq w g n (.slice a la ca) e m (.slice b lb cb) f) (hN:Al w (.slice a la ca) X) (hD:Al w (.slice b lb cb) Y) (be:-9223372036854775808≤e∧e≤9223372036854775807) (bf:-9223372036854775808≤f∧f≤9223372036854775807)
 (o p:Option (Bool×Nat×Int)) (ho:mkS n X e=o) (hp:mkS m Y f=p) (er:Int) (her:errN X n e Y m f=er) :
 Calls Tryz.prog 136 #[.slice (some ⟨g,0,none⟩) 1 1] w fun r w'=>MayA w.heap.size w' r o p er∧Below w.heap.size w w':=by
 have S0:=(qsd (ai (Below.refl w.heap.size w) hq));have AA:=(qsd (ai hN (ai hD (ai be (ai bf (ai ho (ai hp her)))))));have LL:Aside ((ws (dX o)).length≤8192∧(ws (dX p)).length≤8192):=qsd ⟨by rw [←ho];exact mkS_len _ _ _,by rw [←hp];exact mkS_len _ _ _⟩
 obtain ⟨sg,hsg⟩:∃ x,sgn m Y=x:=⟨_,rfl⟩;have SG:=qsd hsg;clear hq hN hD be bf ho hp her hsg;have one:decide ((1:Int)<1)=false:=by decide
 go_enter Tryz.func136,Tryz.ntmps136;go_wp2
 go_loopg [4] 1 (fun gk i wr=>∃ k:Nat,gk+k=1∧i=.int .i64 (k:Nat)∧Aside (Below w.heap.size w wr∧(k=1→¬ sgn m Y<0)))
 case atStart=>exact ⟨0,by omega,by simp,qsd ⟨S0.out.1,fun h=>by cases h⟩⟩
 case round =>
  obtain ⟨k,hgk,rfl,HA⟩:=hrel
  by_cases hk:k<1
  · obtain rfl:k=0:=by omega
    obtain ⟨x0,x1,x2,x3,x4,x5⟩:=(S0.out.2.below HA.out.1).facts;have HC:=hid (sign_al (AA.out.2.1.below HA.out.1) m f);rw [SG.out] at HC
    go_wp2_with fail
    clear x0 x1 x2 x3 x4 x5;refine HC.out.mono ?_;rintro r u1 ⟨rfl,hb⟩;have HB:=qsd (HA.out.1.trans (hb.mono HA.out.1.size));clear HC hb HA
    by_cases hs:sg<0
    · have hs':decide (sg<0)=true:=decide_eq_true hs
      have HE:Aside (er=1):=qsd (by rw [←AA.out.2.2.2.2.2.2];unfold errN;rw [if_pos (by rw [SG.out];exact hs)])
      clear hs;go_wp2;exact bodyPost_ret (v:=.tuple #[.slice none 0 0,.int .i64 1]) (by simp [results,Tryz.results136,go_sem]) rfl ⟨⟨_,by rw [HE.out],fun h=>by rw [HE.out] at h;cases h⟩,HB.out⟩
    · have hs':decide (sg<0)=false:=decide_eq_false hs
      have HS:=qsd hs;clear hs
      go_wp2_with fail
      go_roundg 0
      case measure=>omega
      case rel=>exact ⟨1,by omega,by first | rfl | simp,qsd ⟨HB.out,fun _=>by rw [SG.out];exact HS.out⟩⟩
  · obtain rfl:k=1:=by omega
    have HS:=qsd (HA.out.2 rfl);have HB:=qsd HA.out.1;clear HA;go_wp2
    go_loopg [6,5] 1 (fun gk i v wr=>∃ (k:Nat) (v0:Value),gk+k=1∧i=.int .i64 (k:Nat)∧v=v0∧Aside (Below w.heap.size w wr∧(k=0→v0=.slice none 0 0)∧(k=1→o.isSome=true∧p.isSome=true∧∃ x y,R1 wr v0 (dN o) x (dE o) (dN p) y (dE p)∧Nt w.heap.size wr x (dX o)∧Nt w.heap.size wr y (dX p))))
    case atStart=>exact ⟨0,_,by omega,by simp,rfl,qsd ⟨HB.out,fun _=>rfl,fun h=>by cases h⟩⟩
    case round =>
     obtain ⟨j,v,hgj,rfl,hv,HA⟩:=hrel
     by_cases hj:j<1
     · obtain rfl:j=0:=by omega
       have hv0:=HA.out.2.1 rfl;subst hv0;subst hv;obtain ⟨s1,hs1⟩:∃ x,o.isSome=x:=⟨_,rfl⟩;obtain ⟨s2,hs2⟩:∃ x,p.isSome=x:=⟨_,rfl⟩;have SS:=(qsd (ai hs1 hs2));have S1:=(qsd (ai HA.out.1 (ai (S0.out.2.below HA.out.1) (ai (AA.out.1.below HA.out.1) (AA.out.2.1.below HA.out.1)))));clear hs1 hs2 HA;obtain ⟨x0,x1,x2,x3,x4,x5⟩:=S1.out.2.1.facts;have HC:=hid (made_al S1.out.2.2.1 n e AA.out.2.2.1 o AA.out.2.2.2.2.1 s1 SS.out.1)
       go_wp2_with fail
       clear x0 x1 x2 x3 x4 x5;refine HC.out.mono ?_;rintro r u1 ⟨⟨q,rfl,hN⟩,hb⟩;obtain ⟨q1,d1,rfl,-⟩:=hN.shape;obtain ⟨U1,hU1⟩:∃ U,U=u1.alloc (.cells #[.bool (dN o),.slice q1 (ws (dX o)).length d1,.int .i64 (dE o)] 41):=⟨_,rfl⟩
       have S2:Aside (Below w.heap.size w U1∧Rq U1 g n (.slice a la ca) e m (.slice b lb cb) f∧Al U1 (.slice b lb cb) Y∧Dk U1 u1.heap.size (dN o) (.slice q1 (ws (dX o)).length d1) (dE o)∧Nt w.heap.size U1 (.slice q1 (ws (dX o)).length d1) (dX o)):=by
        have b0:=S1.out.1;have b1:=b0.trans (hb.mono b0.size);have hA:Below u1.heap.size u1 U1:=by rw [hU1];exact below_alloc _ _
        exact qsd ⟨b1.trans (hA.mono b1.size),(S1.out.2.1.below hb).below hA,(S1.out.2.2.2.below hb).below hA,by rw [hU1];exact Dk.new _ _ _ _,(hN.mono b0.size).below hA⟩
       clear HC hb hN S1;obtain ⟨x0,x1,x2,x3,x4,x5⟩:=S2.out.2.1.facts;have HC:=hid (made_al S2.out.2.2.1 m f AA.out.2.2.2.1 p AA.out.2.2.2.2.2.1 s2 SS.out.2)
       go_upto_region 11 with fail
       rw [←hU1];clear hU1
       go_wp2_with fail
       clear x0 x1 x2 x3 x4 x5;refine HC.out.mono ?_;rintro r u2 ⟨⟨q,rfl,hN⟩,hb⟩;obtain ⟨q2,d2,rfl,-⟩:=hN.shape;obtain ⟨U2,hU2⟩:∃ U,U=u2.alloc (.cells #[.bool (dN p),.slice q2 (ws (dX p)).length d2,.int .i64 (dE p)] 41):=⟨_,rfl⟩
       have S3:Aside (Below w.heap.size w U2∧Dk U2 u1.heap.size (dN o) (.slice q1 (ws (dX o)).length d1) (dE o)∧Nt w.heap.size U2 (.slice q1 (ws (dX o)).length d1) (dX o)∧Dk U2 u2.heap.size (dN p) (.slice q2 (ws (dX p)).length d2) (dE p)∧Nt w.heap.size U2 (.slice q2 (ws (dX p)).length d2) (dX p)):=by
        have b0:=S2.out.1;have b1:=b0.trans (hb.mono b0.size);have hA:Below u2.heap.size u2 U2:=by rw [hU2];exact below_alloc _ _
        exact qsd ⟨b1.trans (hA.mono b1.size),(S2.out.2.2.2.1.below hb).below hA,(S2.out.2.2.2.2.below hb).below hA,by rw [hU2];exact Dk.new _ _ _ _,(hN.mono b0.size).below hA⟩
       clear HC hb hN S2
       by_cases hbad:s1=true∧s2=true
       · obtain ⟨rfl,rfl⟩:=hbad
         obtain ⟨x0,x1,x2,x3,x4,x5⟩:=S3.out.2.1.facts;obtain ⟨y0,y1,y2,y3,y4,y5⟩:=S3.out.2.2.2.1.facts;obtain ⟨v',w',r1,r2,r3⟩:=append_r U2 (dN o) q1 (ws (dX o)).length d1 (dE o) (dN p) q2 (ws (dX p)).length d2 (dE p);have HR:=qsd r1;have HN:=(qsd (ai r2 (ai (S3.out.1.trans (r3.mono S3.out.1.size)) (ai (S3.out.2.2.1.below r3) (S3.out.2.2.2.2.below r3)))));clear r1 r2 r3
         go_upto_region 14 with fail
         rw [←hU2];clear hU2
         go_wp2_with (at_builtin;refine wpList_append10 rfl (.tmp 55) (.tmp 59) 147 rfl _ _ rfl rfl _ _ HR.out ?_)
         go_roundg 0
         case measure=>omega
         case rel=>exact ⟨1,_,by omega,by first | rfl | simp,rfl,qsd ⟨HN.out.2.1,(fun h=>by cases h),fun _=>⟨SS.out.1,SS.out.2,_,_,HN.out.1,HN.out.2.2.1,HN.out.2.2.2⟩⟩⟩
       · have HE:Aside (er=2):=qsd (by
          rw [←AA.out.2.2.2.2.2.2];unfold errN;rw [if_neg (by have:=HS.out;omega),AA.out.2.2.2.2.1,AA.out.2.2.2.2.2.1,SS.out.1,SS.out.2]
          rw [if_neg (by intro h;rw [Bool.and_eq_true] at h;exact hbad h)])
         have H5:=qsd S3.out.1;clear S3
         cases s1
         · go_upto_region 12 with fail
           rw [←hU2];clear hU2 hbad;go_wp2;exact bodyPost_ret (v:=.tuple #[.slice none 0 0,.int .i64 2]) (by simp [results,Tryz.results136,go_sem]) rfl ⟨⟨_,by rw [HE.out],fun h=>by rw [HE.out] at h;cases h⟩,H5.out⟩
         · cases s2
           · go_upto_region 12 with fail
             rw [←hU2];clear hU2 hbad;go_wp2;exact bodyPost_ret (v:=.tuple #[.slice none 0 0,.int .i64 2]) (by simp [results,Tryz.results136,go_sem]) rfl ⟨⟨_,by rw [HE.out],fun h=>by rw [HE.out] at h;cases h⟩,H5.out⟩
           · exact absurd ⟨rfl,rfl⟩ hbad
     · obtain rfl:j=1:=by omega
       obtain ⟨i1,i2,x,y,hR,hx,hy⟩:=HA.out.2.2 rfl;obtain ⟨gg,cap,rfl,hcap,hgg,c0,c1,c2,c3,c4,c5⟩:=hR.ex;subst hv;obtain ⟨q1,d1,rfl,-⟩:=hx.shape;obtain ⟨q2,d2,rfl,-⟩:=hy.shape;have HX:=(qsd (ai HA.out.1 (ai hR (ai hx (ai hy (ai i1 i2))))));clear HA hR hx hy hgg i1 i2;go_wp2
       go_loopg [11] 1 (fun gk i wq=>∃ (k:Nat),gk+k=1∧i=.int .i64 (k:Nat)∧wq=wr∧Aside (k=1→dX p≠0))
       case atStart=>exact ⟨0,by omega,by simp,rfl,qsd fun h=>by cases h⟩
       case round =>
        obtain ⟨i,hgi,rfl,rfl,HP⟩:=hrel
        by_cases hi:i<1
        · obtain rfl:i=0:=by omega
          by_cases h0:dX p=0
          · have r1:((((ws (dX p)).length:Nat):Int)==0)=true:=by rw [h0,ws0];rfl
            have r2:((ws (dX p)).length==0)=true:=by rw [h0,ws0];rfl
            have HE:Aside (er=21):=qsd (by
             rw [←AA.out.2.2.2.2.2.2];unfold errN;rw [if_neg (by have:=HS.out;omega),AA.out.2.2.2.2.1,AA.out.2.2.2.2.2.1,HX.out.2.2.2.2.1,HX.out.2.2.2.2.2,if_pos (by decide),if_pos h0])
            clear h0;go_wp2;exact bodyPost_ret (v:=.tuple #[.slice none 0 0,.int .i64 21]) (by simp [results,Tryz.results136,go_sem]) rfl ⟨⟨_,by rw [HE.out],fun h=>by rw [HE.out] at h;cases h⟩,HX.out.1⟩
          · have r1:((((ws (dX p)).length:Nat):Int)==0)=false:=len_ne h0
            have r2:((ws (dX p)).length==0)=false:=beq_eq_false_iff_ne.2 (fun h=>h0 ((ws_len_zero _).1 h))
            have H0:=qsd h0;clear h0
            go_wp2_with fail
            go_roundg 0
            case measure=>omega
            case rel=>exact ⟨1,by omega,by first | rfl | simp,rfl,qsd fun _=>H0.out⟩
        · obtain rfl:i=1:=by omega
          have HE:Aside (er=0):=qsd (by
           rw [←AA.out.2.2.2.2.2.2];unfold errN;rw [if_neg (by have:=HS.out;omega),AA.out.2.2.2.2.1,AA.out.2.2.2.2.2.1,HX.out.2.2.2.2.1,HX.out.2.2.2.2.2,if_pos (by decide),if_neg (HP.out rfl)])
          go_wp2;exact bodyPost_ret (v:=.tuple #[.slice (some ⟨gg,0,none⟩) 1 cap,.int .i64 0]) (by simp [results,Tryz.results136,go_sem]) rfl ⟨⟨_,by rw [HE.out],fun _=>⟨_,_,HX.out.2.1,HX.out.2.2.1,HX.out.2.2.2.1⟩⟩,HX.out.1⟩
end
section
open Go.RowKit
theorem rounded_mode {w:World}{n m:Bool}{a b:Option Addr}{la ca lb cb X Y:Nat}{e f:Int}(dg ls:Int) (En:Nat) (sq:Bool) (mode:Int) (hm:mode<0∨4<mode) :
 Calls Tryz.prog 99 #[.agg #[.int .i64 dg,.int .i64 ls,.int .u64 (En:Nat)],.agg #[.bool n,.slice a la ca,.int .i64 e,.bool m,.slice b lb cb,.int .i64 f],.bool sq,.int .i64 mode] w fun r w'=>r=.returned (.tuple #[.int .u64 0,.bool false,.int .i64 1])∧Below w.heap.size w w':=by
 obtain ⟨W1,hW1⟩:∃ W,W=(w.alloc (.cells #[.int .i64 dg,.int .i64 ls,.int .u64 (En:Nat)] 110)).alloc (.cells #[.bool n,.slice a la ca,.int .i64 e,.bool m,.slice b lb cb,.int .i64 f] 71):=⟨_,rfl⟩;obtain ⟨hB,Z,QR⟩:=two_boxes w dg ls En n _ e m _ f W1 hW1;have S9:=qsd hB;clear hB Z QR;have hd:(mode<0)∨(¬ mode<0∧4<mode):=by omega
 clear hm;go_enter Tryz.func99,Tryz.ntmps99
 go_upto_region 1 with fail
 rw [←hW1];clear hW1
 rcases hd with hd|⟨hd,hd2⟩
 · have d1:=decide_eq_true hd
   clear hd;go_wp2;exact bodyPost_ret (v:=.tuple #[.int .u64 0,.bool false,.int .i64 1]) (by simp [results,Tryz.results99,go_sem]) rfl ⟨rfl,S9.out⟩
 · have d1:=decide_eq_false hd
   have d2:=decide_eq_true hd2;clear hd hd2;go_wp2;exact bodyPost_ret (v:=.tuple #[.int .u64 0,.bool false,.int .i64 1]) (by simp [results,Tryz.results99,go_sem]) rfl ⟨rfl,S9.out⟩
theorem rounded_err {w:World}{n m:Bool}{a b:Option Addr}{la ca lb cb X Y:Nat}{e f:Int}(dg ls:Int) (En:Nat) (sq:Bool) (mode:Int) (hm0:0≤mode) (hm4:mode≤4) (hN:Al w (.slice a la ca) X) (hD:Al w (.slice b lb cb) Y) (be:-9223372036854775808≤e∧e≤9223372036854775807) (bf:-9223372036854775808≤f∧f≤9223372036854775807)
 (o p:Option (Bool×Nat×Int)) (ho:mkS n X e=o) (hp:mkS m Y f=p) (er:Int) (her:errN X n e Y m f=er) (hne:er≠0) :
 Calls Tryz.prog 99 #[.agg #[.int .i64 dg,.int .i64 ls,.int .u64 (En:Nat)],.agg #[.bool n,.slice a la ca,.int .i64 e,.bool m,.slice b lb cb,.int .i64 f],.bool sq,.int .i64 mode] w fun r w'=>r=.returned (.tuple #[.int .u64 0,.bool false,.int .i64 er])∧Below w.heap.size w w':=by
 obtain ⟨W1,hW1⟩:∃ W,W=(w.alloc (.cells #[.int .i64 dg,.int .i64 ls,.int .u64 (En:Nat)] 110)).alloc (.cells #[.bool n,.slice a la ca,.int .i64 e,.bool m,.slice b lb cb,.int .i64 f] 71):=⟨_,rfl⟩;obtain ⟨hB,Z,QR⟩:=two_boxes w dg ls En n _ e m _ f W1 hW1;obtain ⟨L1,hL1⟩:∃ W,W=W1.alloc (.cells #[.bool n,.slice a la ca,.int .i64 e,.bool m,.slice b lb cb,.int .i64 f] 71):=⟨_,rfl⟩;have hB2:Below W1.heap.size W1 L1:=by rw [hL1];exact below_alloc _ _
 have bel:=hB.trans (hB2.mono hB.size);have LQ:Rq L1 W1.heap.size n (.slice a la ca) e m (.slice b lb cb) f:=by rw [hL1];exact Rq.new _ _ _ _ _ _ _
 have HC:=hid (may1 LQ (hN.below bel) (hD.below bel) be bf o p ho hp er her);have LL:Aside ((ws (dX o)).length≤8192∧(ws (dX p)).length≤8192):=qsd ⟨by rw [←ho];exact mkS_len _ _ _,by rw [←hp];exact mkS_len _ _ _⟩
 obtain ⟨x0,x1,x2,x3,x4,x5⟩:=QR.facts;have S0:=(qsd (ai bel (Z.below hB2)));have d1:decide (mode<0)=false:=decide_eq_false (by omega)
 have d2:decide (4<mode)=false:=decide_eq_false (by omega)
 clear hB hB2 bel LQ Z QR hN hD be bf ho hp her hm0 hm4;go_enter Tryz.func99,Tryz.ntmps99
 go_upto_region 1 with fail
 rw [←hW1];clear hW1
 go_wp2_with fail
 rw [←hL1];clear hL1 x0 x1 x2 x3 x4 x5;refine HC.out.mono ?_;rintro r u1 ⟨⟨v,rfl,hR⟩,hb⟩;have S9:=qsd (S0.out.1.trans (hb.mono S0.out.1.size));have hne':(er != 0)=true:=by simpa using hne
 have hne2:(er==0)=false:=by simpa using hne
 clear hb hR HC S0 LL;go_wp2;exact bodyPost_ret (v:=.tuple #[.int .u64 0,.bool false,.int .i64 er]) (by simp [results,Tryz.results99,go_sem]) rfl ⟨rfl,S9.out⟩
theorem rounded_ok {w:World}{n m:Bool}{a b:Option Addr}{la ca lb cb X Y:Nat}{e f:Int}(dg ls:Int) (En:Nat) (sq:Bool) (mode:Int) (hm0:0≤mode) (hm4:mode≤4) (hN:Al w (.slice a la ca) X) (hD:Al w (.slice b lb cb) Y) (be:-9223372036854775808≤e∧e≤9223372036854775807) (bf:-9223372036854775808≤f∧f≤9223372036854775807)
 (o p:Option (Bool×Nat×Int)) (ho:mkS n X e=o) (hp:mkS m Y f=p) (er:Int) (her:errN X n e Y m f=er) (h0:er=0) (hsq:sq=false∨dN o=false) (K:Nat)
 (HNb:Hid (∀ (u:World) (x y:Option Addr) (lx cx ly cy:Nat),Below w.heap.size w u→Al u (.slice x lx cx) (dX o)→Al u (.slice y ly cy) (dX p)→Calls Tryz.prog 137 #[.agg #[.int .i64 dg,.int .i64 ls,.int .u64 (En:Nat)],.agg #[.bool (dN o),.slice x lx cx,.int .i64 (dE o),.bool (dN p),.slice y ly cy,.int .i64 (dE p)],.bool sq,.int .i64 mode] u fun r w'=>r=.returned (.int .u64 (K:Nat))∧Below u.heap.size u w')) :
 Calls Tryz.prog 99 #[.agg #[.int .i64 dg,.int .i64 ls,.int .u64 (En:Nat)],.agg #[.bool n,.slice a la ca,.int .i64 e,.bool m,.slice b lb cb,.int .i64 f],.bool sq,.int .i64 mode] w fun r w'=>r=.returned (.tuple #[.int .u64 (K:Nat),.bool (dN o),.int .i64 0])∧Below w.heap.size w w':=by
 obtain ⟨W1,hW1⟩:∃ W,W=(w.alloc (.cells #[.int .i64 dg,.int .i64 ls,.int .u64 (En:Nat)] 110)).alloc (.cells #[.bool n,.slice a la ca,.int .i64 e,.bool m,.slice b lb cb,.int .i64 f] 71):=⟨_,rfl⟩;obtain ⟨hB,Z,QR⟩:=two_boxes w dg ls En n _ e m _ f W1 hW1;obtain ⟨L1,hL1⟩:∃ W,W=W1.alloc (.cells #[.bool n,.slice a la ca,.int .i64 e,.bool m,.slice b lb cb,.int .i64 f] 71):=⟨_,rfl⟩;have hB2:Below W1.heap.size W1 L1:=by rw [hL1];exact below_alloc _ _
 have bel:=hB.trans (hB2.mono hB.size);have LQ:Rq L1 W1.heap.size n (.slice a la ca) e m (.slice b lb cb) f:=by rw [hL1];exact Rq.new _ _ _ _ _ _ _
 have HC:=hid (may1 LQ (hN.below bel) (hD.below bel) be bf o p ho hp er her);have LL:Aside ((ws (dX o)).length≤8192∧(ws (dX p)).length≤8192):=qsd ⟨by rw [←ho];exact mkS_len _ _ _,by rw [←hp];exact mkS_len _ _ _⟩
 obtain ⟨x0,x1,x2,x3,x4,x5⟩:=QR.facts;have S0:=(qsd (ai bel (Z.below hB2)));have d1:decide (mode<0)=false:=decide_eq_false (by omega)
 have d2:decide (4<mode)=false:=decide_eq_false (by omega)
 clear hB hB2 bel LQ Z QR hN hD be bf ho hp her hm0 hm4;go_enter Tryz.func99,Tryz.ntmps99
 go_upto_region 1 with fail
 rw [←hW1];clear hW1
 go_wp2_with fail
 rw [←hL1];clear hL1 x0 x1 x2 x3 x4 x5;refine HC.out.mono ?_;rintro r u1 ⟨⟨v,rfl,hR⟩,hb⟩;obtain ⟨x,y,hR1,hx,hy⟩:=hR h0;subst h0;obtain ⟨gg,cap,rfl,hcap,hgg,c0,c1,c2,c3,c4,c5⟩:=hR1.ex;obtain ⟨q1,e1,rfl,-⟩:=hx.shape;obtain ⟨q2,e2,rfl,-⟩:=hy.shape;have S1:=(qsd (ai (S0.out.1.trans (hb.mono S0.out.1.size)) (ai (S0.out.2.below hb) (ai (hx.al' (Nat.le_trans LL.out.1 (by decide))) (ai (hy.al' (Nat.le_trans LL.out.2 (by decide))) (ai hR1 hgg))))))
 clear hb hR HC S0 LL hx hy hR1 hgg;obtain ⟨ng,hng⟩:∃ z,dN o=z:=⟨_,rfl⟩;obtain ⟨z0,z1,z2⟩:=S1.out.2.1.facts;have T1:=hid (HNb.out u1 q1 q2 _ e1 _ e2 S1.out.1 S1.out.2.2.1 S1.out.2.2.2.1);have dr:Below u1.heap.size u1 u1.drew:=(Below.refl _ _).drew;have T2:=hid (HNb.out u1.drew q1 q2 _ e1 _ e2 S1.out.1.drew (S1.out.2.2.1.below dr) (S1.out.2.2.2.1.below dr));have CC:=(qsd (ai c0 (ai c1 (ai c2 (ai c3 (ai c4 (ai c5 (ai z0 (ai z1 z2)))))))));rw [hng] at c0 T1 T2 hsq;have NG:=qsd hng;clear dr HNb hng
 rcases hsq with rfl|rfl
 · go_upto_region 8 with fail
   go_region_held3 (fun w'=>w'.cell? ⟨gg,0,none⟩=some (.bool ng)∧w'.cell? ⟨gg,1,none⟩=some (.slice q1 (ws (dX o)).length e1)∧w'.cell? ⟨gg,2,none⟩=some (.int .i64 (dE o))∧w'.cell? ⟨gg,3,none⟩=some (.bool (dN p))∧w'.cell? ⟨gg,4,none⟩=some (.slice q2 (ws (dX p)).length e2)∧w'.cell? ⟨gg,5,none⟩=some (.int .i64 (dE p))∧w'.cell? ⟨w.heap.size,0,none⟩=some (.int .i64 dg)∧w'.cell? ⟨w.heap.size,1,none⟩=some (.int .i64 ls)∧w'.cell? ⟨w.heap.size,2,none⟩=some (.int .u64 (En:Nat))) (go_keep) (first
    | (go_at_call 137
       first | with_reducible refine T1.out.mono ?_ | with_reducible refine T2.out.mono ?_
       rintro r v1 ⟨rfl,hb⟩;have hw:Below u1.heap.size u1 v1:=by first | exact hb | exact ((Below.refl _ u1).drew).trans (hb.mono (Nat.le_refl _))
       have hcg:∀ i,v1.cell? ⟨gg,i,none⟩=u1.cell? ⟨gg,i,none⟩:=fun i=>hw.cell (p:=⟨gg,i,none⟩) S1.out.2.2.2.2.2
       have k0:v1.cell? ⟨gg,0,none⟩=some (.bool ng):=by rw [hcg,CC.out.1,NG.out]
       have k1:=(hcg 1).trans CC.out.2.1;have k2:=(hcg 2).trans CC.out.2.2.1;have k3:=(hcg 3).trans CC.out.2.2.2.1;have k4:=(hcg 4).trans CC.out.2.2.2.2.1;have k5:=(hcg 5).trans CC.out.2.2.2.2.2.1;obtain ⟨j0,j1,j2⟩:=(S1.out.2.1.below hw).facts;have S9:=qsd (S1.out.1.trans (hw.mono S1.out.1.size));clear hb hw hcg)
    | fail)
   all_goals (
    go_wp2;exact bodyPost_ret (v:=.tuple #[.int .u64 (K:Nat),.bool ng,.int .i64 0]) (by simp [results,Tryz.results99,go_sem]) rfl ⟨by rw [NG.out],S9.out⟩)
 · cases sq
   · go_upto_region 8 with fail
     go_region_held3 (fun w'=>w'.cell? ⟨gg,0,none⟩=some (.bool false)∧w'.cell? ⟨gg,1,none⟩=some (.slice q1 (ws (dX o)).length e1)∧w'.cell? ⟨gg,2,none⟩=some (.int .i64 (dE o))∧w'.cell? ⟨gg,3,none⟩=some (.bool (dN p))∧w'.cell? ⟨gg,4,none⟩=some (.slice q2 (ws (dX p)).length e2)∧w'.cell? ⟨gg,5,none⟩=some (.int .i64 (dE p))∧w'.cell? ⟨w.heap.size,0,none⟩=some (.int .i64 dg)∧w'.cell? ⟨w.heap.size,1,none⟩=some (.int .i64 ls)∧w'.cell? ⟨w.heap.size,2,none⟩=some (.int .u64 (En:Nat))) (go_keep) (first
      | (go_at_call 137
         first | with_reducible refine T1.out.mono ?_ | with_reducible refine T2.out.mono ?_
         rintro r v1 ⟨rfl,hb⟩;have hw:Below u1.heap.size u1 v1:=by first | exact hb | exact ((Below.refl _ u1).drew).trans (hb.mono (Nat.le_refl _))
         have hcg:∀ i,v1.cell? ⟨gg,i,none⟩=u1.cell? ⟨gg,i,none⟩:=fun i=>hw.cell (p:=⟨gg,i,none⟩) S1.out.2.2.2.2.2
         have k0:v1.cell? ⟨gg,0,none⟩=some (.bool false):=by rw [hcg,CC.out.1,NG.out]
         have k1:=(hcg 1).trans CC.out.2.1;have k2:=(hcg 2).trans CC.out.2.2.1;have k3:=(hcg 3).trans CC.out.2.2.2.1;have k4:=(hcg 4).trans CC.out.2.2.2.2.1;have k5:=(hcg 5).trans CC.out.2.2.2.2.2.1;obtain ⟨j0,j1,j2⟩:=(S1.out.2.1.below hw).facts;have S9:=qsd (S1.out.1.trans (hw.mono S1.out.1.size));clear hb hw hcg)
      | fail)
     all_goals (
      go_wp2;exact bodyPost_ret (v:=.tuple #[.int .u64 (K:Nat),.bool false,.int .i64 0]) (by simp [results,Tryz.results99,go_sem]) rfl ⟨by rw [NG.out],S9.out⟩)
   · go_upto_region 8 with fail
     go_region_held3 (fun w'=>w'.cell? ⟨gg,0,none⟩=some (.bool false)∧w'.cell? ⟨gg,1,none⟩=some (.slice q1 (ws (dX o)).length e1)∧w'.cell? ⟨gg,2,none⟩=some (.int .i64 (dE o))∧w'.cell? ⟨gg,3,none⟩=some (.bool (dN p))∧w'.cell? ⟨gg,4,none⟩=some (.slice q2 (ws (dX p)).length e2)∧w'.cell? ⟨gg,5,none⟩=some (.int .i64 (dE p))∧w'.cell? ⟨w.heap.size,0,none⟩=some (.int .i64 dg)∧w'.cell? ⟨w.heap.size,1,none⟩=some (.int .i64 ls)∧w'.cell? ⟨w.heap.size,2,none⟩=some (.int .u64 (En:Nat))) (go_keep) (first
      | (go_at_call 137
         first | with_reducible refine T1.out.mono ?_ | with_reducible refine T2.out.mono ?_
         rintro r v1 ⟨rfl,hb⟩;have hw:Below u1.heap.size u1 v1:=by first | exact hb | exact ((Below.refl _ u1).drew).trans (hb.mono (Nat.le_refl _))
         have hcg:∀ i,v1.cell? ⟨gg,i,none⟩=u1.cell? ⟨gg,i,none⟩:=fun i=>hw.cell (p:=⟨gg,i,none⟩) S1.out.2.2.2.2.2
         have k0:v1.cell? ⟨gg,0,none⟩=some (.bool false):=by rw [hcg,CC.out.1,NG.out]
         have k1:=(hcg 1).trans CC.out.2.1;have k2:=(hcg 2).trans CC.out.2.2.1;have k3:=(hcg 3).trans CC.out.2.2.2.1;have k4:=(hcg 4).trans CC.out.2.2.2.2.1;have k5:=(hcg 5).trans CC.out.2.2.2.2.2.1;obtain ⟨j0,j1,j2⟩:=(S1.out.2.1.below hw).facts;have S9:=qsd (S1.out.1.trans (hw.mono S1.out.1.size));clear hb hw hcg)
      | fail)
     all_goals (
      go_wp2;exact bodyPost_ret (v:=.tuple #[.int .u64 (K:Nat),.bool false,.int .i64 0]) (by simp [results,Tryz.results99,go_sem]) rfl ⟨by rw [NG.out],S9.out⟩)
end
section
open Go.RowKit
theorem rQuot11 {w:World}{n m:Bool}{a b:Option Addr}{la ca lb cb:Nat}{e f:Int}(mode:Int) (k:Nat) (ng:Bool) (er:Int) (hk:k<9223372036854775808) (z:Nat) (hz:k+(if ng then 9223372036854775808 else 0)=z)
 (HR:Hid (∀ u:World,Below w.heap.size w u→Calls Tryz.prog 99 #[.agg #[.int .i64 53,.int .i64 (-1074),.int .u64 9218868437227405312],.agg #[.bool n,.slice a la ca,.int .i64 e,.bool m,.slice b lb cb,.int .i64 f],.bool false,.int .i64 mode] u fun r w'=>r=.returned (.tuple #[.int .u64 (k:Nat),.bool ng,.int .i64 er])∧Below u.heap.size u w')) :
 Calls Tryz.prog 52 #[.agg #[.bool n,.slice a la ca,.int .i64 e,.bool m,.slice b lb cb,.int .i64 f],.int .i64 mode] w fun r w'=>r=.returned (.tuple #[.float .f64 z,.int .i64 er])∧Below w.heap.size w w':=by
 obtain ⟨W1,hW1⟩:∃ W,W=w.alloc (.cells #[.bool n,.slice a la ca,.int .i64 e,.bool m,.slice b lb cb,.int .i64 f] 71):=⟨_,rfl⟩;have hB:Below w.heap.size w W1:=by rw [hW1];exact below_alloc _ _
 have QR0:Rq W1 w.heap.size n (.slice a la ca) e m (.slice b lb cb) f:=by rw [hW1];exact Rq.new _ _ _ _ _ _ _
 obtain ⟨x0,x1,x2,x3,x4,x5⟩:=QR0.facts;have S0:=(qsd (ai hB QR0));have HWd:Hid (∀ u:World,Calls Tryz.prog 100 #[.int .u64 (k:Nat),.bool ng,.int .i64 er] u fun r w'=>r=.returned (.tuple #[.float .f64 z,.int .i64 er])∧w'=u):=hid fun u=>by have h:=wide64_any k hk ng er u;rw [hz] at h;exact h
 clear hB QR0 hk hz;go_enter Tryz.func52,Tryz.ntmps52
 go_upto_region 1 with fail
 rw [←hW1];clear hW1;have T1:=hid (of64_any W1);have T2:=hid (of64_any W1.drew)
 go_region_held3 (fun w'=>w'.cell? ⟨w.heap.size,0,none⟩=some (.bool n)∧w'.cell? ⟨w.heap.size,1,none⟩=some (.slice a la ca)∧w'.cell? ⟨w.heap.size,2,none⟩=some (.int .i64 e)∧w'.cell? ⟨w.heap.size,3,none⟩=some (.bool m)∧w'.cell? ⟨w.heap.size,4,none⟩=some (.slice b lb cb)∧w'.cell? ⟨w.heap.size,5,none⟩=some (.int .i64 f)) (go_keep) (first
  | (go_at_call 90
     first | with_reducible refine T1.out.mono ?_ | with_reducible refine T2.out.mono ?_
     rintro r v1 ⟨rfl,hb⟩;have hw:Below W1.heap.size W1 v1:=by first | exact hb | exact ((Below.refl _ W1).drew).trans (hb.mono (Nat.le_refl _))
     obtain ⟨m0,m1,m2,m3,m4,m5⟩:=(S0.out.2.below hw).facts;have T3:=hid (HR.out v1 (S0.out.1.trans (hw.mono S0.out.1.size)));have S4:=(qsd (ai (S0.out.1.trans (hw.mono S0.out.1.size)) (S0.out.2.below hw)));clear hb hw)
  | (go_at_call 99
     with_reducible refine T3.out.mono ?_
     rintro r v2 ⟨rfl,hb⟩;obtain ⟨k0,k1,k2,k3,k4,k5⟩:=(S4.out.2.below hb).facts;have S5:=qsd (S4.out.1.trans (hb.mono S4.out.1.size));clear hb))
 all_goals (
  go_wp2_with fail
  refine (HWd.out _).mono ?_;rintro r v3 ⟨rfl,rfl⟩;go_wp2;exact bodyPost_ret (v:=.tuple #[.float .f64 z,.int .i64 er]) (by simp [results,Tryz.results52,go_sem]) rfl ⟨rfl,S5.out⟩)
end
section
open Go.RowKit
theorem lies_nought {v:Nat→Nat}{top n S:Nat}(G:Grid v top) (hn:n≠0) (hS:0<S):LiesG v top n 0 true 0 0 S :=
 ⟨by have:=G.one;omega,hS,fun _=>by rw [G.zero,Nat.zero_pow (by omega),Nat.zero_mul],(fun h=>by cases h),(fun h=>by cases h),(fun h=>by cases h)⟩
theorem rV_zero (e f:Int) (u n:Nat):rV11 0 e f u n=0:=by unfold rV11;rw [Nat.zero_mul]
theorem rS_pos {Y:Nat}(h:Y≠0) (e f:Int) (u n:Nat):0<rS11 Y e f u n:=by unfold rS11;exact Nat.mul_pos (by omega) (Nat.two_pow_pos _)
theorem errN_zero {X:Nat}{n:Bool}{e:Int}{Y:Nat}{m:Bool}{f:Int}(h:errN X n e Y m f=0):(mkS n X e).isSome=true∧(mkS m Y f).isSome=true∧dX (mkS m Y f)≠0:=by
 unfold errN at h
 split at h
 · cases h
 · split at h
   · rename_i h2
     rw [Bool.and_eq_true] at h2
     split at h
     · cases h
     · rename_i h3;exact ⟨h2.1,h2.2,h3⟩
   · cases h
theorem docQuot {w:World}{n m:Bool}{a b:Option Addr}{la ca lb cb X Y:Nat}{e f:Int}(mode:Int) (hN:Al w (.slice a la ca) X) (hD:Al w (.slice b lb cb) Y) (be:-9223372036854775808≤e∧e≤9223372036854775807) (bf:-9223372036854775808≤f∧f≤9223372036854775807) :
 Calls Tryz.prog 52 #[.agg #[.bool n,.slice a la ca,.int .i64 e,.bool m,.slice b lb cb,.int .i64 f],.int .i64 mode] w fun r w'=>r=.returned (.tuple #[.float .f64 (quoR rndS ⟨n,.slice a la ca,X,e,m,.slice b lb cb,Y,f⟩ mode).1,.int .i64 (quoR rndS ⟨n,.slice a la ca,X,e,m,.slice b lb cb,Y,f⟩ mode).2])∧Below w.heap.size w w':=by
 by_cases hm:mode<0∨4<mode
 · have e1:quoR rndS ⟨n,.slice a la ca,X,e,m,.slice b lb cb,Y,f⟩ mode=(0,1):=by unfold quoR;rw [if_pos hm]
   rw [e1];exact rQuot11 mode 0 false 1 (by omega) 0 rfl (hid fun u hu=>rounded_mode (X:=X) (Y:=Y) _ _ _ _ mode hm)
 · have hm0:0≤mode:=by omega
   have hm4:mode≤4:=by omega
   have el:=errL_one ⟨n,.slice a la ca,X,e,m,.slice b lb cb,Y,f⟩
   by_cases h0:errN X n e Y m f=0
   · obtain ⟨s1,s2,hY⟩:=errN_zero h0
     have F1:=frm_of s1;have F2:=frm_of s2;have ez:errL (oneI ⟨n,.slice a la ca,X,e,m,.slice b lb cb,Y,f⟩) 1=0:=el.trans h0
     obtain ⟨K,t,mm,L,hq⟩:∃ K t mm,LiesG vK 9218868437227405312 1 K t mm (rV11 (dX (mkS n X e)) (dE (mkS n X e)) (dE (mkS m Y f)) 1074 1) (rS11 (dX (mkS m Y f)) (dE (mkS n X e)) (dE (mkS m Y f)) 1074 1)∧rndS (quoZ (dN (mkS n X e)) (dX (mkS n X e)) (dE (mkS n X e)) (dX (mkS m Y f)) (dE (mkS m Y f))) mode=((if t then K else if outS mode K mm (dN (mkS n X e)) then K+1 else K)+(if (dN (mkS n X e)) then 9223372036854775808 else 0),0):=by
      rcases F1.odd with h|⟨h1,h2,h3⟩
      · obtain ⟨K,t,mm,L,hq⟩:=quo64 (dN (mkS n X e)) (dX (mkS n X e)) (dE (mkS n X e)) (dX (mkS m Y f)) (dE (mkS m Y f)) h hY F1.size F2.size
        exact ⟨K,t,mm,L,by have q:=hq mode hm0 hm4;rw [q];rfl⟩
      · refine ⟨0,true,0,?_,?_⟩
        · rw [h1,rV_zero];exact lies_nought grid64 (by omega) (rS_pos hY _ _ _ _)
        · rw [h1,quoZ_nought _ _ _ _ hY F2.size]
          unfold rndS;rw [if_neg (by omega)]
          simp [h2]
     have hfin:=L.fin
     have e1:quoR rndS ⟨n,.slice a la ca,X,e,m,.slice b lb cb,Y,f⟩ mode=((if t then K else if outS mode K mm (dN (mkS n X e)) then K+1 else K)+(if dN (mkS n X e) then 9223372036854775808 else 0),0):=by
      unfold quoR;simp only;rw [if_neg hm,if_pos ez];exact hq
     rw [e1];refine rQuot11 mode _ (dN (mkS n X e)) 0 (by split;omega;split <;> omega) _ rfl (hid fun u hu=>?_)
     refine rounded_ok _ _ _ _ mode hm0 hm4 (hN.below hu) (hD.below hu) be bf _ _ rfl rfl _ h0 rfl (.inl rfl) _ (hid fun x p q lx cx ly cy hx A1 A2=>?_)
     exact nearbyG wd64_is A1 A2 ⟨F1.down,F1.up⟩ ⟨F2.down,F2.up⟩ F2.size (.inl rfl) L false rfl mode hm0 hm4
   · have ez:errL (oneI ⟨n,.slice a la ca,X,e,m,.slice b lb cb,Y,f⟩) 1=errN X n e Y m f:=el
     have e1:quoR rndS ⟨n,.slice a la ca,X,e,m,.slice b lb cb,Y,f⟩ mode=(0,errN X n e Y m f):=by unfold quoR;rw [if_neg hm,if_neg (by rw [ez];exact h0),ez]
     rw [e1];exact rQuot11 mode 0 false _ (by omega) 0 rfl (hid fun u hu=>rounded_err _ _ _ _ mode hm0 hm4 (hN.below hu) (hD.below hu) be bf _ _ rfl rfl _ rfl h0)
end
section
open Go.RowKit J
theorem fo_iv (V:Int) (m:Nat) (hm:m≤100000) (hV:V.natAbs<2^m):Iv (fo8 V) (-1074) ((m:Int)-1074):=by
 unfold fo8;refine mkS_iv _ _ _ _ _ (.inr ⟨by omega,?_⟩) (by omega) (by omega) (by omega)
 have:=bl_lt_pow hV;omega
theorem fo_fm (V:Int) (m:Nat) (hm:m≤100000) (hV:V.natAbs<2^m):Fm (fo8 V):=(fo_iv V m hm hV).fm
end
section
open Go.RowKit J
theorem YX (k:Nat) (hk:k=1074):YY=2^k*XX:=by
 rw [Y_eq,X_eq,←Nat.pow_add,show k+EX=EY by rw [hk];decide]
end
end Go.Proofs.YtjldfhecnaiinaaGreatDoor
