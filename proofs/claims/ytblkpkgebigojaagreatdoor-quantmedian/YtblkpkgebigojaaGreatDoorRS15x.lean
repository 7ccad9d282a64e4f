import Derived.Test.YtblkpkgebigojaaGreatDoorRS9x
import Derived.Test.YtblkpkgebigojaaGreatDoorS11ax
import Derived.Test.YtblkpkgebigojaaGreatDoorD30x
import Derived.Deep.RegionHeld3
import Derived.Test.YtblkpkgebigojaaGreatDoorF7x
import Derived.Test.YtblkpkgebigojaaGreatDoorQR0x
import Derived.Test.YtblkpkgebigojaaGreatDoorZ9x
import Derived.Test.YtblkpkgebigojaaGreatDoorM1x
import Derived.OwnWalk
import Derived.ArgAppend
import Derived.Maps.AppendAt
import Derived.WalkMore
import Derived.BigQuiet
set_option linter.unusedVariables false
set_option linter.unusedSimpArgs false
set_option maxHeartbeats 16000000
set_option maxRecDepth 20000
namespace Go.Proofs.YtblkpkgebigojaaGreatDoor
namespace J
end J
section
open Go.RowKit J
def clx (x:Nat):Int:=B.cls (magW x/4503599627370496) (magW x%4503599627370496)
theorem class15 {x:Nat}(hx:x<18446744073709551616) (w:World):Calls Tryz.prog 69 #[.float .f64 x] w fun r w'=>r=.returned (.int .i64 (clx x))∧Below w.heap.size w w':=by
 obtain ⟨s,e,f,h1,h2,h3,h4,h5,h6⟩:=bw15 hx;have:=B.Class_any s e f h1 h2 w;rw [←h3,h5,h6] at this;exact this
theorem clx_nan {x:Nat}(hx:x<18446744073709551616):clx x=4↔nanW x=true:=by
 unfold clx B.cls nanW magW;rw [decide_eq_true_eq]
 by_cases a:x%9223372036854775808/4503599627370496=2047
 · rw [if_pos a]
   by_cases b:x%9223372036854775808%4503599627370496=0
   · rw [if_pos b];constructor <;> intro h <;> omega
   · rw [if_neg b];constructor <;> intro h <;> omega
 · rw [if_neg a]
   by_cases b:x%9223372036854775808/4503599627370496=0
   · rw [if_pos b];split <;> (constructor <;> intro h <;> omega)
   · rw [if_neg b];constructor <;> intro h <;> omega
theorem told15 {x:Nat}(hx:x<18446744073709551616) (w:World):Calls Tryz.prog 65 #[.float .f64 x] w fun r w'=>r=.returned (.float .f64 (nrm x))∧Below w.heap.size w w':=by
 have C:=hid (class15 hx w);have hk:=clx_nan hx;obtain ⟨c,hc⟩:∃ c,c=clx x:=⟨_,rfl⟩;rw [←hc] at C hk;clear hc
 by_cases h:c=4
 · subst h
   have e:nrm x=9221120237041090560:=by unfold nrm;rw [if_pos (hk.1 rfl)];rfl
   rw [e];clear e hk;go_enter Tryz.func65,Tryz.ntmps65
   go_wp2_with fail
   refine C.out.mono ?_;rintro r v ⟨rfl,hv⟩;have D:=hid (B.nan_any v)
   go_wp2_with fail
   refine D.out.mono ?_;rintro r v2 ⟨rfl,rfl⟩;go_wp2;go_ret;exact ⟨rfl,hv⟩
 · have e:nrm x=x:=by unfold nrm;rw [if_neg (fun q=>h (hk.2 q))]
   rw [e];clear e hk;have k1:(c==4)=false:=by simp [h]
   have k2:decide (c=4)=false:=by simp [h]
   go_enter Tryz.func65,Tryz.ntmps65
   go_wp2_with fail
   refine C.out.mono ?_;rintro r v ⟨rfl,hv⟩;go_wp2;go_ret;exact ⟨rfl,hv⟩
def srtTo (xs:List Nat) (k:Nat):List Nat:=(sortL xs).take k++List.replicate (xs.length-k) 0
theorem srtTo_zero (xs:List Nat):srtTo xs 0=List.replicate xs.length 0:=by simp [srtTo]
theorem srtTo_all (xs:List Nat):srtTo xs xs.length=sortL xs:=by
 unfold srtTo;rw [List.take_of_length_le (by rw [sortL_len];exact Nat.le_refl _)]
 simp
theorem srtTo_len {xs:List Nat}{k:Nat}(h:k≤xs.length):(srtTo xs k).length=xs.length:=by
 unfold srtTo;rw [List.length_append,List.length_take,List.length_replicate,sortL_len];omega
theorem srtTo_succ {xs:List Nat}{k:Nat}(h:k<xs.length):(srtTo xs k).set k ((sortL xs).getD k 0)=srtTo xs (k+1):=by
 have hl:k<(sortL xs).length:=by rw [sortL_len];exact h
 unfold srtTo;rw [List.set_append_right _ _ (by rw [List.length_take];omega),List.length_take,Nat.min_eq_left (by omega),Nat.sub_self,show xs.length-k=(xs.length-(k+1))+1 by omega,List.replicate_succ,List.set_cons_zero,List.getD_eq_getElem?_getD,List.getElem?_eq_getElem hl,List.take_add_one,List.getElem?_eq_getElem hl,List.append_assoc]
 rfl
theorem fld15 (a b:Value) (w:World):(Instr.field 87 (.agg #[a,b]) 1).run Tryz.prog w=.ok b w:=by kernel_rfl
attribute [local go_sem] fld15 st_float
theorem Sort15 (xs:List Nat) (ao:Option Addr) (n cap:Nat) (w:World) (hF:Fs w.heap.size w ao xs) (hn:n=xs.length) (hb:n≤17592186044416) (hW:W64 xs) :
 Calls Tryz.prog 28 #[.slice ao n cap] w fun r w'=>r=.returned (.slice (some ⟨w.heap.size,0,none⟩) n n)∧OwnF w' w.heap.size (sortL xs)∧Below w.heap.size w w':=by
 have mk:=make_floats n n rfl hb;obtain ⟨G,hG⟩:∃ G,G=w.heap.size:=⟨_,rfl⟩;obtain ⟨W1,hW1⟩:∃ W,W=w.alloc (.cells (madeCells #[.float .f64 0] n) 26):=⟨_,rfl⟩;have o1:OwnF W1 G (srtTo xs 0):=by rw [hW1,srtTo_zero,hG,←hn];exact OwnF.made w n
 have o2:Below w.heap.size w W1:=by rw [hW1];exact (Below.refl w.heap.size w).alloc (Nat.le_refl _) _
 have hFw:Fs w.heap.size W1 ao xs:=hF.below o2;have C:=hid (rowOf15 xs ao n cap W1 (hFw.mono o2.size) hn hb hW);have hGl:G<W1.heap.size:=o1.lt;have HN:=(qsd (ai hn (ai hW (ai hF (ai o1 (ai o2 (ai hG hGl)))))));have HW1:=qsd hW1;clear hF hFw o1 o2 hn hW hGl hG hW1;go_enter Tryz.func28,Tryz.ntmps28
 go_upto_region 2 with fail
 rw [←HW1.out,←HN.out.2.2.2.2.2.1];clear mk
 go_wp2_with fail
 refine C.out.mono ?_;rintro r v ⟨g,rfl,e1,e2,e3⟩
 have HA:Aside (OwnF v G (srtTo xs 0)∧OwnI v g (rowL xs)∧Below w.heap.size w v∧G<g∧g<v.heap.size):=by
  obtain ⟨hn,hW,hFw,o1,o2,hG,hGl⟩:=HN.out;exact ⟨o1.below e2 hGl,e1,o2.trans (e2.mono o2.size),by omega,e1.lt⟩
 clear C e1 e2 e3;go_wp2
 go_loopg [13] n (fun gk iv wr=>∃ k:Nat,gk+k=n∧iv=.int .i64 (k:Nat)∧Aside (OwnF wr G (srtTo xs k)∧OwnI wr g (rowL xs)∧Below w.heap.size w wr∧G<g∧g<wr.heap.size))
 case atStart=>exact ⟨0,rfl,by first | rfl | simp,HA.out⟩
 case round =>
  clear HA;obtain ⟨k,hgk,rfl,HA⟩:=hrel
  by_cases hk:k<n
  · have hdk:decide ((k:Int)<(n:Int))=true:=by simp;omega
    have bk:(k:Int)<(n:Int):=by omega
    obtain ⟨k1,hk1⟩:∃ x,x=k+1:=⟨_,rfl⟩;have wk:IntKind.i64.wrap ((k:Int)+1)=(k1:Int):=wrapZ (by omega) (by omega)
    obtain ⟨a1,a2,a3,a4,a5⟩:=HA.out;obtain ⟨hn,hW,hF,o1,o2,hG,hGl⟩:=HN.out;have hkx:k<xs.length:=by omega
    obtain ⟨i,hi⟩:∃ i,i=(rowL xs).getD k 0:=⟨_,rfl⟩;have c1:=a2.cell k (by rw [rowL_len];exact hkx)
    have hin:i<n:=by rw [hi,hn];exact rowL_lt hkx
    rw [←hi] at c1;have bi:(i:Int)<(n:Int):=by omega
    obtain ⟨b,off,rfl,c2⟩:=hF.at a3 i (by omega)
    have hx:xs.getD i 0<18446744073709551616:=hW _ (getD_mem15 (by omega))
    have e4:(sortL xs).getD k 0=nrm (xs.getD i 0):=by rw [hi];exact sortL_get hkx
    obtain ⟨x,hxx⟩:∃ x,x=xs.getD i 0:=⟨_,rfl⟩;rw [←hxx] at c2 hx e4;have D:=hid (told15 hx wr);obtain ⟨y,hy⟩:∃ y,y=nrm x:=⟨_,rfl⟩;rw [←hy] at D e4
    have HX:Aside (∀ v,Below wr.heap.size wr v→v.cell? ⟨G,k,none⟩=some (.float .f64 ((srtTo xs k).getD k 0))∧v.frozen? ⟨G,k,none⟩=false∧OwnF (v.setCell ⟨G,k,none⟩ (.float .f64 y)) G (srtTo xs k1)∧OwnI (v.setCell ⟨G,k,none⟩ (.float .f64 y)) g (rowL xs)∧Below w.heap.size w (v.setCell ⟨G,k,none⟩ (.float .f64 y))∧G<g∧g<(v.setCell ⟨G,k,none⟩ (.float .f64 y)).heap.size):=fun v hv=>by
     have a1':=a1.below hv (by omega)
     have a2':=a2.below hv (by omega)
     refine ⟨a1'.cell k (by rw [srtTo_len (by omega)];exact hkx),a1'.frozen k,?_,?_,?_,a4,?_⟩
     · rw [hk1,←srtTo_succ hkx,e4];exact a1'.set k y
     · have hne:g≠G:=by omega
       unfold OwnI at a2' ⊢;simp only [World.setCell,Array.getElem?_modify];rw [if_neg (fun e=>hne e.symm)];exact a2'
     · exact (a3.trans (hv.mono a3.size)).setCell (show w.heap.size≤G by omega) _
     · have:=a2'.lt
       simpa [World.setCell] using this
    have HK:=qsd hk1;clear HA a1 a2 a3 a4 a5 hn hW hF o1 o2 hG hGl hi hkx hx e4 hxx hy hk1
    go_wp2_with fail
    refine D.out.mono ?_;rintro r v ⟨rfl,hv⟩;obtain ⟨x1,x2,x3⟩:=HX.out v hv;have HY:=qsd x3;clear D HX x3 hv;obtain ⟨z,hz⟩:∃ z,z=(srtTo xs k).getD k 0:=⟨_,rfl⟩;rw [←hz] at x1;clear hz;go_wp2
    go_roundg (n-k1)
    case measure=>have:=HK.out;omega
    case rel=>exact ⟨k1,by have:=HK.out;omega,by first | rfl | simp,HY.out⟩
  · have hdk:decide ((k:Int)<(n:Int))=false:=by simp;omega
    go_wp2;go_ret;obtain ⟨a1,a2,a3,a4,a5⟩:=HA.out;obtain ⟨hn,hW,hF,o1,o2,hG,hGl⟩:=HN.out;rw [show k=xs.length by omega,srtTo_all] at a1
    exact ⟨by rw [←hG];rfl,by rw [←hG];exact a1,a3⟩
end
section
open Go.RowKit J
def knB (rule mode:Int):Bool:=decide (0≤rule∧rule≤4∧0≤mode∧mode≤4)
theorem known16 (rule mode:Int) (w:World):Calls Tryz.prog 25 #[.int .i64 rule,.int .i64 mode] w fun r w'=>r=.returned (.bool (knB rule mode))∧w'=w:=by
 obtain ⟨z,hz⟩:∃ z,z=knB rule mode:=⟨_,rfl⟩;rw [←hz];unfold knB at hz
 by_cases h1:0≤rule
 · have d1:decide (0≤rule)=true:=by simp [h1]
   by_cases h2:rule≤4
   · have d2:decide (rule≤4)=true:=by simp [h2]
     by_cases h3:0≤mode
     · have d3:decide (0≤mode)=true:=by simp [h3]
       by_cases h4:mode≤4
       · have d4:decide (mode≤4)=true:=by simp [h4]
         rw [decide_eq_true ⟨h1,h2,h3,h4⟩] at hz;subst hz;go_enter Tryz.func25,Tryz.ntmps25;go_wp2;go_ret;exact ⟨rfl,rfl⟩
       · have d4:decide (mode≤4)=false:=by simp;omega
         rw [decide_eq_false (fun h=>h4 h.2.2.2)] at hz
         subst hz;go_enter Tryz.func25,Tryz.ntmps25;go_wp2;go_ret;exact ⟨rfl,rfl⟩
     · have d3:decide (0≤mode)=false:=by simp;omega
       rw [decide_eq_false (fun h=>h3 h.2.2.1)] at hz
       subst hz;go_enter Tryz.func25,Tryz.ntmps25;go_wp2;go_ret;exact ⟨rfl,rfl⟩
   · have d2:decide (rule≤4)=false:=by simp;omega
     rw [decide_eq_false (fun h=>h2 h.2.1)] at hz
     subst hz;go_enter Tryz.func25,Tryz.ntmps25;go_wp2;go_ret;exact ⟨rfl,rfl⟩
 · have d1:decide (0≤rule)=false:=by simp;omega
   rw [decide_eq_false (fun h=>h1 h.1)] at hz
   subst hz;go_enter Tryz.func25,Tryz.ntmps25;go_wp2;go_ret;exact ⟨rfl,rfl⟩
def byB (x:Nat):Bool:=decide (9218868437227405312≤magW x)
theorem clx_by {x:Nat}(hx:x<18446744073709551616):decide ((3:Int)≤clx x)=byB x:=by
 unfold clx B.cls byB magW;have hm:x%9223372036854775808<9223372036854775808:=by omega
 by_cases a:x%9223372036854775808/4503599627370496=2047
 · rw [if_pos a,decide_eq_true (show 9218868437227405312≤x%9223372036854775808 by omega)]
   split <;> rfl
 · rw [if_neg a,decide_eq_false (show ¬ 9218868437227405312≤x%9223372036854775808 by omega)]
   by_cases b:x%9223372036854775808/4503599627370496=0
   · rw [if_pos b];split <;> rfl
   · rw [if_neg b];rfl
theorem beyond16 {x:Nat}(hx:x<18446744073709551616) (w:World):Calls Tryz.prog 59 #[.float .f64 x] w fun r w'=>r=.returned (.bool (byB x))∧Below w.heap.size w w':=by
 have C:=hid (class15 hx w);have hk:=clx_by hx;rw [←hk];obtain ⟨c,hc⟩:∃ c,c=clx x:=⟨_,rfl⟩;rw [←hc] at C ⊢;clear hc hk;go_enter Tryz.func59,Tryz.ntmps59
 go_wp2_with fail
 refine C.out.mono ?_;rintro r v ⟨rfl,hv⟩;go_wp2;go_ret;exact ⟨by first | rfl | simp,hv⟩
theorem any_take15 {xs:List Nat}{k:Nat}(h:k<xs.length):(xs.take (k+1)).any byB=((xs.take k).any byB || byB (xs.getD k 0)):=by
 rw [List.take_add_one,List.getElem?_eq_getElem h,List.getD_eq_getElem?_getD,List.getElem?_eq_getElem h,List.any_append]
 simp only [Option.toList,List.any_cons,List.any_nil,Bool.or_false,Option.getD_some]
theorem index16 (xs:List Nat) (ao:Option Addr) (n cap:Nat) (w:World) (hF:Fs w.heap.size w ao xs) (hn:n=xs.length) (hb:n≤17592186044416) (hW:W64 xs) :
 Calls Tryz.prog 66 #[.slice ao n cap,.func (.func 59) #[] #[]] w fun r w'=>∃ z:Int,r=.returned (.int .i64 z)∧(decide (0≤z)=xs.any byB)∧Below w.heap.size w w':=by
 have HN:=(qsd (ai hn (ai hW hF)));clear hF hn hW;go_enter Tryz.func66,Tryz.ntmps66;go_wp2
 go_loopg [8] n (fun gk iv wr=>∃ k:Nat,gk+k=n∧iv=.int .i64 (k:Nat)∧Aside ((xs.take k).any byB=false∧Below w.heap.size w wr))
 case atStart=>exact ⟨0,rfl,by first | rfl | simp,by simp,Below.refl _ _⟩
 case round =>
  obtain ⟨k,hgk,rfl,HA⟩:=hrel
  by_cases hk:k<n
  · have hdk:decide ((k:Int)<(n:Int))=true:=by simp;omega
    have bk:(k:Int)<(n:Int):=by omega
    obtain ⟨k1,hk1⟩:∃ x,x=k+1:=⟨_,rfl⟩;have wk:IntKind.i64.wrap ((k:Int)+1)=(k1:Int):=wrapZ (by omega) (by omega)
    obtain ⟨hn,hW,hF⟩:=HN.out;obtain ⟨b,off,rfl,c2⟩:=hF.at HA.out.2 k (by omega)
    have hx:xs.getD k 0<18446744073709551616:=hW _ (getD_mem15 (by omega))
    have ht:=any_take15 (xs:=xs) (k:=k) (by omega)
    obtain ⟨x,hxx⟩:∃ x,x=xs.getD k 0:=⟨_,rfl⟩;rw [←hxx] at c2 hx ht;have D:=hid (beyond16 hx wr);rw [HA.out.1,Bool.false_or] at ht;have HK:=(qsd (ai hk1 ht));obtain ⟨t,htt⟩:∃ t,t=byB x:=⟨_,rfl⟩;rw [←htt] at D ht;have HT:=qsd htt
    have hany:Aside (t=true→xs.any byB=true):=fun h=>by
     rw [List.any_eq_true];exact ⟨x,by rw [hxx];exact getD_mem15 (by omega),by rw [←HT.out];exact h⟩
    have HT2:=qsd ht;clear hn hW hF hx ht hxx hk1 htt
    go_wp2_with fail
    refine D.out.mono ?_;rintro r v ⟨rfl,hv⟩;have HB:=qsd (HA.out.2.trans (hv.mono HA.out.2.size));clear D hv
    cases t
    · go_wp2
      go_roundg (n-k1)
      case measure=>have:=HK.out;omega
      case rel=>exact ⟨k1,by have:=HK.out;omega,by first | rfl | simp,by rw [HK.out.1];exact HT2.out,HB.out⟩
    · go_wp2
      refine bodyPost_ret (v:=.int .i64 (k:Nat)) (by simp [results,Tryz.results66,go_sem]) rfl ?_
      exact ⟨k,rfl,by rw [hany.out (by first | rfl | trivial)];simp,HB.out⟩
  · have hdk:decide ((k:Int)<(n:Int))=false:=by simp;omega
    have E:Aside (xs.any byB=false):=by
     have h1:=HA.out.1;rw [List.take_of_length_le (by have:=HN.out.1;omega)] at h1
     exact h1
    go_wp2;refine bodyPost_ret (v:=.int .i64 (-1)) (by simp [results,Tryz.results66,go_sem]) rfl ?_
    exact ⟨-1,rfl,by rw [E.out];rfl,HA.out.2⟩
theorem contains16 (xs:List Nat) (ao:Option Addr) (n cap:Nat) (w:World) (hF:Fs w.heap.size w ao xs) (hn:n=xs.length) (hb:n≤17592186044416) (hW:W64 xs) :
 Calls Tryz.prog 30 #[.slice ao n cap,.func (.func 59) #[] #[]] w fun r w'=>r=.returned (.bool (xs.any byB))∧Below w.heap.size w w':=by
 have C:=hid (index16 xs ao n cap w hF hn hb hW);clear hF hn hW;go_enter Tryz.func30,Tryz.ntmps30
 go_wp2_with fail
 refine C.out.mono ?_;rintro r v ⟨z,rfl,hz,hv⟩;have HZ:=(qsd (ai hz hv));clear C hz hv;go_wp2;go_ret;exact ⟨by rw [←HZ.out.1];first | rfl | simp,HZ.out.2⟩
def amE (xs:List Nat) (odd:Bool):Int:=if 65536<xs.length then 2 else if odd || xs.any byB then 30 else if xs.length=0 then 3 else 0
theorem amiss16 (xs:List Nat) (odd:Bool) (ao:Option Addr) (n cap:Nat) (w:World) (hF:Fs w.heap.size w ao xs) (hn:n=xs.length) (hb:n≤17592186044416) (hW:W64 xs) :
 Calls Tryz.prog 26 #[.slice ao n cap,.bool odd] w fun r w'=>r=.returned (.int .i64 (amE xs odd))∧Below w.heap.size w w':=by
 have C:=hid (contains16 xs ao n cap w hF hn hb hW);obtain ⟨z,hz⟩:∃ z,z=amE xs odd:=⟨_,rfl⟩;rw [←hz];unfold amE at hz;rw [←hn] at hz;clear hF hn hW
 by_cases h1:65536<n
 · have d1:decide ((65536:Int)<(n:Int))=true:=by simp;omega
   rw [if_pos h1] at hz;subst hz;go_enter Tryz.func26,Tryz.ntmps26;go_wp2;go_ret;exact ⟨rfl,Below.refl _ _⟩
 · have d1:decide ((65536:Int)<(n:Int))=false:=by simp;omega
   rw [if_neg h1] at hz
   cases odd
   · rw [Bool.false_or] at hz
     obtain ⟨t,ht⟩:∃ t,t=xs.any byB:=⟨_,rfl⟩;rw [←ht] at C hz;clear ht
     cases t
     · rw [if_neg (by decide)] at hz
       by_cases h2:n=0
       · rw [if_pos h2] at hz
         subst hz h2;go_enter Tryz.func26,Tryz.ntmps26
         go_wp2_with fail
         refine C.out.mono ?_;rintro r v ⟨rfl,hv⟩;go_wp2;go_ret;exact ⟨rfl,hv⟩
       · rw [if_neg h2] at hz
         have d2:((n:Int)==0)=false:=by simp;omega
         have d3:decide ((n:Int)=0)=false:=by simp;omega
         subst hz;go_enter Tryz.func26,Tryz.ntmps26
         go_wp2_with fail
         refine C.out.mono ?_;rintro r v ⟨rfl,hv⟩;go_wp2;go_ret;exact ⟨rfl,hv⟩
     · rw [if_pos rfl] at hz
       subst hz;go_enter Tryz.func26,Tryz.ntmps26
       go_wp2_with fail
       refine C.out.mono ?_;rintro r v ⟨rfl,hv⟩;go_wp2;go_ret;exact ⟨rfl,hv⟩
   · rw [Bool.true_or,if_pos rfl] at hz
     subst hz;go_enter Tryz.func26,Tryz.ntmps26;go_wp2;go_ret;exact ⟨rfl,Below.refl _ _⟩
end
section
open Go.RowKit J
theorem plain16 (w:World):Calls Tryz.prog 105 #[] w fun r w'=>r=.returned (.agg #[.int .i64 0,.int .i64 0])∧Below w.heap.size w w':=by
 go_enter Tryz.func105,Tryz.ntmps105;go_wp2;refine bodyPost_ret (v:=.agg #[.int .i64 0,.int .i64 0]) (by simp [results,Tryz.results105,go_sem]) rfl ?_
 exact ⟨rfl,below_alloc _ _⟩
noncomputable def qR16 (V D:Option (Bool×Nat×Int)) (mode:Int):Nat×Int:=quoR rndS ⟨dN V,.bool false,dX V,dE V,dN D,.bool false,dX D,dE D⟩ mode
noncomputable def lnV (low high rest den:Nat):Int:=fvW low*((den-rest:Nat):Int)+fvW high*(rest:Int)
noncomputable def lnR (low high rest den:Nat) (mode:Int):Nat :=
 if lnV low high rest den=0 then nt (snd (sS [low,high]).n (sS [low,high]).u (sS [low,high]).d (sS [low,high]).m (sS [low,high]).p (sS [low,high]).a) (sS [low,high]).n (sS [low,high]).u (sS [low,high]).d (sS [low,high]).m (sS [low,high]).p (sS [low,high]).a mode else (qR16 (gV 1074 (lnV low high rest den)) (gV 0 (den:Int)) mode).1
theorem line16 (low high at0 rest den:Nat) (mode:Int) (hl:low<18446744073709551616) (fl:finW low) (hh:high<18446744073709551616) (fh:finW high) (hr:rest≤den) (hd:den≤2147483648) (w:World) (hT:Tab w) :
 Calls Tryz.prog 63 #[.agg #[.int .i64 (at0:Nat),.int .i64 (rest:Nat),.int .i64 (den:Nat)],.float .f64 low,.float .f64 high,.int .i64 mode] w fun r w'=>r=.returned (.float .f64 (lnR low high rest den mode))∧Below w.heap.size w w':=by
 obtain ⟨z,hz⟩:∃ z,z=2098:=⟨_,rfl⟩;obtain ⟨k,hk⟩:∃ z,z=31:=⟨_,rfl⟩;have b1:=bd_fv16 hl fl z hz;have b2:=bd_fv16 hh fh z hz;have bn:∀ n:Nat,n≤2147483648→Bd k (n:Int):=fun n hn=>by unfold Bd;rw [Int.natAbs_natCast,hk];exact hn
 have c1:=b1.mul (bn (den-rest) (by omega))
 have c2:=b2.mul (bn rest (by omega))
 have F1:=g_fm (u:=1074) (by omega) (by omega) c1
 have F2:=g_fm (u:=1074) (by omega) (by omega) c2
 have ea:=g_add (u:=1074) (by omega) (by omega) c1 c2
 have Fq:=g_fm (u:=1074) (by omega) (by omega) (c1.add c2)
 have Fd:=g_fm (u:=0) (by omega) (by omega) (bn den hd)
 have hsg:=(g_sign (u:=1074) (by omega) (by omega) (c1.add c2)).1
 have hW2:W64 [low,high]:=fun x hx=>by
  rcases List.mem_cons.1 hx with rfl|hx
  · exact hl
  · rw [List.mem_singleton.1 hx];exact hh
 obtain ⟨V,hV⟩:∃ V,V=lnV low high rest den:=⟨_,rfl⟩;have hV':fvW low*((den-rest:Nat):Int)+fvW high*(rest:Int)=V:=hV.symm;rw [hV'] at ea Fq hsg
 have:=line_core16 low high at0 rest den (den-rest) mode _ _ _ _ F1 F2 Fq Fd (sgn (dN (gV 1074 V)) (dX (gV 1074 V))) (sS [low,high]).n (sS [low,high]).u (sS [low,high]).d (sS [low,high]).m (sS [low,high]).p (sS [low,high]).a (qR16 (gV 1074 V) (gV 0 (den:Int)) mode).1 (nt (snd (sS [low,high]).n (sS [low,high]).u (sS [low,high]).d (sS [low,high]).m (sS [low,high]).p (sS [low,high]).a) (sS [low,high]).n (sS [low,high]).u (sS [low,high]).d (sS [low,high]).m (sS [low,high]).p (sS [low,high]).a mode) (qR16 (gV 1074 V) (gV 0 (den:Int)) mode).2 w hT (wrapZ (by omega) (by omega))
  (fun u hT=>times16 low (den-rest) hl fl (by omega) u hT) (fun u hT=>times16 high rest hh fh (by omega) u hT)
  (fun u a b c d hT N1 N2=>addP12' F1 F2 N1 N2 hT ea Fq)
  (fun u a c N=>by
   have:=Sign_any3 (Fq.a12 N) (dN (gV 1074 V)) (dE (gV 1074 V));rw [val_ws] at this;exact this)
  plain16
  (fun u b hF=>(Sift13 [low,high] _ 2 2 0 0 u rfl (by decide) hF hW2).mono (fun r w' h=>by
   obtain ⟨h1,h2⟩:=h;refine ⟨?_,h2⟩
   have e0:sfE 0 0 [low,high]=0:=by
    unfold sfE Ps.rf;rw [if_neg (by decide),if_neg (by simp),if_neg (by omega),if_neg (by omega)]
   rcases h1 with ⟨h1,_⟩|⟨_,a',c',rfl,_⟩
   · exact absurd e0 h1
   · exact ⟨_,rfl⟩))
  (fun u=>Nought_any _ _ _ _ _ _ _ u)
  (fun u hT=>(Int_any (den:Nat) u hT (by omega) (by omega)).mono (fun r w' h=>h))
  (fun u a b c d hT N1 N2=>Quot11 (w:=u) (n:=dN (gV 1074 V)) (m:=dN (gV 0 (den:Int))) (X:=dX (gV 1074 V)) (Y:=dX (gV 0 (den:Int))) (e:=dE (gV 1074 V)) (f:=dE (gV 0 (den:Int))) mode ⟨N1.av (Nat.le_trans Fq.len (by decide)),N2.av (Nat.le_trans Fd.len (by decide)),Fq.rng,Fd.rng⟩ hT)
 have e1:(if sgn (dN (gV 1074 V)) (dX (gV 1074 V))=0 then (nt (snd (sS [low,high]).n (sS [low,high]).u (sS [low,high]).d (sS [low,high]).m (sS [low,high]).p (sS [low,high]).a) (sS [low,high]).n (sS [low,high]).u (sS [low,high]).d (sS [low,high]).m (sS [low,high]).p (sS [low,high]).a mode) else (qR16 (gV 1074 V) (gV 0 (den:Int)) mode).1)=lnR low high rest den mode:=by
  unfold lnR;rw [←hV]
  have:sgn (dN (gV 1074 V)) (dX (gV 1074 V))=0↔V=0:=by
   rw [←hsg];unfold sgn
   by_cases h:dX (gV 1074 V)=0
   · rw [if_pos h];exact ⟨fun _=>h,fun _=>rfl⟩
   · rw [if_neg h]
     exact ⟨fun e=>by split at e <;> omega,fun e=>absurd e h⟩
  by_cases h:V=0
  · rw [if_pos (this.2 h),if_pos h]
  · rw [if_neg (fun e=>h (this.1 e)),if_neg h]
 rw [e1] at this;exact this
end
section
open Go.RowKit J
theorem placeOf16 (n num den:Nat) (hn:1≤n) (hn2:n≤65536) (hnum:num≤den) (hd1:1≤den) (hd:den≤2147483648) (w:World) :
 Calls Tryz.prog 60 #[.int .i64 (n:Nat),.int .i64 (num:Nat),.int .i64 (den:Nat)] w fun r w'=>r=.returned (.agg #[.int .i64 (((n-1)*num/den:Nat):Int),.int .i64 (((n-1)*num%den:Nat):Int),.int .i64 (den:Nat)])∧Below w.heap.size w w':=by
 obtain ⟨n1,hn1⟩:∃ x,x=n-1:=⟨_,rfl⟩;obtain ⟨s,hs⟩:∃ x,x=n1*num:=⟨_,rfl⟩;have hsb:s≤65535*2147483648:=by rw [hs];exact Nat.mul_le_mul (by omega) (by omega)
 rw [←hn1,←hs];obtain ⟨q,hq⟩:∃ x,x=s/den:=⟨_,rfl⟩;obtain ⟨m,hm⟩:∃ x,x=s%den:=⟨_,rfl⟩;rw [←hq,←hm];have hqb:q≤s:=by rw [hq];exact Nat.div_le_self _ _
 have w1:IntKind.i64.wrap ((n:Int)-1)=(n1:Int):=wrapZ (by omega) (by omega)
 have w2:IntKind.i64.wrap ((n1:Int)*(num:Int))=(s:Int):=wrapZ (by rw [hs];simp) (by omega)
 have w3:Int.tdiv (s:Int) (den:Int)=(q:Int):=by rw [hq];rfl
 have w4:Int.tmod (s:Int) (den:Int)=(m:Int):=by rw [hm];rfl
 have w5:IntKind.i64.wrap (q:Int)=(q:Int):=wrapZ rfl (by omega)
 have w6:IntKind.i64.wrap (m:Int)=(m:Int):=wrapZ rfl (by have:=Nat.mod_lt s (show 0<den by omega);omega)
 have w7:((den:Int)==0)=false:=by simp;omega
 have w8:¬ (den:Int)=0:=by omega
 have w9:¬ den=0:=by omega
 have HQ:=(qsd (ai hn1 (ai hs (ai hq hm))));clear hn1 hs hq hm;go_enter Tryz.func60,Tryz.ntmps60
 go_upto_region 2 with fail
 go_region
 all_goals
  go_wp2;refine bodyPost_ret (v:=.agg #[.int .i64 (q:Nat),.int .i64 (m:Nat),.int .i64 (den:Nat)]) (by simp [results,Tryz.results60,go_sem]) rfl ?_
  exact ⟨rfl,by first | exact (below_alloc _ _).drew | exact below_alloc _ _ | exact ((((below_alloc _ _).drew).setCell (Nat.le_refl _) _).setCell (Nat.le_refl _) _).setCell (Nat.le_refl _) _⟩
end
section
open Go.RowKit J
def nrP (at0 rest den:Nat):Nat:=if den<2*rest∨2*rest=den∧at0%2=1 then at0+1 else at0
theorem near16 (at0 rest den:Nat) (ha:at0≤65536) (hr:rest≤2147483648) (hd:den≤2147483648) (w:World) :
 Calls Tryz.prog 61 #[.agg #[.int .i64 (at0:Nat),.int .i64 (rest:Nat),.int .i64 (den:Nat)]] w fun r w'=>r=.returned (.int .i64 (nrP at0 rest den:Nat))∧Below w.heap.size w w':=by
 obtain ⟨t,ht⟩:∃ x,x=2*rest:=⟨_,rfl⟩;obtain ⟨a1,ha1⟩:∃ x,x=at0+1:=⟨_,rfl⟩;obtain ⟨m,hm⟩:∃ x,x=at0%2:=⟨_,rfl⟩;obtain ⟨z,hz⟩:∃ x,x=nrP at0 rest den:=⟨_,rfl⟩;rw [←hz];unfold nrP at hz;rw [←ht,←ha1,←hm] at hz;have w1:IntKind.i64.wrap (2*(rest:Int))=(t:Int):=wrapZ (by omega) (by omega)
 have w2:IntKind.i64.wrap ((at0:Int)+1)=(a1:Int):=wrapZ (by omega) (by omega)
 have w3:Int.tmod (at0:Int) 2=(m:Int):=by rw [hm];rfl
 have w4:IntKind.i64.wrap (m:Int)=(m:Int):=wrapZ rfl (by omega)
 have HQ:=(qsd (ai ht (ai ha1 hm)));clear ht ha1 hm
 by_cases h1:den<t
 · have d1:decide ((den:Int)<(t:Int))=true:=by simp;omega
   rw [if_pos (.inl h1)] at hz;subst hz;go_enter Tryz.func61,Tryz.ntmps61;go_wp2;go_ret;exact ⟨rfl,below_alloc _ _⟩
 · have d1:decide ((den:Int)<(t:Int))=false:=by simp;omega
   by_cases h2:t=den
   · have d2:((t:Int)==(den:Int))=true:=by simp;omega
     by_cases h3:m=1
     · rw [if_pos (.inr ⟨h2,h3⟩)] at hz
       subst hz h3 h2;go_enter Tryz.func61,Tryz.ntmps61;go_wp2;go_ret;exact ⟨rfl,below_alloc _ _⟩
     · rw [if_neg (by omega)] at hz
       have d3:((m:Int)==1)=false:=by simp;omega
       have d4:decide ((m:Int)=1)=false:=by simp;omega
       subst hz h2;go_enter Tryz.func61,Tryz.ntmps61;go_wp2;go_ret;exact ⟨rfl,below_alloc _ _⟩
   · rw [if_neg (by omega)] at hz
     have d2:((t:Int)==(den:Int))=false:=by simp;omega
     have d3:decide ((t:Int)=(den:Int))=false:=by simp;omega
     subst hz;go_enter Tryz.func61,Tryz.ntmps61;go_wp2;go_ret;exact ⟨rfl,below_alloc _ _⟩
noncomputable def telR (ys:List Nat) (num den:Nat) (rule mode:Int):Nat :=
 let s:=(ys.length-1)*num
 if s%den=0 then ys.getD (s/den) 0 else if rule=0 then ys.getD (s/den) 0 else if rule=1 then ys.getD (s/den+1) 0 else if rule=2 then ys.getD (nrP (s/den) (s%den) den) 0
 else if rule=3 then (midR (ys.getD (s/den) 0) (ys.getD (s/den+1) 0) mode).1 else lnR (ys.getD (s/den) 0) (ys.getD (s/den+1) 0) (s%den) den mode
theorem tell16 (ys:List Nat) (b:Nat) (n cap num den:Nat) (rule mode:Int) (w:World) (hT:Tab w) (hF:Fs w.heap.size w (some ⟨b,0,none⟩) ys) (hn:n=ys.length) (hn1:1≤n) (hn2:n≤65536) (hW:W64 ys) (hf:∀ x ∈ ys,finW x) (hnum:num≤den) (hd1:1≤den) (hd:den≤2147483648) (hr0:0≤rule) (hr4:rule≤4) :
 Calls Tryz.prog 27 #[.slice (some ⟨b,0,none⟩) n cap,.int .i64 (num:Nat),.int .i64 (den:Nat),.int .i64 rule,.int .i64 mode] w fun r w'=>r=.returned (.float .f64 (telR ys num den rule mode))∧Below w.heap.size w w':=by
 have C:=hid (placeOf16 n num den hn1 hn2 hnum hd1 hd w);obtain ⟨zz,hzz⟩:∃ x,x=telR ys num den rule mode:=⟨_,rfl⟩;rw [←hzz];unfold telR at hzz;simp only [←hn] at hzz;obtain ⟨s,hs⟩:∃ x,x=(n-1)*num:=⟨_,rfl⟩;rw [←hs] at C hzz;have hsb:s≤(n-1)*den:=by rw [hs];exact Nat.mul_le_mul_left _ hnum
 obtain ⟨q,hq⟩:∃ x,x=s/den:=⟨_,rfl⟩;obtain ⟨m,hm⟩:∃ x,x=s%den:=⟨_,rfl⟩;rw [←hq,←hm] at C hzz;have hdm:den*q+m=s:=by rw [hq,hm];exact Nat.div_add_mod _ _
 have hml:m<den:=by rw [hm];exact Nat.mod_lt _ (by omega)
 have hqn:q<n:=by
  have:q≤n-1:=by
   rw [hq];exact Nat.div_le_of_le_mul (by rw [Nat.mul_comm];exact hsb)
  omega
 have hq1:m≠0→q+1<n:=fun h0=>by
  have h1:den*q<(n-1)*den:=by omega
  rw [Nat.mul_comm] at h1;have:=Nat.lt_of_mul_lt_mul_right h1;omega
 have hmem:∀ i,i<n→ys.getD i 0<18446744073709551616∧finW (ys.getD i 0):=fun i hi=>⟨hW _ (getD_mem15 (by omega)),hf _ (getD_mem15 (by omega))⟩
 have HY:=(qsd (ai hF (ai hn (ai hT hmem))));have HZ:=qsd hzz;have HE:=(qsd (ai hs (ai hsb (ai hq (ai hm hdm)))));clear hF hT hmem hzz hs hsb hq hm hdm hW hf hn;go_enter Tryz.func27,Tryz.ntmps27
 go_wp2_with fail
 refine C.out.mono ?_;rintro r v0 ⟨rfl,hb⟩;obtain ⟨V,hV⟩:∃ V,V=v0.alloc (Obj.cells #[.int .i64 (q:Nat),.int .i64 (m:Nat),.int .i64 (den:Nat)] 81):=⟨_,rfl⟩;obtain ⟨g,hg⟩:∃ g,g=v0.heap.size:=⟨_,rfl⟩;have hbV:Below w.heap.size w V:=by rw [hV];exact hb.trans ((below_alloc _ _).mono hb.size)
 have p0:V.cell? ⟨g,0,none⟩=some (.int .i64 (q:Nat)):=by rw [hV,hg,World.cell?_alloc_new];rfl
 have p1:V.cell? ⟨g,1,none⟩=some (.int .i64 (m:Nat)):=by rw [hV,hg,World.cell?_alloc_new];rfl
 have p2:V.cell? ⟨g,2,none⟩=some (.int .i64 (den:Nat)):=by rw [hV,hg,World.cell?_alloc_new];rfl
 have HV:=(qsd (ai hV hg));have HB:=qsd hbV;clear C hb hV hg hbV;have bq:(q:Int)<(n:Int):=by omega
 have cell:∀ i,i<n→V.cell? ⟨b,i,none⟩=some (.float .f64 (ys.getD i 0)):=fun i hi=>by
  obtain ⟨b',off,e,c⟩:=HY.out.1.at HB.out i (by have:=HY.out.2.1;omega)
  cases e
  rw [Nat.zero_add] at c;exact c
 have HC:=qsd cell;clear cell
 go_upto_region 2 with fail
 rw [←HV.out.1,←HV.out.2];clear HV
 by_cases h0:m=0
 · replace HZ:Aside (zz=ys.getD q 0):=qsd (by rw [HZ.out,if_pos h0])
   have c0:=HC.out q hqn;obtain ⟨x,hx⟩:∃ x,x=ys.getD q 0:=⟨_,rfl⟩;rw [←hx] at c0 HZ;subst h0;clear hx;go_wp2;go_ret;exact ⟨by rw [HZ.out];rfl,HB.out⟩
 · have d0:((m:Int)==0)=false:=by simp;omega
   have d1:decide ((m:Int)=0)=false:=by simp;omega
   have hq2:=hq1 h0;obtain ⟨q1,hq1'⟩:∃ x,x=q+1:=⟨_,rfl⟩;have wq:IntKind.i64.wrap ((q:Int)+1)=(q1:Int):=wrapZ (by omega) (by omega)
   have bq1:(q1:Int)<(n:Int):=by omega
   have bq1':q1<n:=by omega
   have c0:=HC.out q hqn;have c1:=HC.out q1 bq1';obtain ⟨f0,g0⟩:=HY.out.2.2.2 q hqn;obtain ⟨f1,g1⟩:=HY.out.2.2.2 q1 bq1';replace HZ:Aside (zz=if rule=0 then ys.getD q 0 else if rule=1 then ys.getD q1 0 else if rule=2 then ys.getD (nrP q m den) 0 else if rule=3 then (midR (ys.getD q 0) (ys.getD q1 0) mode).1 else lnR (ys.getD q 0) (ys.getD q1 0) m den mode):=qsd (by rw [HZ.out,if_neg h0,hq1'])
   obtain ⟨x,hx⟩:∃ x,x=ys.getD q 0:=⟨_,rfl⟩;obtain ⟨y,hy⟩:∃ y,y=ys.getD q1 0:=⟨_,rfl⟩;rw [←hx] at c0 f0 g0 HZ;rw [←hy] at c1 f1 g1 HZ;have HXY:=(qsd (ai f0 (ai g0 (ai f1 (ai g1 hq1')))));clear hx hy f0 g0 f1 g1 hq1'
   go_upto_region 4 with fail
   go_cut [12,13] from 29 to 39 (fun lv hv wx=>lv=.float .f64 x∧hv=.float .f64 y∧wx=V.drew)
   case first =>
    go_region
    all_goals
     go_wp2_with fail
     go_meet
     case rel=>exact ⟨rfl,rfl,rfl⟩
   obtain ⟨rfl,rfl,hwc⟩:=hcut;obtain ⟨U,hU⟩:∃ U,U=V.drew:=⟨_,rfl⟩;rw [hwc,←hU]
   have HU:Aside (Below w.heap.size w U∧(∀ i,i<n→U.cell? ⟨b,i,none⟩=some (.float .f64 (ys.getD i 0)))):=by
    rw [hU];exact ⟨HB.out.drew,HC.out⟩
   have r0:U.cell? ⟨g,0,none⟩=some (.int .i64 (q:Nat)):=by rw [hU];exact p0
   have r1:U.cell? ⟨g,1,none⟩=some (.int .i64 (m:Nat)):=by rw [hU];exact p1
   have r2:U.cell? ⟨g,2,none⟩=some (.int .i64 (den:Nat)):=by rw [hU];exact p2
   clear hwc hU p0 p1 p2 c0 c1 HC HB;have hr:rule=0∨rule=1∨rule=2∨rule=3∨rule=4:=by omega
   rcases hr with rfl|rfl|rfl|rfl|rfl
   · replace HZ:Aside (zz=x):=qsd (by rw [HZ.out,if_pos rfl])
     go_wp2;go_ret;exact ⟨by rw [HZ.out];rfl,HU.out.1⟩
   · replace HZ:Aside (zz=y):=qsd (by rw [HZ.out,if_neg (by decide),if_pos rfl])
     go_wp2;go_ret;exact ⟨by rw [HZ.out];rfl,HU.out.1⟩
   · have C:=hid (near16 q m den (by omega) (by omega) hd U)
     have hk:nrP q m den<n:=by unfold nrP;have:=HXY.out.2.2.2.2;split <;> omega
     obtain ⟨k,hkk⟩:∃ k,k=nrP q m den:=⟨_,rfl⟩;rw [←hkk] at C hk;replace HZ:Aside (zz=ys.getD k 0):=qsd (by rw [HZ.out,if_neg (by decide),if_neg (by decide),if_pos rfl,hkk])
     have bk:(k:Int)<(n:Int):=by omega
     clear hkk
     go_wp2_with fail
     refine C.out.mono ?_;rintro r v ⟨rfl,hb⟩;have ck:v.cell? ⟨b,k,none⟩=some (.float .f64 (ys.getD k 0)):=(hb.cell (p:=⟨b,k,none⟩) (lt_of_cell15 (HU.out.2 k hk))).trans (HU.out.2 k hk);have HR:=qsd (HU.out.1.trans (hb.mono HU.out.1.size));obtain ⟨e,he⟩:∃ e,e=ys.getD k 0:=⟨_,rfl⟩;rw [←he] at ck HZ;clear C hb he;go_wp2;go_ret;exact ⟨by rw [HZ.out];rfl,HR.out⟩
   · have C:=hid (Middle13 x y HXY.out.1 HXY.out.2.2.1 mode U (HY.out.2.2.1.belows HU.out.1) (midR x y mode) rfl)
     obtain ⟨⟨e1,e2⟩,hmd⟩:∃ z,midR x y mode=z:=⟨_,rfl⟩;rw [hmd] at C HZ;replace HZ:Aside (zz=e1):=qsd (by rw [HZ.out,if_neg (by decide),if_neg (by decide),if_neg (by decide),if_pos rfl])
     clear hmd
     go_wp2_with fail
     refine C.out.mono ?_;rintro r v ⟨rfl,hb⟩;have HR:=qsd (HU.out.1.trans (hb.mono HU.out.1.size));clear C hb;go_wp2;go_ret;exact ⟨by rw [HZ.out];rfl,HR.out⟩
   · have C:=hid (line16 x y q m den mode HXY.out.1 HXY.out.2.1 HXY.out.2.2.1 HXY.out.2.2.2.1 (by omega) hd U (HY.out.2.2.1.belows HU.out.1))
     replace HZ:Aside (zz=lnR x y m den mode):=qsd (by rw [HZ.out,if_neg (by decide),if_neg (by decide),if_neg (by decide),if_neg (by decide)])
     obtain ⟨e,he⟩:∃ e,e=lnR x y m den mode:=⟨_,rfl⟩;rw [←he] at C HZ;clear he
     go_wp2_with fail
     refine C.out.mono ?_;rintro r v ⟨rfl,hb⟩;have HR:=qsd (HU.out.1.trans (hb.mono HU.out.1.size));clear C hb;go_wp2;go_ret;exact ⟨by rw [HZ.out];rfl,HR.out⟩
end
section
open Go.RowKit J
theorem amE_fin {xs:List Nat}{odd:Bool}(h:amE xs odd=0):odd=false∧xs.length≤65536∧xs≠[]∧∀ x ∈ xs,finW x:=by
 unfold amE at h
 by_cases h1:65536<xs.length
 · rw [if_pos h1] at h;omega
 · rw [if_neg h1] at h
   by_cases h2:(odd || xs.any byB)=true
   · rw [if_pos h2] at h;omega
   · rw [if_neg h2] at h
     by_cases h3:xs.length=0
     · rw [if_pos h3] at h;omega
     · rw [Bool.or_eq_true,not_or] at h2
       refine ⟨by simpa using h2.1,by omega,fun e=>by rw [e] at h3;exact h3 rfl,fun x hx=>?_⟩
       have:=h2.2;rw [List.any_eq_true] at this
       rcases Nat.lt_or_ge (magW x) 9218868437227405312 with q|q
       · exact q
       · exact absurd ⟨x,hx,by unfold byB;exact decide_eq_true q⟩ this
theorem nrm_fin {x:Nat}(h:finW x):nrm x=x:=by
 unfold nrm nanW;have:magW x=x%9223372036854775808:=rfl;rw [if_neg (by rw [decide_eq_true_eq];have:=h;unfold finW magW at this;omega)]
theorem sortL_mem {xs:List Nat}(hf:∀ x ∈ xs,finW x):∀ x ∈ sortL xs,x ∈ xs:=fun x hx=>by
 unfold sortL at hx;obtain ⟨i,hi,rfl⟩:=List.mem_map.1 hx;have hl:=rowL_mem.1 hi;have hm:xs.getD i 0 ∈ xs:=getD_mem15 hl;rw [nrm_fin (hf _ hm)];exact hm
noncomputable def quR (xs:List Nat) (num den rule mode:Int):Nat×Int :=
 if knB rule mode=false∨den<1∨2147483648<den∨num<0∨den<num then (0,1) else if amE xs false=0 then (telR (sortL xs) num.toNat den.toNat rule mode,0) else (0,amE xs false)
theorem Quantile16 (xs:List Nat) (ao:Option Addr) (n cap:Nat) (num den rule mode:Int) (w:World) (hT:Tab w) (hF:Fs w.heap.size w ao xs) (hn:n=xs.length) (hb:n≤17592186044416) (hW:W64 xs) (z:Nat×Int) (hz:quR xs num den rule mode=z) :
 Calls Tryz.prog 9 #[.slice ao n cap,.int .i64 num,.int .i64 den,.int .i64 rule,.int .i64 mode] w fun r w'=>r=.returned (.tuple #[.float .f64 z.1,.int .i64 z.2])∧Below w.heap.size w w':=by
 obtain ⟨z1,z2⟩:=z;simp only;have CK:=hid (known16 rule mode w);unfold quR at hz
 have hkn:knB rule mode=true→0≤rule∧rule≤4:=fun h=>by
  unfold knB at h;have:=of_decide_eq_true h;exact ⟨this.1,this.2.1⟩
 obtain ⟨kb,hkb⟩:∃ k,k=knB rule mode:=⟨_,rfl⟩;rw [←hkb] at CK hz hkn;have HY:=(qsd (ai hF (ai hn (ai hT (ai hW hkn)))));clear hF hn hT hW hkn hkb;have CA:Hid (∀ u:World,Below w.heap.size w u→Calls Tryz.prog 26 #[.slice ao n cap,.bool false] u fun r w'=>r=.returned (.int .i64 (amE xs false))∧Below u.heap.size u w'):=fun u hu=>amiss16 xs false ao n cap u ((HY.out.1.below hu).mono hu.size) HY.out.2.1 hb HY.out.2.2.2.1
 cases kb
 · rw [if_pos (.inl rfl)] at hz
   obtain ⟨rfl,rfl⟩:=Prod.mk.inj hz;go_enter Tryz.func9,Tryz.ntmps9
   go_wp2_with fail
   refine CK.out.mono ?_;rintro r v ⟨rfl,rfl⟩;go_wp2;refine bodyPost_ret (v:=.tuple #[.float .f64 0,.int .i64 1]) (by simp [results,Tryz.results9,go_sem]) rfl ?_
   exact ⟨rfl,Below.refl _ _⟩
 · by_cases h1:den<1
   · have d1:decide (den<1)=true:=by simp [h1]
     rw [if_pos (.inr (.inl h1))] at hz;obtain ⟨rfl,rfl⟩:=Prod.mk.inj hz;go_enter Tryz.func9,Tryz.ntmps9
     go_wp2_with fail
     refine CK.out.mono ?_;rintro r v ⟨rfl,rfl⟩;go_wp2;refine bodyPost_ret (v:=.tuple #[.float .f64 0,.int .i64 1]) (by simp [results,Tryz.results9,go_sem]) rfl ?_
     exact ⟨rfl,Below.refl _ _⟩
   · have d1:decide (den<1)=false:=by simp;omega
     by_cases h2:2147483648<den
     · have d2:decide (2147483648<den)=true:=by simp [h2]
       rw [if_pos (.inr (.inr (.inl h2)))] at hz;obtain ⟨rfl,rfl⟩:=Prod.mk.inj hz;go_enter Tryz.func9,Tryz.ntmps9
       go_wp2_with fail
       refine CK.out.mono ?_;rintro r v ⟨rfl,rfl⟩;go_wp2;refine bodyPost_ret (v:=.tuple #[.float .f64 0,.int .i64 1]) (by simp [results,Tryz.results9,go_sem]) rfl ?_
       exact ⟨rfl,Below.refl _ _⟩
     · have d2:decide (2147483648<den)=false:=by simp;omega
       by_cases h3:num<0
       · have d3:decide (num<0)=true:=by simp [h3]
         rw [if_pos (.inr (.inr (.inr (.inl h3))))] at hz;obtain ⟨rfl,rfl⟩:=Prod.mk.inj hz;go_enter Tryz.func9,Tryz.ntmps9
         go_wp2_with fail
         refine CK.out.mono ?_;rintro r v ⟨rfl,rfl⟩;go_wp2;refine bodyPost_ret (v:=.tuple #[.float .f64 0,.int .i64 1]) (by simp [results,Tryz.results9,go_sem]) rfl ?_
         exact ⟨rfl,Below.refl _ _⟩
       · have d3:decide (num<0)=false:=by simp;omega
         by_cases h4:den<num
         · have d4:decide (den<num)=true:=by simp [h4]
           rw [if_pos (.inr (.inr (.inr (.inr h4))))] at hz;obtain ⟨rfl,rfl⟩:=Prod.mk.inj hz;go_enter Tryz.func9,Tryz.ntmps9
           go_wp2_with fail
           refine CK.out.mono ?_;rintro r v ⟨rfl,rfl⟩;go_wp2;refine bodyPost_ret (v:=.tuple #[.float .f64 0,.int .i64 1]) (by simp [results,Tryz.results9,go_sem]) rfl ?_
           exact ⟨rfl,Below.refl _ _⟩
         · have d4:decide (den<num)=false:=by simp;omega
           rw [if_neg (by rintro (h | h | h | h | h) <;> first | exact absurd h (by decide) | omega)] at hz
           obtain ⟨dn,hdn⟩:∃ k:Nat,den=(k:Int):=⟨den.toNat,by omega⟩
           obtain ⟨nm,hnm⟩:∃ k:Nat,num=(k:Int):=⟨num.toNat,by omega⟩
           subst hdn hnm;rw [Int.toNat_natCast,Int.toNat_natCast] at hz;have hd1:1≤dn:=by omega
           have hd2:dn≤2147483648:=by omega
           have hnd:nm≤dn:=by omega
           have hfin:amE xs false=0→_:=amE_fin (xs:=xs) (odd:=false);obtain ⟨e,he⟩:∃ e,e=amE xs false:=⟨_,rfl⟩;rw [←he] at CA hz hfin;have HE:=qsd hfin;clear hfin he
           by_cases h5:e=0
           · subst h5
             rw [if_pos rfl] at hz;obtain ⟨hz1,rfl⟩:=Prod.mk.inj hz;have HZ:=qsd hz1;clear hz hz1;go_enter Tryz.func9,Tryz.ntmps9
             go_wp2_with fail
             refine CK.out.mono ?_;rintro r v ⟨rfl,rfl⟩;have C:=hid (CA.out v (Below.refl _ _))
             go_wp2_with fail
             refine C.out.mono ?_;rintro r v2 ⟨rfl,hb2⟩;have HB:=qsd hb2;have C:=hid (Sort15 xs ao n cap v2 ((HY.out.1.below hb2).mono hb2.size) HY.out.2.1 hb HY.out.2.2.2.1);clear hb2
             go_wp2_with fail
             refine C.out.mono ?_;rintro r v3 ⟨rfl,hO,hb3⟩;have hb4:=HB.out.trans (hb3.mono HB.out.size);have hl:=sortL_len xs;obtain ⟨_,e2,e3,e4⟩:=HE.out (by first|rfl|trivial)
             have hFs:Fs v3.heap.size v3 (some ⟨v2.heap.size,0,none⟩) (sortL xs):=by
              have:=hO.fs hO.lt n;rw [List.take_of_length_le (by have:=HY.out.2.1;omega)] at this
              exact this
             have hpos:0<xs.length:=List.length_pos_iff.2 e3;have C:=hid (tell16 (sortL xs) v2.heap.size n n nm dn rule mode v3 (HY.out.2.2.1.belows hb4) hFs (by have:=HY.out.2.1;omega) (by have:=HY.out.2.1;omega) (by have:=HY.out.2.1;omega) (fun x hx=>HY.out.2.2.2.1 x (sortL_mem e4 x hx)) (fun x hx=>e4 x (sortL_mem e4 x hx)) hnd hd1 hd2 (HY.out.2.2.2.2 (by first | rfl | trivial)).1 (HY.out.2.2.2.2 (by first | rfl | trivial)).2)
             rw [HZ.out] at C;have HB4:=qsd hb4;clear hO hb3 hb4 hl e2 e3 e4 hFs hpos
             go_wp2_with fail
             refine C.out.mono ?_;rintro r v4 ⟨rfl,hb5⟩;have HR:=qsd (HB4.out.trans (hb5.mono HB4.out.size));clear C hb5;go_wp2;refine bodyPost_ret (v:=.tuple #[.float .f64 z1,.int .i64 0]) (by simp [results,Tryz.results9,go_sem]) rfl ?_
             exact ⟨rfl,HR.out⟩
           · rw [if_neg h5] at hz
             obtain ⟨rfl,rfl⟩:=Prod.mk.inj hz;have k1:(e==0)=false:=by simp [h5]
             have k2:(e != 0)=true:=by simp [h5]
             have k3:decide (e=0)=false:=by simp [h5]
             go_enter Tryz.func9,Tryz.ntmps9
             go_wp2_with fail
             refine CK.out.mono ?_;rintro r v ⟨rfl,rfl⟩;have C:=hid (CA.out v (Below.refl _ _))
             go_wp2_with fail
             refine C.out.mono ?_;rintro r v2 ⟨rfl,hb2⟩;have HR:=qsd hb2;clear C hb2;go_wp2;refine bodyPost_ret (v:=.tuple #[.float .f64 0,.int .i64 e]) (by simp [results,Tryz.results9,go_sem]) rfl ?_
             exact ⟨rfl,HR.out⟩
end
section
open Go.RowKit J
def kW (x:Nat):Int:=if negW x then -1-(magW x:Int) else magW x
def leK (x y:Nat):Bool:=decide (kW x≤kW y)
end
section
open Go Go.RowKit J
theorem tk_kW {x:Nat}(fx:finW x):tk x=kW x:=by
 unfold tk kW;rw [if_neg (by unfold finW at fx;omega)]
theorem map_range16 (xs:List Nat):(List.range xs.length).map (fun i=>xs.getD i 0)=xs:=by
 refine List.ext_getElem (by simp) fun i h1 h2=>?_
 simp [List.getD_eq_getElem?_getD,h2]
theorem sortL_map {xs:List Nat}(hf:∀ x ∈ xs,finW x):sortL xs=(rowL xs).map (fun i=>xs.getD i 0):=by
 unfold sortL;refine List.map_congr_left fun i hi=>nrm_fin (hf _ (getD_mem15 (rowL_mem.1 hi)))
theorem sortL_perm16 {xs:List Nat}(hf:∀ x ∈ xs,finW x):(sortL xs).Perm xs:=by
 rw [sortL_map hf];have:=(rowL_perm xs).map (fun i=>xs.getD i 0)
 rw [map_range16] at this;exact this
theorem sortL_up {xs:List Nat}(hf:∀ x ∈ xs,finW x):(sortL xs).Pairwise (fun a b=>leK a b=true):=by
 rw [sortL_map hf,List.pairwise_map];have h:=rowI_sorted xs (List.range xs.length);refine List.Pairwise.imp_of_mem ?_ (show (rowL xs).Pairwise _ from h)
 intro a b ha hb hab;have fa:=hf _ (getD_mem15 (rowL_mem.1 ha));have fb:=hf _ (getD_mem15 (rowL_mem.1 hb));unfold leI at hab;have:=of_decide_eq_true hab;unfold leK;rw [decide_eq_true_eq,←tk_kW fa,←tk_kW fb];omega
end
section
open Go.RowKit J
def leF (x y:Nat):Bool:=FloatKind.f64.format.order y x==some Ordering.lt || FloatKind.f64.format.order y x==some Ordering.eq
def cntS (xs:List Nat) (x:Nat):Nat:=xs.countP (leF x)
theorem cntS_take {xs:List Nat}{x k:Nat}(h:k<xs.length):cntS (xs.take (k+1)) x=cntS (xs.take k) x+(leF x (xs.getD k 0)).toNat:=by
 unfold cntS;rw [List.take_add_one,List.getElem?_eq_getElem h,List.countP_append,List.getD_eq_getElem?_getD,List.getElem?_eq_getElem h]
 simp only [Option.toList,List.countP_cons,List.countP_nil,Option.getD_some]
 cases leF x xs[k] <;> rfl
theorem cntS_le (xs:List Nat) (x:Nat):cntS xs x≤xs.length:=List.countP_le_length
theorem Share16 (xs:List Nat) (x:Nat) (ao:Option Addr) (n cap:Nat) (w:World) (hx:x<18446744073709551616) (hF:Fs w.heap.size w ao xs) (hn:n=xs.length) (hb:n≤17592186044416) (hW:W64 xs) :
 Calls Tryz.prog 23 #[.slice ao n cap,.float .f64 x] w fun r w'=>r=.returned (.tuple #[.int .i64 (if amE xs (nanW x)=0 then (cntS xs x:Int) else 0),.int .i64 (if amE xs (nanW x)=0 then (xs.length:Int) else 0),.int .i64 (amE xs (nanW x))])∧Below w.heap.size w w':=by
 have CN:=hid (isNaN_w x hx w);have CA:=hid (amiss16 xs (nanW x) ao n cap w hF hn hb hW);obtain ⟨e,he⟩:∃ e,e=amE xs (nanW x):=⟨_,rfl⟩;rw [←he] at CA ⊢;rw [←hn];obtain ⟨nb,hnb⟩:∃ b,b=nanW x:=⟨_,rfl⟩;rw [←hnb] at CN CA;have HY:=(qsd (ai hF hn));clear hF hn hW he hnb hx
 by_cases h0:e=0
 · subst h0
   rw [if_pos rfl,if_pos rfl];go_enter Tryz.func23,Tryz.ntmps23
   go_wp2_with fail
   refine CN.out.mono ?_;rintro r v ⟨rfl,rfl⟩
   go_wp2_with fail
   refine CA.out.mono ?_;rintro r v1 ⟨rfl,hb1⟩;have HB:=qsd hb1;clear hb1 CN CA;go_wp2
   go_loopg [4,17] n (fun gk cv iv wr=>∃ k:Nat,gk+k=n∧cv=.int .i64 (cntS (xs.take k) x:Nat)∧iv=.int .i64 (k:Nat)∧wr=v1)
   case atStart=>exact ⟨0,rfl,by simp [cntS],by first | rfl | simp,rfl⟩
   case round =>
    obtain ⟨k,hgk,hcv,rfl,rfl⟩:=hrel;obtain ⟨c,hc⟩:∃ c,c=cntS (xs.take k) x:=⟨_,rfl⟩
    have hcl:c≤n:=by
     rw [hc];refine Nat.le_trans (cntS_le _ _) ?_;rw [List.length_take];have:=HY.out.2;omega
    rw [←hc] at hcv;subst hcv
    by_cases hk:k<n
    · have hdk:decide ((k:Int)<(n:Int))=true:=by simp;omega
      have bk:(k:Int)<(n:Int):=by omega
      obtain ⟨k1,hk1⟩:∃ y,y=k+1:=⟨_,rfl⟩;have wk:IntKind.i64.wrap ((k:Int)+1)=(k1:Int):=wrapZ (by omega) (by omega)
      obtain ⟨cp,hcp⟩:∃ y,y=c+1:=⟨_,rfl⟩;have wc1:IntKind.i64.wrap ((c:Int)+1)=(cp:Int):=wrapZ (by omega) (by omega)
      obtain ⟨b,off,rfl,c2⟩:=HY.out.1.at HB.out k (by have:=HY.out.2;omega)
      have hst:=cntS_take (xs:=xs) (x:=x) (k:=k) (by have:=HY.out.2;omega)
      rw [←hc] at hst;obtain ⟨y,hy⟩:∃ y,y=xs.getD k 0:=⟨_,rfl⟩;rw [←hy] at c2 hst;have HK:=(qsd (ai hk1 (ai hcp (ai hst hc))));obtain ⟨t,ht⟩:∃ t,t=leF x y:=⟨_,rfl⟩;have HT:=qsd ht;have ht2:(FloatKind.f64.format.order y x==some Ordering.lt || FloatKind.f64.format.order y x==some Ordering.eq)=t:=by rw [ht];rfl
      clear hk1 hcp hst hc hy ht
      cases t
      · go_wp2
        go_roundg (n-k1)
        case measure=>have:=HK.out;omega
        case rel=>exact ⟨k1,by have:=HK.out;omega,by rw [HK.out.1,HK.out.2.2.1,←HT.out];rfl,by first | rfl | simp,rfl⟩
      · go_wp2
        go_roundg (n-k1)
        case measure=>have:=HK.out;omega
        case rel=>exact ⟨k1,by have:=HK.out;omega,by rw [HK.out.1,HK.out.2.2.1,←HT.out,HK.out.2.1];rfl,by first | rfl | simp,rfl⟩
    · have hdk:decide ((k:Int)<(n:Int))=false:=by simp;omega
      have HE:Aside (c=cntS xs x):=qsd (by rw [hc,List.take_of_length_le (by have:=HY.out.2;omega)])
      clear hc;go_wp2;refine bodyPost_ret (v:=.tuple #[.int .i64 (c:Nat),.int .i64 (n:Nat),.int .i64 0]) (by simp [results,Tryz.results23,go_sem]) rfl ?_
      exact ⟨by rw [HE.out],HB.out⟩
 · rw [if_neg h0,if_neg h0]
   have k1:(e==0)=false:=by simp [h0]
   have k2:(e != 0)=true:=by simp [h0]
   have k3:decide (e=0)=false:=by simp [h0]
   go_enter Tryz.func23,Tryz.ntmps23
   go_wp2_with fail
   refine CN.out.mono ?_;rintro r v ⟨rfl,rfl⟩
   go_wp2_with fail
   refine CA.out.mono ?_;rintro r v1 ⟨rfl,hb1⟩;go_wp2;refine bodyPost_ret (v:=.tuple #[.int .i64 0,.int .i64 0,.int .i64 e]) (by simp [results,Tryz.results23,go_sem]) rfl ?_
   exact ⟨rfl,hb1⟩
end
section
open Go.RowKit J
def sP (x:Nat):Int:=sK (negW x) (magW x)
abbrev nnW (x:Nat):Prop:=magW x≤9218868437227405312
theorem wd_own17 (x:Nat) (hx:x<18446744073709551616):wd64 (negW x) (magW x)=x:=by
 unfold wd64 negW magW
 by_cases h:9223372036854775808≤x <;> simp [h] <;> omega
theorem eq17 {x y:Nat}(hx:x<18446744073709551616) (hy:y<18446744073709551616) (fx:nnW x) (fy:nnW y):(FloatKind.f64.format.order x y==some .eq)=decide (sP x=sP y):=by
 have h:=eq64 (negW x) (negW y) (magW x) (magW y) fx fy;rw [wd_own17 x hx,wd_own17 y hy] at h;exact h
def infB (neg:Bool) (x:Nat):Bool:=decide (negW x=neg∧magW x=9218868437227405312)
theorem bw_split17 (x:Nat) (hx:x<18446744073709551616):x=B.bw (negW x) (magW x/4503599627370496) (magW x%4503599627370496)∧magW x/4503599627370496<2048∧magW x%4503599627370496<4503599627370496:=by
 unfold B.bw negW magW
 by_cases h:9223372036854775808≤x <;> simp [h] <;> omega
theorem inf17n (x:Nat) (hx:x<18446744073709551616) (w:World) :
 Calls Tryz.prog 68 #[.float .f64 x,.int .i64 (-1)] w fun r w'=>r=.returned (.bool (infB true x))∧w'=w:=by
 obtain ⟨e,h1,h2⟩:=bw_split17 x hx;have:=B.isInf_neg (negW x) _ _ h1 h2 w;rw [←e] at this
 have q:(negW x&&(magW x/4503599627370496==2047&&magW x%4503599627370496==0))=infB true x:=by
  unfold infB;rw [Bool.eq_iff_iff,Bool.and_eq_true,Bool.and_eq_true,beq_iff_eq,beq_iff_eq,decide_eq_true_eq]
  constructor
  · rintro ⟨a,b,c⟩;exact ⟨a,by omega⟩
  · rintro ⟨a,b⟩;exact ⟨a,by omega,by omega⟩
 rw [q] at this;exact this
end
section
open Go Go.RowKit J
theorem sort_mem {xs:List Nat}(hf:∀ x ∈ xs,finW x) {i:Nat}(hi:i<xs.length):(sortL xs).getD i 0 ∈ xs:=by
 have hl:=sortL_len xs;refine (sortL_perm16 hf).mem_iff.1 ?_;rw [List.getD_eq_getElem?_getD,List.getElem?_eq_getElem (by omega)];exact List.getElem_mem (by omega)
end
section
open Go.RowKit J
attribute [local go_sem] st_float
noncomputable def sevTo (xs:List Nat) (p:Nat) (rule mode:Int) (k:Nat):List Nat:=(List.range k).map (fun i=>telR (sortL xs) i p rule mode)++List.replicate (p+1-k) 0
theorem sevTo_zero (xs:List Nat) (p:Nat) (rule mode:Int):sevTo xs p rule mode 0=List.replicate (p+1) 0:=by simp [sevTo]
theorem sevTo_len (xs:List Nat) (p:Nat) (rule mode:Int) (k:Nat) (h:k≤p+1):(sevTo xs p rule mode k).length=p+1:=by simp [sevTo];omega
theorem sevTo_succ (xs:List Nat) (p:Nat) (rule mode:Int) (k:Nat) (h:k<p+1):(sevTo xs p rule mode k).set k (telR (sortL xs) k p rule mode)=sevTo xs p rule mode (k+1):=by
 unfold sevTo;rw [List.set_append_right _ _ (by simp),List.length_map,List.length_range,Nat.sub_self,show p+1-k=(p+1-(k+1))+1 by omega,List.replicate_succ,List.set_cons_zero,List.range_succ,List.map_append,List.append_assoc]
 rfl
theorem Several_ok16 (xs:List Nat) (ao:Option Addr) (n cap p:Nat) (rule mode:Int) (w:World) (hT:Tab w) (hF:Fs w.heap.size w ao xs) (hn:n=xs.length) (hW:W64 xs) (hk:knB rule mode=true) (hp1:1≤p) (hp2:p≤65536) (ha:amE xs false=0) :
 Calls Tryz.prog 24 #[.slice ao n cap,.int .i64 (p:Nat),.int .i64 rule,.int .i64 mode] w fun r w'=>∃ g,r=.returned (.tuple #[.slice (some ⟨g,0,none⟩) (p+1) (p+1),.int .i64 0])∧OwnF w' g (sevTo xs p rule mode (p+1))∧w.heap.size≤g∧Below w.heap.size w w':=by
 obtain ⟨_,hl,hne,hf⟩:=amE_fin ha;have hpos:0<xs.length:=List.length_pos_iff.2 hne;have CK:=hid (known16 rule mode w);rw [hk] at CK
 have hkn:0≤rule∧rule≤4:=by
  unfold knB at hk;have:=of_decide_eq_true hk;exact ⟨this.1,this.2.1⟩
 have CA:=hid (amiss16 xs false ao n cap w hF hn (by omega) hW)
 rw [ha] at CA;obtain ⟨p1,hp⟩:∃ x,x=p+1:=⟨_,rfl⟩;rw [←hp];have wp:IntKind.i64.wrap ((p:Int)+1)=(p1:Int):=wrapZ (by omega) (by omega)
 have d1:decide ((p:Int)<1)=false:=by simp;omega
 have d2:decide ((65536:Int)<(p:Int))=false:=by simp;omega
 have mk:=make_floats p1 p1 rfl (by omega)
 have HY:=(qsd (ai hF (ai hn (ai hT (ai hW (ai hl (ai hpos (ai hf (ai hkn hp)))))))));clear hF hn hT hW hl hpos hf hkn hk ha hne hp;go_enter Tryz.func24,Tryz.ntmps24
 go_wp2_with fail
 refine CK.out.mono ?_;rintro r v ⟨rfl,rfl⟩
 go_wp2_with fail
 refine CA.out.mono ?_;rintro r v2 ⟨rfl,hb2⟩;have HB:=qsd hb2;have C:=hid (Sort15 xs ao n cap v2 ((HY.out.1.below hb2).mono hb2.size) HY.out.2.1 (by have:=HY.out;omega) HY.out.2.2.2.1)
 clear hb2 CK CA
 go_wp2_with fail
 refine C.out.mono ?_;rintro r v3 ⟨rfl,hO,hb3⟩;obtain ⟨V,hV⟩:∃ V,V=v3.alloc (.cells (madeCells #[.float .f64 0] p1) 26):=⟨_,rfl⟩;obtain ⟨g,hg⟩:∃ g,g=v3.heap.size:=⟨_,rfl⟩;obtain ⟨gs,hgs⟩:∃ g,g=v2.heap.size:=⟨_,rfl⟩
 have HA:Aside (OwnF V g (sevTo xs p rule mode 0)∧OwnF V gs (sortL xs)∧Below v.heap.size v V):=by
  rw [hV,hg,hgs,sevTo_zero];have hb4:=HB.out.trans (hb3.mono HB.out.size);refine ⟨?_,hO.below ((Below.refl _ _).alloc (Nat.le_refl _) _) hO.lt,hb4.trans ((below_alloc _ _).mono hb4.size)⟩;rw [←HY.out.2.2.2.2.2.2.2.2];exact OwnF.made v3 p1
 have HG:Aside (v.heap.size≤g∧gs<g∧v.heap.size≤gs):=by
  have h1:=hO.lt;have h2:=HB.out.size;have h3:=hb3.size;exact ⟨by omega,by omega,by omega⟩
 have HV:=(qsd (ai hV (ai hg hgs)));clear C hO hb3 hV hg hgs HB
 go_upto_region 8 with fail
 rw [←HV.out.1,←HV.out.2.1,←HV.out.2.2];clear HV mk;go_wp2
 go_loopg [38] p1 (fun gk iv wr=>∃ k:Nat,gk+k=p1∧iv=.int .i64 (k:Nat)∧Aside (OwnF wr g (sevTo xs p rule mode k)∧OwnF wr gs (sortL xs)∧Below v.heap.size v wr))
 case atStart=>exact ⟨0,rfl,by first | rfl | simp,HA.out⟩
 case round =>
  clear HA;obtain ⟨k,hgk,rfl,HA⟩:=hrel
  by_cases hk:k<p1
  · have hdk:decide ((k:Int)<(p1:Int))=true:=by simp;omega
    have bk:(k:Int)<(p1:Int):=by omega
    obtain ⟨k1,hk1⟩:∃ x,x=k+1:=⟨_,rfl⟩;have wk:IntKind.i64.wrap ((k:Int)+1)=(k1:Int):=wrapZ (by omega) (by have:=HY.out.2.2.2.2.2.2.2.2;omega)
    obtain ⟨a1,a2,a3⟩:=HA.out;obtain ⟨hF,hn,hT,hW,hl,hpos,hf,hkn,hp⟩:=HY.out;have hsl:=sortL_len xs
    have hFs:Fs wr.heap.size wr (some ⟨gs,0,none⟩) (sortL xs):=by
     have:=a2.fs a2.lt n;rw [List.take_of_length_le (by omega)] at this
     exact this
    have C:=hid (tell16 (sortL xs) gs n n k p rule mode wr (hT.belows a3) hFs (by omega) (by omega) (by omega) (fun x hx=>hW x (sortL_mem hf x hx)) (fun x hx=>hf x (sortL_mem hf x hx)) (by omega) hp1 (by omega) hkn.1 hkn.2)
    obtain ⟨y,hy⟩:∃ y,y=telR (sortL xs) k p rule mode:=⟨_,rfl⟩;rw [←hy] at C
    have HX:Aside (∀ u,Below wr.heap.size wr u→u.cell? ⟨g,k,none⟩=some (.float .f64 ((sevTo xs p rule mode k).getD k 0))∧u.frozen? ⟨g,k,none⟩=false∧OwnF (u.setCell ⟨g,k,none⟩ (.float .f64 y)) g (sevTo xs p rule mode k1)∧OwnF (u.setCell ⟨g,k,none⟩ (.float .f64 y)) gs (sortL xs)∧Below v.heap.size v (u.setCell ⟨g,k,none⟩ (.float .f64 y))):=fun u hu=>by
     have a1':=a1.below hu a1.lt;have a2':=a2.below hu a2.lt;have hG:=HG.out;refine ⟨a1'.cell k (by rw [sevTo_len _ _ _ _ _ (by omega)];omega),a1'.frozen k,?_,?_,?_⟩
     · rw [hk1,←sevTo_succ xs p rule mode k (by omega),←hy];exact a1'.set k y
     · have hne:gs≠g:=by omega
       unfold OwnF at a2' ⊢;simp only [World.setCell,Array.getElem?_modify];rw [if_neg (fun e=>hne e.symm)];exact a2'
     · exact (a3.trans (hu.mono a3.size)).setCell (show v.heap.size≤g by omega) _
    have HK:=qsd hk1;clear HA a1 a2 a3 hF hn hT hW hl hpos hf hkn hp hsl hFs hy hk1
    go_wp2_with fail
    refine C.out.mono ?_;rintro r u ⟨rfl,hu⟩;obtain ⟨x1,x2,x3⟩:=HX.out u hu;have HR:=qsd x3;clear C HX x3 hu;obtain ⟨z,hz⟩:∃ z,z=(sevTo xs p rule mode k).getD k 0:=⟨_,rfl⟩;rw [←hz] at x1;clear hz;go_wp2
    go_roundg (p1-k1)
    case measure=>have:=HK.out;omega
    case rel=>exact ⟨k1,by have:=HK.out;omega,by first | rfl | simp,HR.out⟩
  · have hdk:decide ((k:Int)<(p1:Int))=false:=by simp;omega
    have hkp:k=p1:=by omega
    subst hkp;go_wp2;refine bodyPost_ret (v:=.tuple #[.slice (some ⟨g,0,none⟩) k k,.int .i64 0]) (by simp [results,Tryz.results24,go_sem]) rfl ?_
    exact ⟨g,rfl,HA.out.1,HG.out.1,HA.out.2.2⟩
end
section
open Go Go.RowKit J
theorem g_parts16 {u k:Nat}{V:Int}(hu:u≤100000) (hV:V≠0) (hk:k≤90000) (hb:Bd k V):∃ X e,gV u V=some (decide (V<0),X,e)∧X%2=1∧-(u:Int)≤e∧e≤200000∧X*2^(e+(u:Int)).toNat=V.natAbs∧bl X≤262144∧Frm (decide (V<0)) X e:=by
 obtain ⟨n,X,e,ho,F,hx⟩:=g_iv (u:=u) hu (by omega) hb
 have hm:mkS (decide (V<0)) V.natAbs (-(u:Int))=some (n,X,e):=ho;have hz:=zv_mkS hm (-(u:Int)) (.inr (by omega))
 unfold zv at hz;simp only at hz;rw [show (-(u:Int) - -(u:Int)).toNat=0 by omega,Nat.pow_zero,Nat.mul_one] at hz
 have hX0:X≠0:=by
  rintro rfl;simp [sg1] at hz
  split at hz <;> omega
 have hp:0<X*2^(e - -(u:Int)).toNat:=Nat.mul_pos (by omega) (Nat.two_pow_pos _)
 rcases hx with h|⟨h1,h2⟩
 · exact absurd h hX0
 have hn:n=decide (V<0):=by
  by_cases hs:V<0
  · rw [decide_eq_true hs] at hz ⊢
    cases n with
    | true=>rfl
    | false=>simp only [sg1,if_true,Bool.false_eq_true,if_false] at hz;omega
  · rw [decide_eq_false hs] at hz ⊢
    cases n with
    | false=>rfl
    | true=>simp only [sg1,if_true,Bool.false_eq_true,if_false] at hz;omega
 rw [hn] at hz ho F
 have hv:X*2^(e - -(u:Int)).toNat=V.natAbs:=by
  by_cases hs:V<0
  · rw [decide_eq_true hs] at hz;simp only [sg1,if_true] at hz;omega
  · rw [decide_eq_false hs] at hz;simp only [sg1,Bool.false_eq_true,if_false] at hz;omega
 refine ⟨X,e,ho,?_,h1,by omega,?_,by omega,F⟩
 · rcases F.odd with q | q
   · exact q
   · exact absurd q.1 hX0
 · rw [show (e+(u:Int)).toNat=(e - -(u:Int)).toNat by congr 1;omega]
   exact hv
theorem rat16 {x S V S' V':Nat}(hS:0<S) (hS':0<S') (e:V*S'=V'*S):(x*S<V↔x*S'<V')∧(x*S=V↔x*S'=V')∧(V<x*S↔V'<x*S'):=by
 have a1:x*S*S'=x*S'*S:=by rw [Nat.mul_assoc,Nat.mul_comm S,←Nat.mul_assoc]
 have t1:x*S<V↔x*S*S'<V*S':=(Nat.mul_lt_mul_right hS').symm;have t2:x*S'<V'↔x*S'*S<V'*S:=(Nat.mul_lt_mul_right hS).symm;have t3:V<x*S↔V*S'<x*S*S':=(Nat.mul_lt_mul_right hS').symm;have t4:V'<x*S'↔V'*S<x*S'*S:=(Nat.mul_lt_mul_right hS).symm;rw [t1,t2,t3,t4,a1,e];refine ⟨Iff.rfl,?_,Iff.rfl⟩;rw [a1,e] at t1;rw [a1,e] at t3;omega
theorem LiesG.ratio16 {v:Nat→Nat}{top n K:Nat}{t:Bool}{m:Int}{V S V' S':Nat}(h:LiesG v top n K t m V S) (hS':0<S') (e:V*S'=V'*S):LiesG v top n K t m V' S':=by
 obtain ⟨h1,h2,h3,h4,h5,h6⟩:=h;have e2:(2^n*V)*S'=(2^n*V')*S:=by rw [Nat.mul_assoc,e,Nat.mul_assoc]
 refine ⟨h1,hS',fun a=>((rat16 h2 hS' e).2.1.1 (h3 a).symm).symm,fun a=>(rat16 h2 hS' e).1.1 (h4 a),fun a b=>?_,fun a=>?_⟩
 · have:=h5 a ((rat16 h2 hS' e).2.2.2 b)
   obtain ⟨r1,r2,r3⟩:=rat16 (x:=(v K+v (K+1))^n) h2 hS' e2
   rcases this with ⟨q,r⟩|⟨q,r⟩|⟨q,r⟩
   · exact .inl ⟨q,r3.1 r⟩
   · exact .inr (.inl ⟨q,(r2.1 r.symm).symm⟩)
   · exact .inr (.inr ⟨q,r1.1 r⟩)
 · rcases h6 a with q | q
   · exact .inl ((rat16 h2 hS' e).2.2.1 q)
   · exact .inr q
theorem qR_ok16 {u v k:Nat}{V D:Int}(hu:u≤100000) (hv:v≤100000) (hk:k≤90000) (hV:V≠0) (hD:0<D) (bV:Bd k V) (bD:Bd k D) :
 ∃ K t m,(∀ j,j=1074→LiesG vK 9218868437227405312 1 K t m (V.natAbs*2^(j+v)) (D.natAbs*2^u))∧∀ mode:Int,0≤mode→mode≤4→qR16 (gV u V) (gV v D) mode=(rK mode (decide (V<0)) K t m+(if V<0 then 9223372036854775808 else 0),0):=by
 obtain ⟨Y,f,ho2,hY,hf0,hf1,hv2,hbl2,F2⟩:=g_parts16 (u:=v) (V:=D) hv (by omega) hk bD
 rw [decide_eq_false (by omega)] at ho2 F2
 obtain ⟨X,e,ho,hX,he0,he1,hvv,hbl,F⟩:=g_parts16 (u:=u) (V:=V) hu hV hk bV;have hm1:mkS (decide (V<0)) X e=some (decide (V<0),X,e):=mkS_idem F;have hm2:mkS false Y f=some (false,Y,f):=mkS_idem F2;obtain ⟨K,t,m,hL,hR⟩:=quo64 (decide (V<0)) X e Y f hX (by omega) hbl hbl2
 refine ⟨K,t,m,fun j hj=>?_,fun mode hm0 hm4=>?_⟩
 · refine hL.ratio16 (Nat.mul_pos (by omega) (Nat.two_pow_pos _)) ?_
   unfold rV11 rS11;rw [←hvv,←hv2]
   have e1:X*2^(e-f+((1*1074:Nat):Int)).toNat*(Y*2^(f+(v:Int)).toNat*2^u)=X*Y*(2^((e-f+((1*1074:Nat):Int)).toNat+((f+(v:Int)).toNat+u))):=by
    rw [Nat.pow_add,Nat.pow_add,Nat.mul_assoc Y,Nat.mul_mul_mul_comm]
   have e2:X*2^(e+(u:Int)).toNat*2^(j+v)*(Y*2^(-(e-f+((1*1074:Nat):Int))).toNat)=X*Y*(2^((e+(u:Int)).toNat+(j+v)+(-(e-f+((1*1074:Nat):Int))).toNat)):=by
    rw [Nat.pow_add _ (_+_),Nat.pow_add _ (e+(u:Int)).toNat,Nat.mul_assoc X,Nat.mul_mul_mul_comm]
   rw [e1,e2]
   congr 2
   omega
 · unfold qR16
   rw [ho,ho2]
   show quoR rndS ⟨decide (V<0),.bool false,X,e,false,.bool false,Y,f⟩ mode=_
   unfold quoR;rw [if_neg (by omega),if_pos (by rw [errL_one];show errN X (decide (V<0)) e Y false f=0;unfold errN;rw [if_neg (by unfold sgn;simp;split <;> omega),hm1,hm2];simp [dX];omega),hm1,hm2]
   have:=hR mode hm0 hm4;simp only [decide_eq_true_eq] at this;exact this
theorem own13 {V W:Int}(hV:V≠0) (hW:0<W) (k:Nat) (hk:k≤90000) (hb:V.natAbs<2^k) (hb2:W.natAbs<2^k) (L:Nat) (hL:L<9218868437227405312) (e:∀ j,j=1074→V.natAbs*2^j=vK L*W.natAbs) (mode:Int) (hm0:0≤mode) (hm4:mode≤4) :
 qvR V W mode=(L+(if V<0 then 9223372036854775808 else 0),0):=by
 obtain ⟨K,t,m,hL1,hR⟩:=quot_lies hV hW k hk hb hb2;rw [hR mode hm0 hm4,rK_own mode _ (hL1 1074 rfl) L hL (e 1074 rfl)]
theorem lev_own {xs:List Nat}{s:Sp}{mode:Int}(hW:W64 xs) (hl:xs.length≤65536) (hne:xs≠[]) (hV:vS xs≠0) (hm0:0≤mode) (hm4:mode≤4) (L:Nat) (hL:L<9218868437227405312) (e:∀ j k,j=1074→k=2148→(vS xs).natAbs*2^j=vK L*(xs.length*2^k)) :
 levR xs s mode=(L+(if vS xs<0 then 9223372036854775808 else 0),0):=by
 unfold levR;obtain ⟨k,hk⟩:∃ k:Nat,k=2148:=⟨_,rfl⟩;obtain ⟨j,hj,hb⟩:=vS_bd hW hl;obtain ⟨j2,hj2,hb2⟩:=lenW_bd xs.length hl k hk;rw [if_neg hne,if_neg hV,qn_qv _ _ _ k hk];have hp:0<xs.length:=List.length_pos_iff.2 hne;have hpk:=Nat.two_pow_pos k;refine own13 hV ?_ j (by omega) hb (by rw [hj,←hj2];exact hb2) L hL ?_ mode hm0 hm4
 · rw [←Int.natCast_mul];have:=Nat.mul_pos hp hpk;omega
 · intro i hi
   rw [←Int.natCast_mul,Int.natAbs_natCast];exact e i k hi hk
theorem lit13 (w:World) (xs:List Nat) (g:Nat) (hg:g=w.heap.size):Fs (w.alloc (Obj.cells (xs.map fun x=>Value.float .f64 x).toArray 26)).heap.size (w.alloc (Obj.cells (xs.map fun x=>Value.float .f64 x).toArray 26)) (some ⟨g,0,none⟩) xs:=by
 intro _;refine ⟨g,0,by simp;omega,rfl,fun i hi=>?_⟩
 have hB:=Bl.new w 26 (xs.map fun x=>Value.float .f64 x)
 rw [hg];refine (hB.cell (0+i) (.float .f64 (xs.getD i 0)) ?_);rw [Nat.zero_add,List.getElem?_map,List.getD_eq_getElem?_getD,List.getElem?_eq_getElem hi]
 rfl
theorem mid2030:midR 4626322717216342016 4629137466983448576 0=(4627730092099895296,0):=by
 have e1:askE 0=0:=by decide
 have e2:plE [4626322717216342016,4629137466983448576]=0:=by decide +kernel
 have hp:decide (0<vS [4626322717216342016,4629137466983448576])=true:=by decide +kernel
 have hp:=of_decide_eq_true hp;have e5:=lev_own (xs:=[4626322717216342016,4629137466983448576]) (s:=sS [4626322717216342016,4629137466983448576]) (mode:=0) (by unfold W64;decide) (by decide) (by decide) (by omega) (by decide) (by decide) 4627730092099895296 (by decide) (fun j k hj hk=>by subst hj hk;decide +kernel)
 unfold midR plnR;rw [e1,if_pos rfl,e2,if_pos rfl,e5,if_neg (by omega)]
 rfl
theorem lnV_bd16 {low high rest den:Nat}(hl:low<18446744073709551616) (fl:finW low) (hh:high<18446744073709551616) (fh:finW high) (hd:den≤2147483648) (hr:rest≤den):∃ k:Nat,k=2130∧Bd k (lnV low high rest den):=by
 obtain ⟨z,hz⟩:∃ z,z=2098:=⟨_,rfl⟩;obtain ⟨k,hk⟩:∃ z,z=31:=⟨_,rfl⟩;have b1:=bd_fv16 hl fl z hz;have b2:=bd_fv16 hh fh z hz;have bn:∀ n:Nat,n≤2147483648→Bd k (n:Int):=fun n hn=>by unfold Bd;rw [Int.natAbs_natCast,hk];exact hn
 exact ⟨_,by omega,(b1.mul (bn (den-rest) (by omega))).add (b2.mul (bn rest (by omega)))⟩
theorem ln1020:lnR 4621819117588971520 4626322717216342016 3 4 0=4625619029774565376:=by
 obtain ⟨V,hV⟩:∃ V,V=lnV 4621819117588971520 4626322717216342016 3 4:=⟨_,rfl⟩;have hp:decide (0<lnV 4621819117588971520 4626322717216342016 3 4)=true:=by decide +kernel
 have hp:=of_decide_eq_true hp;obtain ⟨k,hk,hb⟩:=lnV_bd16 (low:=4621819117588971520) (high:=4626322717216342016) (rest:=3) (den:=4) (by decide) (by unfold finW magW;decide) (by decide) (by unfold finW magW;decide) (by decide) (by decide)
 have hq:∀ j,j=1074→V.natAbs*2^(j+0)=vK 4625619029774565376*((4:Int).natAbs*2^1074):=fun j hj=>by subst hj hV;decide +kernel
 rw [←hV] at hp hb;obtain ⟨K,t,m,h1,h2⟩:=qR_ok16 (u:=1074) (v:=0) (k:=k) (V:=V) (D:=4) (by omega) (by omega) (by omega) (by omega) (by decide) hb (by unfold Bd;exact Nat.le_trans (by decide) (Nat.pow_le_pow_right (n:=2) (by decide) (show 2≤k by omega)))
 unfold lnR;rw [←hV,if_neg (by omega),show ((4:Nat):Int)=4 from rfl,h2 0 (by decide) (by decide),if_neg (by omega)]
 have:=rK_own 0 (decide (V<0)) (h1 1074 rfl).lies 4625619029774565376 (by decide) (hq 1074 rfl)
 rw [this]
theorem row_eq16 {xs M:List Nat}(hP:M.Perm (List.range xs.length)) (hU:M.Pairwise (fun a b=>leI xs a b=true)):M=rowL xs :=
 List.Perm.eq_of_pairwise (le:=fun a b=>leI xs a b=true) (fun a b ha hb h1 h2=>leI_anti xs a b h1 h2) hU (rowI_sorted xs _) (hP.trans (rowL_perm xs).symm)
theorem sort16:sortL [4621819117588971520,4630826316843712512,4626322717216342016,4629137466983448576]=[4621819117588971520,4626322717216342016,4629137466983448576,4630826316843712512]:=by
 have e:[0,2,3,1]=rowL [4621819117588971520,4630826316843712512,4626322717216342016,4629137466983448576]:=row_eq16 (by decide) (by decide +kernel)
 unfold sortL;rw [←e]
 decide +kernel
theorem am16:amE [4621819117588971520,4630826316843712512,4626322717216342016,4629137466983448576] false=0:=by decide +kernel
theorem qu16:quR [4621819117588971520,4630826316843712512,4626322717216342016,4629137466983448576] 1 4 4 0=(4625619029774565376,0):=by
 unfold quR;rw [if_neg (by decide),am16,if_pos rfl,sort16]
 unfold telR;rw [if_neg (by decide),if_neg (by decide),if_neg (by decide),if_neg (by decide),if_neg (by decide)]
 show (lnR 4621819117588971520 4626322717216342016 3 4 0,(0:Int))=_
 rw [ln1020]
theorem sv16:(sevTo [4621819117588971520,4630826316843712512,4626322717216342016,4629137466983448576] 2 3 0 3).getD 1 0=4627730092099895296:=by
 unfold sevTo
 show telR (sortL [4621819117588971520,4630826316843712512,4626322717216342016,4629137466983448576]) 1 2 3 0=_
 rw [sort16];unfold telR;rw [if_neg (by decide),if_neg (by decide),if_neg (by decide),if_neg (by decide),if_pos rfl]
 show (midR 4626322717216342016 4629137466983448576 0).1=_
 rw [mid2030]
theorem ct16:cntS [4621819117588971520,4630826316843712512,4626322717216342016,4629137466983448576] 4626322717216342016=2:=by decide +kernel
end
section
open Go.RowKit J
def Rz (mode V:Int) (S z:Nat):Prop:=0<S∧((V=0∧magW z=0∧z<18446744073709551616)∨(V≠0∧∃ K t m,Lies K t m V.natAbs S∧z=rK mode (decide (V<0)) K t m+(if V<0 then 9223372036854775808 else 0)))
theorem neg_scale (V:Int) {c:Nat}(hc:0<c):V*(c:Int)<0↔V<0:=by
 constructor
 · intro h
   rcases Int.lt_or_le V 0 with q|q
   · exact q
   · have:=Int.mul_nonneg q (Int.natCast_nonneg c);omega
 · intro h;exact Int.mul_neg_of_neg_of_pos h (by omega)
theorem Rz.scale {mode V:Int}{S z:Nat}(h:Rz mode V S z) (c:Nat) (hc:0<c):Rz mode (V*(c:Int)) (S*c) z:=by
 obtain ⟨h0,h⟩:=h;refine ⟨Nat.mul_pos h0 hc,?_⟩
 rcases h with ⟨rfl,h1⟩|⟨h1,K,t,m,h2,h3⟩
 · exact .inl ⟨by simp,h1⟩
 · have e:=neg_scale V hc
   refine .inr ⟨fun x=>by rcases Int.mul_eq_zero.1 x with q | q;exact h1 q;omega,K,t,m,h2.ratio (Nat.mul_pos h0 hc) (by rw [Int.natAbs_mul,Int.natAbs_natCast,Nat.mul_assoc,Nat.mul_comm c S]),?_⟩
   by_cases q:V<0
   · rw [h3,decide_eq_true q,decide_eq_true (e.2 q),if_pos q,if_pos (e.2 q)]
   · rw [h3,decide_eq_false q,decide_eq_false (fun x=>q (e.1 x)),if_neg q,if_neg (fun x=>q (e.1 x))]
theorem rK_le {mode:Int}{n:Bool}{K:Nat}{t:Bool}{m:Int}{V S:Nat}(h:Lies K t m V S):rK mode n K t m≤9218868437227405312:=by
 have:=h.1;unfold rK
 split
 · omega
 · split <;> omega
theorem Rz.sp {mode V:Int}{S z:Nat}(h:Rz mode V S z):z<18446744073709551616∧nnW z∧(V=0→sP z=0)∧(0<V→∃ K t m,Lies K t m V.natAbs S∧sP z=(rK mode false K t m:Nat))∧(V<0→∃ K t m,Lies K t m V.natAbs S∧sP z=-((rK mode true K t m:Nat):Int)):=by
 obtain ⟨h0,h⟩:=h
 rcases h with ⟨rfl,h1,h2⟩|⟨h1,K,t,m,h2,h3⟩
 · refine ⟨h2,by show magW z≤_;omega,fun _=>?_,fun q=>absurd q (by decide),fun q=>absurd q (by decide)⟩
   unfold sP sK;rw [h1];cases negW z <;> rfl
 · have hb:=rK_le (mode:=mode) (n:=decide (V<0)) h2
   by_cases q:V<0
   · rw [decide_eq_true q,if_pos q] at h3
     rw [decide_eq_true q] at hb;have:=(fv_sum (r:=rK mode true K t m) (b:=true) (by omega)).2
     rw [if_pos rfl,←h3] at this;refine ⟨by omega,by show magW z≤_;rw [this.1];exact hb,fun e=>absurd e h1,fun e=>by omega,fun _=>⟨K,t,m,h2,?_⟩⟩
     unfold sP sK;rw [this.1,this.2];rfl
   · rw [decide_eq_false q,if_neg q] at h3
     rw [decide_eq_false q] at hb;have:=(fv_sum (r:=rK mode false K t m) (b:=false) (by omega)).2
     rw [if_neg (by decide),←h3] at this
     refine ⟨by omega,by show magW z≤_;rw [this.1];exact hb,fun e=>absurd e h1,fun _=>⟨K,t,m,h2,?_⟩,fun e=>absurd e q⟩
     unfold sP sK;rw [this.1,this.2];rfl
theorem Rz.mono {mode V V':Int}{S z z':Nat}(h:Rz mode V S z) (h':Rz mode V' S z') (hv:V≤V'):sP z≤sP z':=by
 obtain ⟨_,_,a1,a2,a3⟩:=h.sp;obtain ⟨_,_,b1,b2,b3⟩:=h'.sp;have up:0<V'→0≤sP z':=fun q=>by obtain ⟨K,t,m,_,e⟩:=b2 q;omega
 have dn:V<0→sP z≤0:=fun q=>by obtain ⟨K,t,m,_,e⟩:=a3 q;omega
 rcases Int.lt_trichotomy V 0 with q|q|q
 · rcases Int.lt_trichotomy V' 0 with p | p | p
   · obtain ⟨K,t,m,l1,e1⟩:=a3 q
     obtain ⟨K',t',m',l2,e2⟩:=b3 p;have:=rK_mono mode true l2 l1 (by omega)
     omega
   · have:=dn q;have:=b1 p;omega
   · have:=dn q;have:=up p;omega
 · have e:=a1 q
   rcases Int.lt_trichotomy V' 0 with p|p|p
   · omega
   · have:=b1 p;omega
   · have:=up p;omega
 · obtain ⟨K,t,m,l1,e1⟩:=a2 q
   obtain ⟨K',t',m',l2,e2⟩:=b2 (by omega)
   have:=rK_mono mode false l1 l2 (by omega)
   omega
theorem vK_zero_iff {k:Nat}:vK k=0↔k=0:=by
 constructor
 · intro h
   rcases Nat.eq_zero_or_pos k with q|q
   · exact q
   · have:=grid64.mono q;rw [h] at this;omega
 · rintro rfl;exact grid64.zero
theorem Rz.own (mode:Int) {z:Nat}(hz:z<18446744073709551616) (fz:finW z):Rz mode (fvW z) 1 z:=by
 refine ⟨by decide,?_⟩
 have ha:=fv_abs z
 by_cases h:fvW z=0
 · refine .inl ⟨h,?_,hz⟩
   rw [h] at ha;exact vK_zero_iff.1 ha.symm
 · refine .inr ⟨h,magW z,true,0,by rw [ha];have:=lies_own (magW z) 1 (by unfold finW at fz;omega) (by decide);rwa [Nat.mul_one] at this,?_⟩
   have e1:rK mode (decide (fvW z<0)) (magW z) true 0=magW z:=by unfold rK;rw [if_pos rfl]
   rw [e1]
   have hn:fvW z<0↔negW z=true:=by
    have hv:vK (magW z)≠0:=by rw [←ha];omega
    unfold fvW B.sg
    cases negW z <;> simp <;> omega
   by_cases q:fvW z<0
   · rw [if_pos q]
     have:=hn.1 q;unfold negW at this;unfold magW;have:=of_decide_eq_true this;omega
   · rw [if_neg q]
     have:¬ negW z=true:=fun x=>q (hn.2 x)
     unfold negW at this;unfold magW;have:¬ 9223372036854775808≤z:=fun x=>this (decide_eq_true x)
     omega
theorem nt_rz {ok:Bool}{n u d m p a mode:Int}:magW (nt ok n u d m p a mode)=0∧nt ok n u d m p a mode<18446744073709551616:=by
 rcases nt_nought ok n u d m p a mode with h|h <;> rw [h] <;> decide
theorem Rz.mid {x y:Nat}{mode:Int}(hx:x<18446744073709551616) (hy:y<18446744073709551616) (fx:finW x) (fy:finW y) (hm0:0≤mode) (hm4:mode≤4):Rz mode (fvW x+fvW y) 2 (midR x y mode).1:=by
 have hask:askE mode=0:=if_neg (by omega)
 have hW:W64 [x,y]:=fun z hz=>by rcases List.mem_cons.1 hz with rfl | hz;exact hx;rw [List.mem_singleton.1 hz];exact hy
 have hf:∀ z ∈ [x,y],finW z:=fun z hz=>by rcases List.mem_cons.1 hz with rfl | hz;exact fx;rw [List.mem_singleton.1 hz];exact fy
 have hl:[x,y].length≤65536:=by simp
 have e:(midR x y mode).1=(levR [x,y] (sS [x,y]) mode).1:=by
  unfold midR plnR;rw [if_pos hask,plE_of_fin hW hf hl,if_pos rfl,lev_bsd hask hW hl]
 have eS:fS [x,y]=fvW x+fvW y:=by rw [fS_cons,fS_cons];show fvW x+(fvW y+0)=_;omega
 rw [e];refine ⟨by decide,?_⟩
 by_cases h:fvW x+fvW y=0
 · refine .inl ⟨h,?_⟩
   obtain ⟨j,hj⟩:∃ k:Nat,k=1074:=⟨_,rfl⟩;have hV:vS [x,y]=0:=by rw [vS_fS j hj hW hf,eS,h,Int.zero_mul]
   unfold levR;rw [if_neg (by simp),if_pos hV]
   exact nt_rz
 · obtain ⟨K,t,m,l,hr⟩:=mean_lies hW hf (by simp) hl (by rw [eS];exact h)
   rw [hr mode hm0 hm4];rw [eS] at l ⊢;exact .inr ⟨h,K,t,m,l,rfl⟩
theorem ln_bd16 {lo hi i p:Nat}(hl:lo<18446744073709551616) (fl:finW lo) (hh:hi<18446744073709551616) (fh:finW hi) (hi1:i≤p) (hp:p≤2147483648) (z:Nat) (hz:z=2200):Bd z (lnV lo hi i p):=by
 obtain ⟨y,hy⟩:∃ z,z=2098:=⟨_,rfl⟩;obtain ⟨k,hk⟩:∃ z,z=31:=⟨_,rfl⟩;have b1:=bd_fv16 hl fl y hy;have b2:=bd_fv16 hh fh y hy;have bn:∀ n:Nat,n≤2147483648→Bd k (n:Int):=fun n hn=>by unfold Bd;rw [Int.natAbs_natCast,hk];exact hn
 have c1:=b1.mul (bn (p-i) (by omega))
 have c2:=b2.mul (bn i (by omega))
 have:=c1.add c2;unfold Bd at this ⊢;exact Nat.le_trans this (Nat.pow_le_pow_right (by decide) (by omega))
theorem Rz.line {lo hi i p:Nat}{mode:Int}(hl:lo<18446744073709551616) (fl:finW lo) (hh:hi<18446744073709551616) (fh:finW hi) (hi1:i≤p) (h1:1≤p) (hp:p≤2147483648) (hm0:0≤mode) (hm4:mode≤4):Rz mode (lnV lo hi i p) p (lnR lo hi i p mode):=by
 refine ⟨h1,?_⟩;unfold lnR
 by_cases h:lnV lo hi i p=0
 · rw [if_pos h]
   exact .inl ⟨h,nt_rz⟩
 · rw [if_neg h]
   obtain ⟨z,hz⟩:∃ z,z=2200:=⟨_,rfl⟩;have bV:=ln_bd16 hl fl hh fh hi1 hp z hz
   have bD:Bd z (p:Int):=by
    unfold Bd;rw [Int.natAbs_natCast];have:2^31≤2^z:=Nat.pow_le_pow_right (by decide) (by omega)
    omega
   obtain ⟨u,hu⟩:∃ u,u=1074:=⟨_,rfl⟩;obtain ⟨K,t,m,hL,hR⟩:=qR_ok16 (u:=u) (v:=0) (k:=z) (V:=lnV lo hi i p) (D:=(p:Int)) (by omega) (by omega) (by omega) h (by omega) bV bD
   refine .inr ⟨h,K,t,m,?_,?_⟩
   · have:=hL u hu
     rw [Nat.add_zero,Int.natAbs_natCast] at this;exact (this.ratio16 (V':=(lnV lo hi i p).natAbs) (S':=p) (by omega) (by rw [Nat.mul_assoc,Nat.mul_comm (2^u) p])).lies
   · have:=hR mode hm0 hm4
     rw [hu] at this;rw [this]
end
section
open Go.RowKit J
def eV (a:Nat→Int) (q r den:Nat) (rule:Int):Int :=
 if r=0 then a q*((2*den:Nat):Int) else if rule=0 then a q*((2*den:Nat):Int) else if rule=1 then a (q+1)*((2*den:Nat):Int) else if rule=2 then a (nrP q r den)*((2*den:Nat):Int)
 else if rule=3 then (a q+a (q+1))*(den:Int) else (a q*((den-r:Nat):Int)+a (q+1)*(r:Int))*2
theorem nr_two (q r den:Nat):nrP q r den=q∨nrP q r den=q+1:=by unfold nrP;split;exact .inr rfl;exact .inl rfl
structure Up16 (ys:List Nat):Prop where
 w:W64 ys
 f:∀ x ∈ ys,finW x
 u:ys.Pairwise (fun a b=>leK a b=true)
theorem Up16.at {ys:List Nat}(h:Up16 ys) {i:Nat}(hi:i<ys.length):ys.getD i 0<18446744073709551616∧finW (ys.getD i 0):=by
 have:ys.getD i 0 ∈ ys:=by rw [List.getD_eq_getElem?_getD,List.getElem?_eq_getElem hi];exact List.getElem_mem hi
 exact ⟨h.w _ this,h.f _ this⟩
theorem share16 {n num den:Nat}(hn:1≤n) (hd:1≤den) (hnum:num≤den):(n-1)*num/den<n∧(n-1)*num%den<den∧((n-1)*num%den≠0→(n-1)*num/den+1<n)∧(n-1)*num/den*den+(n-1)*num%den=(n-1)*num:=by
 have h1:(n-1)*num≤(n-1)*den:=Nat.mul_le_mul_left _ hnum;have h2:=Nat.div_add_mod ((n-1)*num) den;have h3:=Nat.mod_lt ((n-1)*num) (show den > 0 by omega)
 have h4:=Nat.div_le_div_right (c:=den) h1;rw [Nat.mul_div_cancel _ (show 0<den by omega)] at h4
 rw [Nat.mul_comm den] at h2;refine ⟨by omega,h3,fun h=>?_,h2⟩
 rcases Nat.lt_or_ge ((n-1)*num/den+1) n with c|c
 · exact c
 · exfalso
   have e:(n-1)*num/den=n-1:=by omega
   rw [e] at h2;omega
theorem tel_rz {ys:List Nat}(h:Up16 ys) {num den:Nat}(hn:1≤ys.length) (hd:1≤den) (hd2:den≤2147483648) (hnum:num≤den) (rule mode:Int) (hm0:0≤mode) (hm4:mode≤4) :
 Rz mode (eV (fun i=>fvW (ys.getD i 0)) ((ys.length-1)*num/den) ((ys.length-1)*num%den) den rule) (2*den) (telR ys num den rule mode):=by
 obtain ⟨s1,s2,s3,s4⟩:=share16 hn hd hnum;unfold telR eV;simp only;generalize (ys.length-1)*num/den=q at *;generalize (ys.length-1)*num%den=r at *
 have own:∀ i,i<ys.length→Rz mode (fvW (ys.getD i 0)*((2*den:Nat):Int)) (2*den) (ys.getD i 0):=fun i hi=>by
  have:=(Rz.own mode (h.at hi).1 (h.at hi).2).scale (2*den) (by omega)
  rwa [Nat.one_mul] at this
 by_cases h0:r=0
 · rw [if_pos h0,if_pos h0];exact own q s1
 · rw [if_neg h0,if_neg h0]
   have hq:=s3 h0
   by_cases r0:rule=0
   · rw [if_pos r0,if_pos r0];exact own q s1
   · rw [if_neg r0,if_neg r0]
     by_cases r1:rule=1
     · rw [if_pos r1,if_pos r1];exact own _ hq
     · rw [if_neg r1,if_neg r1]
       by_cases r2:rule=2
       · rw [if_pos r2,if_pos r2]
         rcases nr_two q r den with e|e <;> rw [e]
         · exact own q s1
         · exact own _ hq
       · rw [if_neg r2,if_neg r2]
         by_cases r3:rule=3
         · rw [if_pos r3,if_pos r3]
           exact (Rz.mid (h.at s1).1 (h.at hq).1 (h.at s1).2 (h.at hq).2 hm0 hm4).scale den (by omega)
         · rw [if_neg r3,if_neg r3]
           have:=(Rz.line (mode:=mode) (h.at s1).1 (h.at s1).2 (h.at hq).1 (h.at hq).2 (show r≤den by omega) hd hd2 hm0 hm4).scale 2 (by decide)
           rw [Nat.mul_comm den] at this;exact this
theorem sort_up16 {xs:List Nat}(hW:W64 xs) (hf:∀ x ∈ xs,finW x):Up16 (sortL xs) :=
 ⟨fun x hx=>hW x ((sortL_perm16 hf).mem_iff.1 hx),fun x hx=>hf x ((sortL_perm16 hf).mem_iff.1 hx),sortL_up hf⟩
end
section
open Go Go.RowKit J
theorem quR_is {xs:List Nat}{num den rule mode:Int}(h0:0≤rule∧rule≤4∧0≤mode∧mode≤4) (h1:1≤den) (h2:den≤2147483648) (h3:0≤num) (h4:num≤den) (h5:amE xs false=0):quR xs num den rule mode=(telR (sortL xs) num.toNat den.toNat rule mode,0):=by
 unfold quR;have hk:knB rule mode=true:=decide_eq_true h0;rw [if_neg (by rw [hk];simp;omega),if_pos h5]
end
end Go.Proofs.YtblkpkgebigojaaGreatDoor
