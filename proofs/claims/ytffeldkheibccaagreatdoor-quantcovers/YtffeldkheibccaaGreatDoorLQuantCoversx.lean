import Derived.Test.YtffeldkheibccaaGreatDoorRS15x
import Derived.Test.YtffeldkheibccaaGreatDoorRQ2x
import Derived.ProofKit
import Derived.OpenShut
import Derived.ChangeOld
import Derived.ChangeArms
import Derived.SizedLaws
import Derived.Laws.Cover2
set_option linter.unusedVariables false
set_option linter.unusedSimpArgs false
set_option maxHeartbeats 16000000
set_option maxRecDepth 20000
namespace Go.Proofs.YtffeldkheibccaaGreatDoor
namespace J
end J
section
open Go Go.RowKit J
attribute [local go_sem] st_float
abbrev askO (num den rule mode:Int):Obj:=Obj.cells #[.int .i64 num,.int .i64 den,.int .i64 rule,.int .i64 mode] 51
theorem cntP_step {xs:List Nat}{p:Nat→Bool}{k:Nat}(hk:k<xs.length):(xs.take (k+1)).countP p=(xs.take k).countP p+(if p (xs.getD k 0) then 1 else 0):=by
 rw [List.take_add_one,List.countP_append,List.getElem?_eq_getElem hk,List.getD_eq_getElem?_getD,List.getElem?_eq_getElem hk]
 simp [List.countP_cons]
theorem walk2_QuantCovers (a1:Option Addr) (N1 c1:Nat) (xs:List Nat) (num den rule mode:Int) (w0:World) (hT:Tab w0) (hC:CameF w0 a1 N1 c1 xs) (hm1:N1≤17592186043904) :
 Calls Tryz.prog 6 #[.slice a1 N1 c1,.agg #[.int .i64 num,.int .i64 den,.int .i64 rule,.int .i64 mode]] w0 fun r w'=>r=.returned (.bool true)∧Below w0.heap.size w0 w':=by
 obtain ⟨W,hWW⟩:∃ W,W=w0.alloc (askO num den rule mode):=⟨_,rfl⟩;obtain ⟨g,hg⟩:∃ g,g=w0.heap.size:=⟨_,rfl⟩;have hb0:Below w0.heap.size w0 W:=by rw [hWW];exact below_alloc _ _
 have hbl:Bl W g 51 [.int .i64 num,.int .i64 den,.int .i64 rule,.int .i64 mode]:=by rw [hWW,hg];exact Bl.new _ _ [_,_,_,_]
 have HL:=hid (live16 W (hT.belows hb0))
 have HX:Aside (∀ u:World,Below W.heap.size W u→Fs u.heap.size u a1 xs∧Bl u g 51 [.int .i64 num,.int .i64 den,.int .i64 rule,.int .i64 mode]∧Below w0.heap.size w0 u∧Tab u):=fun u hu=>by
  have hb:=hb0.trans (hu.mono hb0.size);exact ⟨(hC.rd.below hb).mono hb.size,hbl.below hu hbl.lt,hb,hT.belows hb⟩
 have HC:=(qsd (ai hC hm1));have HW:=(qsd (ai hWW hg));clear hT hb0 hbl hC;go_enter Tryz.func6,Tryz.ntmps6
 go_wp2_with fail
 rw [←hWW]
 try rw [←hg]
 clear hWW hg;refine HL.out.mono ?_;rintro r w1 ⟨rfl,hb1⟩;obtain ⟨F1,B1,D1,T1⟩:=HX.out w1 hb1;have f0:=B1.cell 0 _ rfl;have f1:=B1.cell 1 _ rfl;have f3:=B1.cell 3 _ rfl;obtain ⟨z1,hz1⟩:∃ z,quR xs num den 0 mode=z:=⟨_,rfl⟩;obtain ⟨z2,hz2⟩:∃ z,quR xs num den 1 mode=z:=⟨_,rfl⟩;have C1:=hid (Quantile16 xs a1 N1 c1 num den 0 mode w1 T1 F1 HC.out.1.len (by omega) HC.out.1.wf z1 hz1)
 have Z:=(qsd (ai hz1 (ai hz2 hb1)));clear HL F1 B1 D1 T1 hz1 hz2 hb1
 go_wp2_with fail
 refine C1.out.mono ?_;rintro r w2 ⟨rfl,hb2⟩;have hW2:Below W.heap.size W w2:=Z.out.2.2.trans (hb2.mono Z.out.2.2.size);obtain ⟨F2,B2,D2,T2⟩:=HX.out w2 hW2;have f0:=B2.cell 0 _ rfl;have f1:=B2.cell 1 _ rfl;have f3:=B2.cell 3 _ rfl;have C2:=hid (Quantile16 xs a1 N1 c1 num den 1 mode w2 T2 F2 HC.out.1.len (by omega) HC.out.1.wf z2 Z.out.2.1)
 have H2:=qsd hW2;clear C1 F2 B2 D2 T2 hb2 hW2
 go_wp2_with fail
 refine C2.out.mono ?_;rintro r w3 ⟨rfl,hb3⟩;have hW3:Below W.heap.size W w3:=H2.out.trans (hb3.mono H2.out.size);obtain ⟨F3,B3,D3,T3⟩:=HX.out w3 hW3;have f0:=B3.cell 0 _ rfl;have f1:=B3.cell 1 _ rfl;have H3:=(qsd (ai hW3 D3))
 by_cases hk:quR xs num den 0 mode=(telR (sortL xs) num.toNat den.toNat 0 mode,0)∧quR xs num den 1 mode=(telR (sortL xs) num.toNat den.toNat 1 mode,0)∧amE xs false=0∧(1≤den∧den≤2147483648∧0≤num∧num≤den)
 · obtain ⟨k1,k2,k3,k4⟩:=hk
   have e1:z1=_:=Z.out.1.symm.trans k1;have e2:z2=_:=Z.out.2.1.symm.trans k2;subst e1;subst e2;obtain ⟨_,m1,m2,m3⟩:=amE_fin k3;have hn1:1≤xs.length:=List.length_pos_iff.2 m2;obtain ⟨nn,rfl⟩:∃ k:Nat,num=k:=⟨num.toNat,by omega⟩
   obtain ⟨dd,rfl⟩:∃ k:Nat,den=k:=⟨den.toNat,by omega⟩
   simp only [Int.toNat_natCast] at *;obtain ⟨⟨q0,hq0,p0⟩,p1,h,p2,p3,p4,p5⟩:=covers_pure HC.out.1.wf m3 hn1 (num:=nn) (den:=dd) (by omega) (by omega) mode
   obtain ⟨low,hlow⟩:∃ x,x=telR (sortL xs) nn dd 0 mode:=⟨_,rfl⟩;obtain ⟨high,hhigh⟩:∃ x,x=telR (sortL xs) nn dd 1 mode:=⟨_,rfl⟩;rw [←p2,←hhigh] at p4 p5;rw [←hlow] at p1;have hlm:low ∈ xs:=by rw [hlow,p0];exact sort_mem m3 hq0
   have hhm:high ∈ xs:=by rw [hhigh,p2];exact sort_mem m3 p3
   have C3:=hid (Share16 xs low a1 N1 c1 w3 (HC.out.1.wf _ hlm) F3 HC.out.1.len (by omega) HC.out.1.wf)
   have hnan:nanW low=false:=by
    have:=m3 low hlm;unfold finW at this;unfold nanW;simp;unfold magW at this;omega
   rw [hnan,k3,if_pos rfl,if_pos rfl] at C3;obtain ⟨c,hc⟩:∃ c,c=cntS xs low:=⟨_,rfl⟩;have hcl:c≤N1:=by rw [hc,HC.out.1.len];exact List.countP_le_length
   rw [←hc] at C3 p1;rw [←HC.out.1.len] at C3 p1 p5 m1 hn1;rw [←hlow,←hhigh];obtain ⟨s,hs⟩:∃ s,s=(N1-1)*nn:=⟨_,rfl⟩;rw [←hs] at p1 p5;have hsb:s≤140737488355328:=by rw [hs];exact Nat.le_trans (Nat.mul_le_mul (show N1-1≤65536 by omega) (show nn≤2147483648 by omega)) (by decide)
   have hcd:c*dd≤140737488355328:=Nat.le_trans (Nat.mul_le_mul (show c≤65536 by omega) (show dd≤2147483648 by omega)) (by decide)
   have Y:=(qsd (ai p1 (ai p5 (ai hs (ai hhm m3)))));have es:((N1:Int)-1)*(nn:Int)=(s:Int):=by rw [hs,Int.natCast_mul];congr 1;omega
   have ws:IntKind.i64.wrap (((N1:Int)-1)*(nn:Int))=(s:Int):=by rw [es,IntKind.wrap_i64];omega
   have nz:((N1:Int)==0)=false:=by simp;omega
   have nz2:decide ((N1:Int)=0)=false:=by simp;omega
   have dz:decide ((dd:Int)<1)=false:=by simp;omega
   clear p0 hq0 p1 p2 p3 p4 p5 hs hlow hhigh hlm hhm hnan hc k1 k2 k3 F3 B3 D3 T3 hb3 hW3 C2 m2 m3 Z
   go_wp2_with fail
   refine C3.out.mono ?_;rintro r w4 ⟨rfl,hb4⟩;have hW4:Below W.heap.size W w4:=H3.out.1.trans (hb4.mono H3.out.1.size);obtain ⟨F4,B4,D4,T4⟩:=HX.out w4 hW4;have f0:=B4.cell 0 _ rfl;have f1:=B4.cell 1 _ rfl;have H4:=(qsd (ai F4 D4));clear F4 B4 D4 T4 hb4 hW4 C3;go_wp2
   go_loopw [14,15] (fun bv iv wr=>∃ k:Nat,k≤N1∧iv=.int .i64 k∧bv=.int .i64 ((xs.take k).countP (ltF high):Nat)∧wr=w4) (fun _ iv _=>N1-(intOf iv).toNat)
   case atStart=>exact ⟨0,Nat.zero_le _,rfl,by simp,rfl⟩
   case round =>
    obtain ⟨k,hk,rfl,rfl,hwr⟩:=hrel;subst hwr;have hcm:(xs.take k).countP (ltF high)≤k:=Nat.le_trans List.countP_le_length (by simp;omega)
    by_cases hkn:k<N1
    · have d1:decide ((k:Int)<(N1:Int))=true:=by simp;omega
      have hki:k<xs.length:=by have:=HC.out.1.len;omega
      obtain ⟨b0,off,rfl,c0⟩:=H4.out.1.at (Below.refl _ _) k hki;have i0:(0:Int)≤(k:Int):=by omega
      have i1:(k:Int)<(N1:Int):=by omega
      have hst:=cntP_step (p:=ltF high) hki;obtain ⟨y,hy⟩:∃ y,y=xs.getD k 0:=⟨_,rfl⟩;rw [←hy] at c0 hst;obtain ⟨bn,hbn⟩:∃ b,b=(xs.take k).countP (ltF high):=⟨_,rfl⟩;rw [←hbn] at hst hcm ⊢;have HST:=qsd hst;clear hst hy hbn
      cases hlt:ltF high y
      · have o1:(FloatKind.f64.format.order y high==some .lt)=false:=hlt
        go_wp2
        go_roundw
        case rel=>exact ⟨k+1,by omega,by first | rfl | simp,by rw [HST.out,hlt];first | rfl | simp,trivial⟩
        case measure=>first | (simp [intOf];omega) | omega
      · have o1:(FloatKind.f64.format.order y high==some .lt)=true:=hlt
        go_wp2
        go_roundw
        case rel=>exact ⟨k+1,by omega,by first | rfl | simp,by rw [HST.out,hlt];first | rfl | simp,trivial⟩
        case measure=>first | (simp [intOf];omega) | omega
    · have d1:decide ((k:Int)<(N1:Int))=false:=by simp;omega
      have et:xs.take k=xs:=List.take_of_length_le (by have:=HC.out.1.len;omega)
      rw [et] at hcm ⊢;have hp5:=Y.out.2.1;obtain ⟨bn,hbn⟩:∃ b,b=xs.countP (ltF high):=⟨_,rfl⟩;rw [←hbn] at hp5 hcm ⊢;have hp1:s<c*dd:=Y.out.1;have e3:(c:Int)*(dd:Int)=((c*dd:Nat):Int):=by rw [Int.natCast_mul]
      have w3':IntKind.i64.wrap ((c:Int)*(dd:Int))=((c*dd:Nat):Int):=by rw [e3,IntKind.wrap_i64];omega
      have d4:decide ((s:Int)<((c*dd:Nat):Int))=true:=by simp only [decide_eq_true_eq];omega
      obtain ⟨m,hm⟩:∃ m,m=((bn:Int)-1)*(dd:Int):=⟨_,rfl⟩
      have hml:-2147483648≤m:=by
       rw [hm];have h1:(-1:Int)*(dd:Int)≤((bn:Int)-1)*(dd:Int):=Int.mul_le_mul_of_nonneg_right (by omega) (by omega)
       omega
      rw [←hm] at hp5;have w5':IntKind.i64.wrap (((bn:Int)-1)*(dd:Int))=m:=by rw [←hm,IntKind.wrap_i64];omega
      have d5:decide (m<(s:Int))=true:=by simp only [decide_eq_true_eq];omega
      clear e3 hm hbn et;generalize ((c*dd:Nat):Int)=cd at *;go_wp2;go_ret;exact ⟨by simp [d4,d5],H4.out.2⟩
 · have hz:z1.2≠0∧z1.2=z2.2:=by
    have q1:=Z.out.1;have q2:=Z.out.2.1;have hkn:knB 0 mode=knB 1 mode:=by unfold knB;simp
    unfold quR at q1 q2 hk;rw [hkn] at q1 hk
    by_cases hC:knB 1 mode=false∨den<1∨2147483648<den∨num<0∨den<num
    · rw [if_pos hC] at q1 q2
      rw [←q1,←q2];exact ⟨by decide,rfl⟩
    · rw [if_neg hC] at q1 q2 hk
      by_cases hA:amE xs false=0
      · exfalso
        rw [if_pos hA,if_neg hC,if_pos hA] at hk;exact hk ⟨rfl,rfl,hA,by omega⟩
      · rw [if_neg hA] at q1 q2
        rw [←q1,←q2];exact ⟨hA,rfl⟩
   have hz2':z2.2≠0:=by omega
   obtain ⟨z1a,z1b⟩:=z1;obtain ⟨z2a,z2b⟩:=z2;simp only at hz hz2' ⊢;have e1:z1b=z2b:=hz.2;subst e1;have q0:(z1b==0)=false:=by simp [hz2']
   have q1:decide (z1b=0)=false:=by simp [hz2']
   clear hk Z F3 B3 D3 T3 hb3 hW3 C2 hz;go_wp2;go_ret;exact ⟨by simp,H3.out.2⟩
end
section
open Go.ChangeShapes Go.WideShapes Go.ChangeAt Go.RowKit
theorem ints_of12 {H:Type}{enc:TypeId×Value→H}{W:World}{k:Nat}{c:Value}{x:Option (DataW H×List MemPlace)}{y:DataW H×List MemPlace}(h:DataW.trod enc Tryz.prog W 0 (fun _=>true) true k 3 [c]=x) (hx:x=some y):∃ n:Int,c=.int .i64 n∧y.1=.lit (.int .i64 n)∧-9223372036854775808≤n∧n≤9223372036854775807:=by
 subst hx;obtain ⟨e,e2,rfl,hw⟩:=DataW.trod_int Tryz.underlying3 h
 cases e2
 have hw':-9223372036854775808≤e∧e≤9223372036854775807:=by
  simp [Lit.wf,IntKind.min,IntKind.max,IntKind.signed,IntKind.bits] at hw;omega
 exact ⟨e,rfl,rfl,hw'.1,hw'.2⟩
end
section
open Go.ChangeShapes Go.WideShapes Go.ChangeAt Go.RowKit
theorem ask_of16 {H:Type}{enc:TypeId×Value→H}{W:World}{r:Reach}{b0:Nat}{v:Value}{d:DataW H}{p:List MemPlace}(hv:Value.okWide Tryz.prog W r b0 51 v) (h:DataW.Trod enc Tryz.prog W 0 (fun _=>true) true 51 v d p) :
 ∃ a b c e:Int,v=.agg #[.int .i64 a,.int .i64 b,.int .i64 c,.int .i64 e]:=by
 obtain ⟨cs,rfl,hsz⟩:=okWide_struct Tryz.underlying51 hv;obtain ⟨fuel,hf⟩:=h;have hC:Tryz.prog.cellsOf 51=4:=by kernel_rfl
 have c3:Tryz.prog.cellsOf 3=1:=by kernel_rfl
 obtain ⟨xs,k,rfl,hx,hl,hxl,hfs⟩:=DataW.trod_struct Tryz.underlying51 hf;rw [hC] at hsz
 obtain ⟨c0,c1,c2,c4,rfl⟩:∃ c0 c1 c2 c3,cs=#[c0,c1,c2,c3]:=by
  obtain ⟨l⟩:=cs
  match l,hsz with
  | [a,b,c,e],_=>exact ⟨a,b,c,e,rfl⟩
 have h0:DataW.trod enc Tryz.prog W 0 (fun _=>true) true k 3 (List.take (Tryz.prog.cellsOf 3) (List.drop 0 [c0,c1,c2,c4]))=xs[0]?:=hfs 0 _ rfl
 have h1:DataW.trod enc Tryz.prog W 0 (fun _=>true) true k 3 (List.take (Tryz.prog.cellsOf 3) (List.drop 1 [c0,c1,c2,c4]))=xs[1]?:=hfs 1 _ rfl
 have h2:DataW.trod enc Tryz.prog W 0 (fun _=>true) true k 3 (List.take (Tryz.prog.cellsOf 3) (List.drop 2 [c0,c1,c2,c4]))=xs[2]?:=hfs 2 _ rfl
 have h3:DataW.trod enc Tryz.prog W 0 (fun _=>true) true k 3 (List.take (Tryz.prog.cellsOf 3) (List.drop 3 [c0,c1,c2,c4]))=xs[3]?:=hfs 3 _ rfl
 rw [c3] at h0 h1 h2 h3
 match xs,hxl with
 | [x0,x1,x2,x3],_ =>
   obtain ⟨a,rfl,_⟩:=ints_of12 (c:=c0) h0 rfl;obtain ⟨b,rfl,_⟩:=ints_of12 (c:=c1) h1 rfl;obtain ⟨c,rfl,_⟩:=ints_of12 (c:=c2) h2 rfl;obtain ⟨e,rfl,_⟩:=ints_of12 (c:=c4) h3 rfl;exact ⟨a,b,c,e,rfl⟩
end
end Go.Proofs.YtffeldkheibccaaGreatDoor
