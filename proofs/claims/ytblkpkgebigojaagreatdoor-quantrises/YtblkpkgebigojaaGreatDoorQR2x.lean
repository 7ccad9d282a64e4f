import Derived.Test.YtblkpkgebigojaaGreatDoorRS15x
import Derived.Test.YtblkpkgebigojaaGreatDoorQR0x
import Derived.ProofKit
import Derived.OpenShut
import Derived.ChangeOld
import Derived.ChangeArms
import Derived.SizedLaws
import Derived.Laws.Cover2
set_option linter.unusedVariables false
set_option linter.unusedSimpArgs false
set_option maxHeartbeats 16000000
set_option maxRecDepth 20000
namespace Go.Proofs.YtblkpkgebigojaaGreatDoor
namespace J
end J
section
open Go.RowKit J
def eV (a:Nat→Int) (q r den:Nat) (rule:Int):Int :=
 if r=0 then a q*((2*den:Nat):Int) else if rule=0 then a q*((2*den:Nat):Int) else if rule=1 then a (q+1)*((2*den:Nat):Int) else if rule=2 then a (nrP q r den)*((2*den:Nat):Int)
 else if rule=3 then (a q+a (q+1))*(den:Int) else (a q*((den-r:Nat):Int)+a (q+1)*(r:Int))*2
theorem nr_two (q r den:Nat):nrP q r den=q∨nrP q r den=q+1:=by unfold nrP;split;exact .inr rfl;exact .inl rfl
theorem nr_mono {q r r' den:Nat}(h:r≤r'):nrP q r den≤nrP q r' den:=by
 unfold nrP
 by_cases c:den<2*r∨2*r=den∧q%2=1
 · rw [if_pos c]
   by_cases d:den<2*r'∨2*r'=den∧q%2=1
   · rw [if_pos d];exact Nat.le_refl _
   · exfalso;omega
 · rw [if_neg c];split <;> omega
theorem mul_mono {A B:Int}(h:A≤B) (c:Nat):A*(c:Int)≤B*(c:Int):=Int.mul_le_mul_of_nonneg_right h (Int.natCast_nonneg c)
theorem eV_bd {a:Nat→Int}{q r den:Nat}(hr:r<den) (h:r≠0→a q≤a (q+1)) (rule:Int):a q*((2*den:Nat):Int)≤eV a q r den rule∧eV a q r den rule≤(if r=0 then a q else a (q+1))*((2*den:Nat):Int):=by
 unfold eV
 by_cases h0:r=0
 · rw [if_pos h0,if_pos h0];exact ⟨Int.le_refl _,Int.le_refl _⟩
 · rw [if_neg h0,if_neg h0]
   have hab:=h h0;have m1:=mul_mono hab (2*den)
   by_cases r0:rule=0
   · rw [if_pos r0];exact ⟨Int.le_refl _,m1⟩
   · rw [if_neg r0]
     by_cases r1:rule=1
     · rw [if_pos r1];exact ⟨m1,Int.le_refl _⟩
     · rw [if_neg r1]
       by_cases r2:rule=2
       · rw [if_pos r2]
         rcases nr_two q r den with e|e <;> rw [e]
         · exact ⟨Int.le_refl _,m1⟩
         · exact ⟨m1,Int.le_refl _⟩
       · rw [if_neg r2]
         have e1:∀ A:Int,A*((2*den:Nat):Int)=2*(A*(den:Int)):=fun A=>by rw [Int.natCast_mul];exact Int.mul_left_comm A 2 den
         have m2:=mul_mono hab den
         by_cases r3:rule=3
         · rw [if_pos r3,e1,e1,Int.add_mul]
           omega
         · rw [if_neg r3,e1,e1]
           have m3:=mul_mono hab r;have m4:=mul_mono hab (den-r);have e2:∀ A:Int,A*((den-r:Nat):Int)+A*(r:Int)=A*(den:Int):=fun A=>by rw [←Int.mul_add,←Int.natCast_add,Nat.sub_add_cancel (by omega)]
           have:=e2 (a q);have:=e2 (a (q+1));omega
theorem eV_mono {a:Nat→Int}{n q r q' r' den:Nat}(ha:∀ i j,i≤j→j<n→a i≤a j) (hr:r<den) (hr':r'<den) (hq:q<n) (hq':q'<n) (h1:r≠0→q+1<n) (h1':r'≠0→q'+1<n) (hs:q*den+r≤q'*den+r') (rule:Int):eV a q r den rule≤eV a q' r' den rule:=by
 have b:=eV_bd (a:=a) (q:=q) hr (fun h=>ha q (q+1) (by omega) (h1 h)) rule
 have b':=eV_bd (a:=a) (q:=q') hr' (fun h=>ha q' (q'+1) (by omega) (h1' h)) rule
 rcases Nat.lt_trichotomy q q' with c|c|c
 · have:(if r=0 then a q else a (q+1))≤a q':=by
    split
    · exact ha _ _ (by omega) hq'
    · exact ha _ _ (by omega) hq'
   have:=mul_mono this (2*den);omega
 · subst c
   by_cases h0:r=0
   · subst h0
     have e:eV a q 0 den rule=a q*((2*den:Nat):Int):=by unfold eV;rw [if_pos rfl]
     rw [e];exact b'.1
   · have h0':r'≠0:=by omega
     have hab:=ha q (q+1) (by omega) (h1 h0)
     unfold eV;rw [if_neg h0,if_neg h0']
     by_cases r0:rule=0
     · rw [if_pos r0,if_pos r0];exact Int.le_refl _
     · rw [if_neg r0,if_neg r0]
       by_cases r1:rule=1
       · rw [if_pos r1,if_pos r1];exact Int.le_refl _
       · rw [if_neg r1,if_neg r1]
         by_cases r2:rule=2
         · rw [if_pos r2,if_pos r2]
           refine mul_mono (ha _ _ (nr_mono (by omega)) ?_) _
           have:=h1 h0
           rcases nr_two q r' den with e|e <;> rw [e] <;> omega
         · rw [if_neg r2,if_neg r2]
           by_cases r3:rule=3
           · rw [if_pos r3,if_pos r3];exact Int.le_refl _
           · rw [if_neg r3,if_neg r3]
             obtain ⟨d,hd⟩:∃ d,r'=r+d:=⟨r'-r,by omega⟩
             have m:=mul_mono hab d;have e1:∀ A:Int,A*((den-r:Nat):Int)=A*((den-r':Nat):Int)+A*(d:Int):=fun A=>by rw [←Int.mul_add,←Int.natCast_add];congr 2;omega
             have e2:∀ A:Int,A*(r':Int)=A*(r:Int)+A*(d:Int):=fun A=>by rw [←Int.mul_add,←Int.natCast_add];congr 2
             have:=e1 (a q);have:=e2 (a (q+1));omega
 · exfalso
   have:(q'+1)*den≤q*den:=Nat.mul_le_mul_right _ c;rw [Nat.add_mul,Nat.one_mul] at this;omega
theorem fv_sP {x y:Nat}(h:sP x≤sP y):fvW x≤fvW y:=by
 unfold sP sK at h;unfold fvW B.sg
 cases h1:negW x <;> cases h2:negW y <;> simp only [h1,h2,Bool.false_eq_true,if_false,if_true] at h ⊢
 · have:=vK_le (show magW x≤magW y by omega);omega
 · have e1:magW x=0:=by omega
   have e2:magW y=0:=by omega
   rw [e1,e2,grid64.zero];omega
 · have:=Int.natCast_nonneg (vK (magW x));have:=Int.natCast_nonneg (vK (magW y));omega
 · have:=vK_le (show magW y≤magW x by omega);omega
structure Up16 (ys:List Nat):Prop where
 w:W64 ys
 f:∀ x ∈ ys,finW x
 u:ys.Pairwise (fun a b=>leK a b=true)
theorem Up16.at {ys:List Nat}(h:Up16 ys) {i:Nat}(hi:i<ys.length):ys.getD i 0<18446744073709551616∧finW (ys.getD i 0):=by
 have:ys.getD i 0 ∈ ys:=by rw [List.getD_eq_getElem?_getD,List.getElem?_eq_getElem hi];exact List.getElem_mem hi
 exact ⟨h.w _ this,h.f _ this⟩
theorem share16 {n num den:Nat}(hn:1≤n) (hd:1≤den) (hnum:num≤den):(n-1)*num/den<n∧(n-1)*num%den<den∧((n-1)*num%den≠0→(n-1)*num/den+1<n)∧(n-1)*num/den*den+(n-1)*num%den=(n-1)*num:=by
 have h1:(n-1)*num≤(n-1)*den:=Nat.mul_le_mul_left _ hnum;have h2:=Nat.div_add_mod ((n-1)*num) den;have h3:=Nat.mod_lt ((n-1)*num) (show den > 0 by omega)
 have h4:=Nat.div_le_div_right (c:=den) h1;rw [Nat.mul_div_cancel _ (show 0<den by omega)] at h4
 rw [Nat.mul_comm den] at h2;refine ⟨by omega,h3,fun h=>?_,h2⟩
 rcases Nat.lt_or_ge ((n-1)*num/den+1) n with c|c
 · exact c
 · exfalso
   have e:(n-1)*num/den=n-1:=by omega
   rw [e] at h2;omega
theorem tel_rz {ys:List Nat}(h:Up16 ys) {num den:Nat}(hn:1≤ys.length) (hd:1≤den) (hd2:den≤2147483648) (hnum:num≤den) (rule mode:Int) (hm0:0≤mode) (hm4:mode≤4) :
 Rz mode (eV (fun i=>fvW (ys.getD i 0)) ((ys.length-1)*num/den) ((ys.length-1)*num%den) den rule) (2*den) (telR ys num den rule mode):=by
 obtain ⟨s1,s2,s3,s4⟩:=share16 hn hd hnum;unfold telR eV;simp only;generalize (ys.length-1)*num/den=q at *;generalize (ys.length-1)*num%den=r at *
 have own:∀ i,i<ys.length→Rz mode (fvW (ys.getD i 0)*((2*den:Nat):Int)) (2*den) (ys.getD i 0):=fun i hi=>by
  have:=(Rz.own mode (h.at hi).1 (h.at hi).2).scale (2*den) (by omega)
  rwa [Nat.one_mul] at this
 by_cases h0:r=0
 · rw [if_pos h0,if_pos h0];exact own q s1
 · rw [if_neg h0,if_neg h0]
   have hq:=s3 h0
   by_cases r0:rule=0
   · rw [if_pos r0,if_pos r0];exact own q s1
   · rw [if_neg r0,if_neg r0]
     by_cases r1:rule=1
     · rw [if_pos r1,if_pos r1];exact own _ hq
     · rw [if_neg r1,if_neg r1]
       by_cases r2:rule=2
       · rw [if_pos r2,if_pos r2]
         rcases nr_two q r den with e|e <;> rw [e]
         · exact own q s1
         · exact own _ hq
       · rw [if_neg r2,if_neg r2]
         by_cases r3:rule=3
         · rw [if_pos r3,if_pos r3]
           exact (Rz.mid (h.at s1).1 (h.at hq).1 (h.at s1).2 (h.at hq).2 hm0 hm4).scale den (by omega)
         · rw [if_neg r3,if_neg r3]
           have:=(Rz.line (mode:=mode) (h.at s1).1 (h.at s1).2 (h.at hq).1 (h.at hq).2 (show r≤den by omega) hd hd2 hm0 hm4).scale 2 (by decide)
           rw [Nat.mul_comm den] at this;exact this
theorem Up16.fv {ys:List Nat}(h:Up16 ys):∀ i j,i≤j→j<ys.length→fvW (ys.getD i 0)≤fvW (ys.getD j 0):=fun i j hij hj=>fv_sP (up_at h.u hij hj)
theorem tel_rises {ys:List Nat}(h:Up16 ys) {num num' den:Nat}(hn:1≤ys.length) (hd:1≤den) (hd2:den≤2147483648) (hnum:num≤num') (hnum':num'≤den) (rule mode:Int) (hm0:0≤mode) (hm4:mode≤4):sP (telR ys num den rule mode)≤sP (telR ys num' den rule mode):=by
 obtain ⟨s1,s2,s3,s4⟩:=share16 hn hd (Nat.le_trans hnum hnum');obtain ⟨t1,t2,t3,t4⟩:=share16 hn hd hnum';exact (tel_rz h hn hd hd2 (Nat.le_trans hnum hnum') rule mode hm0 hm4).mono (tel_rz h hn hd hd2 hnum' rule mode hm0 hm4) (eV_mono h.fv s2 t2 s1 t1 s3 t3 (by rw [s4,t4];exact Nat.mul_le_mul_left _ hnum) rule)
theorem tel_sides {ys:List Nat}(h:Up16 ys) {num den:Nat}(hn:1≤ys.length) (hd:1≤den) (hd2:den≤2147483648) (hnum:num≤den) (rule mode:Int) (hm0:0≤mode) (hm4:mode≤4):sP (telR ys num den 0 mode)≤sP (telR ys num den rule mode)∧sP (telR ys num den rule mode)≤sP (telR ys num den 1 mode):=by
 obtain ⟨s1,s2,s3,s4⟩:=share16 hn hd hnum;have b:=eV_bd (a:=fun i=>fvW (ys.getD i 0)) (q:=(ys.length-1)*num/den) s2 (fun c=>h.fv _ _ (by omega) (s3 c)) rule
 have b1:=tel_rz h hn hd hd2 hnum rule mode hm0 hm4;refine ⟨(tel_rz h hn hd hd2 hnum 0 mode hm0 hm4).mono b1 ?_,b1.mono (tel_rz h hn hd hd2 hnum 1 mode hm0 hm4) ?_⟩
 · have e:eV (fun i=>fvW (ys.getD i 0)) ((ys.length-1)*num/den) ((ys.length-1)*num%den) den 0=fvW (ys.getD ((ys.length-1)*num/den) 0)*((2*den:Nat):Int):=by
    unfold eV;split
    · rfl
    · rw [if_pos rfl]
   rw [e];exact b.1
 · refine Int.le_trans b.2 (Int.le_of_eq ?_)
   unfold eV
   by_cases c:(ys.length-1)*num%den=0
   · rw [if_pos c,if_pos c]
   · rw [if_neg c,if_neg c,if_neg (by decide),if_pos rfl]
theorem tel_first {ys:List Nat}{den:Nat}(hd:1≤den) (rule mode:Int):telR ys 0 den rule mode=ys.getD 0 0:=by
 unfold telR;simp
theorem tel_last {ys:List Nat}{den:Nat}(hd:1≤den) (rule mode:Int):telR ys den den rule mode=ys.getD (ys.length-1) 0:=by
 unfold telR;simp only;rw [Nat.mul_mod_left,if_pos rfl,Nat.mul_div_cancel _ (by omega)]
theorem first_least {xs:List Nat}(hW:W64 xs) (hf:∀ x ∈ xs,finW x) {z:Nat}(hz:z ∈ xs) (h:∀ x ∈ xs,kW z≤kW x):(sortL xs).getD 0 0=z:=by
 have hp:=sortL_perm16 hf;have hl:=sortL_len xs;have hn:0<xs.length:=List.length_pos_iff.2 (List.ne_nil_of_mem hz);have m:=sort_mem hf hn;refine kW_inj (hW _ m) (hW _ hz) ?_;have h1:=h _ m;obtain ⟨i,hi,e⟩:=List.getElem_of_mem (hp.mem_iff.2 hz)
 have:kW ((sortL xs).getD 0 0)≤kW z:=by
  rcases Nat.eq_zero_or_pos i with c|c
  · subst c;rw [List.getD_eq_getElem?_getD,List.getElem?_eq_getElem (by omega)];show kW ((sortL xs)[0])≤_;rw [e];exact Int.le_refl _
  · have:=List.pairwise_iff_getElem.1 (sortL_up hf) 0 i (by omega) hi c
    unfold leK at this;have:=of_decide_eq_true this;rw [e] at this;rw [List.getD_eq_getElem?_getD,List.getElem?_eq_getElem (by omega)]
    exact this
 omega
theorem last_most {xs:List Nat}(hW:W64 xs) (hf:∀ x ∈ xs,finW x) {z:Nat}(hz:z ∈ xs) (h:∀ x ∈ xs,kW x≤kW z):(sortL xs).getD (xs.length-1) 0=z:=by
 have hp:=sortL_perm16 hf;have hl:=sortL_len xs;have hn:0<xs.length:=List.length_pos_iff.2 (List.ne_nil_of_mem hz);have m:=sort_mem hf (show xs.length-1<xs.length by omega)
 refine kW_inj (hW _ m) (hW _ hz) ?_;have h1:=h _ m;obtain ⟨i,hi,e⟩:=List.getElem_of_mem (hp.mem_iff.2 hz)
 have:kW z≤kW ((sortL xs).getD (xs.length-1) 0):=by
  rw [List.getD_eq_getElem?_getD,List.getElem?_eq_getElem (by omega)]
  show _≤kW ((sortL xs)[xs.length-1])
  rcases Nat.lt_or_ge i (xs.length-1) with c|c
  · have:=List.pairwise_iff_getElem.1 (sortL_up hf) i (xs.length-1) hi (by omega) c
    unfold leK at this;have:=of_decide_eq_true this;rw [e] at this;exact this
  · have e2:i=xs.length-1:=by omega
    subst e2;rw [e];exact Int.le_refl _
 omega
theorem sort_up16 {xs:List Nat}(hW:W64 xs) (hf:∀ x ∈ xs,finW x):Up16 (sortL xs) :=
 ⟨fun x hx=>hW x ((sortL_perm16 hf).mem_iff.1 hx),fun x hx=>hf x ((sortL_perm16 hf).mem_iff.1 hx),sortL_up hf⟩
theorem order16 {x y:Nat}(hx:x<18446744073709551616) (hy:y<18446744073709551616) (fx:finW x) (fy:finW y) :
 (FloatKind.f64.format.order x y=some .lt∧sP x<sP y)∨(FloatKind.f64.format.order x y=some .gt∧sP y<sP x)∨(FloatKind.f64.format.order x y=some .eq∧sP x=sP y):=by
 have h1:=lt17 hx hy (fin_nn fx) (fin_nn fy);have h2:=gt17 hx hy (fin_nn fx) (fin_nn fy);have h3:=eq17 hx hy (fin_nn fx) (fin_nn fy)
 rcases Int.lt_trichotomy (sP x) (sP y) with q|q|q
 · exact .inl ⟨by rw [decide_eq_true q] at h1;simpa using h1,q⟩
 · exact .inr (.inr ⟨by rw [decide_eq_true q] at h3;simpa using h3,q⟩)
 · exact .inr (.inl ⟨by rw [decide_eq_true q] at h2;simpa using h2,q⟩)
theorem kW_of_lt {x y:Nat}(h:sP x<sP y):kW x≤kW y:=by
 unfold sP sK at h;unfold kW
 cases h1:negW x <;> cases h2:negW y <;> simp only [h1,h2,Bool.false_eq_true,if_false,if_true] at h ⊢ <;> omega
theorem kW_of_eq {x y:Nat}(h:sP x=sP y):(negW x=true→kW x≤kW y)∧(negW x=false→kW y≤kW x):=by
 unfold sP sK at h;unfold kW
 cases h1:negW x <;> cases h2:negW y <;> simp only [h1,h2,Bool.false_eq_true,if_false,if_true] at h ⊢ <;> refine ⟨fun q=>?_,fun q=>?_⟩ <;> first | omega | cases q
end
section
open Go Go.RowKit J
theorem dec_neg {x:Nat}(hx:x<18446744073709551616) (fx:finW x):(FloatKind.f64.decode x).neg=negW x:=by
 obtain ⟨m,k,h,_⟩:=read_finW x hx fx
 show (Ieee.double.read x).neg=_
 rw [h];rfl
theorem min16 (x y:Nat) (hx:x<18446744073709551616) (hy:y<18446744073709551616) (fx:finW x) (fy:finW y) :
 ∃ z,(z=x∨z=y)∧kW z≤kW x∧kW z≤kW y∧∀ (P:Program) (ts:Array TypeId) (t:TypeId) (w:World),(Builtin.min_ ts t #[.float .f64 x,.float .f64 y]).run P w=.ok (.float .f64 z) w:=by
 rcases order16 hx hy fx fy with ⟨h,q⟩|⟨h,q⟩|⟨h,q⟩
 · exact ⟨x,.inl rfl,Int.le_refl _,kW_of_lt q,fun P ts t w=>by simp [Builtin.min_,Builtin.min2,h]⟩
 · exact ⟨y,.inr rfl,kW_of_lt q,Int.le_refl _,fun P ts t w=>by simp [Builtin.min_,Builtin.min2,h]⟩
 · by_cases hn:(FloatKind.f64.decode x).neg=true
   · exact ⟨x,.inl rfl,Int.le_refl _,(kW_of_eq q).1 (by rw [←dec_neg hx fx];exact hn),fun P ts t w=>by simp [Builtin.min_,Builtin.min2,h,hn]⟩
   · exact ⟨y,.inr rfl,(kW_of_eq q).2 (by rw [←dec_neg hx fx];simpa using hn),Int.le_refl _,fun P ts t w=>by simp [Builtin.min_,Builtin.min2,h,hn]⟩
theorem max16 (x y:Nat) (hx:x<18446744073709551616) (hy:y<18446744073709551616) (fx:finW x) (fy:finW y) :
 ∃ z,(z=x∨z=y)∧kW x≤kW z∧kW y≤kW z∧∀ (P:Program) (ts:Array TypeId) (t:TypeId) (w:World),(Builtin.max_ ts t #[.float .f64 x,.float .f64 y]).run P w=.ok (.float .f64 z) w:=by
 rcases order16 hx hy fx fy with ⟨h,q⟩|⟨h,q⟩|⟨h,q⟩
 · exact ⟨y,.inr rfl,kW_of_lt q,Int.le_refl _,fun P ts t w=>by simp [Builtin.max_,Builtin.max2,h]⟩
 · exact ⟨x,.inl rfl,Int.le_refl _,kW_of_lt q,fun P ts t w=>by simp [Builtin.max_,Builtin.max2,h]⟩
 · by_cases hn:(FloatKind.f64.decode x).neg=true
   · exact ⟨y,.inr rfl,(kW_of_eq q).1 (by rw [←dec_neg hx fx];exact hn),Int.le_refl _,fun P ts t w=>by simp [Builtin.max_,Builtin.max2,h,hn]⟩
   · exact ⟨x,.inl rfl,Int.le_refl _,(kW_of_eq q).2 (by rw [←dec_neg hx fx];simpa using hn),fun P ts t w=>by simp [Builtin.max_,Builtin.max2,h,hn]⟩
theorem le16 {x y:Nat}(hx:x<18446744073709551616) (hy:y<18446744073709551616) (fx:nnW x) (fy:nnW y) (h:sP x≤sP y):(FloatKind.f64.format.order x y==some .lt || FloatKind.f64.format.order x y==some .eq)=true∧(FloatKind.f64.format.order y x==some .gt || FloatKind.f64.format.order y x==some .eq)=true:=by
 rw [lt17 hx hy fx fy,eq17 hx hy fx fy,gt17 hy hx fy fx,eq17 hy hx fy fx];simp;omega
theorem quR_ok {xs:List Nat}{num den rule mode:Int}{x:Nat}(h:quR xs num den rule mode=(x,0)):(0≤rule∧rule≤4∧0≤mode∧mode≤4)∧1≤den∧den≤2147483648∧0≤num∧num≤den∧amE xs false=0:=by
 unfold quR at h
 by_cases c:knB rule mode=false∨den<1∨2147483648<den∨num<0∨den<num
 · rw [if_pos c] at h;exact absurd (Prod.mk.inj h).2 (by decide)
 · rw [if_neg c] at h
   have hk:knB rule mode=true:=by cases q:knB rule mode with | true=>rfl | false=>exact absurd (.inl q) c
   have hk2:=of_decide_eq_true hk
   by_cases a:amE xs false=0
   · exact ⟨hk2,by omega,by omega,by omega,by omega,a⟩
   · rw [if_neg a] at h;exact absurd (Prod.mk.inj h).2 a
theorem quR_is {xs:List Nat}{num den rule mode:Int}(h0:0≤rule∧rule≤4∧0≤mode∧mode≤4) (h1:1≤den) (h2:den≤2147483648) (h3:0≤num) (h4:num≤den) (h5:amE xs false=0):quR xs num den rule mode=(telR (sortL xs) num.toNat den.toNat rule mode,0):=by
 unfold quR;have hk:knB rule mode=true:=decide_eq_true h0;rw [if_neg (by rw [hk];simp;omega),if_pos h5]
theorem rises_pure {xs:List Nat}(hW:W64 xs) {num num2 den rule mode:Int}{x y:Nat}(hx:quR xs num den rule mode=(x,0)) (hy:quR xs num2 den rule mode=(y,0)) :
 xs≠[]∧xs.length≤65536∧(∀ z ∈ xs,finW z)∧∃ low high,quR xs num den 0 mode=(low,0)∧quR xs num den 1 mode=(high,0)∧quR xs 0 den rule mode=((sortL xs).getD 0 0,0)∧quR xs den den rule mode=((sortL xs).getD (xs.length-1) 0,0) ∧
  (FloatKind.f64.format.order low x==some .lt || FloatKind.f64.format.order low x==some .eq)=true∧(FloatKind.f64.format.order x high==some .lt || FloatKind.f64.format.order x high==some .eq)=true ∧
  (num≤num2→(FloatKind.f64.format.order x y==some .lt || FloatKind.f64.format.order x y==some .eq)=true)∧(num2<num→(FloatKind.f64.format.order x y==some .gt || FloatKind.f64.format.order x y==some .eq)=true):=by
 obtain ⟨k,d1,d2,n1,n2,ha⟩:=quR_ok hx;obtain ⟨_,_,_,p1,p2,_⟩:=quR_ok hy;obtain ⟨_,m1,m2,m3⟩:=amE_fin ha;have hn:1≤(sortL xs).length:=by rw [sortL_len];exact List.length_pos_iff.2 m2
 have U:=sort_up16 hW m3;rw [quR_is k d1 d2 n1 n2 ha] at hx;rw [quR_is k d1 d2 p1 p2 ha] at hy;have ex:=(Prod.mk.inj hx).1;have ey:=(Prod.mk.inj hy).1;have hd:1≤den.toNat:=by omega
 have hd2:den.toNat≤2147483648:=by omega
 have zs:∀ (r:Int) (num:Nat),num≤den.toNat→telR (sortL xs) num den.toNat r mode<18446744073709551616∧nnW (telR (sortL xs) num den.toNat r mode):=fun r num q=>by
  have:=(tel_rz U hn hd hd2 q r mode k.2.2.1 k.2.2.2).sp;exact ⟨this.1,this.2.1⟩
 have sd:=tel_sides U hn hd hd2 (num:=num.toNat) (by omega) rule mode k.2.2.1 k.2.2.2
 have zx:=zs rule num.toNat (by omega)
 have zy:=zs rule num2.toNat (by omega)
 have zl:=zs 0 num.toNat (by omega)
 have zh:=zs 1 num.toNat (by omega)
 refine ⟨m2,m1,m3,_,_,quR_is ⟨by decide,by decide,k.2.2⟩ d1 d2 n1 n2 ha,quR_is ⟨by decide,by decide,k.2.2⟩ d1 d2 n1 n2 ha,?_,?_,?_,?_,?_,?_⟩
 · rw [quR_is k d1 d2 (by decide) (by omega) ha,show (0:Int).toNat=0 from rfl,tel_first hd]
 · rw [quR_is k d1 d2 (by omega) (Int.le_refl _) ha,tel_last hd,sortL_len]
 · rw [←ex];exact (le16 zl.1 zx.1 zl.2 zx.2 sd.1).1
 · rw [←ex];exact (le16 zx.1 zh.1 zx.2 zh.2 sd.2).1
 · intro q
   rw [←ex,←ey];exact (le16 zx.1 zy.1 zx.2 zy.2 (tel_rises U hn hd hd2 (by omega) (by omega) rule mode k.2.2.1 k.2.2.2)).1
 · intro q
   rw [←ex,←ey];exact (le16 zy.1 zx.1 zy.2 zx.2 (tel_rises U hn hd hd2 (by omega) (by omega) rule mode k.2.2.1 k.2.2.2)).2
end
section
open Go Go.RowKit J
open Go.Proofs.YtblkpkgebigojaaGreatDoor.B (f64bits f64frombits)
attribute [local go_sem] st_float f64bits f64frombits
abbrev l16:List Nat:=[4621819117588971520,4630826316843712512,4626322717216342016,4629137466983448576]
theorem live16 (w:World) (hT:Tab w):Calls Tryz.prog 8 #[] w fun r w'=>r=.returned (.bool true)∧Below w.heap.size w w':=by
 have o1:(FloatKind.f64.format.order 4625619029774565376 4625619029774565376==some .eq)=true:=by decide +kernel
 have o2:(FloatKind.f64.format.order 4627730092099895296 4627730092099895296==some .eq)=true:=by decide +kernel
 obtain ⟨W1,hW1⟩:∃ W,W=w.alloc (Obj.cells #[.float .f64 4621819117588971520,.float .f64 4630826316843712512,.float .f64 4626322717216342016,.float .f64 4629137466983448576] 26):=⟨_,rfl⟩;obtain ⟨g,hg⟩:∃ g,g=w.heap.size:=⟨_,rfl⟩
 have B1:Aside (Below w.heap.size w W1∧Fs W1.heap.size W1 (some ⟨g,0,none⟩) l16):=by
  rw [hW1];exact ⟨bel_alloc _ _,lit13 w [_,_,_,_] _ hg⟩
 have hW:W64 l16:=by unfold W64;decide
 have HT:=(qsd (ai hT hW));have C1:=hid (Quantile16 l16 (some ⟨g,0,none⟩) 4 4 1 4 4 0 W1 (hT.belows B1.out.1) B1.out.2 rfl (by decide) hW _ qu16)
 have HW1:=(qsd (ai hW1 hg));clear hW1 hT hg hW;go_enter Tryz.func8,Tryz.ntmps8
 go_wp2_with fail
 rw [←HW1.out.1,←HW1.out.2];clear HW1;refine C1.out.mono ?_;rintro r u1 ⟨rfl,hb1⟩;have B2:Aside (Below w.heap.size w u1∧Fs u1.heap.size u1 (some ⟨g,0,none⟩) l16):=⟨B1.out.1.trans (hb1.mono B1.out.1.size),(B1.out.2.below hb1).mono hb1.size⟩;clear hb1 C1 B1;have C2:=hid (Share16 l16 4626322717216342016 (some ⟨g,0,none⟩) 4 4 u1 (by decide) B2.out.2 rfl (by decide) HT.out.2)
 rw [show amE l16 (nanW 4626322717216342016)=0 by decide +kernel,if_pos rfl,if_pos rfl,show cntS l16 4626322717216342016=2 from ct16,show l16.length=4 from rfl] at C2
 go_wp2_with fail
 refine C2.out.mono ?_;rintro r u2 ⟨rfl,hb2⟩;have B3:Aside (Below w.heap.size w u2∧Fs u2.heap.size u2 (some ⟨g,0,none⟩) l16):=⟨B2.out.1.trans (hb2.mono B2.out.1.size),(B2.out.2.below hb2).mono hb2.size⟩;clear hb2 C2 B2;have C3:=hid (Several_ok16 l16 (some ⟨g,0,none⟩) 4 4 2 3 0 u2 (HT.out.1.belows B3.out.1) B3.out.2 rfl HT.out.2 (by decide) (by decide) (by decide) am16)
 go_wp2_with fail
 refine C3.out.mono ?_;rintro r u3 ⟨gs,rfl,hO,hg,hb3⟩;have B4:=qsd (B3.out.1.trans (hb3.mono B3.out.1.size));have c1:=hO.cell 1 (by rw [sevTo_len _ _ _ _ _ (by decide)];decide)
 rw [show (sevTo l16 2 3 0 (2+1)).getD 1 0=4627730092099895296 from sv16] at c1
 clear hb3 C3 B3 hO hg;simp only;go_wp2;go_ret;exact ⟨rfl,B4.out⟩
theorem exact16 (x y:Nat) (w:World):Calls Tryz.prog 10 #[.float .f64 x,.float .f64 y] w fun r w'=>r=.returned (.bool (decide (x=y)))∧w'=w:=by
 go_enter Tryz.func10,Tryz.ntmps10;go_wp2;go_ret;refine ⟨congrArg (fun z=>Ending.returned (Value.bool z)) ?_,rfl⟩
 first | rfl | (rw [Bool.eq_iff_iff];simp;done) | (rw [Bool.eq_iff_iff];simp;omega)
end
section
open Go Go.RowKit J
attribute [local go_sem] st_float
abbrev askO (num den rule mode:Int):Obj:=Obj.cells #[.int .i64 num,.int .i64 den,.int .i64 rule,.int .i64 mode] 24
set_option maxRecDepth 100000 in
theorem walk2_QuantRises (a1:Option Addr) (N1 c1:Nat) (xs:List Nat) (num den rule mode num2:Int) (w0:World) (hT:Tab w0) (hC:CameF w0 a1 N1 c1 xs) (hm1:N1≤17592186043904) :
 Calls Tryz.prog 3 #[.slice a1 N1 c1,.agg #[.int .i64 num,.int .i64 den,.int .i64 rule,.int .i64 mode],.int .i64 num2] w0 fun r w'=>r=.returned (.bool true)∧Below w0.heap.size w0 w':=by
 obtain ⟨W,hWW⟩:∃ W,W=w0.alloc (askO num den rule mode):=⟨_,rfl⟩;obtain ⟨g,hg⟩:∃ g,g=w0.heap.size:=⟨_,rfl⟩;have hb0:Below w0.heap.size w0 W:=by rw [hWW];exact below_alloc _ _
 have hbl:Bl W g 24 [.int .i64 num,.int .i64 den,.int .i64 rule,.int .i64 mode]:=by rw [hWW,hg];exact Bl.new _ _ [_,_,_,_]
 have HL:=hid (live16 W (hT.belows hb0))
 have HX:Aside (∀ u:World,Below W.heap.size W u→Fs u.heap.size u a1 xs∧Bl u g 24 [.int .i64 num,.int .i64 den,.int .i64 rule,.int .i64 mode]∧Below w0.heap.size w0 u∧Tab u):=fun u hu=>by
  have hb:=hb0.trans (hu.mono hb0.size);exact ⟨(hC.rd.below hb).mono hb.size,hbl.below hu hbl.lt,hb,hT.belows hb⟩
 have HQ:=hid (fun (u:World) (hu:Below W.heap.size W u) (nm dn rl md:Int) (z:Nat) (e:Int) (hz:quR xs nm dn rl md=(z,e))=>Quantile16 xs a1 N1 c1 nm dn rl md u (HX.out u hu).2.2.2 (HX.out u hu).1 hC.len (by omega) hC.wf _ hz)
 simp only at HQ;have HC:=(qsd (ai hC hm1));have HW:=(qsd (ai hWW hg));obtain ⟨⟨x,e⟩,hx⟩:∃ z,quR xs num den rule mode=z:=⟨_,rfl⟩;obtain ⟨⟨y,f⟩,hy⟩:∃ z,quR xs num2 den rule mode=z:=⟨_,rfl⟩;have Z:=(qsd (ai hx hy));clear hT hb0 hbl hC hx hy hm1;go_enter Tryz.func3,Tryz.ntmps3
 go_wp2_with fail
 rw [←hWW]
 try rw [←hg]
 clear hWW hg;refine HL.out.mono ?_;rintro r u ⟨rfl,hb1⟩;have HB:=qsd hb1;clear hb1 HL;have B:=(HX.out _ HB.out).2.1;have f0:=B.cell 0 _ rfl;have f1:=B.cell 1 _ rfl;have f2:=B.cell 2 _ rfl;have f3:=B.cell 3 _ rfl;clear B;have C:=hid (HQ.out _ HB.out num den rule mode x e Z.out.1)
 go_wp2_with fail
 refine C.out.mono ?_;rintro r u1 ⟨rfl,hb⟩;replace HB:=qsd (HB.out.trans (hb.mono HB.out.size));clear hb C f0 f1 f2 f3;have B:=(HX.out _ HB.out).2.1;have f0:=B.cell 0 _ rfl;have f1:=B.cell 1 _ rfl;have f2:=B.cell 2 _ rfl;have f3:=B.cell 3 _ rfl;clear B;have C:=hid (HQ.out _ HB.out num2 den rule mode y f Z.out.2)
 go_wp2_with fail
 refine C.out.mono ?_;rintro r u2 ⟨rfl,hb⟩;replace HB:=qsd (HB.out.trans (hb.mono HB.out.size));clear hb C f0 f1 f2 f3
 by_cases he:e=0
 · subst he
   by_cases hf:f=0
   · subst hf
     obtain ⟨m2,m1,m3,low,high,q1,q2,q3,q4,o1,o2,o3,o4⟩:=rises_pure HC.out.1.wf Z.out.1 Z.out.2;obtain ⟨fst,hfst⟩:∃ z,z=(sortL xs).getD 0 0:=⟨_,rfl⟩;obtain ⟨lst,hlst⟩:∃ z,z=(sortL xs).getD (xs.length-1) 0:=⟨_,rfl⟩;rw [←hfst] at q3;rw [←hlst] at q4;have Q:=(qsd (ai q1 (ai q2 (ai q3 (ai q4 (ai o3 (ai o4 (ai m3 (ai hfst hlst)))))))));have hn0:0<xs.length:=List.length_pos_iff.2 m2;have hnl:=HC.out.1.len;have d0:((N1:Int)==0)=false:=by simp;omega
     have hN6:N1≤65536:=by omega
     have hN0:0<N1:=by omega
     clear q1 q2 q3 q4 o3 o4 m1 m2 m3 hfst hlst Z hn0 hnl;have B:=(HX.out _ HB.out).2.1;have f0:=B.cell 0 _ rfl;have f1:=B.cell 1 _ rfl;have f2:=B.cell 2 _ rfl;have f3:=B.cell 3 _ rfl;clear B;have C:=hid (HQ.out _ HB.out num den 0 mode low 0 Q.out.1)
     go_wp2_with fail
     refine C.out.mono ?_;rintro r u3 ⟨rfl,hb⟩;replace HB:=qsd (HB.out.trans (hb.mono HB.out.size));clear hb C f0 f1 f2 f3;have B:=(HX.out _ HB.out).2.1;have f0:=B.cell 0 _ rfl;have f1:=B.cell 1 _ rfl;have f2:=B.cell 2 _ rfl;have f3:=B.cell 3 _ rfl;clear B;have C:=hid (HQ.out _ HB.out num den 1 mode high 0 Q.out.2.1)
     go_wp2_with fail
     refine C.out.mono ?_;rintro r u4 ⟨rfl,hb⟩;replace HB:=qsd (HB.out.trans (hb.mono HB.out.size));clear hb C f0 f1 f2 f3;have B:=(HX.out _ HB.out).2.1;have f0:=B.cell 0 _ rfl;have f1:=B.cell 1 _ rfl;have f2:=B.cell 2 _ rfl;have f3:=B.cell 3 _ rfl;clear B;have C:=hid (HQ.out _ HB.out 0 den rule mode fst 0 Q.out.2.2.1)
     go_wp2_with fail
     refine C.out.mono ?_;rintro r u5 ⟨rfl,hb⟩;replace HB:=qsd (HB.out.trans (hb.mono HB.out.size));clear hb C f0 f1 f2 f3;have B:=(HX.out _ HB.out).2.1;have f0:=B.cell 0 _ rfl;have f1:=B.cell 1 _ rfl;have f2:=B.cell 2 _ rfl;have f3:=B.cell 3 _ rfl;clear B;have C:=hid (HQ.out _ HB.out den den rule mode lst 0 Q.out.2.2.2.1)
     go_wp2_with fail
     refine C.out.mono ?_;rintro r u6 ⟨rfl,hb⟩;replace HB:=qsd (HB.out.trans (hb.mono HB.out.size));clear hb C f0 f1 f2 f3;obtain ⟨b,off,rfl,hc⟩:=(HX.out _ HB.out).1.at (Below.refl _ _) 0 (by rw [←HC.out.1.len];exact hN0)
     rw [Nat.add_zero] at hc;obtain ⟨x0,hx0⟩:∃ z,z=xs.getD 0 0:=⟨_,rfl⟩;rw [←hx0] at hc;have hgm:Aside (∀ k,k<N1→xs.getD k 0 ∈ xs):=fun k hk=>by rw [List.getD_eq_getElem?_getD,List.getElem?_eq_getElem (show k<xs.length by rw [←HC.out.1.len];exact hk)];exact List.getElem_mem _
     have HX0:=qsd hx0;clear hx0;go_wp2;have HU:=qsd (show u6=u6 from rfl)
     clear hc
     go_loopg [20,21,22] (N1-1) (fun gk lv hv iv wr=>∃ k lo hi:Nat,gk+k=N1∧1≤k∧iv=.int .i64 (k:Nat)∧lv=.float .f64 lo∧hv=.float .f64 hi∧wr=u6∧Aside (lo ∈ xs∧hi ∈ xs∧∀ j,j<k→kW lo≤kW (xs.getD j 0)∧kW (xs.getD j 0)≤kW hi))
     case atStart =>
      refine ⟨1,x0,x0,by omega,Nat.le_refl _,by simp,rfl,rfl,rfl,qsd ⟨?_,?_,fun j hj=>?_⟩⟩
      · rw [HX0.out];exact hgm.out 0 hN0
      · rw [HX0.out];exact hgm.out 0 hN0
      · obtain rfl:j=0:=by omega
        rw [←HX0.out];exact ⟨Int.le_refl _,Int.le_refl _⟩
     case round =>
      obtain ⟨k,lo,hi,hgk,hk1,rfl,rfl,rfl,hwr,HA⟩:=hrel;rw [hwr];clear hwr wr
      by_cases hk:k<N1
      · obtain ⟨b',off',hab,hc⟩:=(HX.out _ HB.out).1.at (Below.refl _ _) k (by rw [←HC.out.1.len];exact hk)
        simp only [Option.some.injEq,Addr.mk.injEq,and_true] at hab;obtain ⟨rfl,rfl⟩:=hab;obtain ⟨z,hz⟩:∃ z,z=xs.getD k 0:=⟨_,rfl⟩;have hzm:z ∈ xs:=by rw [hz];exact hgm.out k hk
        rw [←hz] at hc;have fin:=Q.out.2.2.2.2.2.2.1;obtain ⟨lo',l1,l2,l3,l4⟩:=min16 lo z (HC.out.1.wf _ HA.out.1) (HC.out.1.wf _ hzm) (fin _ HA.out.1) (fin _ hzm);obtain ⟨hi',g1,g2,g3,g4⟩:=max16 hi z (HC.out.1.wf _ HA.out.2.1) (HC.out.1.wf _ hzm) (fin _ HA.out.2.1) (fin _ hzm);have hmin:=fun ts t w=>l4 Tryz.prog ts t w
        have hmax:=fun ts t w=>g4 Tryz.prog ts t w
        have HN:Aside (lo' ∈ xs∧hi' ∈ xs∧∀ j,j<k+1→kW lo'≤kW (xs.getD j 0)∧kW (xs.getD j 0)≤kW hi'):=by
         refine ⟨?_,?_,fun j hj=>?_⟩
         · rcases l1 with rfl | rfl
           · exact HA.out.1
           · exact hzm
         · rcases g1 with rfl | rfl
           · exact HA.out.2.1
           · exact hzm
         · by_cases ej:j=k
           · subst ej;rw [←hz];exact ⟨l3,g3⟩
           · have:=HA.out.2.2 j (by omega);omega
        have hkb:k<4611686018427387904:=by omega
        have hd:decide ((k:Int)<N1)=true:=by simp;omega
        clear hz hzm l1 l2 l3 l4 g1 g2 g3 g4 HA fin HQ Q;go_wp2
        go_roundg (gk-1)
        case measure=>omega
        case rel=>exact ⟨k+1,lo',hi',by omega,by omega,by first | rfl | simp,rfl,rfl,rfl,HN.out⟩
      · obtain rfl:N1=k:=by omega
        have hd:decide ((N1:Int)<N1)=false:=by simp
        have fin:=Q.out.2.2.2.2.2.2.1
        have all:∀ z ∈ xs,kW lo≤kW z∧kW z≤kW hi:=fun z hz=>by
         obtain ⟨j,hj,rfl⟩:=List.mem_iff_getElem.1 hz;have:=HA.out.2.2 j (by rw [HC.out.1.len];exact hj)
         rw [List.getD_eq_getElem?_getD,List.getElem?_eq_getElem hj] at this
         exact this
        have e1:decide (fst=lo)=true:=decide_eq_true (by rw [Q.out.2.2.2.2.2.2.2.1];exact first_least HC.out.1.wf fin HA.out.1 (fun z hz=>(all z hz).1))
        have e2:decide (lst=hi)=true:=decide_eq_true (by rw [Q.out.2.2.2.2.2.2.2.2];exact last_most HC.out.1.wf fin HA.out.2.1 (fun z hz=>(all z hz).2))
        have CE:=hid (exact16 fst lo u6);have CF:=hid (exact16 lst hi u6);rw [e1] at CE;rw [e2] at CF;have f0:=(HX.out _ HB.out).2.1.cell 0 _ rfl;have o3:=Q.out.2.2.2.2.1;have o4:=Q.out.2.2.2.2.2.1;have HF:=qsd (HX.out _ HB.out).2.2.1;clear fin all e1 e2 HA Q HQ HC HX HB hgm
        by_cases hq:num≤num2
        · have d1:decide (num≤num2)=true:=decide_eq_true hq
          replace o3:=o3 hq;clear o4 hq
          go_wp2_with (first | (go_at_call_of 10 (Value.float FloatKind.f64 fst);refine CE.out.mono ?_;rintro r v ⟨rfl,rfl⟩) | (go_at_call_of 10 (Value.float FloatKind.f64 lst);refine CF.out.mono ?_;rintro r v ⟨rfl,rfl⟩))
          go_ret;exact ⟨rfl,HF.out⟩
        · have d1:decide (num≤num2)=false:=decide_eq_false hq
          have d2:decide (num2<num)=true:=decide_eq_true (by omega)
          replace o4:=o4 (by omega)
          clear o3 hq
          go_wp2_with (first | (go_at_call_of 10 (Value.float FloatKind.f64 fst);refine CE.out.mono ?_;rintro r v ⟨rfl,rfl⟩) | (go_at_call_of 10 (Value.float FloatKind.f64 lst);refine CF.out.mono ?_;rintro r v ⟨rfl,rfl⟩))
          go_ret;exact ⟨rfl,HF.out⟩
   · have df:(f==0)=false:=by simp;exact hf
     have HF:=qsd (HX.out _ HB.out).2.2.1;clear hf;go_wp2;go_ret;exact ⟨rfl,HF.out⟩
 · have de:(e==0)=false:=by simp;exact he
   have HF:=qsd (HX.out _ HB.out).2.2.1;clear he;go_wp2;go_ret;exact ⟨rfl,HF.out⟩
end
section
open Go.ChangeShapes Go.WideShapes Go.ChangeAt Go.RowKit
theorem ints_of12 {H:Type}{enc:TypeId×Value→H}{W:World}{k:Nat}{c:Value}{x:Option (DataW H×List MemPlace)}{y:DataW H×List MemPlace}(h:DataW.trod enc Tryz.prog W 0 (fun _=>true) true k 3 [c]=x) (hx:x=some y):∃ n:Int,c=.int .i64 n∧y.1=.lit (.int .i64 n)∧-9223372036854775808≤n∧n≤9223372036854775807:=by
 subst hx;obtain ⟨e,e2,rfl,hw⟩:=DataW.trod_int Tryz.underlying3 h
 cases e2
 have hw':-9223372036854775808≤e∧e≤9223372036854775807:=by
  simp [Lit.wf,IntKind.min,IntKind.max,IntKind.signed,IntKind.bits] at hw;omega
 exact ⟨e,rfl,rfl,hw'.1,hw'.2⟩
end
section
open Go.ChangeShapes Go.WideShapes Go.ChangeAt Go.RowKit
theorem ask_of16 {H:Type}{enc:TypeId×Value→H}{W:World}{r:Reach}{b0:Nat}{v:Value}{d:DataW H}{p:List MemPlace}(hv:Value.okWide Tryz.prog W r b0 24 v) (h:DataW.Trod enc Tryz.prog W 0 (fun _=>true) true 24 v d p) :
 ∃ a b c e:Int,v=.agg #[.int .i64 a,.int .i64 b,.int .i64 c,.int .i64 e]:=by
 obtain ⟨cs,rfl,hsz⟩:=okWide_struct Tryz.underlying24 hv;obtain ⟨fuel,hf⟩:=h;have hC:Tryz.prog.cellsOf 24=4:=by kernel_rfl
 have c3:Tryz.prog.cellsOf 3=1:=by kernel_rfl
 obtain ⟨xs,k,rfl,hx,hl,hxl,hfs⟩:=DataW.trod_struct Tryz.underlying24 hf;rw [hC] at hsz
 obtain ⟨c0,c1,c2,c4,rfl⟩:∃ c0 c1 c2 c3,cs=#[c0,c1,c2,c3]:=by
  obtain ⟨l⟩:=cs
  match l,hsz with
  | [a,b,c,e],_=>exact ⟨a,b,c,e,rfl⟩
 have h0:DataW.trod enc Tryz.prog W 0 (fun _=>true) true k 3 (List.take (Tryz.prog.cellsOf 3) (List.drop 0 [c0,c1,c2,c4]))=xs[0]?:=hfs 0 _ rfl
 have h1:DataW.trod enc Tryz.prog W 0 (fun _=>true) true k 3 (List.take (Tryz.prog.cellsOf 3) (List.drop 1 [c0,c1,c2,c4]))=xs[1]?:=hfs 1 _ rfl
 have h2:DataW.trod enc Tryz.prog W 0 (fun _=>true) true k 3 (List.take (Tryz.prog.cellsOf 3) (List.drop 2 [c0,c1,c2,c4]))=xs[2]?:=hfs 2 _ rfl
 have h3:DataW.trod enc Tryz.prog W 0 (fun _=>true) true k 3 (List.take (Tryz.prog.cellsOf 3) (List.drop 3 [c0,c1,c2,c4]))=xs[3]?:=hfs 3 _ rfl
 rw [c3] at h0 h1 h2 h3
 match xs,hxl with
 | [x0,x1,x2,x3],_ =>
   obtain ⟨a,rfl,_⟩:=ints_of12 (c:=c0) h0 rfl;obtain ⟨b,rfl,_⟩:=ints_of12 (c:=c1) h1 rfl;obtain ⟨c,rfl,_⟩:=ints_of12 (c:=c2) h2 rfl;obtain ⟨e,rfl,_⟩:=ints_of12 (c:=c4) h3 rfl;exact ⟨a,b,c,e,rfl⟩
end
end Go.Proofs.YtblkpkgebigojaaGreatDoor
