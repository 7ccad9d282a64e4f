import Derived.Test.YtihjfhpoiheomaaGreatDoorX10x
import Derived.Test.YtihjfhpoiheomaaGreatDoorW26x
import Derived.BigQuiet
set_option linter.unusedVariables false
set_option linter.unusedSimpArgs false
set_option maxHeartbeats 16000000
set_option maxRecDepth 20000
namespace Go.Proofs.YtihjfhpoiheomaaGreatDoor
namespace J
end J
section
open Go Go.RowKit J
theorem sort_up15 {xs:List Nat}(hW:W64 xs) {i j:Nat}(h:i≤j) (hj:j<xs.length):tk ((sortL xs).getD i 0)≤tk ((sortL xs).getD j 0):=by
 rw [(sort_ky hW (Nat.lt_of_le_of_lt h hj)).1,(sort_ky hW hj).1];exact kyR_mono h hj
theorem oc_le {a b:Int}(h:a≤b):(B.oc a b:Int)≤0:=by unfold B.oc;split <;> (try split) <;> omega
theorem sort_place {xs:List Nat}{i:Nat}(h:i<xs.length):(sortL xs).getD (plI xs i) 0=nrm (xs.getD i 0):=by rw [sortL_get (plI_lt h),row_plI h]
def snTo (xs:List Nat) (k:Nat):List Bool:=(List.range xs.length).map fun j=>decide ((rowL xs).getD j 0<k)
theorem snTo_len (xs:List Nat) (k:Nat):(snTo xs k).length=xs.length:=by unfold snTo;rw [List.length_map,List.length_range]
theorem snTo_zero (xs:List Nat):snTo xs 0=List.replicate xs.length false:=by
 unfold snTo;simp only [Nat.not_lt_zero,decide_false];rw [List.map_const',List.length_range]
theorem snTo_get {xs:List Nat}{k j:Nat}(h:j<xs.length):(snTo xs k).getD j false=decide ((rowL xs).getD j 0<k):=by
 unfold snTo;rw [List.getD_eq_getElem?_getD,List.getElem?_map,List.getElem?_range h];rfl
theorem snTo_no {xs:List Nat}{i:Nat}(h:i<xs.length):(snTo xs i).getD (plI xs i) false=false:=by
 rw [snTo_get (plI_lt h),row_plI h];simp
theorem snTo_succ {xs:List Nat}{i:Nat}(h:i<xs.length):(snTo xs i).set (plI xs i) true=snTo xs (i+1):=by
 refine List.ext_getElem (by rw [List.length_set,snTo_len,snTo_len]) fun j h1 h2=>?_
 have hj:j<xs.length:=by rw [snTo_len] at h2;exact h2
 rw [List.getElem_set]
 have g:∀ k (hk:j<(snTo xs k).length),(snTo xs k)[j]=decide ((rowL xs).getD j 0<k):=fun k hk=>by
  have:=snTo_get (k:=k) hj;rw [List.getD_eq_getElem?_getD,List.getElem?_eq_getElem hk] at this
  exact this
 rw [g,g]
 by_cases e:plI xs i=j
 · rw [if_pos e,←e,row_plI h];simp
 · rw [if_neg e]
   have:(rowL xs).getD j 0≠i:=fun q=>e (by rw [←q];exact plI_row hj)
   congr 1
   exact propext ⟨fun _=>by omega,fun _=>by omega⟩
theorem sort_perm15 (xs:List Nat):(sortL xs).Perm (xs.map nrm):=by
 unfold sortL;refine ((rowL_perm xs).map _).trans ?_
 have e:(List.range xs.length).map (fun i=>nrm (xs.getD i 0))=xs.map nrm:=by
  refine List.ext_getElem (by simp) fun i h1 h2=>?_
  simp only [List.getElem_map,List.getElem_range];rw [List.getD_eq_getElem?_getD,List.getElem?_eq_getElem (by simpa using h1)];rfl
 rw [e]
theorem sort_pair {xs:List Nat}(hW:W64 xs):(sortL xs).Pairwise (fun a b=>tk a≤tk b):=by
 refine List.pairwise_iff_getElem.2 fun i j hi hj hij=>?_
 have hl:=sortL_len xs;have:=sort_up15 hW (Nat.le_of_lt hij) (by omega)
 rw [List.getD_eq_getElem?_getD,List.getD_eq_getElem?_getD,List.getElem?_eq_getElem hi,List.getElem?_eq_getElem hj] at this
 exact this
theorem sort_same {xs ys:List Nat}(hW:W64 xs) (h:ys.Perm xs):sortL ys=sortL xs:=by
 have hW':W64 ys:=fun x hx=>hW x (h.mem_iff.1 hx)
 have hp:(sortL ys).Perm (sortL xs):=(sort_perm15 ys).trans ((h.map nrm).trans (sort_perm15 xs).symm);refine List.Perm.eq_of_pairwise (le:=fun a b=>tk a≤tk b) (fun a b ha hb h1 h2=>?_) (sort_pair hW') (sort_pair hW) hp
 obtain ⟨x,hx,rfl⟩:=List.mem_map.1 ((sort_perm15 ys).mem_iff.1 ha);obtain ⟨y,hy,rfl⟩:=List.mem_map.1 ((sort_perm15 xs).mem_iff.1 hb);have ex:=nrm_lt15 (hW' x hx);have ey:=nrm_lt15 (hW y hy);have:=(tk_nrm ex ey).1 (by omega)
 rw [nrm_nrm,nrm_nrm] at this;exact this
theorem med_same {xs ys:List Nat}(hW:W64 xs) (h:ys.Perm xs) (mode:Int):medR ys mode=medR xs mode:=by
 unfold medR
 have e:ys.any nanW=xs.any nanW:=by
  rw [Bool.eq_iff_iff,List.any_eq_true,List.any_eq_true];exact ⟨fun ⟨x,hx,q⟩=>⟨x,h.mem_iff.1 hx,q⟩,fun ⟨x,hx,q⟩=>⟨x,h.mem_iff.2 hx,q⟩⟩
 rw [h.length_eq,e,sort_same hW h]
theorem enF_bh (xs:List Nat):∀ f p,p<xs.length→xs.length≤p+f→Bh xs p (enF xs f p)
 | 0,p,h,h2=>absurd h (by omega)
 | f+1,p,h,h2=>by
   unfold enF
   by_cases q:p+1<xs.length∧kyR xs (p+1)=kyR xs p
   · rw [if_pos q]
     have B:=enF_bh xs f (p+1) q.1 (by omega)
     refine ⟨by have:=B.lt;omega,B.le,fun j h1 h3=>?_,fun h3=>?_⟩
     · by_cases e:j=p
       · rw [e]
       · rw [B.al j (by omega) h3,q.2]
     · rw [←q.2];exact B.un h3
   · rw [if_neg q]
     refine ⟨by omega,by omega,fun j h1 h3=>by rw [show j=p by omega],fun h3 e=>q ⟨h3,e⟩⟩
def twR (xs:List Nat) (p:Nat):Nat:=2*(rnR xs p).1+(rnR xs p).2.1+1
theorem rn_pos {xs:List Nat}{k:Nat}(hk:k<xs.length):1≤(rnR xs k).2.1:=by
 have h1:=stR_le xs k;have h2:=enF_le xs xs.length k hk;unfold rnR enR;simp only;omega
theorem sum_run {xs:List Nat}{a b:Nat}(h:Bh xs a b) (ha:(stR xs a).1=a):∀ d,a+d≤b→((List.range (a+d)).map (twR xs)).sum=((List.range a).map (twR xs)).sum+d*(a+b+1)
 | 0,_=>by simp
 | d+1,hd=>by
   have e:twR xs (a+d)=a+b+1:=by
    have h1:=h.st (a+d) (by omega) (by omega)
    have h2:=h.en (p:=a+d) (by omega) (by omega)
    unfold twR rnR;rw [h1,h2,ha];have:=h.lt;simp only;omega
   rw [show a+(d+1)=(a+d)+1 by omega,List.range_succ,List.map_append,List.sum_append,sum_run h ha d (by omega),Nat.add_mul]
   simp [e];omega
theorem sum_at {xs:List Nat}:∀ (f a:Nat),a≤xs.length→xs.length≤a+f→(a<xs.length→(stR xs a).1=a)→((List.range a).map (twR xs)).sum=a*(a+1)→((List.range xs.length).map (twR xs)).sum=xs.length*(xs.length+1)
 | f,a,h1,h2,h3,h4=>by
   by_cases e:a=xs.length
   · rw [←e];exact h4
   · match f with
     | 0=>exact absurd h2 (by omega)
     | f+1 =>
       have hB:=enF_bh xs xs.length a (by omega) (by omega)
       obtain ⟨b,hb⟩:∃ b,b=enF xs xs.length a:=⟨_,rfl⟩;rw [←hb] at hB;have l:=hB.lt;refine sum_at f b hB.le (by omega) (fun q=>by rw [hB.next q]) ?_
       have:=sum_run hB (h3 (by omega)) (b-a) (by omega)
       rw [show a+(b-a)=b by omega,h4] at this
       rw [this];obtain ⟨c,rfl⟩:∃ c,b=a+c:=⟨b-a,by omega⟩
       rw [Nat.add_sub_cancel_left]
       grind
theorem tw_sum (xs:List Nat):((List.range xs.length).map (twR xs)).sum=xs.length*(xs.length+1) :=
 sum_at xs.length 0 (by omega) (by omega) (fun _=>rfl) (by simp)
theorem pl_perm (xs:List Nat):((List.range xs.length).map (plI xs)).Perm (List.range xs.length):=by
 have e:(rowL xs).map (plI xs)=List.range xs.length:=by
  refine List.ext_getElem (by rw [List.length_map,rowL_len,List.length_range]) fun i h1 h2=>?_
  have hi:i<xs.length:=by simpa using h2
  rw [List.getElem_map,List.getElem_range];have:=plI_row hi;rw [List.getD_eq_getElem?_getD,List.getElem?_eq_getElem (row_len hi)] at this
  exact this
 have:=((rowL_perm xs).map (plI xs)).symm;rw [e] at this;exact this
def smR (xs:List Nat) (k:Nat):Nat:=((List.range k).map fun i=>twR xs (plI xs i)).sum
theorem smR_succ (xs:List Nat) (k:Nat):smR xs (k+1)=smR xs k+twR xs (plI xs k):=by
 unfold smR;rw [List.range_succ,List.map_append,List.sum_append];simp
theorem smR_all (xs:List Nat):smR xs xs.length=xs.length*(xs.length+1):=by
 rw [←tw_sum];unfold smR;have:=((pl_perm xs).map (twR xs)).sum_nat;rw [List.map_map] at this;exact this
theorem tw_le {xs:List Nat}{k:Nat}(hk:k<xs.length):twR xs k≤2*xs.length+1:=by
 have:=rnR_le hk;have h2:=enF_le xs xs.length k hk;unfold twR enR at *;omega
theorem smR_le {xs:List Nat}:∀ k,k≤xs.length→smR xs k≤k*(2*xs.length+1)
 | 0,_=>by simp [smR]
 | k+1,h=>by
   have h1:=smR_le (xs:=xs) k (by omega)
   have h2:=tw_le (xs:=xs) (k:=plI xs k) (plI_lt (by omega))
   rw [smR_succ,Nat.succ_mul];omega
def sP15 (z:Nat):Int:=sK (negW z) (magW z)
theorem sP_of_tk {x y:Nat}(nx:nanW x=false) (ny:nanW y=false) (h:tk x≤tk y):sP15 x≤sP15 y:=by
 have a:=nnan nx;have b:=nnan ny;have tx:tk x=if negW x then -1-(magW x:Int) else magW x:=by unfold tk;exact if_neg (by omega)
 have ty:tk y=if negW y then -1-(magW y:Int) else magW y:=by unfold tk;exact if_neg (by omega)
 rw [tx,ty] at h;unfold sP15 sK
 cases h1:negW x <;> cases h2:negW y <;> simp only [h1,h2,Bool.false_eq_true,if_false,if_true] at h ⊢ <;> omega
theorem gt15 {x y:Nat}(hx:x<18446744073709551616) (hy:y<18446744073709551616) (nx:magW x≤9218868437227405312) (ny:magW y≤9218868437227405312):(FloatKind.f64.format.order x y==some .gt)=decide (sP15 y<sP15 x):=by
 have e:=gt64 (negW x) (negW y) (magW x) (magW y) nx ny;rw [←wd_of x hx,←wd_of y hy] at e;exact e
theorem lt15 {x y:Nat}(hx:x<18446744073709551616) (hy:y<18446744073709551616) (nx:magW x≤9218868437227405312) (ny:magW y≤9218868437227405312):(FloatKind.f64.format.order x y==some .lt)=decide (sP15 x<sP15 y):=by
 have e:=lt64 (negW x) (negW y) (magW x) (magW y) nx ny;rw [←wd_of x hx,←wd_of y hy] at e;exact e
theorem fv_sg (x:Nat):fvW x=sg1 (negW x)*(vK (magW x):Int):=by unfold fvW B.sg sg1;cases negW x <;> simp
theorem ring15 (s Q P:Int):s*(Q*(P*2))=2*(s*Q)*P:=by grind
theorem exk1 {k:Nat}(hk:k+1075=EK):(-1074 - -1048576:Int).toNat=k+1:=by unfold EK at hk;omega
theorem rnd_side {x:Nat}(hx:x<18446744073709551616) (fx:finW x) {V:Int}(bV:Bd 2099 V) {mode:Int}(h0:0≤mode) (h4:mode≤4) :
 ∃ z,rndS (gV 1075 V) mode=(z,0)∧z<18446744073709551616∧magW z≤9218868437227405312∧(2*fvW x≤V→sP15 x≤sP15 z)∧(V≤2*fvW x→sP15 z≤sP15 x):=by
 obtain ⟨n,X,e,ho,FX,_,_,hv⟩:=ofK_val (negW x) (magW x) fx;have F:=g_fm (u:=1075) (by omega) (by omega) bV
 obtain ⟨k,hk⟩:=exK 1075 (by omega)
 have vo:=val_g F (by omega) k hk
 obtain ⟨_,_,m,Y,f,hgo,FY,_⟩:=F;rw [hgo,rndS_form mode m Y f h0 h4];have hle:=rW_le mode m Y f FY;obtain ⟨q1,q2,q3⟩:=magW_wd (rS m Y) (rW mode m Y f) (by omega)
 have sz:sP15 (wd64 (rS m Y) (rW mode m Y f))=sK (rS m Y) (rW mode m Y f):=by unfold sP15;rw [q1,q2]
 have own:=near_own mode (negW x) (magW x) fx ho;have dx:=FX.down;have dy:=FY.down
 have v1:sg1 n*((X*2^(e - -1048576).toNat:Nat):Int)=2*fvW x*((2^k:Nat):Int):=by
  have:=hv (-1048576) (by omega)
  unfold zv at this;simp only at this;rw [this,fv_sg,exk1 hk,Nat.pow_succ,Int.natCast_mul,Int.natCast_mul];generalize ((2^k:Nat):Int)=P;generalize (vK (magW x):Int)=Q;generalize sg1 (negW x)=s;exact ring15 s Q P
 have v2:sg1 m*((Y*2^(f - -1048576).toNat:Nat):Int)=V*((2^k:Nat):Int):=by
  rw [←vo,hgo];rfl
 have hp:(0:Int)<((2^k:Nat):Int):=by have:=Nat.two_pow_pos k;omega
 refine ⟨_,rfl,q3,by rw [q1];exact hle,fun h=>?_,fun h=>?_⟩
 · have:=near_mono mode FX FY (by rw [cmpV_z n X e m Y f (-1048576) dx dy,cmpZ_le,v1,v2];exact Int.mul_le_mul_of_nonneg_right h (by omega))
   rw [own] at this;rw [sz];exact this
 · have:=near_mono mode FY FX (by rw [cmpV_z m Y f n X e (-1048576) dy dx,cmpZ_le,v1,v2];exact Int.mul_le_mul_of_nonneg_right h (by omega))
   rw [own] at this;rw [sz];exact this
theorem fv_of_sP {x y:Nat}(h:sP15 x≤sP15 y):fvW x≤fvW y:=by
 have mono:∀ {a b:Nat},a≤b→vK a≤vK b:=fun {a b} h=>by
  rcases Nat.lt_or_eq_of_le h with q|rfl
  · exact Nat.le_of_lt (vK_lt.2 q)
  · exact Nat.le_refl _
 have z0:vK 0=0:=B.val_zero _;unfold sP15 sK at h;unfold fvW B.sg
 cases h1:negW x <;> cases h2:negW y <;> simp only [h1,h2,Bool.false_eq_true,if_false,if_true] at h ⊢
 · have:=mono (a:=magW x) (b:=magW y) (by omega);omega
 · have hx0:magW x=0:=by omega
   have hy0:magW y=0:=by omega
   rw [hx0,hy0,z0];omega
 · omega
 · have:=mono (a:=magW y) (b:=magW x) (by omega);omega
theorem mid_between {x y:Nat}(hx:x<18446744073709551616) (hy:y<18446744073709551616) (nx:nanW x=false) (ny:nanW y=false) (ho:tk x≤tk y) {mode:Int}(h0:0≤mode) (h4:mode≤4) {z:Nat}(h:midW x y mode=(z,0)) :
 z<18446744073709551616∧magW z≤9218868437227405312∧sP15 x≤sP15 z∧sP15 z≤sP15 y:=by
 have hs:=sP_of_tk nx ny ho;have a:=nnan nx;have b:=nnan ny;unfold midW at h
 by_cases e:x=y
 · rw [if_pos e] at h
   obtain rfl:=(Prod.mk.inj h).1;exact ⟨hx,a,Int.le_refl _,hs⟩
 · rw [if_neg e] at h
   by_cases e2:magW x=9218868437227405312∧magW y=9218868437227405312
   · rw [if_pos e2] at h;exact absurd (Prod.mk.inj h).2 (by decide)
   · rw [if_neg e2] at h
     by_cases ix:magW x=9218868437227405312
     · rw [if_pos ix] at h
       obtain rfl:=(Prod.mk.inj h).1;exact ⟨hx,a,Int.le_refl _,hs⟩
     · rw [if_neg ix] at h
       by_cases iy:magW y=9218868437227405312
       · rw [if_pos iy] at h
         obtain rfl:=(Prod.mk.inj h).1;exact ⟨hy,b,hs,Int.le_refl _⟩
       · rw [if_neg iy] at h
         have fx:finW x:=by unfold finW;omega
         have fy:finW y:=by unfold finW;omega
         have bd:=(fv_bd hx fx).add (fv_bd hy fy);have hf:=fv_of_sP hs;obtain ⟨z1,r1,s1,s2,s3,_⟩:=rnd_side hx fx bd h0 h4;obtain ⟨z2,r2,_,_,_,s4⟩:=rnd_side hy fy bd h0 h4;rw [r1] at r2 h;obtain rfl:=(Prod.mk.inj h).1;obtain rfl:=(Prod.mk.inj r2).1;exact ⟨s1,s2,s3 (by omega),s4 (by omega)⟩
theorem count_le {L:List Nat}{p:Nat→Bool}(m:Nat) (h:∀ i,i<m→i<L.length→p (L.getD i 0)=false):L.countP p≤L.length-m:=by
 have e:L.countP p=(L.take m).countP p+(L.drop m).countP p:=by rw [←List.countP_append,List.take_append_drop]
 have e1:(L.take m).countP p=0:=by
  rw [List.countP_eq_zero];intro x hx;obtain ⟨i,hi,rfl⟩:=List.getElem_of_mem hx;rw [List.length_take] at hi;have:=h i (by omega) (by omega)
  rw [List.getD_eq_getElem?_getD,List.getElem?_eq_getElem (by omega)] at this
  rw [List.getElem_take];simpa using this
 have e2:=List.countP_le_length (p:=p) (l:=L.drop m);rw [List.length_drop] at e2;omega
theorem count_ge {L:List Nat}{p:Nat→Bool}(m:Nat) (h:∀ i,m≤i→i<L.length→p (L.getD i 0)=false):L.countP p≤m:=by
 have e:L.countP p=(L.take m).countP p+(L.drop m).countP p:=by rw [←List.countP_append,List.take_append_drop]
 have e1:(L.drop m).countP p=0:=by
  rw [List.countP_eq_zero];intro x hx;obtain ⟨i,hi,rfl⟩:=List.getElem_of_mem hx;rw [List.length_drop] at hi;have:=h (m+i) (by omega) (by omega)
  rw [List.getD_eq_getElem?_getD,List.getElem?_eq_getElem (by omega)] at this
  rw [List.getElem_drop];simpa using this
 have e2:=List.countP_le_length (p:=p) (l:=L.take m);rw [List.length_take] at e2;omega
def abC (L:List Nat) (x:Nat):Nat:=L.countP fun y=>FloatKind.f64.format.order y x==some .gt
def beC (L:List Nat) (x:Nat):Nat:=L.countP fun y=>FloatKind.f64.format.order y x==some .lt
theorem halves15 {xs:List Nat}(hW:W64 xs) {mode:Int}{x:Nat}(h:medR xs mode=(x,0)):2*abC xs x≤xs.length∧2*beC xs x≤xs.length:=by
 unfold medR at h
 by_cases h1:mode<0∨4<mode
 · rw [if_pos h1] at h;exact absurd (Prod.mk.inj h).2 (by decide)
 rw [if_neg h1] at h
 by_cases h2:65536<xs.length
 · rw [if_pos h2] at h;exact absurd (Prod.mk.inj h).2 (by decide)
 rw [if_neg h2] at h
 by_cases h3:xs.any nanW=true
 · rw [if_pos h3] at h;exact absurd (Prod.mk.inj h).2 (by decide)
 rw [if_neg h3] at h;have h3':xs.any nanW=false:=by simpa using h3
 by_cases h5:xs.length=0
 · rw [if_pos h5] at h;exact absurd (Prod.mk.inj h).2 (by decide)
 rw [if_neg h5] at h;have l1:(xs.length-1)/2<xs.length:=by omega
 have l2:xs.length/2<xs.length:=by omega
 have k1:=sort_ky hW l1;have k2:=sort_ky hW l2;obtain ⟨z1,z2,z3,z4⟩:=mid_between k1.2 k2.2 (sort_nn h3' l1).1 (sort_nn h3' l2).1 (sort_up15 hW (by omega) l2) (by omega) (by omega) h
 have hn:xs.map nrm=xs:=by
  refine (List.map_congr_left fun y hy=>?_).trans (List.map_id xs)
  have:nanW y=false:=by simpa using List.any_eq_false.1 h3' y hy
  unfold nrm;rw [if_neg (by rw [this];decide)];rfl
 have hp:=sort_perm15 xs;rw [hn] at hp;have hl:=sortL_len xs;have at':∀ i,i<xs.length→(sortL xs).getD i 0<18446744073709551616∧nanW ((sortL xs).getD i 0)=false:=fun i hi=>⟨(sort_ky hW hi).2,(sort_nn h3' hi).1⟩
 constructor
 · unfold abC
   rw [←hp.countP_eq]
   have:=count_le (L:=sortL xs) (p:=fun y=>FloatKind.f64.format.order y x==some .gt) ((xs.length-1)/2+1) (fun i h1 h2=>by
    rw [hl] at h2;obtain ⟨a1,a2⟩:=at' i h2
    show (FloatKind.f64.format.order ((sortL xs).getD i 0) x==some .gt)=false
    rw [gt15 a1 z1 (nnan a2) z2,decide_eq_false];have:=sP_of_tk a2 (at' _ l1).2 (sort_up15 hW (show i≤(xs.length-1)/2 by omega) l1)
    omega)
   omega
 · unfold beC
   rw [←hp.countP_eq]
   have:=count_ge (L:=sortL xs) (p:=fun y=>FloatKind.f64.format.order y x==some .lt) (xs.length/2) (fun i h1 h2=>by
    rw [hl] at h2;obtain ⟨a1,a2⟩:=at' i h2
    show (FloatKind.f64.format.order ((sortL xs).getD i 0) x==some .lt)=false
    rw [lt15 a1 z1 (nnan a2) z2,decide_eq_false];have:=sP_of_tk (at' _ l2).2 a2 (sort_up15 hW h1 h2)
    omega)
   omega
end
section
open Go Go.RowKit J
def Hq15 (x k:Nat):Prop:=Hh x (k:Int)∧negW x=false
theorem Hq15.vk {x k:Nat}(h:Hq15 x k) (e:Nat) (he:e=1073):vK (magW x)=k*2^e∧finW x∧x<18446744073709551616:=by
 have hv:=h.1.val;unfold fvW B.sg at hv;rw [h.2] at hv;simp only [Bool.false_eq_true,if_false] at hv;rw [←he] at hv;refine ⟨?_,h.1.2.1,h.1.1⟩;have:((k*2^e:Nat):Int)=(k:Int)*((2^e:Nat):Int):=Int.natCast_mul _ _;omega
theorem Hq15.of {r k:Nat}(e:Nat) (he:e=1073) (hr:vK r=k*2^e) (hl:r<9218868437227405312):Hq15 (wd64 false r) k:=by
 obtain ⟨q1,q2,q3⟩:=magW_wd false r (by omega)
 obtain ⟨k1,k2⟩:=fv_wd false r hl;refine ⟨⟨q3,k1,?_⟩,q2⟩;rw [k2]
 show ((vK r:Nat):Int)*2=(k:Int)*((2^1074:Nat):Int)
 rw [hr,pw1074,←he,Int.natCast_mul,Int.mul_assoc,Int.mul_comm ((2^e:Nat):Int) 2]
theorem rung_of {k:Nat}(hk:k≤9007199254740992) (e:Nat) (he:e=1073):∃ r,vK r=k*2^e∧r<9218868437227405312:=by
 obtain ⟨r,hr⟩:=F_vK (isF_hh (k:Int) (by omega) (by omega))
 rw [Int.natAbs_mul,Int.natAbs_natCast,Int.natAbs_natCast,←he] at hr;refine ⟨r,hr,?_⟩;obtain ⟨x,hx⟩:∃ x,x=floatOfInt .f64 (9007199254740992:Int):=⟨_,rfl⟩;have W:=int_hh 9007199254740992 (by decide) (by decide)
 rw [←hx] at W
 have hp:0<fvW x:=by
  rw [W.val];exact Int.mul_pos (by decide) (by rw [←he];have:=Nat.two_pow_pos e;omega)
 obtain ⟨n0,ev⟩:=fv_pos hp;have V:Hq15 x 18014398509481984:=⟨W,n0⟩;have vx:=V.vk e he
 have:r≤magW x:=by
  rcases Nat.lt_or_ge (magW x) r with c|c
  · have:=vK_lt.2 c
    rw [vx.1,hr] at this;have h2:k*2^e≤18014398509481984*2^e:=Nat.mul_le_mul_right _ (by omega)
    omega
  · exact c
 exact Nat.lt_of_le_of_lt this vx.2.1
theorem add_hp {x y a b:Nat}(hx:Hq15 x a) (hy:Hq15 y b) (h:a+b≤9007199254740992):∃ z,floatBits .add .f64 x y=some z∧Hq15 z (a+b):=by
 obtain ⟨e,he⟩:∃ e,e=1073:=⟨_,rfl⟩;obtain ⟨v1,f1,l1⟩:=hx.vk e he;obtain ⟨v2,f2,l2⟩:=hy.vk e he;obtain ⟨m,i,r1,m1⟩:=read_finW x l1 f1;obtain ⟨n,j,r2,m2⟩:=read_finW y l2 f2;rw [hx.2] at r1;rw [hy.2] at r2;obtain ⟨r,hr,hl⟩:=rung_of h e he;have hb:min (Ieee.double.leastPlace+(i:Int)) (Ieee.double.leastPlace+(j:Int))=Ieee.double.leastPlace+((min i j:Nat):Int):=by omega
 have s:∀ (q:Nat) (p:Nat),Ieee.signed false q p=((q*2^p:Nat):Int):=fun q p=>by unfold Ieee.signed;rw [if_neg (by decide),Nat.shiftLeft_eq]
 have p1:(Ieee.double.leastPlace+(i:Int)-(Ieee.double.leastPlace+((min i j:Nat):Int))).toNat=i-min i j:=by omega
 have p2:(Ieee.double.leastPlace+(j:Int)-(Ieee.double.leastPlace+((min i j:Nat):Int))).toNat=j-min i j:=by omega
 have hs:floatBits .add .f64 x y=some (Ieee.double.nearest false (m*2^(i-min i j)+n*2^(j-min i j)) (Ieee.double.leastPlace+((min i j:Nat):Int))):=by
  show ((Ieee.double.read x).sum (Ieee.double.read y)).map Ieee.double.write=_
  rw [r1,r2];unfold Ieee.Datum.sum;simp only [hb,p1,p2,s];have en:(((m*2^(i-min i j):Nat):Int)+((n*2^(j-min i j):Nat):Int)).natAbs=m*2^(i-min i j)+n*2^(j-min i j):=by omega
  have eb:(if ((m*2^(i-min i j):Nat):Int)+((n*2^(j-min i j):Nat):Int)=0 then (false&&false) else decide (((m*2^(i-min i j):Nat):Int)+((n*2^(j-min i j):Nat):Int)<0))=false:=by
   split
   · rfl
   · exact decide_eq_false (by omega)
  rw [en,eb];rfl
 have hv:(m*2^(i-min i j)+n*2^(j-min i j))*2^(min i j)=vK r:=by
  rw [hr,Nat.add_mul,Nat.add_mul,←v1,←v2,←m1,←m2,Nat.mul_assoc,Nat.mul_assoc,←Nat.pow_add,←Nat.pow_add,show i-min i j+min i j=i by omega,show j-min i j+min i j=j by omega]
 rw [B.nearest_exact Ieee.double false _ _ r (by rw [B.dInf];exact hl) hv,←wd_word] at hs
 exact ⟨_,hs,Hq15.of e he hr hl⟩
theorem big_at {m k j E:Nat}(hk:1≤k) (hb:m<9007199254740992) (h:m*2^j=k*2^E):E≤53+j:=by
 rcases Nat.lt_or_ge (53+j) E with q|q
 · exfalso
   have a1:m*2^j<2^53*2^j:=Nat.mul_lt_mul_of_pos_right hb (Nat.two_pow_pos j);rw [←Nat.pow_add] at a1;have a2:2^(53+j)≤2^E:=Nat.pow_le_pow_right (by decide) (by omega)
   have a3:1*2^E≤k*2^E:=Nat.mul_le_mul_right _ hk;omega
 · exact q
theorem mul_hp {x y a b c:Nat}(hx:Hq15 x a) (hy:Hq15 y b) (ha:1≤a) (hb:1≤b) (hab:a*b=2*c) (h:c≤9007199254740992):∃ z,floatBits .mul .f64 x y=some z∧Hq15 z c:=by
 obtain ⟨e,he⟩:∃ e,e=1073:=⟨_,rfl⟩;obtain ⟨v1,f1,l1⟩:=hx.vk e he;obtain ⟨v2,f2,l2⟩:=hy.vk e he;obtain ⟨m,i,r1,m1,b1⟩:=read_bd x l1 f1;obtain ⟨n,j,r2,m2,b2⟩:=read_bd y l2 f2;rw [hx.2] at r1;rw [hy.2] at r2;have g1:=big_at ha b1 (m1.trans v1);have g2:=big_at hb b2 (m2.trans v2);obtain ⟨r,hr,hl⟩:=rung_of h e he;obtain ⟨d,hd⟩:∃ d:Nat,i+j=d+(e+1):=⟨i+j-1074,by omega⟩
 have ep:(Ieee.double.leastPlace+(i:Nat):Int)+(Ieee.double.leastPlace+(j:Nat))=Ieee.double.leastPlace+((d:Nat):Int):=by
  have:Ieee.double.leastPlace=-1074:=by decide
  omega
 have hs:floatBits .mul .f64 x y=some (Ieee.double.nearest false (m*n) (Ieee.double.leastPlace+((d:Nat):Int))):=by
  show ((Ieee.double.read x).product (Ieee.double.read y)).map Ieee.double.write=_
  rw [r1,r2];unfold Ieee.Datum.product;simp only [ep];rfl
 have hv:m*n*2^d=vK r:=by
  have h1:(m*2^i)*(n*2^j)=(a*2^e)*(b*2^e):=by rw [m1,m2,v1,v2]
  have h2:(m*2^i)*(n*2^j)=(m*n)*2^(i+j):=by rw [Nat.pow_add];generalize 2^i=A;generalize 2^j=C;grind
  have h3:(a*2^e)*(b*2^e)=(c*2^e)*(2*2^e):=by
   generalize 2^e=A;have:(a*A)*(b*A)=(a*b)*(A*A):=by grind
   rw [this,hab];grind
  have h4:2^(i+j)=2^d*(2*2^e):=by rw [hd,Nat.pow_add,Nat.pow_succ,Nat.mul_comm (2^e) 2]
  rw [h2,h4,h3,←Nat.mul_assoc] at h1;rw [hr];exact Nat.eq_of_mul_eq_mul_right (Nat.mul_pos (by decide) (Nat.two_pow_pos e)) h1
 rw [B.nearest_exact Ieee.double false _ _ r (by rw [B.dInf];exact hl) hv,←wd_word] at hs
 exact ⟨_,hs,Hq15.of e he hr hl⟩
theorem sg_pos {x:Nat}{k:Int}(h:Hh x k) (hk:0<k):negW x=false:=by
 have ex:=h.val;have hp:0<k*((2^1073:Nat):Int):=Int.mul_pos hk (by obtain ⟨e,he⟩:∃ e,e=1073:=⟨_,rfl⟩;rw [←he];have:=Nat.two_pow_pos e;omega)
 exact (fv_pos (x:=x) (by omega)).1
theorem int_hp (k:Nat) (h0:1≤k) (h1:k≤4503599627370496):Hq15 (floatOfInt .f64 (k:Int)) (2*k):=by
 have h:=int_hh (k:Int) (by omega) (by omega)
 refine ⟨?_,sg_pos h (by omega)⟩
 rw [show ((2*k:Nat):Int)=2*(k:Int) by omega];exact h
theorem hv_hp (k:Nat) (h0:1≤k) (h1:k≤9007199254740992):Hq15 (hvW (k:Int)) k:=by
 have h:=(hv_run (k:Int) (by omega) (by omega)).2
 exact ⟨h,sg_pos h (by omega)⟩
theorem zero_hp:Hq15 0 0:=by
 refine ⟨⟨by decide,by unfold finW magW;decide,?_⟩,by decide⟩
 rw [show ((0:Nat):Int)=0 from rfl,Int.zero_mul];unfold fvW B.sg
 rw [show magW 0=0 from rfl,show vK 0=0 from B.val_zero _,show negW 0=false from rfl];rfl
theorem Hq15.le {x y a b:Nat}(hx:Hq15 x a) (hy:Hq15 y b):sP15 x≤sP15 y↔a≤b:=by
 obtain ⟨e,he⟩:∃ e,e=1073:=⟨_,rfl⟩;obtain ⟨v1,_⟩:=hx.vk e he;obtain ⟨v2,_⟩:=hy.vk e he;have hp:=Nat.two_pow_pos e;unfold sP15 sK;rw [hx.2,hy.2];simp only [Bool.false_eq_true,if_false]
 constructor
 · intro h
   rcases Nat.lt_or_ge b a with c|c
   · exfalso
     have h1:magW x≤magW y:=by omega
     have:vK (magW x)≤vK (magW y):=by
      rcases Nat.lt_or_eq_of_le h1 with q|q
      · exact Nat.le_of_lt (vK_lt.2 q)
      · rw [q];exact Nat.le_refl _
     rw [v1,v2] at this;have:=Nat.le_of_mul_le_mul_right this hp;omega
   · exact c
 · intro h
   rcases Nat.lt_or_ge (magW y) (magW x) with c|c
   · have:=vK_lt.2 c
     rw [v1,v2] at this;have h2:a*2^e≤b*2^e:=Nat.mul_le_mul_right _ h;omega
   · omega
theorem Hq15.rng {x a:Nat}(hx:Hq15 x a):x<18446744073709551616∧magW x≤9218868437227405312:=⟨hx.1.1,Nat.le_of_lt hx.1.2.1⟩
theorem Hq15.gt {x y a b:Nat}(hx:Hq15 x a) (hy:Hq15 y b) (h:a≤b):(FloatKind.f64.format.order x y==some .gt)=false:=by
 rw [gt15 hx.rng.1 hy.rng.1 hx.rng.2 hy.rng.2,decide_eq_false];have:=(hx.le hy).2 h;omega
theorem eq15 {x y:Nat}(hx:x<18446744073709551616) (hy:y<18446744073709551616) (nx:magW x≤9218868437227405312) (ny:magW y≤9218868437227405312):(FloatKind.f64.format.order x y==some .eq)=decide (sP15 x=sP15 y):=by
 have e:=eq64 (negW x) (negW y) (magW x) (magW y) nx ny;rw [←wd_of x hx,←wd_of y hy] at e;exact e
theorem Hq15.eq {x y a:Nat}(hx:Hq15 x a) (hy:Hq15 y a):(FloatKind.f64.format.order x y==some .eq)=true:=by
 rw [eq15 hx.rng.1 hy.rng.1 hx.rng.2 hy.rng.2,decide_eq_true];have h1:=(hx.le hy).2 (Nat.le_refl _);have h2:=(hy.le hx).2 (Nat.le_refl _);omega
theorem und_bools15:Tryz.prog.underlying 44=some (.slice 4):=by kernel_rfl
theorem info_bool15:(Tryz.prog.info? 4).map (fun i=>(i.zero,i.size,i.bytes))=some (some (.bool false),1,1):=by kernel_rfl
def Ob15 (w:World) (g:Nat) (L:List Bool):Prop:=w.heap[g]?=some (.cells (L.map Value.bool).toArray 4 (0,0))
theorem Ob15.cell {w:World}{g:Nat}{L:List Bool}(h:Ob15 w g L) (i:Nat) (hi:i<L.length):w.cell? ⟨g,i,none⟩=some (.bool (L.getD i false)):=by
 unfold Ob15 at h;simp [World.cell?,h,hi]
theorem Ob15.frozen {w:World}{g:Nat}{L:List Bool}(h:Ob15 w g L) (i:Nat):w.frozen? ⟨g,i,none⟩=false:=by
 unfold Ob15 at h;simp [World.frozen?,h]
theorem Ob15.set {w:World}{g:Nat}{L:List Bool}(h:Ob15 w g L) (i:Nat) (x:Bool):Ob15 (w.setCell ⟨g,i,none⟩ (.bool x)) g (L.set i x):=by
 unfold Ob15 at h ⊢;simp only [World.setCell,Array.getElem?_modify,h];simp [List.map_set]
theorem make_bools (z:Int) (n:Nat) (hz:z=(n:Int)) (hn:n≤17592186044416) (w:World) :
 (Instr.makeSlice 44 (.int .i64 z) (.int .i64 z)).run Tryz.prog w=.ok (.slice (some ⟨w.heap.size,0,none⟩) n n) (w.alloc (.cells (madeCells #[.bool false] n) 4)):=by
 subst hz;exact run_make_row' 44 4 (.bool false) 1 und_bools15 info_bool15 rfl .i64 .i64 n (by omega) (by omega) w
theorem Ob15.made (w:World) (n:Nat):Ob15 (w.alloc (.cells (madeCells #[.bool false] n) 4)) w.heap.size (List.replicate n false):=by
 unfold Ob15;have h1:=heap_alloc_new w (.cells (madeCells #[.bool false] n) 4);rw [h1]
 congr 2
 apply Array.toList_inj.1
 rw [toList_madeCells_one];simp
end
section
open Go Go.RowKit J
theorem two_hp:Hq15 4611686018427387904 4:=by
 have h:=int_hp 2 (by decide) (by decide)
 rw [show floatOfInt .f64 ((2:Nat):Int)=4611686018427387904 by decide +kernel] at h
 exact h
theorem fin15 (n:Nat) (hn:n≤65536):∃ zm zq,floatBits .mul .f64 (floatOfInt .f64 (n:Int)) (floatOfInt .f64 ((n+1:Nat):Int))=some zm∧floatBits .quo .f64 zm 4611686018427387904=some zq∧Hq15 zq (n*(n+1)):=by
 rcases Nat.eq_zero_or_pos n with rfl|h
 · exact ⟨0,0,by decide +kernel,by decide +kernel,zero_hp⟩
 · have hc:n*(n+1)≤65536*65537:=Nat.mul_le_mul hn (by omega)
   have hc1:1*1≤n*(n+1):=Nat.mul_le_mul h (by omega)
   obtain ⟨zm,h1,h2⟩:=mul_hp (int_hp n h (by omega)) (int_hp (n+1) (by omega) (by omega)) (by omega) (by omega) (c:=2*(n*(n+1))) (by grind) (by omega)
   have h3:=int_hp (n*(n+1)) (by omega) (by omega)
   have e:=h2.1.one h3.1 (by omega)
   obtain ⟨r1,r2⟩:=hv_run ((n*(n+1):Nat):Int) (by omega) (by omega)
   refine ⟨zm,_,h1,by rw [e];exact r1,hv_hp _ (by omega) (by omega)⟩
theorem ranks15 {xs:List Nat}{k:Nat}(hk:k<xs.length) (hb:xs.length≤65536):∃ lo mi hi z1 z2,(rkL xs 0).getD k 0=lo∧(rkL xs 2).getD k 0=mi∧(rkL xs 1).getD k 0=hi∧Hq15 mi (twR xs (plI xs k)) ∧
 (FloatKind.f64.format.order lo mi==some .gt)=false∧(FloatKind.f64.format.order mi hi==some .gt)=false∧floatBits .add .f64 lo hi=some z1∧floatBits .mul .f64 4611686018427387904 mi=some z2∧(FloatKind.f64.format.order z1 z2==some .eq)=true:=by
 have hp:=plI_lt hk;obtain ⟨l1,l2,l3,_⟩:=rnR_le hp;have l4:=rn_pos hp
 have e:∀ tie,(rkL xs tie).getD k 0=rkW tie (rnR xs (plI xs k)).1 (rnR xs (plI xs k)).2.1 (rnR xs (plI xs k)).2.2 (plI xs k):=fun tie=>by
  unfold rkL;exact eachL_get _ hk
 have t:twR xs (plI xs k)=2*(rnR xs (plI xs k)).1+(rnR xs (plI xs k)).2.1+1:=rfl;rw [e,e,e,t];generalize (rnR xs (plI xs k)).1=b at *;generalize (rnR xs (plI xs k)).2.1=a at *;generalize (rnR xs (plI xs k)).2.2=u at *;generalize plI xs k=p at *;have e0:rkW 0 b a u p=floatOfInt .f64 ((b+1:Nat):Int):=by unfold rkW;rw [if_pos rfl]
 have e1:rkW 1 b a u p=floatOfInt .f64 ((b+a:Nat):Int):=by unfold rkW;rw [if_neg (by decide),if_pos rfl]
 have e2:rkW 2 b a u p=hvW ((2*b+a+1:Nat):Int):=by unfold rkW;rw [if_neg (by decide),if_neg (by decide),if_pos rfl]
 rw [e0,e1,e2];have H0:=int_hp (b+1) (by omega) (by omega)
 have H1:=int_hp (b+a) (by omega) (by omega)
 have H2:=hv_hp (2*b+a+1) (by omega) (by omega)
 obtain ⟨z1,a1,a2⟩:=add_hp H0 H1 (by omega)
 obtain ⟨z2,m1,m2⟩:=mul_hp two_hp H2 (by omega) (by omega) (c:=2*(2*b+a+1)) (by omega) (by omega)
 rw [show 2*(b+1)+2*(b+a)=2*(2*b+a+1) by omega] at a2
 exact ⟨_,_,_,z1,z2,rfl,rfl,rfl,H2,H0.gt H2 (by omega),H2.gt H1 (by omega),a1,m1,a2.eq m2⟩
theorem count_snoc {L:List Nat}{p:Nat→Bool}{k:Nat}(h:k<L.length):(L.take (k+1)).countP p=(L.take k).countP p+(if p (L.getD k 0) then 1 else 0):=by
 rw [take_snoc15 h,List.countP_append];simp [List.countP_cons]
end
section
open Go Go.RowKit J
attribute [local go_sem] st_float
theorem OwnF.all {w:World}{g:Nat}{L:List Nat}(h:OwnF w g L):Fs w.heap.size w (some ⟨g,0,none⟩) L:=by
 have:=h.fs (B:=w.heap.size) h.lt L.length;rwa [List.take_length] at this
theorem OwnF.but15 {w w':World}{g q:Nat}{L:List Nat}(h:OwnF w g L) (hb:But q w w') (hne:g≠q):OwnF w' g L:=by
 have hl:=h.lt;unfold OwnF at h ⊢;rw [hb.block g hl hne];exact h
theorem OwnI.but15 {w w':World}{g q:Nat}{L:List Nat}(h:OwnI w g L) (hb:But q w w') (hne:g≠q):OwnI w' g L:=by
 have hl:=h.lt;unfold OwnI at h ⊢;rw [hb.block g hl hne];exact h
theorem OwnF.bel15 {w w':World}{g:Nat}{L:List Nat}(h:OwnF w g L) (hb:Below w.heap.size w w'):OwnF w' g L:=h.below hb h.lt
theorem OwnI.bel15 {w w':World}{g:Nat}{L:List Nat}(h:OwnI w g L) (hb:Below w.heap.size w w'):OwnI w' g L:=h.below hb h.lt
theorem ne_self15 (e:Int):((e:Int) != e)=false:=by simp
set_option maxRecDepth 100000 in
theorem walk2_RankOrder (a1:Option Addr) (N1 c1:Nat) (xs:List Nat) (fr mode:Int) (w:World) (hT:Tab w) (hC:CameF w a1 N1 c1 xs) (hm1:N1≤17592186043904) (f0:-9223372036854775808≤fr) (f1:fr≤9223372036854775807) :
 Calls Tryz.prog 6 #[.slice a1 N1 c1,.int .i64 fr,.int .i64 mode] w fun r w'=>r=.returned (.bool true)∧Below w.heap.size w w':=by
 have HL:=hid (awake15 w hT);have hlen:=hC.len;have hW:=hC.wf
 by_cases hbig:65536<N1
 · have d1:decide ((65536:Int)<(N1:Int))=true:=by simp;omega
   clear hC hT hm1 f0 f1 hlen hW hbig;go_enter Tryz.func6,Tryz.ntmps6
   go_wp2_with fail
   refine HL.out.mono ?_;rintro r u ⟨rfl,hb⟩;have HB:=qsd hb;clear hb HL;go_wp2;go_ret;exact ⟨rfl,HB.out⟩
 · have d1:decide ((65536:Int)<(N1:Int))=false:=by simp;omega
   have hn6:N1≤65536:=by omega
   have nn:((N1:Int) != N1)=false:=ne_self15 _;have HX:Aside (∀ u:World,Below w.heap.size w u→Fs u.heap.size u a1 xs∧Tab u):=fun u hu=>⟨(hC.rd.below hu).mono hu.size,hT.belows hu⟩
   have HN:=(qsd (ai hlen (ai hW (ai hn6 (ai f0 f1)))));clear hC hT hm1 f0 f1 hlen hW hbig;go_enter Tryz.func6,Tryz.ntmps6
   go_wp2_with fail
   refine HL.out.mono ?_;rintro r u0 ⟨rfl,hb⟩;have HB:=qsd hb;have C:=hid (Sort15 xs a1 N1 c1 u0 (HX.out _ hb).1 HN.out.1 (by omega) HN.out.2.1)
   clear hb HL
   go_wp2_with fail
   refine C.out.mono ?_;rintro r u1 ⟨rfl,e1,hb⟩;obtain ⟨gs,hgs⟩:∃ g,g=u0.heap.size:=⟨_,rfl⟩;rw [←hgs] at e1 ⊢;have HB1:Aside (Below w.heap.size w u1∧OwnF u1 gs (sortL xs)∧w.heap.size≤gs):=⟨HB.out.trans (hb.mono HB.out.size),e1,by rw [hgs];exact HB.out.size⟩
   clear C HB hb e1 hgs;have C:=hid (Places15 xs a1 N1 c1 u1 (HX.out _ HB1.out.1).1 HN.out.1 (by omega) HN.out.2.1)
   go_wp2_with fail
   refine C.out.mono ?_;rintro r u2 ⟨gp,rfl,e1,hb,hgp⟩;have HB2:Aside (Below w.heap.size w u2∧OwnF u2 gs (sortL xs)∧OwnI u2 gp (eachL xs fun k=>k)∧w.heap.size≤gs∧w.heap.size≤gp):=⟨HB1.out.1.trans (hb.mono HB1.out.1.size),HB1.out.2.1.bel15 hb,e1,HB1.out.2.2,Nat.le_trans HB1.out.1.size hgp⟩
   clear C HB1 hb e1 hgp;have mk:=make_bools N1 N1 rfl (by omega)
   obtain ⟨W,hWd⟩:∃ W,W=u2.alloc (.cells (madeCells #[.bool false] N1) 4):=⟨_,rfl⟩;obtain ⟨gb,hgb⟩:∃ g,g=u2.heap.size:=⟨_,rfl⟩;have ba:Below u2.heap.size u2 W:=by rw [hWd];exact below_alloc _ _
   have ob:Ob15 W gb (snTo xs 0):=by
    rw [hWd,hgb,snTo_zero,←HN.out.1];exact Ob15.made u2 N1
   have HB3:Aside (Below w.heap.size w W∧OwnF W gs (sortL xs)∧OwnI W gp (eachL xs fun k=>k)∧gs≠gb∧gp≠gb∧w.heap.size≤gb∧Ob15 W gb (snTo xs 0)):=by
    obtain ⟨h1,h2,h3,h4,h5⟩:=HB2.out;exact ⟨h1.trans (ba.mono h1.size),h2.bel15 ba,h3.bel15 ba,by have:=h2.lt;omega,by have:=h3.lt;omega,by rw [hgb];exact h1.size,ob⟩
   have HWd:=(qsd (ai hWd hgb));clear HB2 ba ob hWd hgb
   go_upto_region 10 with fail
   rw [←HWd.out.1,←HWd.out.2];clear HWd mk
   have HO:Aside (∀ u:World,But gb W u→OwnF u gs (sortL xs)∧OwnI u gp (eachL xs fun k=>k)∧Below w.heap.size w u):=fun u hu=>by
    obtain ⟨h1,h2,h3,h4,h5,h6,h7⟩:=HB3.out;exact ⟨h2.but15 hu h4,h3.but15 hu h5,But.below h1 hu h1.size h6⟩
   have HA:Aside (Ob15 W gb (snTo xs 0)∧But gb W W):=⟨HB3.out.2.2.2.2.2.2,But.refl _ _⟩;clear HB3;go_wp2
   go_loopg [12] N1 (fun gk iv wr=>∃ i:Nat,gk+i=N1∧iv=.int .i64 (i:Nat)∧Aside (Ob15 wr gb (snTo xs i)∧But gb W wr))
   case atStart=>exact ⟨0,rfl,by first | rfl | simp,HA.out⟩
   case round =>
    clear HA;obtain ⟨i,hgk,rfl,HA⟩:=hrel
    by_cases hk:i<N1
    · have hdk:decide ((i:Int)<(N1:Int))=true:=by simp;omega
      have bk:(i:Int)<(N1:Int):=by omega
      obtain ⟨i1,hi1⟩:∃ x,x=i+1:=⟨_,rfl⟩;have wk:IntKind.i64.wrap ((i:Int)+1)=(i1:Int):=wrapZ (by omega) (by omega)
      obtain ⟨o1,o2,o3⟩:=HO.out _ HA.out.2;obtain ⟨hn,hW,hn6,_,_⟩:=HN.out;have hix:i<xs.length:=by omega
      obtain ⟨p,hp⟩:∃ p,p=plI xs i:=⟨_,rfl⟩;have hpn:p<xs.length:=by rw [hp];exact plI_lt hix
      have cy:=o1.cell i (by rw [sortL_len];exact hix)
      have cp:=o2.cell i (by rw [eachL_len];exact hix)
      rw [eachL_get (fun k=>k) hix,←hp] at cp
      have cb:=HA.out.1.cell p (by rw [snTo_len];exact hpn)
      have zb:=HA.out.1.frozen p;rw [hp,snTo_no hix,←hp] at cb;have cz:=o1.cell p (by rw [sortL_len];exact hpn)
      rw [hp,sort_place hix,←hp] at cz;obtain ⟨b,off,rfl,cl⟩:=(HX.out _ o3).1.at (Below.refl _ _) i hix;have hx:xs.getD i 0<18446744073709551616:=hW _ (getD_mem15 hix)
      have HSet:Aside (∀ m,Ob15 ((wr.drewN m).setCell ⟨gb,p,none⟩ (.bool true)) gb (snTo xs i1)∧But gb W ((wr.drewN m).setCell ⟨gb,p,none⟩ (.bool true))):=fun m=>by
       have q1:Ob15 (wr.drewN m) gb (snTo xs i):=HA.out.1;have q2:But gb W (wr.drewN m):=HA.out.2.drewN m;have:=q1.set p true;rw [hp,snTo_succ hix,←hi1] at this;exact ⟨by rw [hp];exact this,q2.set _ _⟩
      obtain ⟨l,hl⟩:∃ l,l=xs.getD i 0:=⟨_,rfl⟩;rw [←hl] at cl cz hx;obtain ⟨z,hz⟩:∃ z,z=nrm l:=⟨_,rfl⟩;rw [←hz] at cz;have hzl:z<18446744073709551616:=by rw [hz];exact nrm_lt15 hx
      have ezl:nrm z=nrm l:=by rw [hz,nrm_nrm]
      have CS:=hid (fun v:World=>rSame15 hzl hx v)
      rw [decide_eq_true ezl] at CS;have kyi:=sort_ky hW hix;obtain ⟨y,hy⟩:∃ y,y=(sortL xs).getD i 0:=⟨_,rfl⟩;have p1:decide ((p:Int)<0)=false:=by simp
      have p2:decide ((N1:Int)≤(p:Int))=false:=by simp;omega
      have p3:decide (N1≤p)=false:=by simp;omega
      have pn:(p:Int)<(N1:Int):=by omega
      have pn':p<N1:=by omega
      by_cases hi0:i=0
      · have hii:((i:Nat):Int)=0:=by omega
        rw [hi0] at cp cl;rw [Nat.add_zero] at cl;have n0:(0:Int)<(N1:Int):=by omega
        have h1:i1=1:=by omega
        have HK:=(qsd (ai h1 hi0));rw [hii];clear HA hp hpn o1 o2 o3 hn hW hix hx hl hz hzl ezl kyi hy hi1 hn6 cy hdk bk wk hii hi0 h1
        go_wp2_with fail
        go_quiet (first | (go_at_call 28;exact Calls.quiet_of_same (CS.out _)))
        go_wp2
        go_roundg (N1-i1)
        case measure=>have:=HK.out;omega
        case rel=>exact ⟨i1,by have:=HK.out;omega,by rw [HK.out.1];first | rfl | simp,HSet.out _⟩
      · obtain ⟨j,hj⟩:∃ j,j=i-1:=⟨_,rfl⟩
        have cx:=o1.cell j (by rw [sortL_len];omega)
        have kyj:=sort_ky (xs:=xs) (k:=j) hW (by omega)
        have hup:=sort_up15 (xs:=xs) (i:=j) (j:=i) hW (by omega) hix
        obtain ⟨x,hxx⟩:∃ x,x=(sortL xs).getD j 0:=⟨_,rfl⟩;rw [←hxx] at cx kyj hup;rw [←hy] at cy kyi hup;have CO:=hid (fun v:World=>rOrder15 kyj.2 kyi.2 v)
        have hoc:=oc_le hup;obtain ⟨c,hc⟩:∃ c,c=B.oc (tk x) (tk y):=⟨_,rfl⟩;rw [←hc] at CO hoc;have oc0:decide ((0:Int)<c)=false:=by simp;omega
        have i0:decide ((0:Int)<(i:Int))=true:=by simp;omega
        have i0':decide (0<i)=true:=by simp;omega
        have wj:IntKind.i64.wrap ((i:Int)-1)=(j:Int):=wrapZ (by omega) (by omega)
        have jn:(j:Int)<(N1:Int):=by omega
        have HK:=qsd hi1;clear HA hp hpn o1 o2 o3 hn hW hix hx hl hz hzl ezl kyi kyj hup hxx hy hi1 hj hc hoc hn6
        go_wp2_with fail
        go_quiet (first | (go_at_call 28;exact Calls.quiet_of_same (CS.out _)) | (go_at_call 27;exact Calls.quiet_of_same (CO.out _)))
        go_wp2
        go_roundg (N1-i1)
        case measure=>have:=HK.out;omega
        case rel=>exact ⟨i1,by have:=HK.out;omega,by first | rfl | simp,HSet.out _⟩
    · obtain rfl:i=N1:=by omega
      have hdk:decide ((i:Int)<(i:Int))=false:=by simp
      obtain ⟨o1,o2,o3⟩:=HO.out _ HA.out.2;have HB4:Aside (Below w.heap.size w wr∧OwnF wr gs (sortL xs)):=⟨o3,o1⟩;obtain ⟨hn,hW,hn6,f0,f1⟩:=HN.out;have C:=hid (turned15 xs a1 i c1 fr wr f0 f1 (HX.out _ o3).1 hn hn6);clear HA HO o1 o2 o3 hn hW f0 f1 hgk;obtain ⟨wo,hwo⟩:∃ W,W=wr:=⟨_,rfl⟩;rw [←hwo] at C HB4 ⊢;clear hwo
      go_wp2_with fail
      refine C.out.mono ?_;rintro r v1 ⟨⟨q,at',ct,rfl,hF⟩,hb⟩;have HB5:Aside (Below w.heap.size w v1∧OwnF v1 gs (sortL xs)∧Fs v1.heap.size v1 at' (turnL xs q)):=⟨HB4.out.1.trans (hb.mono HB4.out.1.size),HB4.out.2.bel15 hb,hF⟩;have HQ:Aside (i=(turnL xs q).length∧W64 (turnL xs q)∧sortL (turnL xs q)=sortL xs∧medR (turnL xs q) mode=medR xs mode):=⟨by rw [turn_len];exact HN.out.1,fun x hx=>HN.out.2.1 x ((turn_perm15 xs q).mem_iff.1 hx),sort_same HN.out.2.1 (turn_perm15 xs q),med_same HN.out.2.1 (turn_perm15 xs q) mode⟩
      clear C HB4 hb hF;have C:=hid (Sort15 (turnL xs q) at' i ct v1 HB5.out.2.2 HQ.out.1 (by omega) HQ.out.2.1)
      rw [HQ.out.2.2.1] at C
      go_wp2_with fail
      refine C.out.mono ?_;rintro r v2 ⟨rfl,e1,hb⟩;obtain ⟨gt,hgt⟩:∃ g,g=v1.heap.size:=⟨_,rfl⟩;rw [←hgt] at e1 ⊢;have HB6:Aside (Below w.heap.size w v2∧OwnF v2 gs (sortL xs)∧OwnF v2 gt (sortL xs)∧Fs v2.heap.size v2 at' (turnL xs q)):=⟨HB5.out.1.trans (hb.mono HB5.out.1.size),HB5.out.2.1.bel15 hb,e1,(HB5.out.2.2.below hb).mono hb.size⟩;clear C HB5 hb e1 hgt;obtain ⟨mx,hmx⟩:∃ z,z=(medR xs mode).1:=⟨_,rfl⟩;obtain ⟨me,hme⟩:∃ z,z=(medR xs mode).2:=⟨_,rfl⟩;have HM:Aside (medR xs mode=(mx,me)):=qsd (Prod.ext hmx.symm hme.symm);have C:=hid (Median15 xs a1 i c1 mode v2 (HX.out _ HB6.out.1).2 (HX.out _ HB6.out.1).1 HN.out.1 HN.out.2.1);rw [←hmx,←hme] at C
      go_wp2_with fail
      refine C.out.mono ?_;rintro r v3 ⟨rfl,hb⟩;have HB7:Aside (Below w.heap.size w v3∧OwnF v3 gs (sortL xs)∧OwnF v3 gt (sortL xs)∧Fs v3.heap.size v3 at' (turnL xs q)):=⟨HB6.out.1.trans (hb.mono HB6.out.1.size),HB6.out.2.1.bel15 hb,HB6.out.2.2.1.bel15 hb,(HB6.out.2.2.2.below hb).mono hb.size⟩;clear C HB6 hb;have C:=hid (Median15 (turnL xs q) at' i ct mode v3 (HX.out _ HB7.out.1).2 HB7.out.2.2.2 HQ.out.1 HQ.out.2.1);rw [HQ.out.2.2.2,←hmx,←hme] at C;clear hmx hme
      go_wp2_with fail
      refine C.out.mono ?_;rintro r v4 ⟨rfl,hb⟩;have HB8:Aside (Below w.heap.size w v4∧OwnF v4 gs (sortL xs)∧OwnF v4 gt (sortL xs)):=⟨HB7.out.1.trans (hb.mono HB7.out.1.size),HB7.out.2.1.bel15 hb,HB7.out.2.2.1.bel15 hb⟩;clear C HB7 hb;have C:=hid (alikeL15 (sortL xs) (some ⟨gs,0,none⟩) (some ⟨gt,0,none⟩) i i i v4 (by rw [sortL_len];exact HN.out.1) (by omega) HB8.out.2.1.all HB8.out.2.2.all)
      have CA:=hid (fun v:World=>alike15 mx v)
      have nme:(me != me)=false:=ne_self15 _
      go_wp2_with fail
      refine C.out.mono ?_;rintro r v5 ⟨rfl,hb⟩;have HB9:=qsd (HB8.out.1.trans (hb.mono HB8.out.1.size));clear C HB8 hb
      go_wp2_with fail
      refine (CA.out _).mono ?_;rintro r v6 ⟨rfl,hv⟩;rw [hv];clear hv v6 CA nme;have C:=hid (Ranks15 xs a1 i c1 2 v5 (HX.out _ HB9.out).1 HN.out.1 (by omega) HN.out.2.1 (by decide) (by decide))
      go_wp2_with fail
      refine C.out.mono ?_;rintro r x1 ⟨gm,rfl,e1,hb,_⟩;have HBa:Aside (Below w.heap.size w x1∧OwnF x1 gm (rkL xs 2)):=⟨HB9.out.trans (hb.mono HB9.out.size),e1⟩;clear C HB9 hb e1;have C:=hid (Ranks15 xs a1 i c1 0 x1 (HX.out _ HBa.out.1).1 HN.out.1 (by omega) HN.out.2.1 (by decide) (by decide))
      go_wp2_with fail
      refine C.out.mono ?_;rintro r x2 ⟨gl,rfl,e1,hb,_⟩;have HBb:Aside (Below w.heap.size w x2∧OwnF x2 gm (rkL xs 2)∧OwnF x2 gl (rkL xs 0)):=⟨HBa.out.1.trans (hb.mono HBa.out.1.size),HBa.out.2.bel15 hb,e1⟩;clear C HBa hb e1;have C:=hid (Ranks15 xs a1 i c1 1 x2 (HX.out _ HBb.out.1).1 HN.out.1 (by omega) HN.out.2.1 (by decide) (by decide))
      go_wp2_with fail
      refine C.out.mono ?_;rintro r x3 ⟨gh,rfl,e1,hb,_⟩;have HBc:Aside (Below w.heap.size w x3∧OwnF x3 gm (rkL xs 2)∧OwnF x3 gl (rkL xs 0)∧OwnF x3 gh (rkL xs 1)):=⟨HBb.out.1.trans (hb.mono HBb.out.1.size),HBb.out.2.1.bel15 hb,HBb.out.2.2.bel15 hb,e1⟩;clear C HBb hb e1;obtain ⟨n,hni⟩:∃ n,n=i:=⟨_,rfl⟩;go_wp2
      go_loopg [25,26,27,28] i (fun gq sv av bv iv wr=>∃ (k z ab be:Nat),gq+k=i∧iv=.int .i64 (k:Nat)∧sv=.float .f64 z∧av=.int .i64 (ab:Nat)∧bv=.int .i64 (be:Nat)∧Aside (Below x3.heap.size x3 wr∧Hq15 z (smR xs k)∧ab=abC (xs.take k) mx∧be=beC (xs.take k) mx))
      case atStart=>exact ⟨0,0,0,0,by omega,by first | rfl | simp,by first | rfl | simp,by first | rfl | simp,by first | rfl | simp,Below.refl _ _,by simpa [smR] using zero_hp,by simp [abC],by simp [beC]⟩
      case round =>
       obtain ⟨k,z,ab,be,hgq,rfl,rfl,rfl,rfl,HK⟩:=hrel
       by_cases hki:k<i
       · have hdk:decide ((k:Int)<(i:Int))=true:=by simp;omega
         have bk:(k:Int)<(i:Int):=by omega
         obtain ⟨k1,hk1⟩:∃ x,x=k+1:=⟨_,rfl⟩;have wk:IntKind.i64.wrap ((k:Int)+1)=(k1:Int):=wrapZ (by omega) (by omega)
         obtain ⟨hn,hW,hn6,_,_⟩:=HN.out;have hkx:k<xs.length:=by omega
         obtain ⟨kB,kz,ka,kb⟩:=HK.out;obtain ⟨o0,om,ol,oh⟩:=HBc.out;obtain ⟨lo,mi,hi,z1,z2,el,em,eh,Hm,g1,g2,r1,r2,r3⟩:=ranks15 hkx (by omega)
         have cm:=(om.below kB om.lt).cell k (by unfold rkL;rw [eachL_len];exact hkx)
         have cl:=(ol.below kB ol.lt).cell k (by unfold rkL;rw [eachL_len];exact hkx)
         have ch:=(oh.below kB oh.lt).cell k (by unfold rkL;rw [eachL_len];exact hkx)
         rw [em] at cm;rw [el] at cl;rw [eh] at ch;have kBw:Below w.heap.size w wr:=o0.trans (kB.mono o0.size);obtain ⟨b,off,rfl,cy⟩:=(HX.out _ kBw).1.at (Below.refl _ _) k hkx;obtain ⟨y,hy⟩:∃ y,y=xs.getD k 0:=⟨_,rfl⟩;rw [←hy] at cy;have hs1:=smR_succ xs k
         have hs2:smR xs (k+1)≤9007199254740992:=by
          have h1:=smR_le (xs:=xs) (k+1) (by omega)
          have h2:(k+1)*(2*xs.length+1)≤65536*131073:=Nat.mul_le_mul (by omega) (by omega)
          omega
         obtain ⟨z',r4,Hz⟩:=add_hp kz Hm (by omega)
         rw [←hs1,←hk1] at Hz;have d1':=fun V:World=>run_float_arith (P:=Tryz.prog) V .add 40 .f64 lo hi z1 r1
         have d2':=fun V:World=>run_float_arith (P:=Tryz.prog) V .mul 40 .f64 4611686018427387904 mi z2 r2
         have d3':=fun V:World=>run_float_arith (P:=Tryz.prog) V .add 40 .f64 z mi z' r4
         have r3':(FloatKind.f64.format.order z1 z2 != some .eq)=false:=by simp only [bne,r3];rfl
         have qa:abC (xs.take k1) mx=ab+(if (FloatKind.f64.format.order y mx==some .gt)=true then 1 else 0):=by
          rw [hk1];unfold abC at ka ⊢;rw [count_snoc hkx,←ka,←hy]
         have qb:beC (xs.take k1) mx=be+(if (FloatKind.f64.format.order y mx==some .lt)=true then 1 else 0):=by
          rw [hk1];unfold beC at kb ⊢;rw [count_snoc hkx,←kb,←hy]
         have ab_le:ab≤k:=by
          have:=List.countP_le_length (p:=fun v=>FloatKind.f64.format.order v mx==some .gt) (l:=xs.take k)
          rw [List.length_take] at this;unfold abC at ka;omega
         have be_le:be≤k:=by
          have:=List.countP_le_length (p:=fun v=>FloatKind.f64.format.order v mx==some .lt) (l:=xs.take k)
          rw [List.length_take] at this;unfold beC at kb;omega
         obtain ⟨ab1,hab1⟩:∃ x,x=ab+1:=⟨_,rfl⟩;obtain ⟨be1,hbe1⟩:∃ x,x=be+1:=⟨_,rfl⟩;have wab:IntKind.i64.wrap ((ab:Int)+1)=(ab1:Int):=wrapZ (by omega) (by omega)
         have wbe:IntKind.i64.wrap ((be:Int)+1)=(be1:Int):=wrapZ (by omega) (by omega)
         have HD:Aside (∀ m,Below x3.heap.size x3 (wr.drewN m)):=fun m=>⟨kB.os,kB.tape,kB.output,kB.size,kB.block⟩
         have HR:=(qsd (ai Hz (ai qa (ai qb (ai hab1 (ai hbe1 hk1))))));clear hn hW hn6 hkx kB kz ka kb o0 om ol oh el em eh Hm r1 r2 r3 r4 kBw hy hs1 hs2 Hz qa qb ab_le be_le hab1 hbe1 hk1 HK HBc
         cases t1:(FloatKind.f64.format.order y mx==some .gt) <;> cases t2:(FloatKind.f64.format.order y mx==some .lt)
         all_goals
          have T:=(qsd (ai t1 t2))
          go_wp2_with fail
          go_quiet (fail)
          go_wp2
          go_roundg (i-k1)
          case measure=>have:=HR.out.2.2.2.2.2;omega
          case rel =>
           obtain ⟨Hz,qa,qb,hab1,hbe1,hk1⟩:=HR.out;rw [T.out.1] at qa;rw [T.out.2] at qb;simp at qa qb
           first
            | exact ⟨k1,z',ab,be,by omega,by first | rfl | simp,by first | rfl | simp,by first | rfl | simp,by first | rfl | simp,HD.out _,Hz,by omega,by omega⟩
            | exact ⟨k1,z',ab1,be,by omega,by first | rfl | simp,by first | rfl | simp,by first | rfl | simp,by first | rfl | simp,HD.out _,Hz,by omega,by omega⟩
            | exact ⟨k1,z',ab,be1,by omega,by first | rfl | simp,by first | rfl | simp,by first | rfl | simp,by first | rfl | simp,HD.out _,Hz,by omega,by omega⟩
            | exact ⟨k1,z',ab1,be1,by omega,by first | rfl | simp,by first | rfl | simp,by first | rfl | simp,by first | rfl | simp,HD.out _,Hz,by omega,by omega⟩
       · obtain rfl:k=i:=by omega
         have hdk:decide ((k:Int)<(k:Int))=false:=by simp
         obtain ⟨kB,kz,ka,kb⟩:=HK.out;obtain ⟨hn,hW,hn6,_,_⟩:=HN.out;have HE:=qsd (HBc.out.1.trans (kB.mono HBc.out.1.size));have e1:xs.take k=xs:=List.take_of_length_le (by omega)
         rw [e1] at ka kb;rw [show smR xs k=k*(k+1) by rw [hn];exact smR_all xs] at kz
         obtain ⟨zm,zq,r1,r2,r3⟩:=fin15 k hn6;have r4:=kz.eq r3;have d1':=fun V:World=>run_float_arith (P:=Tryz.prog) V .mul 40 .f64 (floatOfInt .f64 (k:Int)) (floatOfInt .f64 ((k+1:Nat):Int)) zm r1
         have d2':=fun V:World=>run_float_arith (P:=Tryz.prog) V .quo 40 .f64 zm 4611686018427387904 zq r2
         obtain ⟨k1,hk1⟩:∃ x,x=k+1:=⟨_,rfl⟩;have wk:IntKind.i64.wrap ((k:Int)+1)=(k1:Int):=wrapZ (by omega) (by omega)
         rw [←hk1] at d1';obtain ⟨fa,hfa⟩:∃ x,x=floatOfInt .f64 (k:Int):=⟨_,rfl⟩;obtain ⟨fb,hfb⟩:∃ x,x=floatOfInt .f64 (k1:Int):=⟨_,rfl⟩
         by_cases hme:me=0
         · have hh:=halves15 hW (x:=mx) (mode:=mode) (by rw [HM.out,hme])
           rw [←ka,←kb] at hh;have n0:(me != 0)=false:=by simp [hme]
           obtain ⟨ab2,hab2⟩:∃ x,x=2*ab:=⟨_,rfl⟩;obtain ⟨be2,hbe2⟩:∃ x,x=2*be:=⟨_,rfl⟩;have wa:IntKind.i64.wrap (2*(ab:Int))=(ab2:Int):=wrapZ (by omega) (by omega)
           have wb:IntKind.i64.wrap (2*(be:Int))=(be2:Int):=wrapZ (by omega) (by omega)
           have l1:decide ((ab2:Int)≤(k:Int))=true:=by simp;omega
           have l2:decide ((be2:Int)≤(k:Int))=true:=by simp;omega
           have l1':ab2≤k:=by omega
           have l2':be2≤k:=by omega
           clear kB kz ka kb hn hW hn6 e1 r1 r2 r3 hk1 hfa hfb hh hab2 hbe2 HK HBc HM hme;go_wp2;go_ret;exact ⟨rfl,HE.out⟩
         · have n0:(me != 0)=true:=by simp [hme]
           clear kB kz ka kb hn hW hn6 e1 r1 r2 r3 hk1 hfa hfb HK HBc HM hme;go_wp2;go_ret;exact ⟨rfl,HE.out⟩
end
end Go.Proofs.YtihjfhpoiheomaaGreatDoor
