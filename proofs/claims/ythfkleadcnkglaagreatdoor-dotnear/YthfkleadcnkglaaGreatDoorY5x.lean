import Derived.Test.YthfkleadcnkglaaGreatDoorX10x
import Derived.Test.YthfkleadcnkglaaGreatDoorZ9x
import Derived.Test.YthfkleadcnkglaaGreatDoorD21x
import Derived.Test.YthfkleadcnkglaaGreatDoorD16x
import Derived.Test.YthfkleadcnkglaaGreatDoorD32cx
import Derived.Test.YthfkleadcnkglaaGreatDoorD14x
import Derived.BigQuiet
import Derived.Deep.Cut
import Derived.Test.YthfkleadcnkglaaGreatDoorW44x
import Derived.Deep.RegionWith
import Derived.Deep.RegionHeld3
import Derived.Deep.CutRange
import Derived.Test.YthfkleadcnkglaaGreatDoorS5x
import Derived.Test.YthfkleadcnkglaaGreatDoorD39x
import Derived.Test.YthfkleadcnkglaaGreatDoorD30x
import Derived.Test.YthfkleadcnkglaaGreatDoorM1x
import Derived.Test.YthfkleadcnkglaaGreatDoorW13x
import Derived.Deep.LoopGhost
import Derived.Test.YthfkleadcnkglaaGreatDoorP2x
import Derived.OwnWalk
import Derived.ArgAppend
import Derived.Maps.AppendAt
import Derived.WalkMore
import Derived.ProofKit
import Derived.OpenShut
import Derived.ChangeOld
import Derived.ChangeArms
import Derived.SizedLaws
import Derived.Laws.Cover2
set_option linter.unusedVariables false
set_option linter.unusedSimpArgs false
set_option maxHeartbeats 16000000
set_option maxRecDepth 20000
namespace Go.Proofs.YthfkleadcnkglaaGreatDoor
namespace J
end J
section
open Go.RowKit J
def qV (l:List Nat):Int:=l.foldl (fun v x=>v+fvW x*fvW x) 0
theorem qV_take (l:List Nat) (k:Nat) (h:k<l.length):qV (l.take (k+1))=qV (l.take k)+fvW (l.getD k 0)*fvW (l.getD k 0):=by
 rw [take_snoc10 l k h];simp [qV,List.foldl_append]
theorem dI_self:∀ xs:List Nat,dI xs xs=nI xs
 | []=>rfl
 | x::xs=>by
   have:=dI_self xs;unfold dI nI at this ⊢;rw [List.zipWith_cons_cons,List.map_cons,this]
theorem qV_fold:∀ (l:List Nat) (v:Int),l.foldl (fun v x=>v+fvW x*fvW x) v=v+qV l
 | [],v=>by simp [qV]
 | x::l,v=>by
   unfold qV;rw [List.foldl_cons,List.foldl_cons,qV_fold l (v+_),qV_fold l (0+_)];omega
theorem qV_cons (x:Nat) (l:List Nat):qV (x::l)=fvW x*fvW x+qV l:=by
 have:=qV_fold l (0+fvW x*fvW x);unfold qV at this ⊢;rw [List.foldl_cons,this];omega
theorem sq_nonneg (x:Int):0≤x*x:=by
 rcases Int.le_total 0 x with h|h
 · exact Int.mul_nonneg h h
 · exact Int.mul_nonneg_of_nonpos_of_nonpos h h
theorem qV_nonneg:∀ l:List Nat,0≤qV l
 | []=>by simp [qV]
 | x::l=>by
   rw [qV_cons];have:=sq_nonneg (fvW x);have:=qV_nonneg l;omega
theorem nI_fin:∀ {xs:List Nat},W64 xs→(∀ x ∈ xs,finW x)→vI (nI xs)=qV xs∧cI 1 (nI xs)=0∧cI 2 (nI xs)=0∧cI 3 (nI xs)=0
 | [],_,_=>by simp [nI,cI,vI,qV]
 | x::xs,h,hf=>by
   obtain ⟨h1,h2,h3,h4⟩:=nI_fin (xs:=xs) (fun z hz=>h z (List.mem_cons_of_mem _ hz)) (fun z hz=>hf z (List.mem_cons_of_mem _ hz))
   have hx:=h x List.mem_cons_self;have fx:=hf x List.mem_cons_self;obtain ⟨c1,c2⟩:=pT_mul hx hx fx fx;have e2:nI (x::xs)=[(pK x x,pT x x)]++nI xs:=rfl;rw [e2,vI_append,cI_append,cI_append,cI_append,h1,h2,h3,h4,qV_cons,←c1];refine ⟨by simp [vI],?_⟩
   unfold cI
   rcases c2 with h|h|h <;> simp [List.countP_cons,h]
theorem HBtwo:∃ k:Nat,k=4238∧HB=2^k:=⟨4238,rfl,HB_two 4238 rfl⟩
theorem qV_bd {xs:List Nat}(hW:W64 xs) (hf:∀ x ∈ xs,finW x) (hl:xs.length≤65536):∃ k:Nat,k=4238∧(qV xs).natAbs<2^k:=by
 obtain ⟨k,hk,e⟩:=HBtwo;refine ⟨k,hk,?_⟩;rw [←e,←(nI_fin hW hf).1];have h1:=vI_bd _ (nI_ip hW);have h2:(nI xs).length=xs.length:=by unfold nI;simp
 rw [h2] at h1;have h3:xs.length*QB≤65536*QB:=Nat.mul_le_mul_right _ hl;have h4:=QB_HB;have h5:=QB_pos;omega
theorem ex_parts {V:Int}(hV:0<V) (k:Nat) (hk:k≤90000) (hb:V.natAbs<2^k):∃ X e,exV V=some (false,X,e)∧X%2=1∧-2148≤e∧e≤100000∧X*2^(e+2148).toNat=V.toNat∧bl X≤262144∧Frm false X e:=by
 obtain ⟨n,X,e,ho,F,hx⟩:=ex_iv V k (by omega) hb
 have hm:mkS (decide (V<0)) V.natAbs (-2148)=some (n,X,e):=ho;have hz:=zv_mkS hm (-2148) (.inr (by omega))
 unfold zv at hz;simp only at hz;rw [show ((-2148:Int) - -2148).toNat=0 by decide,Nat.pow_zero,Nat.mul_one,decide_eq_false (by omega),show sg1 false=1 from rfl,Int.one_mul] at hz
 have hX0:X≠0:=by
  rintro rfl;simp at hz;omega
 have hn:n=false:=by
  cases n with
  | false=>rfl
  | true =>
    unfold sg1 at hz;simp only [if_true] at hz;have:(0:Int)≤((X*2^(e - -2148).toNat:Nat):Int):=Int.natCast_nonneg _;omega
 subst hn;rw [show sg1 false=1 from rfl,Int.one_mul] at hz
 rcases hx with h|⟨h1,h2⟩
 · exact absurd h hX0
 · refine ⟨X,e,ho,?_,h1,by omega,?_,by omega,F⟩
   · rcases F.odd with q | q
     · exact q
     · exact absurd q.1 hX0
   · rw [show (e+2148).toNat=(e - -2148).toNat by congr 1]
     omega
theorem norm_lies {V:Int}(hV:0≤V) (k:Nat) (hk:k≤90000) (hb:V.natAbs<2^k):∃ K t m,LiesG vK 9218868437227405312 2 K t m V.toNat 1∧∀ mode:Int,0≤mode→mode≤4→sq12 V mode=(rK mode false K t m,0):=by
 by_cases h0:V=0
 · subst h0
   refine ⟨0,true,0,⟨by decide,by decide,fun _=>by rw [vK_zero];rfl,fun h=>(by cases h),fun h=>(by cases h),fun h=>(by cases h)⟩,fun mode hm0 hm4=>?_⟩
   unfold sq12;rw [ex_zero]
   show sqrR rndS ⟨false,.bool false,0,0,false,.bool false,1,0⟩ mode=_
   unfold sqrR;rw [if_neg (by omega),if_pos (by rw [errL_one];show errN 0 false 0 1 false 0=0;unfold errN;rw [if_neg (by decide),mk_one,mkS_zero];decide),mkS_zero,mk_one]
   show (if false=true then ((0,110):Nat×Int) else rndS (sqZ 0 0 1 0) mode)=_
   rw [if_neg (by decide),sqZ_nought 0 1 0 (by decide) (by decide),rndS_form mode false 0 0 hm0 hm4]
   rfl
 · obtain ⟨X,e,ho,hX,he0,he1,hv,hbl,F⟩:=ex_parts (V:=V) (by omega) k hk hb
   obtain ⟨K,t,m,hL,hR⟩:=sqr64 X e 1 0 hX (by decide) hbl (by decide)
   have e1:rV11 X e 0 1074 2=V.toNat:=by
    unfold rV11;rw [←hv]
    congr 2
    omega
   have e2:rS11 1 e 0 1074 2=1:=by
    unfold rS11;rw [show (-(e-0+((2*1074:Nat):Int))).toNat=0 by omega]
   rw [e1,e2] at hL;refine ⟨K,t,m,hL,fun mode hm0 hm4=>?_⟩
   have hm:mkS false X e=some (false,X,e):=mkS_idem F;unfold sq12;rw [ho]
   show sqrR rndS ⟨false,.bool false,X,e,false,.bool false,1,0⟩ mode=_
   unfold sqrR;rw [if_neg (by omega),if_pos (by rw [errL_one];show errN X false e 1 false 0=0;unfold errN;rw [if_neg (by decide),mk_one,hm];rfl),hm,mk_one]
   show (if false=true then ((0,110):Nat×Int) else rndS (sqZ X e 1 0) mode)=_
   rw [if_neg (by decide)]
   exact hR mode hm0 hm4
theorem dot_lies {V:Int}(hV:0<V) (k:Nat) (hk:k≤90000) (hb:V.natAbs<2^k):∃ K t m S,(∀ j,j=1074→S=2^j)∧LiesG vK 9218868437227405312 1 K t m V.toNat S∧∀ mode:Int,0≤mode→mode≤4→rndS (exV V) mode=(rK mode false K t m,0):=by
 obtain ⟨X,e,ho,hX,he0,he1,hv,hbl,F⟩:=ex_parts (V:=V) hV k hk hb;have hL:=liesG64 (lies X e hX (by omega) (by omega) (-2148) he0 (by omega))
 rw [show (e - -2148).toNat=(e+2148).toNat by congr 1,hv] at hL
 refine ⟨_,_,_,_,fun j hj=>?_,hL,fun mode hm0 hm4=>?_⟩
 · rw [hj,show ((-1074:Int) - -2148).toNat=1074 from by decide]
 · rw [ho,rndS_form mode false X e hm0 hm4]
   have hX0:X≠0:=by omega
   unfold rS rW wd64;rw [if_neg hX0,if_neg hX0,rndK_eq];simp
theorem rK_down (K:Nat) (t:Bool) (m:Int):rK 3 false K t m=K:=by unfold rK outS;cases t <;> simp
theorem rK_zero (K:Nat) (t:Bool) (m:Int):rK 1 false K t m=K:=by unfold rK outS;cases t <;> simp
theorem rK_up (K:Nat) (t:Bool) (m:Int):rK 2 false K t m=if t then K else K+1:=by unfold rK outS;cases t <;> simp
theorem rK_even (K:Nat) (t:Bool) (m:Int):rK 0 false K t m=K∨rK 0 false K t m=(if t then K else K+1):=by
 unfold rK
 cases t
 · simp only [Bool.false_eq_true,if_false]
   split
   · exact .inr rfl
   · exact .inl rfl
 · exact .inl rfl
theorem lies_sides {n K:Nat}{t:Bool}{m:Int}{V S:Nat}(h:LiesG vK 9218868437227405312 n K t m V S):vK K^n*S≤V∧((if t then K else K+1)<9218868437227405312→V≤vK (if t then K else K+1)^n*S):=by
 cases t with
 | true =>
   have:=h.one rfl;simp only [if_true];exact ⟨by omega,fun _=>by omega⟩
 | false =>
   have h1:=h.low rfl;simp only [Bool.false_eq_true,if_false];refine ⟨by omega,fun hu=>?_⟩
   rcases h.high rfl with q|⟨q,_⟩
   · omega
   · omega
theorem order_nanL (x y:Nat) (h:9218868437227405312<magW x) (o:Ordering):(FloatKind.f64.format.order x y==some o)=false:=by
 obtain ⟨s,t,hr⟩:=read_nanW x h
 show ((Ieee.double.read x).order (Ieee.double.read y)==some o)=false
 rw [hr];rfl
theorem none_between (z:Nat) (hz:z<18446744073709551616) (s1 s2:Bool) (K1 K2:Nat) (h1:K1≤9218868437227405312) (h2:K2≤9218868437227405312) (h:sK s2 K2≤sK s1 K1+1) :
 (FloatKind.f64.format.order z (wd64 s1 K1)==some .gt)=false∨((FloatKind.f64.format.order z (wd64 s1 K1)==some .gt)=true∧(FloatKind.f64.format.order z (wd64 s2 K2)==some .lt)=false):=by
 by_cases hn:9218868437227405312<magW z
 · exact .inl (order_nanL _ _ hn _)
 · rw [wd_of z hz,gt64 _ _ _ _ (by omega) h1,lt64 _ _ _ _ (by omega) h2]
   by_cases hg:sK s1 K1<sK (negW z) (magW z)
   · exact .inr ⟨decide_eq_true hg,decide_eq_false (by omega)⟩
   · exact .inl (decide_eq_false hg)
end
section
open Go.RowKit
theorem rof8 (x:Nat) (hx:Wd x∧finW x) (w:World) :
 Calls Tryz.prog 25 #[.float .f64 x] w fun r w'=>(∃ v,r=.returned (.tuple #[.agg #[.bool (dN (fo8 (fvW x))),v,.int .i64 (dE (fo8 (fvW x)))],.int .i64 0])∧Nt w.heap.size w' v (dX (fo8 (fvW x))))∧Below w.heap.size w w':=by
 obtain ⟨h1,h2,h3,_⟩:=wd64_bw (negW x) (magW x) (Nat.le_of_lt hx.2);have:=rOf3_any (negW x) (magW x/4503599627370496) (magW x%4503599627370496) h2 h3 w;rw [←h1,←wd_of x hx.1] at this;refine this.mono ?_;rintro r w' ⟨⟨v,rfl,hN⟩,hb⟩;have e:=of_fo8 hx.1 hx.2;unfold ofK at e;rw [e] at hN ⊢;have he:ofE (magW x/4503599627370496)=0:=by unfold ofE;rw [if_neg (by have:=hx.2;omega)]
 rw [he];exact ⟨⟨v,rfl,hN⟩,hb⟩
section
attribute [local go_sem] B.f64bits B.f64frombits
end
end
section
open Go.RowKit J
theorem Fm.two {o:Option (Bool×Nat×Int)}(h:Fm o):(ws (dX o)).length≤2000000:=Nat.le_trans h.len (by decide)
theorem rmul12 {U:World}{a b:Option Addr}{c d:Nat}{o p q:Option (Bool×Nat×Int)}(F:Fm o) (G:Fm p) (N1:Nt 0 U (.slice a (ws (dX o)).length c) (dX o)) (N2:Nt 0 U (.slice b (ws (dX p)).length d) (dX p)) (h:mulD o p=q) (H:Fm q) :
 Calls Tryz.prog 26 #[.agg #[.bool (dN o),.slice a (ws (dX o)).length c,.int .i64 (dE o)],.agg #[.bool (dN p),.slice b (ws (dX p)).length d,.int .i64 (dE p)]] U fun r w'=>(∃ v,r=.returned (.tuple #[.agg #[.bool (dN q),v,.int .i64 (dE q)],.int .i64 0])∧Nt U.heap.size w' v (dX q))∧Below U.heap.size U w':=by
 have:=rMul_any3 (F.a12 N1) (G.a12 N2) F.two G.two (dN o) (dN p) (dE o) (dE p) F.rng.1 F.rng.2 G.rng.1 G.rng.2;rw [val_ws,val_ws,F.re,G.re,h] at this;unfold DAns at this;rw [H.er] at this;exact this
theorem radd12 {U:World}{a b:Option Addr}{c d:Nat}{o p q:Option (Bool×Nat×Int)}(F:Fm o) (G:Fm p) (N1:Nt 0 U (.slice a (ws (dX o)).length c) (dX o)) (N2:Nt 0 U (.slice b (ws (dX p)).length d) (dX p)) (h:addD o p=q) (H:Fm q) :
 Calls Tryz.prog 27 #[.agg #[.bool (dN o),.slice a (ws (dX o)).length c,.int .i64 (dE o)],.agg #[.bool (dN p),.slice b (ws (dX p)).length d,.int .i64 (dE p)]] U fun r w'=>(∃ v,r=.returned (.tuple #[.agg #[.bool (dN q),v,.int .i64 (dE q)],.int .i64 0])∧Nt U.heap.size w' v (dX q))∧Below U.heap.size U w':=by
 have:=rAdd_any3 (F.a12 N1) (G.a12 N2) F.two G.two (dN o) (dN p) (dE o) (dE p) F.rng.1 F.rng.2 G.rng.1 G.rng.2;rw [val_ws,val_ws,F.re,G.re,h] at this;unfold DAns at this;rw [H.er] at this;exact this
theorem rcmp12 {U:World}{a b:Option Addr}{c d:Nat}{o p:Option (Bool×Nat×Int)}(F:Fm o) (G:Fm p) (N1:Nt 0 U (.slice a (ws (dX o)).length c) (dX o)) (N2:Nt 0 U (.slice b (ws (dX p)).length d) (dX p)) (z:Int) (hz:cmpZ (valO o) (valO p)=z) :
 Calls Tryz.prog 29 #[.agg #[.bool (dN o),.slice a (ws (dX o)).length c,.int .i64 (dE o)],.agg #[.bool (dN p),.slice b (ws (dX p)).length d,.int .i64 (dE p)]] U fun r w'=>r=.returned (.int .i64 z)∧Below U.heap.size U w':=by
 have:=rCmp_any3 (F.a12 N1) (G.a12 N2) F.two G.two (dN o) (dN p) (dE o) (dE p) F.rng.1 F.rng.2 G.rng.1 G.rng.2;rw [val_ws,val_ws,cmp_fv (by decide) F.val G.val,hz] at this
 exact this
theorem rof12 (x:Nat) (hx:x<18446744073709551616) (fx:finW x) (w:World) :
 Calls Tryz.prog 25 #[.float .f64 x] w fun r w'=>(∃ v,r=.returned (.tuple #[.agg #[.bool (dN (oW x)),v,.int .i64 (dE (oW x))],.int .i64 0])∧Nt w.heap.size w' v (dX (oW x)))∧Below w.heap.size w w':=rof8 x ⟨hx,fx⟩ w
theorem rof12_odd (x:Nat) (hx:x<18446744073709551616) (fx:¬ finW x) (w:World) :
 Calls Tryz.prog 25 #[.float .f64 x] w fun r w'=>(∃ a c,r=.returned (.tuple #[.agg #[.bool false,.slice a 0 c,.int .i64 0],.int .i64 30])∧Nt w.heap.size w' (.slice a 0 c) 0)∧Below w.heap.size w w':=by
 have e:B.bw (negW x) (magW x/4503599627370496) (magW x%4503599627370496)=x:=by
  have h1:magW x=x%9223372036854775808:=rfl;unfold B.bw
  by_cases h:9223372036854775808≤x
  · rw [show negW x=true from decide_eq_true h];simp only [Bool.toNat_true];omega
  · rw [show negW x=false from decide_eq_false h];simp only [Bool.toNat_false];omega
 have hm:magW x<9223372036854775808:=Nat.mod_lt _ (by decide)
 have hm2:¬ magW x<9218868437227405312:=fx;have:=rOf3_any (negW x) (magW x/4503599627370496) (magW x%4503599627370496) (by omega) (by omega) w
 rw [e] at this;refine this.mono ?_;rintro r w' ⟨⟨v,rfl,hN⟩,hb⟩;have e1:ofR (negW x) (magW x/4503599627370496) (magW x%4503599627370496)=none:=by unfold ofR;rw [if_pos (by omega)]
 have e2:ofE (magW x/4503599627370496)=30:=by unfold ofE;rw [if_pos (by omega)]
 rw [e1] at hN ⊢;rw [e2];obtain ⟨a,c,rfl,_⟩:=hN.arg (by show (ws 0).length≤_;rw [ws_zero];decide)
 rw [show (ws (dX (none:Option (Bool×Nat×Int)))).length=0 by simp [dX,ws_zero]] at hN ⊢
 exact ⟨⟨a,c,rfl,hN⟩,hb⟩
theorem squared12 (x:Nat) (V:Int) (a:Option Addr) (c:Nat) (w:World) (hx:x<18446744073709551616) (fx:finW x) (F:Fm (exV V)) (N:Nt 0 w (.slice a (ws (dX (exV V))).length c) (dX (exV V))) (z:Int) (hz:cmpZ (fvW x*fvW x) V=z) :
 Calls Tryz.prog 28 #[.float .f64 x,.agg #[.bool (dN (exV V)),.slice a (ws (dX (exV V))).length c,.int .i64 (dE (exV V))]] w fun r w'=>r=.returned (.int .i64 z)∧Below w.heap.size w w':=by
 have HO:=hid (fun u:World=>rof12 x hx fx u)
 obtain ⟨ox,hox⟩:∃ o,o=oW x:=⟨_,rfl⟩;obtain ⟨ov,hov⟩:∃ o,o=exV V:=⟨_,rfl⟩;obtain ⟨oq,hoq⟩:∃ o,o=exV (fvW x*fvW x):=⟨_,rfl⟩;obtain ⟨m,hm⟩:∃ m,m=4196:=⟨_,rfl⟩;have FQ:Fm oq:=by rw [hoq];exact ex_fm _ m (by omega) (top_sq hx fx hx fx m hm)
 have FX:Fm ox:=by rw [hox];exact oW_fm x hx fx
 have em:mulD ox ox=oq:=by rw [hox,hoq];exact mul_ex hx fx hx fx
 have ez:cmpZ (valO oq) (valO ov)=z:=by
  have q:=FQ;have f:=F;rw [hoq] at q ⊢;rw [hov,val_ex q,val_ex f,cmpZ_scale11 _ _ _ (by have:=X_pos;omega)]
  exact hz
 rw [←hov] at F N ⊢;rw [←hox] at HO;obtain ⟨W,hW⟩:∃ W,W=w.alloc (Obj.cells #[.bool (dN ov),.slice a (ws (dX ov)).length c,.int .i64 (dE ov)] 47):=⟨_,rfl⟩;have H0:Aside (Lo W w.heap.size ov∧Below w.heap.size w W):=by rw [hW];exact ⟨Lo.new N,below_alloc _ _⟩
 have PP:=qsd (ai FX (ai FQ (ai F (ai em ez))));clear hox hov hoq FQ FX em ez F N hz;go_enter Tryz.func28,Tryz.ntmps28
 go_wp2_with fail
 rw [←hW];clear hW;refine (HO.out W).mono ?_;rintro r u ⟨⟨v,rfl,hN⟩,hb⟩;obtain ⟨a1,c1,rfl,hN0⟩:=Lo.shape PP.out.1 hN;obtain ⟨U,hU⟩:∃ U,U=u.alloc (Obj.cells #[.bool (dN ox),.slice a1 (ws (dX ox)).length c1,.int .i64 (dE ox)] 47):=⟨_,rfl⟩
 have H1:Aside (Lo U w.heap.size ov∧Lo U u.heap.size ox∧Below w.heap.size w U):=by
  rw [hU];exact ⟨(H0.out.1.below hb).alloc12 _,Lo.new hN0,(H0.out.2.trans (hb.mono H0.out.2.size)).trans ((below_alloc _ _).mono (Nat.le_trans H0.out.2.size hb.size))⟩
 have HU:=qsd hU;clear hU hN hN0 hb HO H0
 go_upto_region 2 with fail
 rw [←HU.out];clear HU;obtain ⟨p0,q0,D0,M0⟩:=H1.out.2.1;obtain ⟨x0,x1,x2,xf0,xf1,xf2⟩:=D0.facts;have HM:=hid (rmul12 PP.out.1 PP.out.1 M0 M0 PP.out.2.2.2.1 PP.out.2.1);clear D0 M0
 go_wp2_with fail
 refine HM.out.mono ?_;rintro r u2 ⟨⟨v,rfl,hN⟩,hb⟩;obtain ⟨a2,c2,rfl,hN0⟩:=Lo.shape PP.out.2.1 hN;obtain ⟨U2,hU2⟩:∃ U2,U2=u2.alloc (Obj.cells #[.bool (dN oq),.slice a2 (ws (dX oq)).length c2,.int .i64 (dE oq)] 47):=⟨_,rfl⟩
 have H2:Aside (Lo U2 w.heap.size ov∧Lo U2 u2.heap.size oq∧Below w.heap.size w U2):=by
  rw [hU2];exact ⟨(H1.out.1.below hb).alloc12 _,Lo.new hN0,(H1.out.2.2.trans (hb.mono H1.out.2.2.size)).trans ((below_alloc _ _).mono (Nat.le_trans H1.out.2.2.size hb.size))⟩
 have HU:=qsd hU2;clear hU2 hN hN0 hb H1 HM x0 x1 x2 xf0 xf1 xf2
 go_upto_region 3 with fail
 rw [←HU.out];clear HU;obtain ⟨p0,q0,D0,M0⟩:=H2.out.1;obtain ⟨p1,q1,D1,M1⟩:=H2.out.2.1;obtain ⟨x0,x1,x2,xf0,xf1,xf2⟩:=D0.facts;obtain ⟨y0,y1,y2,yf0,yf1,yf2⟩:=D1.facts;have HC:=hid (rcmp12 PP.out.2.1 PP.out.2.2.1 M1 M0 z PP.out.2.2.2.2);clear D0 M0 D1 M1
 go_wp2_with fail
 refine HC.out.mono ?_;rintro r u3 ⟨rfl,hb⟩;have B3:=qsd (H2.out.2.2.trans (hb.mono H2.out.2.2.size));clear hb H2 HC x0 x1 x2 xf0 xf1 xf2 y0 y1 y2 yf0 yf1 yf2;go_wp2;go_ret;exact ⟨rfl,B3.out⟩
end
section
open Go.RowKit J
theorem cmp_le {x y:Int}(h:x≤y):cmpZ x y=-1∨cmpZ x y=0:=by
 unfold cmpZ
 split
 · exact .inl rfl
 · rw [if_neg (by omega)];exact .inr rfl
theorem cmp_ge {x y:Int}(h:y≤x):cmpZ x y=0∨cmpZ x y=1:=by
 unfold cmpZ;rw [if_neg (by omega)]
 split
 · exact .inr rfl
 · exact .inl rfl
theorem neg_low {K:Nat}(h:K<9223372036854775808):negW K=false∧magW K=K:=⟨decide_eq_false (by omega),Nat.mod_eq_of_lt h⟩
theorem fv_low {K:Nat}(h:K<9218868437227405312):fvW K=(vK K:Int):=by
 unfold fvW;obtain ⟨h1,h2⟩:=neg_low (K:=K) (by omega)
 rw [h1,h2];rfl
theorem nI_spec {xs:List Nat}(hW:W64 xs) (hf:∀ x ∈ xs,finW x):(sI (nI xs)).n=0∧(sI (nI xs)).u=0∧(sI (nI xs)).d=0:=by
 obtain ⟨h1,h2,h3,h4⟩:=nI_fin hW hf;obtain ⟨k1,k2,k3⟩:=sI_nud (nI xs);exact ⟨by omega,by omega,by omega⟩
theorem rf_in {mode:Int}{n:Nat}(h0:0≤mode) (h1:mode≤4) (hn:n≤65536):rf12 mode n n=0:=by
 unfold rf12 md;simp;omega
theorem norm_facts {xs:List Nat}(hW:W64 xs) (hf:∀ x ∈ xs,finW x) (hl:xs.length≤2000):∃ D U E:Nat,normR xs 3=(D,0)∧normR xs 2=(U,0)∧normR xs 1=(D,0)∧normR xs 0=(E,0)∧(E=D∨E=U)∧D<9218868437227405312∧U≤9218868437227405312∧U≤D+1∧(cmpZ (fvW D*fvW D) (qV xs)=-1∨cmpZ (fvW D*fvW D) (qV xs)=0)∧(U<9218868437227405312→(cmpZ (fvW U*fvW U) (qV xs)=0∨cmpZ (fvW U*fvW U) (qV xs)=1)):=by
 obtain ⟨k,hk,hb⟩:=qV_bd hW hf (by omega)
 have h0:=qV_nonneg xs;obtain ⟨K,t,m,hL,hR⟩:=norm_lies h0 k (by omega) hb
 obtain ⟨s1,s2,s3⟩:=nI_spec hW hf
 have key:∀ mode:Int,0≤mode→mode≤4→normR xs mode=(rK mode false K t m,0):=fun mode m0 m1=>by
  unfold normR;rw [if_pos (rf_in m0 m1 (by omega)),len_fin s1 s2 s3,(nI_fin hW hf).1]
  exact hR mode m0 m1
 have hK:=hL.fin;obtain ⟨l1,l2⟩:=lies_sides hL;refine ⟨K,if t then K else K+1,rK 0 false K t m,?_,?_,?_,key 0 (by decide) (by decide),rK_even K t m,hK,by split <;> omega,by split <;> omega,?_,fun hu=>?_⟩
 · rw [key 3 (by decide) (by decide),rK_down]
 · rw [key 2 (by decide) (by decide),rK_up]
 · rw [key 1 (by decide) (by decide),rK_zero]
 · refine cmp_le ?_
   rw [fv_low hK,←Int.natCast_mul];rw [Nat.pow_two,Nat.mul_one] at l1;omega
 · refine cmp_ge ?_
   have l2:=l2 hu;generalize (if t=true then K else K+1)=U at hu l2
   rw [fv_low hu,←Int.natCast_mul];rw [Nat.pow_two,Nat.mul_one] at l2;omega
theorem YX (k:Nat) (hk:k=1074):YY=2^k*XX:=by
 rw [Y_eq,X_eq,←Nat.pow_add,show k+EX=EY by rw [hk];decide]
theorem rd_zero {s:Sp}{mode:Int}(h1:s.n=0) (h2:s.u=0) (h3:s.d=0):rd10 0 s mode 0 0=(0,0)∨rd10 0 s mode 0 0=(9223372036854775808,0):=by
 unfold rd10 rd7 ahd;rw [h1,h2,h3,vd_none,if_neg (by omega),if_neg (by omega)]
 simp only [if_true,Bool.false_eq_true,if_false];unfold nt
 repeat' split
 all_goals first | exact .inl rfl | exact .inr rfl
theorem dot_self {xs:List Nat}(hl:xs.length≤2000) (mode:Int) (m0:0≤mode) (m1:mode≤4):dotR xs xs mode 0 0=rd10 (vI (nI xs)) (sI (nI xs)) mode 0 0:=by
 unfold dotR;rw [if_neg (by decide),if_pos (rf_in m0 m1 (by omega)),dI_self]
theorem dot_facts {xs:List Nat}(hW:W64 xs) (hf:∀ x ∈ xs,finW x) (hl:xs.length≤2000):∃ X Y:Nat,dotR xs xs 3 0 0=(X,0)∧dotR xs xs 2 0 0=(Y,0)∧X<18446744073709551616∧Y<18446744073709551616∧finW X∧magW Y≤9218868437227405312∧(cmpZ (valO (oW X)) (valO (exV (qV xs)))=-1∨cmpZ (valO (oW X)) (valO (exV (qV xs)))=0)∧(finW Y→(cmpZ (valO (oW Y)) (valO (exV (qV xs)))=0∨cmpZ (valO (oW Y)) (valO (exV (qV xs)))=1))∧sK (negW Y) (magW Y)≤sK (negW X) (magW X)+1:=by
 obtain ⟨k,hk,hb⟩:=qV_bd hW hf (by omega)
 have h0:=qV_nonneg xs;obtain ⟨s1,s2,s3⟩:=nI_spec hW hf;have hv:=(nI_fin hW hf).1;have FV:=ex_fm (qV xs) k (by omega) hb
 by_cases hz:qV xs=0
 · have z0:∀ mode:Int,0≤mode→mode≤4→∃ Z,dotR xs xs mode 0 0=(Z,0)∧(Z=0∨Z=9223372036854775808):=fun mode m0 m1=>by
    rw [dot_self hl mode m0 m1,hv,hz]
    rcases rd_zero (mode:=mode) s1 s2 s3 with h|h
    · exact ⟨_,h,.inl rfl⟩
    · exact ⟨_,h,.inr rfl⟩
   have z1:∀ Z:Nat,(Z=0∨Z=9223372036854775808)→Z<18446744073709551616∧finW Z∧fvW Z=0∧magW Z=0:=fun Z h=>by rcases h with rfl | rfl <;> decide +kernel
   obtain ⟨X,e1,hX⟩:=z0 3 (by decide) (by decide)
   obtain ⟨Y,e2,hY⟩:=z0 2 (by decide) (by decide)
   obtain ⟨x1,x2,x3,x4⟩:=z1 X hX;obtain ⟨y1,y2,y3,y4⟩:=z1 Y hY;have v0:valO (exV (qV xs))=0:=by rw [val_ex FV,hz,Int.zero_mul]
   have c0:∀ Z:Nat,Z<18446744073709551616→finW Z→fvW Z=0→cmpZ (valO (oW Z)) (valO (exV (qV xs)))=0:=fun Z a b c=>by rw [val_oW Z a b,v0,c,Int.zero_mul];rfl
   refine ⟨X,Y,e1,e2,x1,y1,x2,by omega,.inr (c0 X x1 x2 x3),fun _=>.inl (c0 Y y1 y2 y3),?_⟩
   rw [x4,y4];unfold sK
   cases negW X <;> cases negW Y <;> decide
 · obtain ⟨K,t,m,S,hS,hL,hR⟩:=dot_lies (V:=qV xs) (by omega) k (by omega) hb
   have key:∀ mode:Int,0≤mode→mode≤4→dotR xs xs mode 0 0=(rK mode false K t m,0):=fun mode m0 m1=>by
    rw [dot_self hl mode m0 m1,hv,rd_fin s1 s2 s3 hz FV];exact hR mode m0 m1
   have hK:=hL.fin;obtain ⟨l1,l2⟩:=lies_sides hL;obtain ⟨j,hj⟩:∃ j,j=1074:=⟨_,rfl⟩;have eY:=YX j hj;rw [←hS j hj] at eY
   have cv:∀ Z:Nat,Z<9218868437227405312→cmpZ (valO (oW Z)) (valO (exV (qV xs)))=cmpZ ((vK Z*S:Nat):Int) (qV xs):=fun Z a=>by
    rw [val_oW Z (by omega) (by unfold finW;rw [(neg_low (K:=Z) (by omega)).2];exact a),val_ex FV,fv_low a,eY,Int.natCast_mul S XX,←Int.mul_assoc,cmpZ_scale11 _ _ _ (by have:=X_pos;omega),←Int.natCast_mul]
   have hU:(if t=true then K else K+1)≤9218868437227405312∧(if t=true then K else K+1)≤K+1:=by split <;> omega
   refine ⟨K,if t then K else K+1,?_,?_,by omega,by omega,?_,?_,?_,fun fy=>?_,?_⟩
   · rw [key 3 (by decide) (by decide),rK_down]
   · rw [key 2 (by decide) (by decide),rK_up]
   · unfold finW;rw [(neg_low (K:=K) (by omega)).2];exact hK
   · rw [(neg_low (by omega)).2];omega
   · rw [cv K hK]
     refine cmp_le ?_;rw [Nat.pow_one] at l1;omega
   · have fy:(if t=true then K else K+1)<9218868437227405312:=by
      unfold finW at fy;rw [(neg_low (by omega)).2] at fy
      exact fy
     rw [cv _ fy];refine cmp_ge ?_;have l2:=l2 fy;rw [Nat.pow_one] at l2;omega
   · rw [(neg_low (by omega)).1,(neg_low (by omega)).2,(neg_low (K:=K) (by omega)).1,(neg_low (K:=K) (by omega)).2]
     unfold sK;simp only [Bool.false_eq_true,if_false];omega
theorem none_betw (z X Y:Nat) (hz:z<18446744073709551616) (hX:X<18446744073709551616) (hY:Y<18446744073709551616) (h1:magW X≤9218868437227405312) (h2:magW Y≤9218868437227405312) (h:sK (negW Y) (magW Y)≤sK (negW X) (magW X)+1) :
 (FloatKind.f64.format.order z X==some .gt)=false∨((FloatKind.f64.format.order z X==some .gt)=true∧(FloatKind.f64.format.order z Y==some .lt)=false):=by
 have:=none_between z hz (negW X) (negW Y) (magW X) (magW Y) h1 h2 h;rw [←wd_of X hX,←wd_of Y hY] at this;exact this
theorem eq_self (X:Nat) (hX:X<18446744073709551616) (h1:magW X≤9218868437227405312):(FloatKind.f64.format.order X X==some .eq)=true:=by
 have:=eq64 (negW X) (negW X) (magW X) (magW X) h1 h1;rw [←wd_of X hX] at this;rw [this];simp
theorem up_fin (U:Nat) (h:U<9218868437227405312):floatBits .sub .f64 U U=some 0:=sub_self_fin U (by omega) (by unfold finW;rw [(neg_low (K:=U) (by omega)).2];exact h)
theorem up_inf:floatBits .sub .f64 9218868437227405312 9218868437227405312=none:=by
 rcases sub_odd 9218868437227405312 9218868437227405312 (by decide) (by decide) (by decide) with ⟨h,_⟩|⟨z,_,_,_,h⟩
 · exact h
 · exact absurd h (by decide)
end
section
open Go.RowKit J
attribute [local go_sem] st_float
def Fw10 (n:Nat):Value:=.float .f64 n
def OwnF (w:World) (g:Nat) (L:List Nat):Prop:=w.heap[g]?=some (.cells (L.map Fw10).toArray 27 (0,0))
theorem OwnF.cell {w:World}{g:Nat}{L:List Nat}(h:OwnF w g L) (i:Nat) (hi:i<L.length):w.cell? ⟨g,i,none⟩=some (.float .f64 (L.getD i 0)):=by
 unfold OwnF at h;simp [World.cell?,h,Fw10,hi]
end
section
open Go.RowKit J
theorem pHw_snoc (x:Nat) (L:List Nat) (c:Nat):pHw x (L++[c])=addD (mulD (pHw x L) (oW x)) (oW c):=by simp [pHw]
theorem pHw_iv (x:Nat) (hx:x<18446744073709551616) (fx:finW x) (L:List Nat) (hW:W64 L) (hf:∀ c ∈ L,finW c) (hl:L.length≤40):Iv (pHw x L) (-1074*(L.length+1:Nat)) (1025*(L.length+1:Nat)):=by
 have key:∀ M:List Nat,(∀ c ∈ M,c<18446744073709551616)→(∀ c ∈ M,finW c)→∃ M':List (Nat×W12),M'.map (fun y=>y.2.1)=M∧(∀ c ∈ M',finW c.2.1):=by
  intro M
  induction M with
  | nil=>exact fun _ _=>⟨[],rfl,fun c hc=>by cases hc⟩
  | cons m M ih =>
    intro h1 h2;obtain ⟨M',e,h⟩:=ih (fun c hc=>h1 c (List.mem_cons_of_mem _ hc)) (fun c hc=>h2 c (List.mem_cons_of_mem _ hc))
    refine ⟨(0,⟨m,h1 m List.mem_cons_self⟩)::M',by simp [e],fun c hc=>?_⟩
    rcases List.mem_cons.1 hc with rfl|hc
    · exact h2 m List.mem_cons_self
    · exact h c hc
 obtain ⟨M',e,h⟩:=key L hW hf;have:=pH_iv x hx fx M' h (by rw [←e] at hl;simpa using hl)
 rw [pH_w,e] at this;rw [←e] at this ⊢;simpa using this
theorem pHw_val (x:Nat) (hx:x<18446744073709551616) (fx:finW x) (L:List Nat) (c:Nat) (hW:W64 (L++[c])) (hf:∀ d ∈ L++[c],finW d) (hl:L.length≤38) :
 valO (pHw x (L++[c]))*(MM:Int)=valO (pHw x L)*valO (oW x)+valO (oW c)*(MM:Int):=by
 have h1:=pHw_iv x hx fx L (fun d hd=>hW d (List.mem_append_left _ hd)) (fun d hd=>hf d (List.mem_append_left _ hd)) (by omega)
 have h2:=pHw_iv x hx fx (L++[c]) hW hf (by simp;omega)
 have hc:=hW c (by simp)
 have fc:=hf c (by simp)
 have h3:=h1.mul (oW_iv x hx fx) (by omega) (by omega) (by omega)
 rw [pHw_snoc] at h2 ⊢;rw [val_add h3.fm (oW_fm c hc fc) h2.fm,Int.add_mul,val_mul h1.fm (oW_fm x hx fx) h3.fm]
theorem YM (k:Nat) (hk:k=1074):2^k*YY=MM:=by
 rw [Y_eq,M_eq,←Nat.pow_add,show k+EY=EK by rw [hk];decide]
theorem val_int (c j:Nat) (hc:c<18446744073709551616) (fc:finW c) (h:∀ k,k=1074→fvW c=((j*2^k:Nat):Int)):valO (oW c)=((j*MM:Nat):Int):=by
 obtain ⟨k,hk⟩:∃ k,k=1074:=⟨_,rfl⟩;rw [val_oW c hc fc,h k hk,←Int.natCast_mul,Nat.mul_assoc,YM k hk]
theorem f1 (k:Nat) (hk:k=1074):fvW 4607182418800017408=((1*2^k:Nat):Int):=by subst hk;decide +kernel
theorem f2 (k:Nat) (hk:k=1074):fvW 4611686018427387904=((2*2^k:Nat):Int):=by subst hk;decide +kernel
theorem f3 (k:Nat) (hk:k=1074):fvW 4613937818241073152=((3*2^k:Nat):Int):=by subst hk;decide +kernel
theorem M_cancel {a b:Int}(h:a*(MM:Int)=b*(MM:Int)):a=b:=Int.eq_of_mul_eq_mul_right (by have:=M_pos;omega) h
theorem valO_00:valO o00=0:=by unfold valO zv;simp [dX]
theorem mk17:mkS false 17 0=some (false,17,0):=by rw [mkS_odd _ _ _ (by decide),if_neg (by decide +kernel)]
theorem pl17:plR [4607182418800017408,4611686018427387904,4613937818241073152] 4611686018427387904 0=(4625478292286210048,0):=by
 have hx:(4611686018427387904:Nat)<18446744073709551616:=by decide
 have fx:finW 4611686018427387904:=by decide
 have hW:∀ d ∈ [4613937818241073152,4611686018427387904,4607182418800017408],d<18446744073709551616:=by decide
 have hf:∀ d ∈ [4613937818241073152,4611686018427387904,4607182418800017408],finW d:=by decide
 have w1:=val_int _ 1 (by decide) (by decide) f1
 have w2:=val_int _ 2 (by decide) (by decide) f2
 have w3:=val_int _ 3 (by decide) (by decide) f3
 have h1:=pHw_val _ hx fx [] 4613937818241073152 (fun d hd=>hW d (by simp at hd;simp [hd])) (fun d hd=>hf d (by simp at hd;simp [hd])) (by decide)
 have h2:=pHw_val _ hx fx [4613937818241073152] 4611686018427387904 (fun d hd=>hW d (by simp at hd;rcases hd with h | h <;> simp [h])) (fun d hd=>hf d (by simp at hd;rcases hd with h | h <;> simp [h])) (by decide)
 have h3:=pHw_val _ hx fx [4613937818241073152,4611686018427387904] 4607182418800017408 (fun d hd=>hW d (by simpa using hd)) (fun d hd=>hf d (by simpa using hd)) (by decide)
 rw [w2] at h1 h2 h3;rw [w3] at h1;rw [w1] at h3;rw [show pHw 4611686018427387904 []=o00 from rfl,valO_00,Int.zero_mul,Int.zero_add] at h1
 have e1:=M_cancel h1;simp only [List.nil_append,List.cons_append] at e1 h2 h3;rw [e1] at h2
 have e2:valO (pHw 4611686018427387904 [4613937818241073152,4611686018427387904])=((8*MM:Nat):Int):=by
  refine M_cancel (h2.trans ?_);simp only [←Int.natCast_mul,←Int.natCast_add]
  congr 1
  generalize MM=M
  grind
 rw [e2] at h3
 have e3:valO (pHw 4611686018427387904 [4613937818241073152,4611686018427387904,4607182418800017408])=((17*MM:Nat):Int):=by
  refine M_cancel (h3.trans ?_);simp only [←Int.natCast_mul,←Int.natCast_add]
  congr 1
  generalize MM=M
  grind
 have F17:Fm (mkS false 17 0):=by rw [mk17];exact ⟨0,_,frm_fv (mkS_frm mk17) 0⟩
 have e4:pHw 4611686018427387904 [4613937818241073152,4611686018427387904,4607182418800017408]=mkS false 17 0:=by
  refine valO_inj (pHw_iv _ hx fx _ hW hf (by decide)).fm F17 ?_
  rw [e3,val_mk F17 (by decide) EK rfl,←M_eq]
  unfold sg1;simp
 unfold plR;rw [if_neg (by decide),if_neg (by decide),if_pos ⟨fx,by decide⟩]
 show rndS (pHw 4611686018427387904 [4613937818241073152,4611686018427387904,4607182418800017408]) 0=_
 rw [e4,mk17]
 decide +kernel
theorem big_mul:∀ k,k<600→floatBits .mul .f64 ((1023+k)*4503599627370496) 4611686018427387904=some ((1023+(k+1))*4503599627370496):=by decide +kernel
theorem lit12 (w:World) (xs:List Nat):Fs (w.alloc (Obj.cells (xs.map Fw10).toArray 27)).heap.size (w.alloc (Obj.cells (xs.map Fw10).toArray 27)) (some ⟨w.heap.size,0,none⟩) xs:=by
 intro _;refine ⟨w.heap.size,0,by simp,rfl,fun i hi=>?_⟩
 have hO:OwnF (w.alloc (Obj.cells (xs.map Fw10).toArray 27)) w.heap.size xs:=heap_alloc_new _ _;rw [Nat.zero_add];exact hO.cell i hi
theorem lit12b (w:World) (xs:List Nat) (g:Nat) (hg:g=w.heap.size):Fs (w.alloc (Obj.cells (xs.map Fw10).toArray 27)).heap.size (w.alloc (Obj.cells (xs.map Fw10).toArray 27)) (some ⟨g,0,none⟩) xs:=by subst hg;exact lit12 w xs
end
section
open Go.RowKit J
set_option maxRecDepth 100000 in
theorem awake12 (w:World) (hT:Tab w):Calls Tryz.prog 9 #[] w fun r w'=>r=.returned (.bool true)∧Below w.heap.size w w':=by
 have HT:=qsd hT;have hone:(FloatKind.f64.format.order 4607182418800017408 4607182418800017408==some .eq)=true:=by decide +kernel
 have hfive:(FloatKind.f64.format.order 4617315517961601024 4617315517961601024==some .eq)=true:=by decide +kernel
 have h17:(FloatKind.f64.format.order 4625478292286210048 4625478292286210048==some .eq)=true:=by decide +kernel
 clear hT;go_enter Tryz.func9,Tryz.ntmps9;go_wp2
 go_loopg [1,2] 600 (fun gk b i wr=>∃ k:Nat,gk+k=600∧b=.float .f64 ((1023+k)*4503599627370496)∧i=.int .i64 (k:Nat)∧wr=w)
 case atStart=>exact ⟨0,by omega,by first | rfl | simp,by first | rfl | simp,rfl⟩
 case round =>
  obtain ⟨k,hgk,rfl,rfl,hw⟩:=hrel;subst hw
  by_cases hk:k<600
  · have d:=run_float_arith (P:=Tryz.prog) wr .mul 27 .f64 _ _ _ (big_mul k hk)
    obtain ⟨B0,hB0⟩:∃ B0,B0=(1023+k)*4503599627370496:=⟨_,rfl⟩;obtain ⟨B1,hB1⟩:∃ B1,B1=(1023+(k+1))*4503599627370496:=⟨_,rfl⟩;rw [←hB0,←hB1] at d;rw [←hB0];have HB:=qsd hB1;have hd:decide ((k:Int)<600)=true:=by simp;omega
    clear hB0 hB1
    go_wp2_with (simp only [d])
    go_roundg (gk-1)
    case measure=>omega
    case rel=>exact ⟨k+1,by omega,by rw [HB.out],by first | rfl | simp,rfl⟩
  · obtain rfl:k=600:=by omega
    rw [show (1023+600)*4503599627370496=7309342195222315008 from rfl]
    have hn:∀ U:World,Sem.run Tryz.prog (Op.unary .neg (.float .f64 7309342195222315008)) U=.ok (.float .f64 16532714232077090816) U:=fun U=>neg12 (P:=Tryz.prog) U 0 7309342195222315008 (by decide)
    have B0:=qsd (Below.refl wr.heap.size wr);obtain ⟨W1,hW1⟩:∃ W,W=((wr.alloc (Obj.cells #[.float .f64 7309342195222315008,.float .f64 4607182418800017408,.float .f64 7309342195222315008] 27)).alloc (Obj.cells #[.float .f64 7309342195222315008,.float .f64 4607182418800017408,.float .f64 16532714232077090816] 27)):=⟨_,rfl⟩
    have H1:Aside (Below wr.heap.size wr W1∧Fs W1.heap.size W1 (some ⟨wr.heap.size,0,none⟩) [7309342195222315008,4607182418800017408,7309342195222315008]∧Fs W1.heap.size W1 (some ⟨wr.heap.size+1,0,none⟩) [7309342195222315008,4607182418800017408,16532714232077090816]):=by
     rw [hW1];have q1:=lit12 wr [7309342195222315008,4607182418800017408,7309342195222315008];have q2:=lit12b (wr.alloc (Obj.cells #[.float .f64 7309342195222315008,.float .f64 4607182418800017408,.float .f64 7309342195222315008] 27)) [7309342195222315008,4607182418800017408,16532714232077090816] (wr.heap.size+1) (by simp)
     exact ⟨(B0.out.trans ((below_alloc _ _).mono B0.out.size)).trans ((below_alloc _ _).mono (Nat.le_trans B0.out.size (by simp))),(q1.below (below_alloc _ _)).mono (by simp),q2⟩
    have C1:Hid (Calls Tryz.prog 11 #[.slice (some ⟨wr.heap.size,0,none⟩) 3 3,.slice (some ⟨wr.heap.size+1,0,none⟩) 3 3,.int .i64 0,.agg #[.int .i64 0,.int .i64 0]] W1 fun r w'=>r=.returned (.tuple #[.float .f64 4607182418800017408,.int .i64 0])∧Below W1.heap.size W1 w'):=by
     have:=Dot12 [7309342195222315008,4607182418800017408,7309342195222315008] [7309342195222315008,4607182418800017408,16532714232077090816] _ _ 3 3 3 3 0 0 0 W1 rfl rfl H1.out.2.1 H1.out.2.2 (by unfold W64;decide) (by unfold W64;decide) (HT.out.belows H1.out.1)
     rw [dotbig] at this;exact this
    have HE1:=qsd hW1;clear hW1
    go_wp2_with (simp only [hn])
    rw [←HE1.out];clear HE1;refine C1.out.mono ?_;rintro r u1 ⟨rfl,hb⟩;have B1:=qsd (H1.out.1.trans (hb.mono H1.out.1.size));clear hb C1 H1 B0;obtain ⟨W2,hW2⟩:∃ W,W=(u1.alloc (Obj.cells #[.float .f64 4613937818241073152,.float .f64 4616189618054758400] 27)):=⟨_,rfl⟩
    have H2:Aside (Below wr.heap.size wr W2∧Fs W2.heap.size W2 (some ⟨u1.heap.size,0,none⟩) [4613937818241073152,4616189618054758400]):=by
     rw [hW2];exact ⟨B1.out.trans ((below_alloc _ _).mono B1.out.size),lit12 u1 [4613937818241073152,4616189618054758400]⟩
    have C2:Hid (Calls Tryz.prog 15 #[.slice (some ⟨u1.heap.size,0,none⟩) 2 2,.int .i64 0] W2 fun r w'=>r=.returned (.tuple #[.float .f64 4617315517961601024,.int .i64 0])∧Below W2.heap.size W2 w'):=by
     have:=Norm12 [4613937818241073152,4616189618054758400] _ 2 2 0 W2 rfl H2.out.2 (by unfold W64;decide) (HT.out.belows H2.out.1)
     rw [norm34] at this;exact this
    have HE2:=qsd hW2;clear hW2
    go_wp2_with fail
    rw [←HE2.out];clear HE2;refine C2.out.mono ?_;rintro r u2 ⟨rfl,hb⟩;have B2:=qsd (H2.out.1.trans (hb.mono H2.out.1.size));clear hb C2 H2 B1;obtain ⟨W3,hW3⟩:∃ W,W=((u2.alloc (Obj.cells #[.float .f64 4607182418800017408,.float .f64 4611686018427387904] 27)).alloc (Obj.cells #[.float .f64 4616189618054758400,.float .f64 4618441417868443648] 27)):=⟨_,rfl⟩
    have H3:Aside (Below wr.heap.size wr W3∧Fs W3.heap.size W3 (some ⟨u2.heap.size,0,none⟩) [4607182418800017408,4611686018427387904]∧Fs W3.heap.size W3 (some ⟨u2.heap.size+1,0,none⟩) [4616189618054758400,4618441417868443648]):=by
     rw [hW3];have q1:=lit12 u2 [4607182418800017408,4611686018427387904];have q2:=lit12b (u2.alloc (Obj.cells #[.float .f64 4607182418800017408,.float .f64 4611686018427387904] 27)) [4616189618054758400,4618441417868443648] (u2.heap.size+1) (by simp)
     exact ⟨(B2.out.trans ((below_alloc _ _).mono B2.out.size)).trans ((below_alloc _ _).mono (Nat.le_trans B2.out.size (by simp))),(q1.below (below_alloc _ _)).mono (by simp),q2⟩
    have C3:Hid (Calls Tryz.prog 16 #[.slice (some ⟨u2.heap.size,0,none⟩) 2 2,.slice (some ⟨u2.heap.size+1,0,none⟩) 2 2,.int .i64 0] W3 fun r w'=>r=.returned (.tuple #[.float .f64 4617315517961601024,.int .i64 0])∧Below W3.heap.size W3 w'):=by
     have:=Dist12 [4607182418800017408,4611686018427387904] [4616189618054758400,4618441417868443648] _ _ 2 2 2 2 0 W3 rfl rfl H3.out.2.1 H3.out.2.2 (by unfold W64;decide) (by unfold W64;decide) (HT.out.belows H3.out.1)
     rw [dist25] at this;exact this
    have HE3:=qsd hW3;clear hW3
    go_wp2_with fail
    rw [←HE3.out];clear HE3;refine C3.out.mono ?_;rintro r u3 ⟨rfl,hb⟩;have B3:=qsd (H3.out.1.trans (hb.mono H3.out.1.size));clear hb C3 H3 B2;obtain ⟨W4,hW4⟩:∃ W,W=(u3.alloc (Obj.cells #[.float .f64 4607182418800017408,.float .f64 4611686018427387904,.float .f64 4613937818241073152] 27)):=⟨_,rfl⟩
    have H4:Aside (Below wr.heap.size wr W4∧Fs W4.heap.size W4 (some ⟨u3.heap.size,0,none⟩) [4607182418800017408,4611686018427387904,4613937818241073152]):=by
     rw [hW4];exact ⟨B3.out.trans ((below_alloc _ _).mono B3.out.size),lit12 u3 [4607182418800017408,4611686018427387904,4613937818241073152]⟩
    have C4:Hid (Calls Tryz.prog 19 #[.slice (some ⟨u3.heap.size,0,none⟩) 3 3,.float .f64 4611686018427387904,.int .i64 0] W4 fun r w'=>r=.returned (.tuple #[.float .f64 4625478292286210048,.int .i64 0])∧Below W4.heap.size W4 w'):=by
     have:=Poly12 [4607182418800017408,4611686018427387904,4613937818241073152] _ 3 3 4611686018427387904 0 W4 rfl H4.out.2 (by unfold W64;decide) (by decide) (HT.out.belows H4.out.1)
     rw [pl17] at this;exact this
    have HE4:=qsd hW4;clear hW4
    go_wp2_with fail
    rw [←HE4.out];clear HE4;refine C4.out.mono ?_;rintro r u4 ⟨rfl,hb⟩;have B4:=qsd (H4.out.1.trans (hb.mono H4.out.1.size));clear hb C4 H4 B3;obtain ⟨W5,hW5⟩:∃ W,W=(u4.alloc (Obj.cells #[.float .f64 4607182418800017408] 27)):=⟨_,rfl⟩
    have H5:Aside (Below wr.heap.size wr W5∧Fs W5.heap.size W5 (some ⟨u4.heap.size,0,none⟩) [4607182418800017408]):=by
     rw [hW5];exact ⟨B4.out.trans ((below_alloc _ _).mono B4.out.size),lit12 u4 [4607182418800017408]⟩
    have C5:Hid (Calls Tryz.prog 11 #[.slice (some ⟨u4.heap.size,0,none⟩) 1 1,.slice none 0 0,.int .i64 0,.agg #[.int .i64 0,.int .i64 0]] W5 fun r w'=>r=.returned (.tuple #[.float .f64 0,.int .i64 4])∧Below W5.heap.size W5 w'):=by
     have:=Dot12 [4607182418800017408] [] _ none 1 1 0 0 0 0 0 W5 rfl rfl H5.out.2 (Fs.nil _ _ _) (by unfold W64;decide) (by unfold W64;decide) (HT.out.belows H5.out.1)
     rw [dotlen] at this;exact this
    have HE5:=qsd hW5;clear hW5
    go_wp2_with fail
    rw [←HE5.out];clear HE5;refine C5.out.mono ?_;rintro r u5 ⟨rfl,hb⟩;have B5:=qsd (H5.out.1.trans (hb.mono H5.out.1.size));clear hb C5 H5 B4;go_wp2;go_ret;exact ⟨rfl,B5.out⟩
end
section
open Go.RowKit J
attribute [local go_sem] st_float
attribute [local go_sem] B.f64bits in
theorem alike12 (x:Nat) (w:World):Calls Tryz.prog 14 #[.float .f64 x,.float .f64 x] w fun r w'=>r=.returned (.bool true)∧w'=w:=by
 go_enter Tryz.func14,Tryz.ntmps14;go_wp2;go_ret;exact ⟨by first | rfl | simp,rfl⟩
end
section
open Go.ChangeShapes Go.WideShapes Go.ChangeAt Go.RowKit
theorem trodF {H:Type}{enc:TypeId×Value→H}{P:Program}{w:World}{base:Nat}{spare:Nat→Bool}{held:Bool}{fuel:Nat}{t:TypeId}{cs:List Value}{x:DataW H×List MemPlace}{k:FloatKind}(ht:P.underlying t=some (.float k)) (h:DataW.trod enc P w base spare held fuel t cs=some x):∃ n,cs=[.float k n]∧x=(.lit (.float k n),[])∧(Lit.float k n).wf=true:=by
 cases fuel with
 | zero=>simp [DataW.trod] at h
 | succ m =>
   simp only [DataW.trod,ht] at h
   split at h <;> simp_all
structure CameF (w:World) (a:Option Addr) (n c:Nat) (xs:List Nat):Prop where
 len:n=xs.length
 cap:n≤c
 wf:W64 xs
 rd:Fs w.heap.size w a xs
 nil:a=none→c=0
theorem add_noneF (b off i:Nat):(⟨b,off,none⟩:Addr).add i=⟨b,off+i,none⟩:=by unfold Addr.add;split <;> simp_all
def numF {H:Type} (y:DataW H×List MemPlace):Nat:=match y.1 with | .lit (.float _ n)=>n | _=>0
theorem Tryz.cellsF:Tryz.prog.cellsOf 27=1:=by kernel_rfl
theorem Tryz.bytesF:Tryz.prog.bytesOf 27=8:=by kernel_rfl
theorem cameF_of {H:Type}{enc:TypeId×Value→H}{W:World}{a:Option Addr}{n c:Nat}{d:DataW H}{p:List MemPlace}(h:DataW.Trod enc Tryz.prog W 0 (fun _=>true) true 22 (.slice a n c) d p) :
 ∃ xs,CameF W a n c xs∧((d=.nil∧c=0)∨∃ elems spare:List (DataW H),d=.slice elems spare∧elems.length+spare.length=c):=by
 obtain ⟨fuel,hf⟩:=h
 rcases DataW.trod_slice Tryz.underlying22 hf with ⟨hcs,hx⟩|⟨x,l,cp,elems,rest,m,_,hcs,hx,hb,hl,hm,hlen,hel,hsp,hns⟩
 · simp [Value.cells] at hcs
   obtain ⟨rfl,rfl,rfl⟩:=hcs;exact ⟨[],⟨rfl,Nat.le_refl _,(fun x hx=>by cases hx),(fun h=>absurd rfl h),fun _=>rfl⟩,.inl ⟨(Prod.mk.inj hx).1,rfl⟩⟩
 · simp [Value.cells] at hcs
   obtain ⟨rfl,rfl,rfl⟩:=hcs
   have each:∀ i y,i<n→elems[i]?=some y→y=(.lit (.float .f64 (numF y)),[])∧(Lit.float .f64 (numF y)).wf=true∧W.cell? (x.add i)=some (.float .f64 (numF y)):=by
    intro i y hi hy;have hb':=hel i hi;rw [hy,Tryz.cellsF,Nat.mul_one,Option.bind_eq_some_iff] at hb';obtain ⟨cs',hcs,hy'⟩:=hb';obtain ⟨k,rfl,rfl,hw⟩:=trodF Tryz.underlying27 hy';exact ⟨rfl,hw,cell_of_cells?_one hcs⟩
   refine ⟨elems.map numF,⟨by simp [hlen],hl,?_,?_,fun e=>by cases e⟩,.inr ⟨_,_,(Prod.mk.inj hx).1,?_⟩⟩
   · intro y hy
     obtain ⟨z,hz,rfl⟩:=List.mem_map.1 hy;obtain ⟨i,hi⟩:=List.getElem?_of_mem hz;have hil:=(List.getElem?_eq_some_iff.1 hi).1;have:=(each i z (by omega) hi).2.1
     exact of_decide_eq_true this
   · intro hne
     obtain ⟨b,off,spot⟩:=x
     have hn0:0<n:=by
      rcases Nat.eq_zero_or_pos n with h0|h0
      · rw [h0] at hlen;have:=List.eq_nil_of_length_eq_zero hlen;subst this;simp at hne
      · exact h0
     have hc0:=(each 0 (elems[0]'(by omega)) hn0 (List.getElem?_eq_getElem _)).2.2
     have hspot:spot=none:=by simpa [Addr.add] using World.cell?_spot hc0
     subst hspot;refine ⟨b,off,World.block_lt_of_cell? W _ (by simpa [Addr.add] using hc0),rfl,fun i hi=>?_⟩
     rw [List.length_map] at hi;have hadd:=add_noneF b off i;have:=(each i (elems[i]'hi) (by omega) (List.getElem?_eq_getElem _)).2.2
     rw [hadd] at this;rw [this];simp [List.getD_eq_getElem?_getD,hi]
   · have hr:=(hsp rfl).1
     simp only [List.length_map];omega
theorem cameF_reach {H:Type}{ts:List TypeId}{ds:List (DataW H)}(h:(DataW.weightsEach Tryz.prog ts ds).all (·≤reachBytes)=true) {j:Nat}{d:DataW H}{c n:Nat}(ht:ts[j]?=some 22) (hd:ds[j]?=some d) (hn:n≤c)
 (hc:(d=.nil∧c=0)∨∃ elems spare:List (DataW H),d=.slice elems spare∧elems.length+spare.length=c):n≤17592186043904:=by
 rcases hc with ⟨_,rfl⟩|⟨elems,spare,rfl,hl⟩
 · omega
 · have:=sized_slice h ht hd Tryz.underlying22
   rw [Tryz.bytesF,hl] at this;simp only [reachBytes] at this;omega
end
section
open Go.RowKit J
theorem wf64f12 {a:Nat}(h:(Lit.float .f64 a).wf=true):a<18446744073709551616:=by
 simpa [Lit.wf] using h
theorem s6_map:∀ (xs:List Nat) (s:Sp),xs.foldl (fun s x=>s.cnt (kOf (kd x)) 1) s=(xs.map (fun x=>(kOf (kd x),(0:Int)))).foldl (fun s p=>s.cnt p.1 1) s
 | [],s=>rfl
 | x::xs,s=>s6_map xs _
theorem kd_odd {x:Nat}(h:¬ finW x):kOf (kd x)=1∨kOf (kd x)=2∨kOf (kd x)=3:=by
 have h:¬ x%9223372036854775808<9218868437227405312:=h;unfold kd
 by_cases h1:9218868437227405312<x%9223372036854775808
 · rw [if_pos h1];exact .inl rfl
 · rw [if_neg h1,if_pos (by omega)]
   split
   · exact .inr (.inr rfl)
   · exact .inr (.inl rfl)
theorem s6_fin {xs:List Nat}(h:(s6 xs).n+(s6 xs).u+(s6 xs).d≤0):∀ x ∈ xs,finW x:=by
 intro x hx
 by_cases hf:finW x
 · exact hf
 · exfalso
   have hm:(kOf (kd x),(0:Int)) ∈ xs.map (fun x=>(kOf (kd x),(0:Int))):=List.mem_map.2 ⟨x,hx,rfl⟩
   obtain ⟨h1,h2,h3⟩:=sI_nud (xs.map (fun x=>(kOf (kd x),(0:Int))))
   have e:s6 xs=sI (xs.map (fun x=>(kOf (kd x),(0:Int)))):=s6_map xs _
   rw [e,h1,h2,h3] at h;have key:∀ k,kOf (kd x)=k→0<cI k (xs.map (fun x=>(kOf (kd x),(0:Int)))):=fun k hk=>List.countP_pos_iff.2 ⟨_,hm,by simp [hk]⟩
   rcases kd_odd hf with q|q|q
   · have:=key 1 q;omega
   · have:=key 2 q;omega
   · have:=key 3 q;omega
theorem qV_small {xs:List Nat}(hW:W64 xs) (hf:∀ x ∈ xs,finW x) (k:Nat) (hk:k≤xs.length) (hl:xs.length≤2000) (j:Nat) (hj:j=4238):(qV (xs.take k)).natAbs<2^j:=by
 obtain ⟨j',e,h⟩:=qV_bd (xs:=xs.take k) (fun z hz=>hW z (List.mem_of_mem_take hz)) (fun z hz=>hf z (List.mem_of_mem_take hz)) (by rw [List.length_take];omega)
 rw [hj,←e];exact h
attribute [local go_sem] st_float
set_option maxRecDepth 100000 in
theorem walk2_DotNear (a:Option Addr) (n c:Nat) (xs:List Nat) (z:Nat) (w:World) (hT:Tab w) (hC:CameF w a n c xs) (hz:z<18446744073709551616) (hm:n≤17592186043904) :
 Calls Tryz.prog 7 #[.slice a n c,.float .f64 z] w fun r w'=>r=.returned (.bool true)∧Below w.heap.size w w':=by
 obtain ⟨hl1,_,hW1,hF1,_⟩:=hC;have up:∀ u:World,Below w.heap.size w u→Fs u.heap.size u a xs∧Tab u:=fun u hb=>⟨(hF1.below hb).mono hb.size,hT.belows hb⟩
 have HA:=hid (fun (u:World) (hb:Below w.heap.size w u)=>awake12 u (up u hb).2)
 have HS:=hid (fun (u:World) (hb:Below w.heap.size w u)=>rSpecials12 xs a n c u hl1 (up u hb).1 hW1 hm)
 have HFin:=hid (fun h=>s6_fin (xs:=xs) h)
 have hin:=s6_in xs xs.length (Nat.le_refl _);rw [List.take_length] at hin;obtain ⟨s,hs⟩:∃ s,s=s6 xs:=⟨_,rfl⟩;rw [←hs] at HS hin HFin;obtain ⟨n0,u0,d0,m0,p0,a0⟩:=s;unfold Sp.agg at HS;simp only at HS hin HFin;have PP:=qsd (ai hl1 (ai hW1 (ai hz hm)));have b1:0≤n0∧n0≤17592186043904:=by omega
 have b2:0≤u0∧u0≤17592186043904:=by omega
 have b3:0≤d0∧d0≤17592186043904:=by omega
 clear hs hin hl1 hW1 hz hm;have UP:=hid up;have HF:=hid hF1;clear up hF1 hT;go_enter Tryz.func7,Tryz.ntmps7
 go_wp2_with fail
 refine (HA.out _ (Below.refl _ _)).mono ?_;rintro r u1 ⟨rfl,hb1⟩;have B1:=qsd hb1;clear hb1 HA
 go_wp2_with fail
 refine (HS.out _ B1.out).mono ?_;rintro r u2 ⟨rfl,hb⟩;obtain ⟨W,hW⟩:∃ W,W=u2.alloc (Obj.cells #[.int .i64 n0,.int .i64 u0,.int .i64 d0,.int .i64 m0,.int .i64 p0,.int .i64 a0] 42):=⟨_,rfl⟩
 have B2:Aside (Below w.heap.size w W∧Bl W u2.heap.size 42 [.int .i64 n0,.int .i64 u0,.int .i64 d0,.int .i64 m0,.int .i64 p0,.int .i64 a0]∧w.heap.size≤u2.heap.size∧W.heap.size=u2.heap.size+1):=by
  have q:=B1.out.trans (hb.mono B1.out.size);rw [hW];exact ⟨q.trans ((below_alloc _ _).mono q.size),Bl.new u2 42 [_,_,_,_,_,_],q.size,by simp⟩
 have HW:=qsd hW;clear hb hW B1 HS
 go_upto_region 3 with fail
 rw [←HW.out];clear HW;have c0:=B2.out.2.1.cell 0 _ rfl;have c1:=B2.out.2.1.cell 1 _ rfl;have c2:=B2.out.2.1.cell 2 _ rfl
 by_cases hl:n≤2000
 rotate_left
 · have d1:decide ((2000:Int)<(n:Nat))=true:=by simp;omega
   go_wp2;go_ret;exact ⟨rfl,B2.out.1⟩
 have d1:decide ((2000:Int)<(n:Nat))=false:=by simp;omega
 by_cases hfn:n0+u0+d0≤0
 rotate_left
 · have d2:decide ((0:Int)<n0+u0+d0)=true:=by simp;omega
   go_wp2;go_ret;exact ⟨rfl,B2.out.1⟩
 have d2:decide ((0:Int)<n0+u0+d0)=false:=by simp;omega
 have FN:=qsd (ai (HFin.out hfn) hl);clear hfn HFin hl;obtain ⟨W2,hW2⟩:∃ W2,W2=W.alloc (Obj.cells #[.bool false,.slice none 0 0,.int .i64 0] 47):=⟨_,rfl⟩;obtain ⟨G,hG⟩:∃ G,G=W.heap.size:=⟨_,rfl⟩
 have H0:Aside (Lo W2 G o00∧Below w.heap.size w W2∧w.heap.size≤G):=by
  rw [hW2,hG];exact ⟨Lo.zero W,B2.out.1.trans ((below_alloc _ _).mono B2.out.1.size),B2.out.1.size⟩
 have HW2:=qsd hW2;clear hW2;go_wp2;rw [←HW2.out,←hG];clear HW2 hG B2 c0 c1 c2 d1 d2 b1 b2 b3
 go_loopg [8] n (fun gk i wr=>∃ k:Nat,gk+k=n∧i=.int .i64 (k:Nat)∧Aside (Lo wr G (exV (qV (xs.take k)))∧Below w.heap.size w wr∧w.heap.size≤G))
 case atStart=>exact ⟨0,by omega,by simp,by rw [List.take_zero,show qV []=0 from rfl,ex_zero];exact H0.out.1,H0.out.2⟩
 case round =>
  clear H0;obtain ⟨k,hgk,rfl,HL⟩:=hrel
  by_cases hk:k<n
  · obtain ⟨b,off,rfl,hcx⟩:=HF.out.at HL.out.2.1 k (by rw [←PP.out.1];exact hk)
    obtain ⟨x,hx⟩:∃ x,x=xs.getD k 0:=⟨_,rfl⟩;rw [←hx] at hcx;have hx64:x<18446744073709551616:=by rw [hx];exact PP.out.2.1.get k
    have fx:finW x:=by
     rw [hx];refine FN.out.1 _ ?_;rw [List.getD_eq_getElem?_getD,List.getElem?_eq_getElem (by rw [←PP.out.1];exact hk)]
     exact List.getElem_mem _
    obtain ⟨j,hj⟩:∃ j,j=4238:=⟨_,rfl⟩;have hln:=PP.out.1;have hl2:=FN.out.2;have v0:=qV_small PP.out.2.1 FN.out.1 k (by omega) (by omega) j hj
    have v2:=qV_small PP.out.2.1 FN.out.1 (k+1) (by omega) (by omega) j hj
    obtain ⟨o0,h0⟩:∃ o,o=exV (qV (xs.take k)):=⟨_,rfl⟩;obtain ⟨o1,h1⟩:∃ o,o=exV (fvW x*fvW x):=⟨_,rfl⟩;obtain ⟨o2,h2⟩:∃ o,o=exV (qV (xs.take (k+1))):=⟨_,rfl⟩;obtain ⟨i,hi⟩:∃ i,i=4196:=⟨_,rfl⟩;have sqx:=top_sq hx64 fx hx64 fx i hi
    have FF:Aside (Fm o0∧Fm (oW x)∧Fm o1∧Fm o2∧mulD (oW x) (oW x)=o1∧addD o0 o1=o2):=by
     rw [h0,h1,h2];refine ⟨ex_fm _ j (by omega) v0,oW_fm x hx64 fx,ex_fm _ i (by omega) sqx,ex_fm _ j (by omega) v2,mul_ex hx64 fx hx64 fx,?_⟩
     rw [qV_take xs k (by omega),←hx]
     exact add_ex j (by omega) v0 (Nat.lt_of_lt_of_le sqx (Nat.pow_le_pow_right (by decide) (by omega)))
    have HO:=hid (fun u:World=>rof12 x hx64 fx u)
    have HL':=HL;rw [←h0] at HL';have hkb:k<4611686018427387904:=by omega
    have E2:=qsd h2;obtain ⟨ox,hox⟩:∃ o,o=oW x:=⟨_,rfl⟩;rw [←hox] at HO FF;clear hx hj v0 v2 h0 h1 h2 hi sqx HL hln hl2 hox hx64 fx;have hd:decide ((k:Int)<(n:Nat))=true:=by simp;omega
    go_wp2_with fail
    refine (HO.out wr).mono ?_;rintro r u ⟨⟨v,rfl,hN⟩,hb⟩;obtain ⟨a1,c1,rfl,hN0⟩:=Lo.shape FF.out.2.1 hN;obtain ⟨U,hU⟩:∃ U,U=u.alloc (Obj.cells #[.bool (dN ox),.slice a1 (ws (dX ox)).length c1,.int .i64 (dE ox)] 47):=⟨_,rfl⟩
    have H1:Aside (Lo U G o0∧Lo U u.heap.size ox∧Below w.heap.size w U∧w.heap.size≤G):=by
     rw [hU];exact ⟨(HL'.out.1.below hb).alloc12 _,Lo.new hN0,(HL'.out.2.1.trans (hb.mono HL'.out.2.1.size)).trans ((below_alloc _ _).mono (Nat.le_trans HL'.out.2.1.size hb.size)),HL'.out.2.2⟩
    have HU:=qsd hU;clear hU hN hN0 hb HO HL' hcx
    go_upto_region 10 with fail
    rw [←HU.out];clear HU;obtain ⟨p0,q0,D0,M0⟩:=H1.out.2.1;obtain ⟨x0,x1,x2,xf0,xf1,xf2⟩:=D0.facts;have HM:=hid (rmul12 FF.out.2.1 FF.out.2.1 M0 M0 FF.out.2.2.2.2.1 FF.out.2.2.1);clear D0 M0
    go_wp2_with fail
    refine HM.out.mono ?_;rintro r u2 ⟨⟨v,rfl,hN⟩,hb⟩;obtain ⟨a2,c2,rfl,hN0⟩:=Lo.shape FF.out.2.2.1 hN;obtain ⟨U2,hU2⟩:∃ U2,U2=u2.alloc (Obj.cells #[.bool (dN o1),.slice a2 (ws (dX o1)).length c2,.int .i64 (dE o1)] 47):=⟨_,rfl⟩
    have H2:Aside (Lo U2 G o0∧Lo U2 u2.heap.size o1∧Below w.heap.size w U2∧w.heap.size≤G):=by
     rw [hU2];exact ⟨(H1.out.1.below hb).alloc12 _,Lo.new hN0,(H1.out.2.2.1.trans (hb.mono H1.out.2.2.1.size)).trans ((below_alloc _ _).mono (Nat.le_trans H1.out.2.2.1.size hb.size)),H1.out.2.2.2⟩
    have HU:=qsd hU2;clear hU2 hN hN0 hb H1 HM x0 x1 x2 xf0 xf1 xf2
    go_upto_region 11 with fail
    rw [←HU.out];clear HU;obtain ⟨p0,q0,D0,M0⟩:=H2.out.1;obtain ⟨p1,q1,D1,M1⟩:=H2.out.2.1;obtain ⟨x0,x1,x2,xf0,xf1,xf2⟩:=D0.facts;obtain ⟨y0,y1,y2,yf0,yf1,yf2⟩:=D1.facts;have HAd:=hid (radd12 FF.out.1 FF.out.2.2.1 M0 M1 FF.out.2.2.2.2.2 FF.out.2.2.2.1);clear D0 M0 D1 M1
    go_wp2_with fail
    refine HAd.out.mono ?_;rintro r u3 ⟨⟨v,rfl,hN⟩,hb⟩;obtain ⟨a3,c3,rfl,hN0⟩:=Lo.shape FF.out.2.2.2.1 hN;have s1:=H2.out.1.below hb;have b3:=H2.out.2.2.1.trans (hb.mono H2.out.2.2.1.size)
    have H3:Aside (Lo (st3 u3 G (.bool (dN o2)) (.slice a3 (ws (dX o2)).length c3) (.int .i64 (dE o2))) G o2∧Below w.heap.size w (st3 u3 G (.bool (dN o2)) (.slice a3 (ws (dX o2)).length c3) (.int .i64 (dE o2)))∧w.heap.size≤G) :=
     ⟨s1.set hN0,st3_bel12 b3 b3.size H2.out.2.2.2 _ _ _,H2.out.2.2.2⟩
    obtain ⟨p3,q3,D3,M3⟩:=s1;obtain ⟨z0,z1,z2,zf0,zf1,zf2⟩:=D3.facts;unfold st3 at H3;clear D3 M3 hN hN0 hb HAd H2 x0 x1 x2 xf0 xf1 xf2 y0 y1 y2 yf0 yf1 yf2 b3;go_wp2
    go_roundg (gk-1)
    case measure=>omega
    case rel=>exact ⟨k+1,by omega,by first | rfl | simp,by rw [←E2.out];exact H3.out⟩
  · obtain rfl:n=k:=by omega
    have hd:decide ((n:Int)<(n:Nat))=false:=by simp
    have e:xs.take n=xs:=List.take_of_length_le (by rw [←PP.out.1];omega)
    have hln:=PP.out.1;have hl2:=FN.out.2;obtain ⟨j,hj⟩:∃ j,j=4238:=⟨_,rfl⟩;have v0:=qV_small PP.out.2.1 FN.out.1 n (by omega) (by omega) j hj
    rw [e] at HL v0;obtain ⟨D,U,E,e3,e2,e1,e0,hE,hD,hU,hDU,cD,cU⟩:=norm_facts PP.out.2.1 FN.out.1 (by omega)
    obtain ⟨X,Y,f3,f2,hX64,hY64,fX,hY,gX,gY,hXY⟩:=dot_facts PP.out.2.1 FN.out.1 (by omega)
    have FV:=ex_fm _ j (by omega) v0
    have W1:=PP.out.2.1
    have N3:Hid (∀ u:World,Below w.heap.size w u→Calls Tryz.prog 15 #[.slice a n c,.int .i64 3] u fun r w'=>r=.returned (.tuple #[.float .f64 D,.int .i64 0])∧Below u.heap.size u w'):=fun u hb=>by
     have:=Norm12 xs a n c 3 u hln (UP.out u hb).1 W1 (UP.out u hb).2;rw [e3] at this;exact this
    have N2:Hid (∀ u:World,Below w.heap.size w u→Calls Tryz.prog 15 #[.slice a n c,.int .i64 2] u fun r w'=>r=.returned (.tuple #[.float .f64 U,.int .i64 0])∧Below u.heap.size u w'):=fun u hb=>by
     have:=Norm12 xs a n c 2 u hln (UP.out u hb).1 W1 (UP.out u hb).2;rw [e2] at this;exact this
    have N1:Hid (∀ u:World,Below w.heap.size w u→Calls Tryz.prog 15 #[.slice a n c,.int .i64 1] u fun r w'=>r=.returned (.tuple #[.float .f64 D,.int .i64 0])∧Below u.heap.size u w'):=fun u hb=>by
     have:=Norm12 xs a n c 1 u hln (UP.out u hb).1 W1 (UP.out u hb).2;rw [e1] at this;exact this
    have N0:Hid (∀ u:World,Below w.heap.size w u→Calls Tryz.prog 15 #[.slice a n c,.int .i64 0] u fun r w'=>r=.returned (.tuple #[.float .f64 E,.int .i64 0])∧Below u.heap.size u w'):=fun u hb=>by
     have:=Norm12 xs a n c 0 u hln (UP.out u hb).1 W1 (UP.out u hb).2;rw [e0] at this;exact this
    have T3:Hid (∀ u:World,Below w.heap.size w u→Calls Tryz.prog 11 #[.slice a n c,.slice a n c,.int .i64 3,.agg #[.int .i64 0,.int .i64 0]] u fun r w'=>r=.returned (.tuple #[.float .f64 X,.int .i64 0])∧Below u.heap.size u w'):=fun u hb=>by
     have:=Dot12 xs xs a a n c n c 3 0 0 u hln hln (UP.out u hb).1 (UP.out u hb).1 W1 W1 (UP.out u hb).2;rw [f3] at this;exact this
    have T2:Hid (∀ u:World,Below w.heap.size w u→Calls Tryz.prog 11 #[.slice a n c,.slice a n c,.int .i64 2,.agg #[.int .i64 0,.int .i64 0]] u fun r w'=>r=.returned (.tuple #[.float .f64 Y,.int .i64 0])∧Below u.heap.size u w'):=fun u hb=>by
     have:=Dot12 xs xs a a n c n c 2 0 0 u hln hln (UP.out u hb).1 (UP.out u hb).1 W1 W1 (UP.out u hb).2;rw [f2] at this;exact this
    have mD:magW D=D∧negW D=false:=⟨(neg_low (by omega)).2,(neg_low (by omega)).1⟩
    have mU:magW U=U∧negW U=false:=⟨(neg_low (by omega)).2,(neg_low (by omega)).1⟩
    have betN:=none_betw z D U PP.out.2.2.1 (by omega) (by omega) (by omega) (by omega) (by rw [mD.1,mU.1,mD.2,mU.2];unfold sK;simp only [Bool.false_eq_true,if_false];omega)
    have betD:=none_betw z X Y PP.out.2.2.1 hX64 hY64 (Nat.le_of_lt fX) hY hXY;have qD:=eq_self D (by omega) (by omega)
    have qU:=eq_self U (by omega) (by omega)
    have fD:finW D:=by unfold finW;omega
    obtain ⟨V,hV⟩:∃ V,V=qV xs:=⟨_,rfl⟩;rw [←hV] at HL FV cD cU gX gY;obtain ⟨zD,hzD⟩:∃ q,cmpZ (fvW D*fvW D) V=q:=⟨_,rfl⟩;rw [hzD] at cD;have cD':decide (0<zD)=false:=by rcases cD with h | h <;> simp [h]
    have SD:=hid (fun (u:World) (p:Option Addr) (q:Nat) (N:Nt 0 u (.slice p (ws (dX (exV V))).length q) (dX (exV V)))=>squared12 D V p q u (by omega) fD FV N zD hzD)
    have SU:=hid (fun (hu:U<9218868437227405312) (u:World) (p:Option Addr) (q:Nat) (N:Nt 0 u (.slice p (ws (dX (exV V))).length q) (dX (exV V)))=>squared12 U V p q u (by omega) (by unfold finW;omega) FV N _ rfl)
    have OX:=hid (fun u:World=>rof12 X hX64 fX u)
    have OY:=hid (fun (fy:finW Y) (u:World)=>rof12 Y hY64 fy u)
    have OZ:=hid (fun (fy:¬ finW Y) (u:World)=>rof12_odd Y hY64 fy u)
    have QX:=qsd (ai (oW_fm X hX64 fX) (ai gX (ai FV (ai (fun fy:finW Y=>ai (oW_fm Y hY64 fy) (gY fy)) (fun hu:U<9218868437227405312=>cU hu)))))
    have BD:=qsd betD;have BN:=qsd betN;have QQ:=qsd (ai hE (ai qD (ai qU hU)));clear e hj v0 e3 e2 e1 e0 f3 f2 hE hD hDU cD cU hX64 hY64 fX hY gX gY hXY W1 mD mU betN betD qD qU fD hln hl2 FV hk hzD hV hU;obtain ⟨ov,hov⟩:∃ o,o=exV V:=⟨_,rfl⟩;rw [←hov] at HL QX SD SU;clear hov
    go_wp2_with fail
    refine (N3.out _ HL.out.2.1).mono ?_;rintro r u1 ⟨rfl,hb⟩;have K1:Aside (Lo u1 G ov∧Below w.heap.size w u1):=⟨HL.out.1.below hb,HL.out.2.1.trans (hb.mono HL.out.2.1.size)⟩;clear hb HL N3
    go_wp2_with fail
    refine (N2.out _ K1.out.2).mono ?_;rintro r u2 ⟨rfl,hb⟩;have K2:Aside (Lo u2 G ov∧Below w.heap.size w u2):=⟨K1.out.1.below hb,K1.out.2.trans (hb.mono K1.out.2.size)⟩;clear hb K1 N2
    go_wp2_with fail
    refine (N1.out _ K2.out.2).mono ?_;rintro r u3 ⟨rfl,hb⟩;have K3:Aside (Lo u3 G ov∧Below w.heap.size w u3):=⟨K2.out.1.below hb,K2.out.2.trans (hb.mono K2.out.2.size)⟩;clear hb K2 N1
    go_wp2_with fail
    refine (N0.out _ K3.out.2).mono ?_;rintro r u4 ⟨rfl,hb⟩;have K4:Aside (Lo u4 G ov∧Below w.heap.size w u4):=⟨K3.out.1.below hb,K3.out.2.trans (hb.mono K3.out.2.size)⟩;clear hb K3 N0
    go_upto_region 16 with fail
    go_cut [125] from 96 to 125 (fun v wx=>v=.bool false∧wx=u4)
    case first =>
     obtain ⟨hE,qD,qU,_⟩:=QQ.out
     rcases hE with hE|hE
     · have hb:(FloatKind.f64.format.order E D==some .eq)=true:=by rw [hE];exact qD
       have hb':FloatKind.f64.format.order E D=some .eq:=by simpa using hb
       clear hE
       go_wp2_with fail
       refine (alike12 D _).mono ?_;rintro r u9 ⟨rfl,hu⟩;have hu':=hu.symm;clear hu;subst hu'
       go_wp2_with fail
       go_meet
       case rel=>exact ⟨rfl,rfl⟩
     · have hb2:(FloatKind.f64.format.order E U==some .eq)=true:=by rw [hE];exact qU
       have hb2':FloatKind.f64.format.order E U=some .eq:=by simpa using hb2
       clear hE
       by_cases hb:FloatKind.f64.format.order E D=some .eq
       · go_wp2_with fail
         refine (alike12 D _).mono ?_;rintro r u9 ⟨rfl,hu⟩;have hu':=hu.symm;clear hu;subst hu'
         go_wp2_with fail
         go_meet
         case rel=>exact ⟨rfl,rfl⟩
       · go_wp2_with fail
         refine (alike12 D _).mono ?_;rintro r u9 ⟨rfl,hu⟩;have hu':=hu.symm;clear hu;subst hu'
         go_wp2_with fail
         go_meet
         case rel=>exact ⟨rfl,rfl⟩
    obtain ⟨rfl,hwc⟩:=hcut;rw [hwc];clear hwc wc
    go_upto_region 18 with fail
    go_cut [21] from 126 to 133 (fun v wx=>v=.bool (decide (U=9218868437227405312))∧Aside (Lo wx G ov∧Below w.heap.size w wx))
    case first =>
     by_cases hu:U=9218868437227405312
     · have hg:(FloatKind.f64.format.order U 0==some .gt)=true:=by rw [hu];decide +kernel
       obtain ⟨y,hy,d⟩:=run_float_none (P:=Tryz.prog) u4 .sub 27 U U (.inr (.inl rfl)) (by rw [hu];exact up_inf)
       have ho:=order_nan y hy.1;have ho':¬ FloatKind.f64.format.order y 0=some .eq:=by simpa using ho
       have K5:Aside (Lo u4.drew G ov∧Below w.heap.size w u4.drew):=⟨K4.out.1.below (Below.refl _ _).drew,K4.out.2.trans ((Below.refl _ _).drew.mono K4.out.2.size)⟩;have HUU:=qsd hu;clear hy K4 hu
       go_wp2_with (simp only [d])
       go_meet
       case rel=>exact ⟨by rw [decide_eq_true HUU.out];simp only [bne,ho];rfl,K5.out⟩
     · have hs:=up_fin U (by have:=QQ.out.2.2.2;omega)
       have h0:FloatKind.f64.format.order 0 0=some .eq:=by decide +kernel
       have d:=run_float_arith (P:=Tryz.prog) u4 .sub 27 .f64 U U 0 hs;have hq:decide (U=9218868437227405312)=false:=decide_eq_false hu
       cases hg:(FloatKind.f64.format.order U 0==some .gt)
       · go_wp2_with (simp only [d])
         go_meet
         case rel=>exact ⟨by rw [hq],K4.out⟩
       · go_wp2_with (simp only [d])
         go_meet
         case rel=>exact ⟨by rw [hq],K4.out⟩
    obtain ⟨rfl,K5⟩:=hcut;clear K4;obtain ⟨qi,hqi⟩:∃ q,decide (U=9218868437227405312)=q:=⟨_,rfl⟩;rw [hqi];have HQI:=qsd hqi;clear hqi
    go_upto_region 19 with fail
    go_cut [147] from 134 to 147 (fun v wx=>v=.bool false∧Aside (Lo wx G ov∧Below w.heap.size w wx))
    case first =>
     obtain ⟨p0,q0,D0,M0⟩:=K5.out.1;obtain ⟨x0,x1,x2,xf0,xf1,xf2⟩:=D0.facts;have S1:=hid (SD.out _ p0 q0 M0);clear D0 M0
     cases qi
     · have hu:U<9218868437227405312:=by
        have h1:=of_decide_eq_false HQI.out;have:=QQ.out.2.2.2;omega
       go_wp2_with fail
       refine S1.out.mono ?_;rintro r u6 ⟨rfl,hb⟩;have K6:Aside (Lo u6 G ov∧Below w.heap.size w u6):=⟨K5.out.1.below hb,K5.out.2.trans (hb.mono K5.out.2.size)⟩;clear hb x0 x1 x2 xf0 xf1 xf2 S1;obtain ⟨p1,q1,D1,M1⟩:=K6.out.1;obtain ⟨x0,x1,x2,xf0,xf1,xf2⟩:=D1.facts;have S2:=hid (SU.out hu _ p1 q1 M1);have cU:=QX.out.2.2.2.2 hu;obtain ⟨zU,hzU⟩:∃ q,cmpZ (fvW U*fvW U) V=q:=⟨_,rfl⟩;rw [hzU] at S2 cU;have cU':decide (zU<0)=false:=by rcases cU with h | h <;> simp [h]
       clear D1 M1 cU hzU hu
       go_wp2_with fail
       refine S2.out.mono ?_;rintro r u7 ⟨rfl,hb⟩;have K7:Aside (Lo u7 G ov∧Below w.heap.size w u7):=⟨K6.out.1.below hb,K6.out.2.trans (hb.mono K6.out.2.size)⟩;clear hb K6 S2
       go_wp2_with fail
       go_meet
       case rel=>exact ⟨rfl,K7.out⟩
     · go_wp2_with fail
       refine S1.out.mono ?_;rintro r u6 ⟨rfl,hb⟩;have K6:Aside (Lo u6 G ov∧Below w.heap.size w u6):=⟨K5.out.1.below hb,K5.out.2.trans (hb.mono K5.out.2.size)⟩;clear hb x0 x1 x2 xf0 xf1 xf2 S1
       go_wp2_with fail
       go_meet
       case rel=>exact ⟨rfl,K6.out⟩
    obtain ⟨rfl,K6⟩:=hcut;obtain ⟨W6,hW6⟩:∃ W,W=wc:=⟨_,rfl⟩;rw [←hW6] at K6 ⊢;clear K5 hW6 SD SU QQ HQI cD'
    go_upto_region 21 with fail
    go_cut [155] from 148 to 155 (fun v wx=>v=.bool false∧wx=W6)
    case first =>
     rcases BN.out with h1|⟨h1,h2⟩
     · go_wp2_with fail
       go_meet
       case rel=>exact ⟨rfl,rfl⟩
     · go_wp2_with fail
       go_meet
       case rel=>exact ⟨rfl,rfl⟩
    obtain ⟨rfl,hwc⟩:=hcut;rw [hwc];clear hwc BN
    go_wp2_with fail
    refine (T3.out _ K6.out.2).mono ?_;rintro r u7 ⟨rfl,hb⟩;have K7:Aside (Lo u7 G ov∧Below w.heap.size w u7):=⟨K6.out.1.below hb,K6.out.2.trans (hb.mono K6.out.2.size)⟩;clear hb K6 T3
    go_wp2_with fail
    refine (T2.out _ K7.out.2).mono ?_;rintro r u8 ⟨rfl,hb⟩;have K8:Aside (Lo u8 G ov∧Below w.heap.size w u8):=⟨K7.out.1.below hb,K7.out.2.trans (hb.mono K7.out.2.size)⟩;clear hb K7 T2
    go_wp2_with fail
    refine (OX.out u8).mono ?_;rintro r u9 ⟨⟨v,rfl,hN⟩,hb⟩;obtain ⟨a1,c1,rfl,hN0⟩:=Lo.shape QX.out.1 hN;obtain ⟨ox,hox⟩:∃ o,o=oW X:=⟨_,rfl⟩;rw [←hox] at hN hN0 QX ⊢;obtain ⟨A1,hA1⟩:∃ U,U=u9.alloc (Obj.cells #[.bool (dN ox),.slice a1 (ws (dX ox)).length c1,.int .i64 (dE ox)] 47):=⟨_,rfl⟩
    have H1:Aside (Lo A1 G ov∧Lo A1 u9.heap.size ox∧Below w.heap.size w A1):=by
     rw [hA1];exact ⟨(K8.out.1.below hb).alloc12 _,Lo.new hN0,(K8.out.2.trans (hb.mono K8.out.2.size)).trans ((below_alloc _ _).mono (Nat.le_trans K8.out.2.size hb.size))⟩
    have HA1:=qsd hA1;obtain ⟨zX,hzX⟩:∃ q,cmpZ (valO ox) (valO ov)=q:=⟨_,rfl⟩;rw [hzX] at QX;have cX:decide (zX≤0)=true:=by rcases QX.out.2.1 with h | h <;> simp [h]
    have HZX:=qsd hzX;clear hA1 hN hN0 hb OX K8 hzX hox
    go_upto_region 26 with fail
    rw [←HA1.out];clear HA1
    by_cases fy:finW Y
    · go_wp2_with fail
      refine (OY.out fy A1).mono ?_;rintro r u10 ⟨⟨v,rfl,hN⟩,hb⟩;have FY:=(QX.out.2.2.2.1 fy);obtain ⟨oy,hoy⟩:∃ o,o=oW Y:=⟨_,rfl⟩;rw [←hoy] at hN FY ⊢;obtain ⟨a2,c2,rfl,hN0⟩:=Lo.shape FY.1 hN;obtain ⟨A2,hA2⟩:∃ U,U=u10.alloc (Obj.cells #[.bool (dN oy),.slice a2 (ws (dX oy)).length c2,.int .i64 (dE oy)] 47):=⟨_,rfl⟩
      have H2:Aside (Lo A2 G ov∧Lo A2 u9.heap.size ox∧Lo A2 u10.heap.size oy∧Below w.heap.size w A2):=by
       rw [hA2];exact ⟨(H1.out.1.below hb).alloc12 _,(H1.out.2.1.below hb).alloc12 _,Lo.new hN0,(H1.out.2.2.trans (hb.mono H1.out.2.2.size)).trans ((below_alloc _ _).mono (Nat.le_trans H1.out.2.2.size hb.size))⟩
      have HA2:=qsd hA2;obtain ⟨zY,hzY⟩:∃ q,cmpZ (valO oy) (valO ov)=q:=⟨_,rfl⟩;rw [hzY] at FY;have cY:decide (0≤zY)=true:=by rcases FY.2 with h | h <;> simp [h]
      have HFY:=qsd (ai FY hzY);clear hA2 hN hN0 hb OY OZ H1 FY hzY hoy
      go_upto_region 27 with fail
      rw [←HA2.out];clear HA2;obtain ⟨p0,q0,D0,M0⟩:=H2.out.1;obtain ⟨p1,q1,D1,M1⟩:=H2.out.2.1;obtain ⟨x0,x1,x2,xf0,xf1,xf2⟩:=D0.facts;obtain ⟨y0,y1,y2,yf0,yf1,yf2⟩:=D1.facts;have HC:=hid (rcmp12 QX.out.1 QX.out.2.2.1 M1 M0 zX HZX.out);clear D0 M0 D1 M1
      go_wp2_with fail
      refine HC.out.mono ?_;rintro r u11 ⟨rfl,hb⟩;have H3:Aside (Lo u11 G ov∧Lo u11 u10.heap.size oy∧Below w.heap.size w u11):=⟨H2.out.1.below hb,H2.out.2.2.1.below hb,H2.out.2.2.2.trans (hb.mono H2.out.2.2.2.size)⟩;clear hb H2 x0 x1 x2 xf0 xf1 xf2 y0 y1 y2 yf0 yf1 yf2 HC;obtain ⟨p0,q0,D0,M0⟩:=H3.out.1;obtain ⟨p1,q1,D1,M1⟩:=H3.out.2.1;obtain ⟨x0,x1,x2,xf0,xf1,xf2⟩:=D0.facts;obtain ⟨y0,y1,y2,yf0,yf1,yf2⟩:=D1.facts;have HC:=hid (rcmp12 HFY.out.1.1 QX.out.2.2.1 M1 M0 zY HFY.out.2);clear D0 M0 D1 M1
      go_wp2_with fail
      refine HC.out.mono ?_;rintro r u12 ⟨rfl,hb⟩;have H4:Aside (Below w.heap.size w u12):=H3.out.2.2.trans (hb.mono H3.out.2.2.size);clear hb H3 x0 x1 x2 xf0 xf1 xf2 y0 y1 y2 yf0 yf1 yf2 HC
      rcases BD.out with h1|⟨h1,h2⟩
      · go_wp2
        go_ret;exact ⟨rfl,H4.out⟩
      · go_wp2
        go_ret;exact ⟨rfl,H4.out⟩
    · go_wp2_with fail
      refine (OZ.out fy A1).mono ?_;rintro r u10 ⟨⟨a2,c2,rfl,hN⟩,hb⟩;obtain ⟨A2,hA2⟩:∃ U,U=u10.alloc (Obj.cells #[.bool false,.slice a2 0 c2,.int .i64 0] 47):=⟨_,rfl⟩
      have H2:Aside (Lo A2 G ov∧Lo A2 u9.heap.size ox∧Below w.heap.size w A2):=by
       rw [hA2];exact ⟨(H1.out.1.below hb).alloc12 _,(H1.out.2.1.below hb).alloc12 _,(H1.out.2.2.trans (hb.mono H1.out.2.2.size)).trans ((below_alloc _ _).mono (Nat.le_trans H1.out.2.2.size hb.size))⟩
      have HA2:=qsd hA2;clear hA2 hN hb OY OZ H1
      go_upto_region 27 with fail
      rw [←HA2.out];clear HA2;obtain ⟨p0,q0,D0,M0⟩:=H2.out.1;obtain ⟨p1,q1,D1,M1⟩:=H2.out.2.1;obtain ⟨x0,x1,x2,xf0,xf1,xf2⟩:=D0.facts;obtain ⟨y0,y1,y2,yf0,yf1,yf2⟩:=D1.facts;have HC:=hid (rcmp12 QX.out.1 QX.out.2.2.1 M1 M0 zX HZX.out);clear D0 M0 D1 M1
      go_wp2_with fail
      refine HC.out.mono ?_;rintro r u11 ⟨rfl,hb⟩;have H4:Aside (Below w.heap.size w u11):=H2.out.2.2.trans (hb.mono H2.out.2.2.size);clear hb H2 x0 x1 x2 xf0 xf1 xf2 y0 y1 y2 yf0 yf1 yf2 HC
      rcases BD.out with h1|⟨h1,h2⟩
      · go_wp2
        go_ret;exact ⟨rfl,H4.out⟩
      · go_wp2
        go_ret;exact ⟨rfl,H4.out⟩
end
end Go.Proofs.YthfkleadcnkglaaGreatDoor
