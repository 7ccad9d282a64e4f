import Derived.Test.YthfkleadcnkglaaGreatDoorX12x
import Derived.Test.YthfkleadcnkglaaGreatDoorY9x
import Derived.Test.YthfkleadcnkglaaGreatDoorM1x
import Derived.ProofKit
import Derived.OpenShut
import Derived.ChangeOld
import Derived.ChangeArms
import Derived.SizedLaws
import Derived.Laws.Cover2
import Derived.Test.YthfkleadcnkglaaGreatDoorD32cx
import Derived.Deep.CutRange
import Derived.Deep.RegionWith
import Derived.BigQuiet
set_option linter.unusedVariables false
set_option linter.unusedSimpArgs false
set_option maxHeartbeats 16000000
set_option maxRecDepth 20000
namespace Go.Proofs.YthfkleadcnkglaaGreatDoor
namespace J
end J
section
open Go.RowKit J
set_option maxRecDepth 100000 in
theorem awake12 (w:World) (hT:Tab w):Calls Tryz.prog 9 #[] w fun r w'=>r=.returned (.bool true)∧Below w.heap.size w w':=by
 have HT:=qsd hT;have hone:(FloatKind.f64.format.order 4607182418800017408 4607182418800017408==some .eq)=true:=by decide +kernel
 have hfive:(FloatKind.f64.format.order 4617315517961601024 4617315517961601024==some .eq)=true:=by decide +kernel
 have h17:(FloatKind.f64.format.order 4625478292286210048 4625478292286210048==some .eq)=true:=by decide +kernel
 clear hT;go_enter Tryz.func9,Tryz.ntmps9;go_wp2
 go_loopg [1,2] 600 (fun gk b i wr=>∃ k:Nat,gk+k=600∧b=.float .f64 ((1023+k)*4503599627370496)∧i=.int .i64 (k:Nat)∧wr=w)
 case atStart=>exact ⟨0,by omega,by first | rfl | simp,by first | rfl | simp,rfl⟩
 case round =>
  obtain ⟨k,hgk,rfl,rfl,hw⟩:=hrel;subst hw
  by_cases hk:k<600
  · have d:=run_float_arith (P:=Tryz.prog) wr .mul 27 .f64 _ _ _ (big_mul k hk)
    obtain ⟨B0,hB0⟩:∃ B0,B0=(1023+k)*4503599627370496:=⟨_,rfl⟩;obtain ⟨B1,hB1⟩:∃ B1,B1=(1023+(k+1))*4503599627370496:=⟨_,rfl⟩;rw [←hB0,←hB1] at d;rw [←hB0];have HB:=qsd hB1;have hd:decide ((k:Int)<600)=true:=by simp;omega
    clear hB0 hB1
    go_wp2_with (simp only [d])
    go_roundg (gk-1)
    case measure=>omega
    case rel=>exact ⟨k+1,by omega,by rw [HB.out],by first | rfl | simp,rfl⟩
  · obtain rfl:k=600:=by omega
    rw [show (1023+600)*4503599627370496=7309342195222315008 from rfl]
    have hn:∀ U:World,Sem.run Tryz.prog (Op.unary .neg (.float .f64 7309342195222315008)) U=.ok (.float .f64 16532714232077090816) U:=fun U=>neg12 (P:=Tryz.prog) U 0 7309342195222315008 (by decide)
    have B0:=qsd (Below.refl wr.heap.size wr);obtain ⟨W1,hW1⟩:∃ W,W=((wr.alloc (Obj.cells #[.float .f64 7309342195222315008,.float .f64 4607182418800017408,.float .f64 7309342195222315008] 27)).alloc (Obj.cells #[.float .f64 7309342195222315008,.float .f64 4607182418800017408,.float .f64 16532714232077090816] 27)):=⟨_,rfl⟩
    have H1:Aside (Below wr.heap.size wr W1∧Fs W1.heap.size W1 (some ⟨wr.heap.size,0,none⟩) [7309342195222315008,4607182418800017408,7309342195222315008]∧Fs W1.heap.size W1 (some ⟨wr.heap.size+1,0,none⟩) [7309342195222315008,4607182418800017408,16532714232077090816]):=by
     rw [hW1];have q1:=lit12 wr [7309342195222315008,4607182418800017408,7309342195222315008];have q2:=lit12b (wr.alloc (Obj.cells #[.float .f64 7309342195222315008,.float .f64 4607182418800017408,.float .f64 7309342195222315008] 27)) [7309342195222315008,4607182418800017408,16532714232077090816] (wr.heap.size+1) (by simp)
     exact ⟨(B0.out.trans ((below_alloc _ _).mono B0.out.size)).trans ((below_alloc _ _).mono (Nat.le_trans B0.out.size (by simp))),(q1.below (below_alloc _ _)).mono (by simp),q2⟩
    have C1:Hid (Calls Tryz.prog 11 #[.slice (some ⟨wr.heap.size,0,none⟩) 3 3,.slice (some ⟨wr.heap.size+1,0,none⟩) 3 3,.int .i64 0,.agg #[.int .i64 0,.int .i64 0]] W1 fun r w'=>r=.returned (.tuple #[.float .f64 4607182418800017408,.int .i64 0])∧Below W1.heap.size W1 w'):=by
     have:=Dot12 [7309342195222315008,4607182418800017408,7309342195222315008] [7309342195222315008,4607182418800017408,16532714232077090816] _ _ 3 3 3 3 0 0 0 W1 rfl rfl H1.out.2.1 H1.out.2.2 (by unfold W64;decide) (by unfold W64;decide) (HT.out.belows H1.out.1)
     rw [dotbig] at this;exact this
    have HE1:=qsd hW1;clear hW1
    go_wp2_with (simp only [hn])
    rw [←HE1.out];clear HE1;refine C1.out.mono ?_;rintro r u1 ⟨rfl,hb⟩;have B1:=qsd (H1.out.1.trans (hb.mono H1.out.1.size));clear hb C1 H1 B0;obtain ⟨W2,hW2⟩:∃ W,W=(u1.alloc (Obj.cells #[.float .f64 4613937818241073152,.float .f64 4616189618054758400] 27)):=⟨_,rfl⟩
    have H2:Aside (Below wr.heap.size wr W2∧Fs W2.heap.size W2 (some ⟨u1.heap.size,0,none⟩) [4613937818241073152,4616189618054758400]):=by
     rw [hW2];exact ⟨B1.out.trans ((below_alloc _ _).mono B1.out.size),lit12 u1 [4613937818241073152,4616189618054758400]⟩
    have C2:Hid (Calls Tryz.prog 15 #[.slice (some ⟨u1.heap.size,0,none⟩) 2 2,.int .i64 0] W2 fun r w'=>r=.returned (.tuple #[.float .f64 4617315517961601024,.int .i64 0])∧Below W2.heap.size W2 w'):=by
     have:=Norm12 [4613937818241073152,4616189618054758400] _ 2 2 0 W2 rfl H2.out.2 (by unfold W64;decide) (HT.out.belows H2.out.1)
     rw [norm34] at this;exact this
    have HE2:=qsd hW2;clear hW2
    go_wp2_with fail
    rw [←HE2.out];clear HE2;refine C2.out.mono ?_;rintro r u2 ⟨rfl,hb⟩;have B2:=qsd (H2.out.1.trans (hb.mono H2.out.1.size));clear hb C2 H2 B1;obtain ⟨W3,hW3⟩:∃ W,W=((u2.alloc (Obj.cells #[.float .f64 4607182418800017408,.float .f64 4611686018427387904] 27)).alloc (Obj.cells #[.float .f64 4616189618054758400,.float .f64 4618441417868443648] 27)):=⟨_,rfl⟩
    have H3:Aside (Below wr.heap.size wr W3∧Fs W3.heap.size W3 (some ⟨u2.heap.size,0,none⟩) [4607182418800017408,4611686018427387904]∧Fs W3.heap.size W3 (some ⟨u2.heap.size+1,0,none⟩) [4616189618054758400,4618441417868443648]):=by
     rw [hW3];have q1:=lit12 u2 [4607182418800017408,4611686018427387904];have q2:=lit12b (u2.alloc (Obj.cells #[.float .f64 4607182418800017408,.float .f64 4611686018427387904] 27)) [4616189618054758400,4618441417868443648] (u2.heap.size+1) (by simp)
     exact ⟨(B2.out.trans ((below_alloc _ _).mono B2.out.size)).trans ((below_alloc _ _).mono (Nat.le_trans B2.out.size (by simp))),(q1.below (below_alloc _ _)).mono (by simp),q2⟩
    have C3:Hid (Calls Tryz.prog 16 #[.slice (some ⟨u2.heap.size,0,none⟩) 2 2,.slice (some ⟨u2.heap.size+1,0,none⟩) 2 2,.int .i64 0] W3 fun r w'=>r=.returned (.tuple #[.float .f64 4617315517961601024,.int .i64 0])∧Below W3.heap.size W3 w'):=by
     have:=Dist12 [4607182418800017408,4611686018427387904] [4616189618054758400,4618441417868443648] _ _ 2 2 2 2 0 W3 rfl rfl H3.out.2.1 H3.out.2.2 (by unfold W64;decide) (by unfold W64;decide) (HT.out.belows H3.out.1)
     rw [dist25] at this;exact this
    have HE3:=qsd hW3;clear hW3
    go_wp2_with fail
    rw [←HE3.out];clear HE3;refine C3.out.mono ?_;rintro r u3 ⟨rfl,hb⟩;have B3:=qsd (H3.out.1.trans (hb.mono H3.out.1.size));clear hb C3 H3 B2;obtain ⟨W4,hW4⟩:∃ W,W=(u3.alloc (Obj.cells #[.float .f64 4607182418800017408,.float .f64 4611686018427387904,.float .f64 4613937818241073152] 27)):=⟨_,rfl⟩
    have H4:Aside (Below wr.heap.size wr W4∧Fs W4.heap.size W4 (some ⟨u3.heap.size,0,none⟩) [4607182418800017408,4611686018427387904,4613937818241073152]):=by
     rw [hW4];exact ⟨B3.out.trans ((below_alloc _ _).mono B3.out.size),lit12 u3 [4607182418800017408,4611686018427387904,4613937818241073152]⟩
    have C4:Hid (Calls Tryz.prog 19 #[.slice (some ⟨u3.heap.size,0,none⟩) 3 3,.float .f64 4611686018427387904,.int .i64 0] W4 fun r w'=>r=.returned (.tuple #[.float .f64 4625478292286210048,.int .i64 0])∧Below W4.heap.size W4 w'):=by
     have:=Poly12 [4607182418800017408,4611686018427387904,4613937818241073152] _ 3 3 4611686018427387904 0 W4 rfl H4.out.2 (by unfold W64;decide) (by decide) (HT.out.belows H4.out.1)
     rw [pl17] at this;exact this
    have HE4:=qsd hW4;clear hW4
    go_wp2_with fail
    rw [←HE4.out];clear HE4;refine C4.out.mono ?_;rintro r u4 ⟨rfl,hb⟩;have B4:=qsd (H4.out.1.trans (hb.mono H4.out.1.size));clear hb C4 H4 B3;obtain ⟨W5,hW5⟩:∃ W,W=(u4.alloc (Obj.cells #[.float .f64 4607182418800017408] 27)):=⟨_,rfl⟩
    have H5:Aside (Below wr.heap.size wr W5∧Fs W5.heap.size W5 (some ⟨u4.heap.size,0,none⟩) [4607182418800017408]):=by
     rw [hW5];exact ⟨B4.out.trans ((below_alloc _ _).mono B4.out.size),lit12 u4 [4607182418800017408]⟩
    have C5:Hid (Calls Tryz.prog 11 #[.slice (some ⟨u4.heap.size,0,none⟩) 1 1,.slice none 0 0,.int .i64 0,.agg #[.int .i64 0,.int .i64 0]] W5 fun r w'=>r=.returned (.tuple #[.float .f64 0,.int .i64 4])∧Below W5.heap.size W5 w'):=by
     have:=Dot12 [4607182418800017408] [] _ none 1 1 0 0 0 0 0 W5 rfl rfl H5.out.2 (Fs.nil _ _ _) (by unfold W64;decide) (by unfold W64;decide) (HT.out.belows H5.out.1)
     rw [dotlen] at this;exact this
    have HE5:=qsd hW5;clear hW5
    go_wp2_with fail
    rw [←HE5.out];clear HE5;refine C5.out.mono ?_;rintro r u5 ⟨rfl,hb⟩;have B5:=qsd (H5.out.1.trans (hb.mono H5.out.1.size));clear hb C5 H5 B4;go_wp2;go_ret;exact ⟨rfl,B5.out⟩
end
section
open Go.RowKit J
attribute [local go_sem] st_float
attribute [local go_sem] B.f64bits in
theorem alike12 (x:Nat) (w:World):Calls Tryz.prog 14 #[.float .f64 x,.float .f64 x] w fun r w'=>r=.returned (.bool true)∧w'=w:=by
 go_enter Tryz.func14,Tryz.ntmps14;go_wp2;go_ret;exact ⟨by first | rfl | simp,rfl⟩
end
section
open Go.ChangeShapes Go.WideShapes Go.ChangeAt Go.RowKit
theorem trodF {H:Type}{enc:TypeId×Value→H}{P:Program}{w:World}{base:Nat}{spare:Nat→Bool}{held:Bool}{fuel:Nat}{t:TypeId}{cs:List Value}{x:DataW H×List MemPlace}{k:FloatKind}(ht:P.underlying t=some (.float k)) (h:DataW.trod enc P w base spare held fuel t cs=some x):∃ n,cs=[.float k n]∧x=(.lit (.float k n),[])∧(Lit.float k n).wf=true:=by
 cases fuel with
 | zero=>simp [DataW.trod] at h
 | succ m =>
   simp only [DataW.trod,ht] at h
   split at h <;> simp_all
structure CameF (w:World) (a:Option Addr) (n c:Nat) (xs:List Nat):Prop where
 len:n=xs.length
 cap:n≤c
 wf:W64 xs
 rd:Fs w.heap.size w a xs
 nil:a=none→c=0
theorem add_noneF (b off i:Nat):(⟨b,off,none⟩:Addr).add i=⟨b,off+i,none⟩:=by unfold Addr.add;split <;> simp_all
def numF {H:Type} (y:DataW H×List MemPlace):Nat:=match y.1 with | .lit (.float _ n)=>n | _=>0
theorem Tryz.cellsF:Tryz.prog.cellsOf 27=1:=by kernel_rfl
theorem Tryz.bytesF:Tryz.prog.bytesOf 27=8:=by kernel_rfl
theorem cameF_of {H:Type}{enc:TypeId×Value→H}{W:World}{a:Option Addr}{n c:Nat}{d:DataW H}{p:List MemPlace}(h:DataW.Trod enc Tryz.prog W 0 (fun _=>true) true 22 (.slice a n c) d p) :
 ∃ xs,CameF W a n c xs∧((d=.nil∧c=0)∨∃ elems spare:List (DataW H),d=.slice elems spare∧elems.length+spare.length=c):=by
 obtain ⟨fuel,hf⟩:=h
 rcases DataW.trod_slice Tryz.underlying22 hf with ⟨hcs,hx⟩|⟨x,l,cp,elems,rest,m,_,hcs,hx,hb,hl,hm,hlen,hel,hsp,hns⟩
 · simp [Value.cells] at hcs
   obtain ⟨rfl,rfl,rfl⟩:=hcs;exact ⟨[],⟨rfl,Nat.le_refl _,(fun x hx=>by cases hx),(fun h=>absurd rfl h),fun _=>rfl⟩,.inl ⟨(Prod.mk.inj hx).1,rfl⟩⟩
 · simp [Value.cells] at hcs
   obtain ⟨rfl,rfl,rfl⟩:=hcs
   have each:∀ i y,i<n→elems[i]?=some y→y=(.lit (.float .f64 (numF y)),[])∧(Lit.float .f64 (numF y)).wf=true∧W.cell? (x.add i)=some (.float .f64 (numF y)):=by
    intro i y hi hy;have hb':=hel i hi;rw [hy,Tryz.cellsF,Nat.mul_one,Option.bind_eq_some_iff] at hb';obtain ⟨cs',hcs,hy'⟩:=hb';obtain ⟨k,rfl,rfl,hw⟩:=trodF Tryz.underlying27 hy';exact ⟨rfl,hw,cell_of_cells?_one hcs⟩
   refine ⟨elems.map numF,⟨by simp [hlen],hl,?_,?_,fun e=>by cases e⟩,.inr ⟨_,_,(Prod.mk.inj hx).1,?_⟩⟩
   · intro y hy
     obtain ⟨z,hz,rfl⟩:=List.mem_map.1 hy;obtain ⟨i,hi⟩:=List.getElem?_of_mem hz;have hil:=(List.getElem?_eq_some_iff.1 hi).1;have:=(each i z (by omega) hi).2.1
     exact of_decide_eq_true this
   · intro hne
     obtain ⟨b,off,spot⟩:=x
     have hn0:0<n:=by
      rcases Nat.eq_zero_or_pos n with h0|h0
      · rw [h0] at hlen;have:=List.eq_nil_of_length_eq_zero hlen;subst this;simp at hne
      · exact h0
     have hc0:=(each 0 (elems[0]'(by omega)) hn0 (List.getElem?_eq_getElem _)).2.2
     have hspot:spot=none:=by simpa [Addr.add] using World.cell?_spot hc0
     subst hspot;refine ⟨b,off,World.block_lt_of_cell? W _ (by simpa [Addr.add] using hc0),rfl,fun i hi=>?_⟩
     rw [List.length_map] at hi;have hadd:=add_noneF b off i;have:=(each i (elems[i]'hi) (by omega) (List.getElem?_eq_getElem _)).2.2
     rw [hadd] at this;rw [this];simp [List.getD_eq_getElem?_getD,hi]
   · have hr:=(hsp rfl).1
     simp only [List.length_map];omega
theorem cameF_reach {H:Type}{ts:List TypeId}{ds:List (DataW H)}(h:(DataW.weightsEach Tryz.prog ts ds).all (·≤reachBytes)=true) {j:Nat}{d:DataW H}{c n:Nat}(ht:ts[j]?=some 22) (hd:ds[j]?=some d) (hn:n≤c)
 (hc:(d=.nil∧c=0)∨∃ elems spare:List (DataW H),d=.slice elems spare∧elems.length+spare.length=c):n≤17592186043904:=by
 rcases hc with ⟨_,rfl⟩|⟨elems,spare,rfl,hl⟩
 · omega
 · have:=sized_slice h ht hd Tryz.underlying22
   rw [Tryz.bytesF,hl] at this;simp only [reachBytes] at this;omega
end
section
open Go.RowKit J
theorem s6_map:∀ (xs:List Nat) (s:Sp),xs.foldl (fun s x=>s.cnt (kOf (kd x)) 1) s=(xs.map (fun x=>(kOf (kd x),(0:Int)))).foldl (fun s p=>s.cnt p.1 1) s
 | [],s=>rfl
 | x::xs,s=>s6_map xs _
theorem kd_odd {x:Nat}(h:¬ finW x):kOf (kd x)=1∨kOf (kd x)=2∨kOf (kd x)=3:=by
 have h:¬ x%9223372036854775808<9218868437227405312:=h;unfold kd
 by_cases h1:9218868437227405312<x%9223372036854775808
 · rw [if_pos h1];exact .inl rfl
 · rw [if_neg h1,if_pos (by omega)]
   split
   · exact .inr (.inr rfl)
   · exact .inr (.inl rfl)
theorem s6_fin {xs:List Nat}(h:(s6 xs).n+(s6 xs).u+(s6 xs).d≤0):∀ x ∈ xs,finW x:=by
 intro x hx
 by_cases hf:finW x
 · exact hf
 · exfalso
   have hm:(kOf (kd x),(0:Int)) ∈ xs.map (fun x=>(kOf (kd x),(0:Int))):=List.mem_map.2 ⟨x,hx,rfl⟩
   obtain ⟨h1,h2,h3⟩:=sI_nud (xs.map (fun x=>(kOf (kd x),(0:Int))))
   have e:s6 xs=sI (xs.map (fun x=>(kOf (kd x),(0:Int)))):=s6_map xs _
   rw [e,h1,h2,h3] at h;have key:∀ k,kOf (kd x)=k→0<cI k (xs.map (fun x=>(kOf (kd x),(0:Int)))):=fun k hk=>List.countP_pos_iff.2 ⟨_,hm,by simp [hk]⟩
   rcases kd_odd hf with q|q|q
   · have:=key 1 q;omega
   · have:=key 2 q;omega
   · have:=key 3 q;omega
attribute [local go_sem] st_float
end
section
open Go.RowKit J
attribute [local go_sem] st_float
theorem kx_nan {x:Nat}(h:9218868437227405312<magW x):kOf (kd x)=1∧pK x x=1:=by
 have h':9218868437227405312<x%9223372036854775808:=h;refine ⟨?_,pK_self_nan h⟩;unfold kd;rw [if_pos h'];rfl
theorem kx_inf {x:Nat}(h:magW x=9218868437227405312):(kOf (kd x)=2∨kOf (kd x)=3)∧pK x x=2:=by
 have h':x%9223372036854775808=9218868437227405312:=h;refine ⟨?_,pK_self_inf h⟩;unfold kd;rw [if_neg (by omega),if_pos h']
 split
 · exact .inr rfl
 · exact .inl rfl
theorem kx_fin {x:Nat}(hx:x<18446744073709551616) (h:finW x):(kOf (kd x)≠1∧kOf (kd x)≠2∧kOf (kd x)≠3)∧(pK x x≠1∧pK x x≠2∧pK x x≠3):=by
 have h':x%9223372036854775808<9218868437227405312:=h;refine ⟨?_,?_⟩
 · unfold kd
   rw [if_neg (by omega),if_neg (by omega)]
   repeat' split
   all_goals decide
 · have:=(pT_mul hx hx h h).2
   omega
theorem nI_s6:∀ {xs:List Nat},W64 xs→(s6 xs).n=cI 1 (nI xs)∧(s6 xs).u+(s6 xs).d=cI 2 (nI xs)∧cI 3 (nI xs)=0:=by
 intro xs hW;have e:s6 xs=sI (xs.map (fun x=>(kOf (kd x),(0:Int)))):=s6_map xs _
 obtain ⟨h1,h2,h3⟩:=sI_nud (xs.map (fun x=>(kOf (kd x),(0:Int))))
 rw [e,h1,h2,h3];clear e h1 h2 h3
 induction xs with
 | nil=>exact ⟨rfl,rfl,rfl⟩
 | cons x xs ih =>
   obtain ⟨i1,i2,i3⟩:=ih (fun z hz=>hW z (List.mem_cons_of_mem _ hz))
   have hx:=hW x List.mem_cons_self;have e2:nI (x::xs)=[(pK x x,pT x x)]++nI xs:=rfl;have e3:(x::xs).map (fun x=>(kOf (kd x),(0:Int)))=[(kOf (kd x),0)]++xs.map (fun x=>(kOf (kd x),(0:Int))):=rfl
   rw [e2,e3,cI_append,cI_append,cI_append,cI_append,cI_append,cI_append]
   have one:∀ (k j:Nat) (t:Int),cI k [(j,t)]=if j=k then 1 else 0:=fun k j t=>by
    unfold cI
    by_cases q:j=k
    · simp [q]
    · simp [q]
   rw [one,one,one,one,one,one]
   by_cases hn:9218868437227405312<magW x
   · obtain ⟨q1,q2⟩:=kx_nan hn
     rw [q1,q2];simp only [if_true,show ¬ (1=2) by decide,show ¬ (1=3) by decide,if_false]
     omega
   · by_cases hi:magW x=9218868437227405312
     · obtain ⟨q1,q2⟩:=kx_inf hi
       rw [q2]
       rcases q1 with q1|q1 <;> rw [q1] <;> simp only [if_true,show ¬ (2=1) by decide,show ¬ (2=3) by decide,show ¬ (3=1) by decide,show ¬ (3=2) by decide,if_false] <;> omega
     · have fx:finW x:=by unfold finW;omega
       obtain ⟨⟨q1,q2,q3⟩,r1,r2,r3⟩:=kx_fin hx fx;rw [if_neg q1,if_neg q2,if_neg q3,if_neg r1,if_neg r2,if_neg r3];omega
theorem lenV_case {V:Int}{s:Sp}{mode:Int}(hp:s.pos) (ha:s.a≤1099511627776) (hd:s.d=0):lenV V s mode=if 0<s.n then (9221120237041090560,0) else if 0<s.u then (9218868437227405312,0) else sq12 V mode:=by
 unfold lenV vd;rw [snd_ok hp ha];simp only [show may 0 0=true from by decide,Bool.and_self,Bool.true_eq_false,if_false,if_true,hd]
 by_cases h1:0<s.n
 · simp [h1]
 · by_cases h2:0<s.u
   · simp [h1,h2]
   · simp [h1,h2]
theorem nI_sp {xs:List Nat}(hW:W64 xs) (hl:xs.length≤65536):(sI (nI xs)).pos∧(sI (nI xs)).a≤1099511627776:=by
 obtain ⟨h1,h2⟩:=sI_pos (nI xs) (nI_ip hW);refine ⟨h1,?_⟩;rw [h2];have:(nI xs).length=xs.length:=by unfold nI;simp
 omega
theorem normR_case {xs:List Nat}(hW:W64 xs) (mode:Int) (hm:md mode=true) (hl:xs.length≤65536) :
 normR xs mode=if 0<(s6 xs).n then (9221120237041090560,0) else if 0<(s6 xs).u+(s6 xs).d then (9218868437227405312,0) else sq12 (vI (nI xs)) mode:=by
 obtain ⟨h1,h2⟩:=nI_sp hW hl;obtain ⟨k1,k2,k3⟩:=nI_s6 hW;obtain ⟨j1,j2,j3⟩:=sI_nud (nI xs);have hr:rf12 mode xs.length xs.length=0:=by unfold rf12;rw [if_neg (by rw [hm];decide),if_neg (by omega),if_neg (by omega)]
 unfold normR;rw [if_pos hr,lenV_case h1 h2 (by omega),j1,j2,k1,k2]
set_option maxRecDepth 100000 in
theorem rNorm12 (xs:List Nat) (a:Option Addr) (n c:Nat) (mode:Int) (w:World) (hn:n=xs.length) (hF:Fs w.heap.size w a xs) (hW:W64 xs) (hm:n≤17592186043904) :
 Calls Tryz.prog 17 #[.slice a n c,.int .i64 mode] w fun r w'=>r=.returned (.tuple #[.float .f64 (normR xs mode).1,.int .i64 (normR xs mode).2])∧Below w.heap.size w w':=by
 have HI:=hid (fun u:World=>rMay12 mode u)
 by_cases hmd:md mode=false
 · rw [hmd] at HI
   have e:normR xs mode=(0,1):=by unfold normR rf12;rw [if_pos hmd];rfl
   rw [e];clear hmd;go_enter Tryz.func17,Tryz.ntmps17
   go_wp2_with fail
   refine (HI.out _).mono ?_;rintro r w1 ⟨rfl,rfl⟩;go_wp2;exact bodyPost_ret (v:=.tuple #[.float .f64 0,.int .i64 1]) (by simp [results,Tryz.results17,go_sem]) rfl ⟨rfl,Below.refl _ _⟩
 have hmt:md mode=true:=by simpa using hmd
 rw [hmt] at HI
 by_cases hl:65536<xs.length
 · have hd:decide ((65536:Int)<(n:Int))=true:=by simp;omega
   have hr:rf12 mode xs.length xs.length=2:=by unfold rf12;rw [if_neg hmd,if_pos (.inl hl)]
   have e:normR xs mode=(0,2):=by unfold normR;rw [hr];rfl
   clear hr;rw [e];clear hmd hmt;go_enter Tryz.func17,Tryz.ntmps17
   go_wp2_with fail
   refine (HI.out _).mono ?_;rintro r w1 ⟨rfl,rfl⟩;go_wp2;exact bodyPost_ret (v:=.tuple #[.float .f64 0,.int .i64 2]) (by simp [results,Tryz.results17,go_sem]) rfl ⟨rfl,Below.refl _ _⟩
 have hd:decide ((65536:Int)<(n:Int))=false:=by simp;omega
 have NC:=qsd (normR_case hW mode hmt (by omega))
 have HS:=hid (fun (u:World) (hb:Below w.heap.size w u)=>rSpecials12 xs a n c u hn ((hF.below hb).mono hb.size) hW hm)
 have HFin:=hid (fun h=>s6_fin (xs:=xs) h)
 have hin:=s6_in xs xs.length (Nat.le_refl _);rw [List.take_length] at hin;obtain ⟨s,hs⟩:∃ s,s=s6 xs:=⟨_,rfl⟩;rw [←hs] at HS hin HFin NC;obtain ⟨n0,u0,d0,m0,p0,a0⟩:=s;unfold Sp.agg at HS;simp only at HS hin HFin NC;have PP:=qsd (ai hn (ai hF (ai hW (show xs.length≤65536 by omega))))
 have b1:0≤n0∧n0≤17592186043904:=by omega
 have b2:0≤u0∧u0≤17592186043904:=by omega
 have b3:0≤d0∧d0≤17592186043904:=by omega
 obtain ⟨⟨RX,RE⟩,hR⟩:∃ z,normR xs mode=z:=⟨_,rfl⟩;rw [hR] at NC ⊢;simp only;clear hs hin hmd hmt hl hn hF hW hR;go_enter Tryz.func17,Tryz.ntmps17
 go_wp2_with fail
 refine (HI.out _).mono ?_;rintro r w1 ⟨rfl,rfl⟩;clear HI
 go_wp2_with fail
 refine (HS.out _ (Below.refl _ _)).mono ?_;rintro r u2 ⟨rfl,hb⟩;obtain ⟨W,hW⟩:∃ W,W=u2.alloc (Obj.cells #[.int .i64 n0,.int .i64 u0,.int .i64 d0,.int .i64 m0,.int .i64 p0,.int .i64 a0] 42):=⟨_,rfl⟩
 have B2:Aside (Below w1.heap.size w1 W∧Bl W u2.heap.size 42 [.int .i64 n0,.int .i64 u0,.int .i64 d0,.int .i64 m0,.int .i64 p0,.int .i64 a0]∧w1.heap.size≤u2.heap.size∧W.heap.size=u2.heap.size+1):=by
  rw [hW];exact ⟨hb.trans ((below_alloc _ _).mono hb.size),Bl.new u2 42 [_,_,_,_,_,_],hb.size,by simp⟩
 have HW:=qsd hW;clear hb hW HS
 go_upto_region 6 with fail
 rw [←HW.out];clear HW;have c0:=B2.out.2.1.cell 0 _ rfl;have c1:=B2.out.2.1.cell 1 _ rfl;have c2:=B2.out.2.1.cell 2 _ rfl
 by_cases hq1:0<n0
 · have d1:decide ((0:Int)<n0)=true:=decide_eq_true hq1
   obtain ⟨e1,e2⟩:=Prod.mk.inj (NC.out.trans (if_pos hq1));have HN:=hid (fun u:World=>TheNaN_any u)
   have EE:=qsd (ai e1 e2);clear NC e1 e2 hq1
   go_wp2_with fail
   refine (HN.out _).mono ?_;rintro r w2 ⟨rfl,rfl⟩;go_wp2;exact bodyPost_ret (v:=.tuple #[.float .f64 9221120237041090560,.int .i64 0]) (by simp [results,Tryz.results17,go_sem]) rfl ⟨by rw [EE.out.1,EE.out.2],B2.out.1⟩
 have d1:decide ((0:Int)<n0)=false:=decide_eq_false hq1;have NC:=qsd (NC.out.trans (if_neg hq1))
 by_cases hq2:0<u0+d0
 · have d2:decide ((0:Int)<u0+d0)=true:=decide_eq_true hq2
   obtain ⟨e1,e2⟩:=Prod.mk.inj (NC.out.trans (if_pos hq2));have HN:=hid (fun u:World=>rInf_any false u)
   have EE:=qsd (ai e1 e2);rw [show infR false=9218868437227405312 from rfl] at HN
   clear NC e1 e2 hq1 hq2
   go_wp2_with fail
   refine (HN.out _).mono ?_;rintro r w2 ⟨rfl,rfl⟩;go_wp2;exact bodyPost_ret (v:=.tuple #[.float .f64 9218868437227405312,.int .i64 0]) (by simp [results,Tryz.results17,go_sem]) rfl ⟨by rw [EE.out.1,EE.out.2],B2.out.1⟩
 have d2:decide ((0:Int)<u0+d0)=false:=decide_eq_false hq2;have NC:=NC.out.trans (if_neg hq2);have FN:=qsd (HFin.out (by omega))
 rw [(nI_fin PP.out.2.2.1 FN.out).1] at NC;have NC:=qsd NC;clear HFin hq1 hq2;obtain ⟨W2,hW2⟩:∃ W2,W2=W.alloc (Obj.cells #[.bool false,.slice none 0 0,.int .i64 0] 47):=⟨_,rfl⟩;obtain ⟨G,hG⟩:∃ G,G=W.heap.size:=⟨_,rfl⟩
 have H0:Aside (Lo W2 G o00∧Below w1.heap.size w1 W2∧w1.heap.size≤G):=by
  rw [hW2,hG];exact ⟨Lo.zero W,B2.out.1.trans ((below_alloc _ _).mono B2.out.1.size),B2.out.1.size⟩
 have HW2:=qsd hW2;clear hW2;go_wp2;rw [←HW2.out,←hG];clear HW2 hG B2 c0 c1 c2 d1 d2 b1 b2 b3
 go_loopg [8] n (fun gk i wr=>∃ k:Nat,gk+k=n∧i=.int .i64 (k:Nat)∧Aside (Lo wr G (exV (qV (xs.take k)))∧Below w1.heap.size w1 wr∧w1.heap.size≤G))
 case atStart=>exact ⟨0,by omega,by simp,by rw [List.take_zero,show qV []=0 from rfl,ex_zero];exact H0.out.1,H0.out.2⟩
 case round =>
  clear H0;obtain ⟨k,hgk,rfl,HL⟩:=hrel
  have qs:∀ k,k≤xs.length→∀ j,j=4238→(qV (xs.take k)).natAbs<2^j:=fun k hk j hj=>by
   obtain ⟨j',e,h⟩:=qV_bd (xs:=xs.take k) (fun z hz=>PP.out.2.2.1 z (List.mem_of_mem_take hz)) (fun z hz=>FN.out z (List.mem_of_mem_take hz)) (by rw [List.length_take];have:=PP.out.2.2.2;omega)
   rw [hj,←e];exact h
  have QS:=hid qs;clear qs
  by_cases hk:k<n
  · obtain ⟨b,off,rfl,hcx⟩:=PP.out.2.1.at HL.out.2.1 k (by rw [←PP.out.1];exact hk)
    obtain ⟨x,hx⟩:∃ x,x=xs.getD k 0:=⟨_,rfl⟩;rw [←hx] at hcx;have hx64:x<18446744073709551616:=by rw [hx];exact PP.out.2.2.1.get k
    have fx:finW x:=by
     rw [hx];refine FN.out _ ?_;rw [List.getD_eq_getElem?_getD,List.getElem?_eq_getElem (by rw [←PP.out.1];exact hk)]
     exact List.getElem_mem _
    obtain ⟨j,hj⟩:∃ j,j=4238:=⟨_,rfl⟩;have hln:=PP.out.1;have v0:=QS.out k (by omega) j hj
    have v2:=QS.out (k+1) (by omega) j hj
    obtain ⟨o0,h0⟩:∃ o,o=exV (qV (xs.take k)):=⟨_,rfl⟩;obtain ⟨o1,h1⟩:∃ o,o=exV (fvW x*fvW x):=⟨_,rfl⟩;obtain ⟨o2,h2⟩:∃ o,o=exV (qV (xs.take (k+1))):=⟨_,rfl⟩;obtain ⟨i,hi⟩:∃ i,i=4196:=⟨_,rfl⟩;have sqx:=top_sq hx64 fx hx64 fx i hi
    have FF:Aside (Fm o0∧Fm (oW x)∧Fm o1∧Fm o2∧mulD (oW x) (oW x)=o1∧addD o0 o1=o2):=by
     rw [h0,h1,h2];refine ⟨ex_fm _ j (by omega) v0,oW_fm x hx64 fx,ex_fm _ i (by omega) sqx,ex_fm _ j (by omega) v2,mul_ex hx64 fx hx64 fx,?_⟩
     rw [qV_take xs k (by omega),←hx]
     exact add_ex j (by omega) v0 (Nat.lt_of_lt_of_le sqx (Nat.pow_le_pow_right (by decide) (by omega)))
    have HO:=hid (fun u:World=>rof12 x hx64 fx u)
    have HL':=HL;rw [←h0] at HL';have hkb:k<4611686018427387904:=by omega
    have E2:=qsd h2;obtain ⟨ox,hox⟩:∃ o,o=oW x:=⟨_,rfl⟩;rw [←hox] at HO FF;clear hx hj v0 v2 h0 h1 h2 hi sqx HL hln hox hx64 fx QS;have hd:decide ((k:Int)<(n:Nat))=true:=by simp;omega
    go_wp2_with fail
    refine (HO.out wr).mono ?_;rintro r u ⟨⟨v,rfl,hN⟩,hb⟩;obtain ⟨a1,c1,rfl,hN0⟩:=Lo.shape FF.out.2.1 hN;obtain ⟨U,hU⟩:∃ U,U=u.alloc (Obj.cells #[.bool (dN ox),.slice a1 (ws (dX ox)).length c1,.int .i64 (dE ox)] 47):=⟨_,rfl⟩
    have H1:Aside (Lo U G o0∧Lo U u.heap.size ox∧Below w1.heap.size w1 U∧w1.heap.size≤G):=by
     rw [hU];exact ⟨(HL'.out.1.below hb).alloc12 _,Lo.new hN0,(HL'.out.2.1.trans (hb.mono HL'.out.2.1.size)).trans ((below_alloc _ _).mono (Nat.le_trans HL'.out.2.1.size hb.size)),HL'.out.2.2⟩
    have HU:=qsd hU;clear hU hN hN0 hb HO HL' hcx
    go_upto_region 15 with fail
    rw [←HU.out];clear HU;obtain ⟨p0,q0,D0,M0⟩:=H1.out.1;obtain ⟨p1,q1,D1,M1⟩:=H1.out.2.1;obtain ⟨x0,x1,x2,xf0,xf1,xf2⟩:=D0.facts;obtain ⟨y0,y1,y2,yf0,yf1,yf2⟩:=D1.facts;have HAd:=hid (square12 U p0 p1 q0 q1 o0 ox o1 o2 FF M0 M1);clear D0 M0 D1 M1
    go_wp2_with fail
    refine HAd.out.mono ?_;rintro r u3 ⟨⟨v,rfl,hN⟩,hb⟩;obtain ⟨a3,c3,rfl,hN0⟩:=Lo.shape FF.out.2.2.2.1 hN;have s1:=H1.out.1.below hb;have b3:=H1.out.2.2.1.trans (hb.mono H1.out.2.2.1.size)
    have H3:Aside (Lo (st3 u3 G (.bool (dN o2)) (.slice a3 (ws (dX o2)).length c3) (.int .i64 (dE o2))) G o2∧Below w1.heap.size w1 (st3 u3 G (.bool (dN o2)) (.slice a3 (ws (dX o2)).length c3) (.int .i64 (dE o2)))∧w1.heap.size≤G) :=
     ⟨s1.set hN0,st3_bel12 b3 b3.size H1.out.2.2.2 _ _ _,H1.out.2.2.2⟩
    obtain ⟨p3,q3,D3,M3⟩:=s1;obtain ⟨z0,z1,z2,zf0,zf1,zf2⟩:=D3.facts;unfold st3 at H3;clear D3 M3 hN hN0 hb HAd H1 x0 x1 x2 xf0 xf1 xf2 y0 y1 y2 yf0 yf1 yf2 b3;go_wp2
    go_roundg (gk-1)
    case measure=>omega
    case rel=>exact ⟨k+1,by omega,by first | rfl | simp,by rw [←E2.out];exact H3.out⟩
  · obtain rfl:n=k:=by omega
    have hd:decide ((n:Int)<(n:Nat))=false:=by simp
    have e:xs.take n=xs:=List.take_of_length_le (by rw [←PP.out.1];omega)
    obtain ⟨j,hj⟩:∃ j,j=4238:=⟨_,rfl⟩;have v0:=QS.out n (by rw [←PP.out.1];omega) j hj
    rw [e] at HL v0;have FV:=ex_fm _ j (by omega) v0
    obtain ⟨p0,q0,D0,M0⟩:=HL.out.1;obtain ⟨x0,x1,x2,xf0,xf1,xf2⟩:=D0.facts;have HR:=hid (root12 (qV xs) mode p0 q0 wr FV M0 (RX,RE) NC.out.symm);simp only at HR;clear D0 M0 e hj v0 FV QS
    go_wp2_with fail
    refine HR.out.mono ?_;rintro r u2 ⟨rfl,hb⟩;have B:=qsd (HL.out.2.1.trans (hb.mono HL.out.2.1.size));clear hb HL HR;go_wp2;exact bodyPost_ret (v:=.tuple #[.float .f64 RX,.int .i64 RE]) (by simp [results,Tryz.results17,go_sem]) rfl ⟨rfl,B.out⟩
end
section
open Go.RowKit J
def oddP (x y:Nat):Bool:=(((kd x:Nat):Int)==5) || (((kd y:Nat):Int)==5) || (((((kd x:Nat):Int)==3) || (((kd x:Nat):Int)==4))&&(((kd x:Nat):Int)==((kd y:Nat):Int)))
def farP (x y:Nat):Bool:=((((kd x:Nat):Int)==3) || (((kd x:Nat):Int)==4)) || ((((kd y:Nat):Int)==3) || (((kd y:Nat):Int)==4))
theorem kd_cases {x:Nat}(hx:x<18446744073709551616):(9218868437227405312<magW x∧kd x=5)∨(magW x=9218868437227405312∧negW x=true∧kd x=4)∨(magW x=9218868437227405312∧negW x=false∧kd x=3)∨(magW x<9218868437227405312∧kd x≤2):=by
 have e:magW x=x%9223372036854775808:=rfl;have e2:negW x=decide (9223372036854775808≤x):=rfl;rw [e,e2];unfold kd
 by_cases h1:9218868437227405312<x%9223372036854775808
 · exact .inl ⟨h1,if_pos h1⟩
 · rw [if_neg h1]
   by_cases h2:x%9223372036854775808=9218868437227405312
   · rw [if_pos h2]
     by_cases h3:x/9223372036854775808=1
     · exact .inr (.inl ⟨h2,decide_eq_true (by omega),if_pos h3⟩)
     · exact .inr (.inr (.inl ⟨h2,decide_eq_false (by omega),if_neg h3⟩))
   · rw [if_neg h2]
     refine .inr (.inr (.inr ⟨by omega,?_⟩))
     repeat' split
     all_goals omega
theorem place {x y:Nat}(hx:x<18446744073709551616) (hy:y<18446744073709551616):(finW x∧finW y∧oddP x y=false∧farP x y=false)∨(¬ (finW x∧finW y)∧k12 x y=1∧oddP x y=true)∨(¬ (finW x∧finW y)∧k12 x y=2∧oddP x y=false∧farP x y=true):=by
 unfold oddP farP k12 finW
 rcases kd_cases hx with ⟨a1,a2⟩|⟨a1,a2,a3⟩|⟨a1,a2,a3⟩|⟨a1,a2⟩
 · refine .inr (.inl ⟨by omega,if_pos (.inl a1),by rw [a2];rfl⟩)
 · rcases kd_cases hy with ⟨b1,b2⟩ | ⟨b1,b2,b3⟩ | ⟨b1,b2,b3⟩ | ⟨b1,b2⟩
   · refine .inr (.inl ⟨by omega,if_pos (.inr (.inl b1)),by rw [a3,b2];rfl⟩)
   · refine .inr (.inl ⟨by omega,if_pos (.inr (.inr ⟨a1,b1,by rw [a2,b2]⟩)),by rw [a3,b3];rfl⟩)
   · refine .inr (.inr ⟨by omega,if_neg ?_,by rw [a3,b3];rfl,by rw [a3,b3];rfl⟩)
     rintro (q|q|⟨_,_,q⟩)
     · omega
     · omega
     · rw [a2,b2] at q;cases q
   · refine .inr (.inr ⟨by omega,if_neg (by omega),?_,by rw [a3];rfl⟩)
     rw [a3];have:kd y=0∨kd y=1∨kd y=2:=by omega
     rcases this with q|q|q <;> rw [q] <;> rfl
 · rcases kd_cases hy with ⟨b1,b2⟩ | ⟨b1,b2,b3⟩ | ⟨b1,b2,b3⟩ | ⟨b1,b2⟩
   · refine .inr (.inl ⟨by omega,if_pos (.inr (.inl b1)),by rw [a3,b2];rfl⟩)
   · refine .inr (.inr ⟨by omega,if_neg ?_,by rw [a3,b3];rfl,by rw [a3,b3];rfl⟩)
     rintro (q|q|⟨_,_,q⟩)
     · omega
     · omega
     · rw [a2,b2] at q;cases q
   · refine .inr (.inl ⟨by omega,if_pos (.inr (.inr ⟨a1,b1,by rw [a2,b2]⟩)),by rw [a3,b3];rfl⟩)
   · refine .inr (.inr ⟨by omega,if_neg (by omega),?_,by rw [a3];rfl⟩)
     rw [a3];have:kd y=0∨kd y=1∨kd y=2:=by omega
     rcases this with q|q|q <;> rw [q] <;> rfl
 · have ka:kd x=0∨kd x=1∨kd x=2:=by omega
   rcases kd_cases hy with ⟨b1,b2⟩|⟨b1,b2,b3⟩|⟨b1,b2,b3⟩|⟨b1,b2⟩
   · refine .inr (.inl ⟨by omega,if_pos (.inr (.inl b1)),?_⟩)
     rw [b2]
     rcases ka with q|q|q <;> rw [q] <;> rfl
   · refine .inr (.inr ⟨by omega,if_neg (by omega),?_,?_⟩) <;> rw [b3] <;> rcases ka with q | q | q <;> rw [q] <;> rfl
   · refine .inr (.inr ⟨by omega,if_neg (by omega),?_,?_⟩) <;> rw [b3] <;> rcases ka with q | q | q <;> rw [q] <;> rfl
   · have kb:kd y=0∨kd y=1∨kd y=2:=by omega
     refine .inl ⟨a1,b1,?_,?_⟩ <;> rcases ka with q | q | q <;> rcases kb with r | r | r <;> rw [q,r] <;> rfl
noncomputable def fvZ (x:Nat):Int:=open Classical in if finW x then fvW x else 0
theorem fvZ_fin {x:Nat}(h:finW x):fvZ x=fvW x:=if_pos h
theorem oZ_fo (x:Nat):oZ x=fo8 (fvZ x):=by
 by_cases h:finW x
 · rw [oZ_fin h,fvZ_fin h];rfl
 · rw [oZ_odd h,show fvZ x=0 from if_neg h]
   exact (mkS_zero _ _).symm
theorem fvZ_bd {x:Nat}(hx:x<18446744073709551616) (m:Nat) (hm:m=2098):(fvZ x).natAbs<2^m:=by
 by_cases h:finW x
 · rw [fvZ_fin h];exact top_fv hx h m hm
 · rw [show fvZ x=0 from if_neg h];exact Nat.two_pow_pos _
noncomputable def tZ (p:Nat×Nat):Int:=(fvZ p.1-fvZ p.2)*(fvZ p.1-fvZ p.2)
noncomputable def qZ (l:List (Nat×Nat)):Int:=l.foldl (fun v p=>v+tZ p) 0
theorem qZ_fold:∀ (l:List (Nat×Nat)) (v:Int),l.foldl (fun v p=>v+tZ p) v=v+qZ l
 | [],v=>by simp [qZ]
 | x::l,v=>by
   unfold qZ;rw [List.foldl_cons,List.foldl_cons,qZ_fold l (v+_),qZ_fold l (0+_)];omega
theorem qZ_cons (p:Nat×Nat) (l:List (Nat×Nat)):qZ (p::l)=tZ p+qZ l:=by
 have:=qZ_fold l (0+tZ p);unfold qZ at this ⊢;rw [List.foldl_cons,this];omega
theorem qZ_append (l:List (Nat×Nat)) (p:Nat×Nat):qZ (l++[p])=qZ l+tZ p:=by
 simp [qZ,List.foldl_append]
theorem dZ_bd {x y:Nat}(hx:x<18446744073709551616) (hy:y<18446744073709551616) (m:Nat) (hm:m=2099):(fvZ x-fvZ y).natAbs<2^m:=by
 obtain ⟨k,hk⟩:∃ k,k=2098:=⟨_,rfl⟩;have h1:=fvZ_bd hx k hk;have h2:=fvZ_bd hy k hk;rw [show m=k+1 by omega,Nat.pow_succ]
 omega
theorem tZ_bd {p:Nat×Nat}(hx:p.1<18446744073709551616) (hy:p.2<18446744073709551616) (m:Nat) (hm:m=4198):0≤tZ p∧(tZ p).natAbs<2^m:=by
 obtain ⟨k,hk⟩:∃ k,k=2099:=⟨_,rfl⟩;have h:=dZ_bd hx hy k hk;refine ⟨sq_nonneg _,?_⟩;unfold tZ;rw [Int.natAbs_mul,show m=k+k by omega,Nat.pow_add]
 exact Nat.mul_lt_mul'' h h
theorem qZ_bd (T:Nat):∀ l:List (Nat×Nat),(∀ p ∈ l,0≤tZ p∧(tZ p).natAbs<T)→0≤qZ l∧qZ l≤((l.length*T:Nat):Int)
 | [],_=>by simp [qZ]
 | p::l,h=>by
   obtain ⟨i1,i2⟩:=qZ_bd T l (fun q hq=>h q (List.mem_cons_of_mem _ hq))
   obtain ⟨h1,h2⟩:=h p List.mem_cons_self;rw [qZ_cons,List.length_cons,Nat.add_mul,Nat.one_mul];omega
theorem qZ_small {l:List (Nat×Nat)}(hl:l.length≤65536) (h:∀ p ∈ l,p.1<18446744073709551616∧p.2<18446744073709551616) (j:Nat) (hj:j=4238):(qZ l).natAbs<2^j:=by
 obtain ⟨k,hk⟩:∃ k,k=4198:=⟨_,rfl⟩;obtain ⟨h1,h2⟩:=qZ_bd (2^k) l (fun p hp=>tZ_bd (h p hp).1 (h p hp).2 k hk)
 have e:2^j=2^k*1099511627776:=by rw [show j=k+40 by omega,Nat.pow_add]
 have h3:l.length*2^k≤65536*2^k:=Nat.mul_le_mul_right _ hl;have h4:0<2^k:=Nat.two_pow_pos _;rw [e];omega
theorem cI_one (k j:Nat) (t:Int):cI k [(j,t)]=if j=k then 1 else 0:=by
 unfold cI
 by_cases q:j=k
 · simp [q]
 · simp [q]
theorem ap_fin {x y:Nat}(hx:x<18446744073709551616) (hy:y<18446744073709551616) (fx:finW x) (fy:finW y):cI 1 (ap12 x y)=0∧cI 2 (ap12 x y)=0∧cI 3 (ap12 x y)=0∧vI (ap12 x y)=tZ (x,y):=by
 obtain ⟨ft,ht⟩:=fv_turn hy fy;have ht64:turnW y<18446744073709551616:=turn_lt y hy;obtain ⟨v1,c1⟩:=pT_mul hx hx fx fx;obtain ⟨v2,c2⟩:=pT_mul hy hy fy fy;obtain ⟨v3,c3⟩:=pT_mul hx ht64 fx ft;have e:ap12 x y=[(pK x x,pT x x)]++([(pK y y,pT y y)]++([(pK x (turnW y),pT x (turnW y))]++[(pK x (turnW y),pT x (turnW y))])):=by unfold ap12;rw [if_pos ⟨fx,fy⟩];rfl
 have hv:vI (ap12 x y)=pT x x+pT y y+pT x (turnW y)+pT x (turnW y):=by
  unfold ap12;rw [if_pos ⟨fx,fy⟩];simp [vI]
 refine ⟨?_,?_,?_,?_⟩
 · rw [e,cI_append,cI_append,cI_append,cI_one,cI_one,cI_one,if_neg (by omega),if_neg (by omega),if_neg (by omega)]
 · rw [e,cI_append,cI_append,cI_append,cI_one,cI_one,cI_one,if_neg (by omega),if_neg (by omega),if_neg (by omega)]
 · rw [e,cI_append,cI_append,cI_append,cI_one,cI_one,cI_one,if_neg (by omega),if_neg (by omega),if_neg (by omega)]
 · rw [hv,v1,v2,v3,ht]
   unfold tZ;simp only;rw [fvZ_fin fx,fvZ_fin fy]
   grind
theorem ap_odd {x y:Nat}(h:¬ (finW x∧finW y)):ap12 x y=[(k12 x y,0)]:=by unfold ap12;rw [if_neg h]
theorem aI_cons (x y:Nat) (xs ys:List Nat):aI (x::xs) (y::ys)=ap12 x y++aI xs ys:=rfl
theorem dist_spec:∀ {xs ys:List Nat},W64 xs→W64 ys→(0<cI 1 (aI xs ys)↔(xs.zip ys).any (fun p=>oddP p.1 p.2)=true)∧((xs.zip ys).any (fun p=>oddP p.1 p.2)=false→(0<cI 2 (aI xs ys)↔(xs.zip ys).any (fun p=>farP p.1 p.2)=true))∧cI 3 (aI xs ys)=0∧((xs.zip ys).any (fun p=>oddP p.1 p.2)=false→(xs.zip ys).any (fun p=>farP p.1 p.2)=false→vI (aI xs ys)=qZ (xs.zip ys))
 | [],ys,_,_=>by simp [aI,cI,vI,qZ]
 | x::xs,[],_,_=>by simp [aI,cI,vI,qZ]
 | x::xs,y::ys,h1,h2=>by
   obtain ⟨i1,i2,i3,i4⟩:=dist_spec (xs:=xs) (ys:=ys) (fun z hz=>h1 z (List.mem_cons_of_mem _ hz)) (fun z hz=>h2 z (List.mem_cons_of_mem _ hz))
   have hx:=h1 x List.mem_cons_self;have hy:=h2 y List.mem_cons_self;rw [aI_cons,List.zip_cons_cons,List.any_cons,List.any_cons,cI_append,cI_append,cI_append,vI_append,qZ_cons];simp only;generalize (xs.zip ys).any (fun p=>oddP p.1 p.2)=A at *
   generalize (xs.zip ys).any (fun p=>farP p.1 p.2)=B at *
   rcases place hx hy with ⟨fx,fy,po,pf⟩|⟨hn,k1,po⟩|⟨hn,k2,po,pf⟩
   · obtain ⟨a1,a2,a3,a4⟩:=ap_fin hx hy fx fy
     rw [a1,a2,a3,a4,po,pf,Nat.zero_add,Nat.zero_add,Nat.zero_add,Bool.false_or,Bool.false_or];exact ⟨i1,i2,i3,fun q r=>by rw [i4 q r]⟩
   · rw [ap_odd hn,k1,cI_one,cI_one,cI_one,po,Bool.true_or,if_pos rfl,if_neg (by decide),if_neg (by decide)]
     refine ⟨⟨fun _=>rfl,fun _=>by omega⟩,(fun q=>by cases q),by omega,(fun q=>by cases q)⟩
   · rw [ap_odd hn,k2,cI_one,cI_one,cI_one,po,pf,Bool.false_or,Bool.true_or,if_neg (by decide),if_pos rfl,if_neg (by decide)]
     refine ⟨by rw [Nat.zero_add];exact i1,fun _=>⟨fun _=>rfl,fun _=>by omega⟩,by omega,fun _ q=>by cases q⟩
theorem distR_case {xs ys:List Nat}(h1:W64 xs) (h2:W64 ys) (mode:Int) (hm:md mode=true) (hl:xs.length≤65536) (he:xs.length=ys.length) :
 distR xs ys mode=if (xs.zip ys).any (fun p=>oddP p.1 p.2) then (9221120237041090560,0) else if (xs.zip ys).any (fun p=>farP p.1 p.2) then (9218868437227405312,0) else sq12 (qZ (xs.zip ys)) mode:=by
 obtain ⟨p1,p2⟩:=sI_pos (aI xs ys) (aI_ip h1 h2);have hal:=aI_len xs ys;obtain ⟨k1,k2,k3,k4⟩:=dist_spec h1 h2;obtain ⟨j1,j2,j3⟩:=sI_nud (aI xs ys);have hr:rf12 mode xs.length ys.length=0:=by unfold rf12;rw [if_neg (by rw [hm];decide),if_neg (by omega),if_neg (by omega)]
 unfold distR;rw [if_pos hr,lenV_case p1 (by rw [p2];omega) (by omega),j1,j2]
 generalize (xs.zip ys).any (fun p=>oddP p.1 p.2)=A at *
 generalize (xs.zip ys).any (fun p=>farP p.1 p.2)=B at *
 cases A with
 | true=>rw [if_pos (by have:=k1.2 rfl;omega),if_pos rfl]
 | false =>
   have q:¬ 0<cI 1 (aI xs ys):=fun q=>by cases k1.1 q
   rw [if_neg (show ¬ (0:Int)<(cI 1 (aI xs ys):Int) by omega)]
   simp only [Bool.false_eq_true,if_false]
   cases B with
   | true =>
     rw [if_pos (by have:=(k2 rfl).2 rfl;omega)]
     rfl
   | false =>
     have q2:¬ 0<cI 2 (aI xs ys):=fun q=>by cases (k2 rfl).1 q
     rw [if_neg (by omega)]
     simp only [Bool.false_eq_true,if_false];rw [k4 rfl rfl]
theorem odd_comm {x y:Nat}(hx:x<18446744073709551616) (hy:y<18446744073709551616):oddP x y=oddP y x∧farP x y=farP y x:=by
 unfold oddP farP;generalize kd x=a;generalize kd y=b;refine ⟨?_,Bool.or_comm _ _⟩;rw [Bool.or_comm ((a:Int)==5)]
 by_cases h:a=b
 · subst h;rfl
 · have e1:((a:Int)==(b:Int))=false:=by simp;omega
   have e2:((b:Int)==(a:Int))=false:=by simp;omega
   rw [e1,e2,Bool.and_false,Bool.and_false]
theorem zip_comm:∀ {xs ys:List Nat},W64 xs→W64 ys→(xs.zip ys).any (fun p=>oddP p.1 p.2)=(ys.zip xs).any (fun p=>oddP p.1 p.2)∧(xs.zip ys).any (fun p=>farP p.1 p.2)=(ys.zip xs).any (fun p=>farP p.1 p.2)∧qZ (xs.zip ys)=qZ (ys.zip xs)
 | [],[],_,_=>⟨rfl,rfl,rfl⟩
 | [],y::ys,_,_=>⟨rfl,rfl,rfl⟩
 | x::xs,[],_,_=>⟨rfl,rfl,rfl⟩
 | x::xs,y::ys,h1,h2=>by
   obtain ⟨i1,i2,i3⟩:=zip_comm (xs:=xs) (ys:=ys) (fun z hz=>h1 z (List.mem_cons_of_mem _ hz)) (fun z hz=>h2 z (List.mem_cons_of_mem _ hz))
   obtain ⟨c1,c2⟩:=odd_comm (h1 x List.mem_cons_self) (h2 y List.mem_cons_self);rw [List.zip_cons_cons,List.zip_cons_cons,List.any_cons,List.any_cons,List.any_cons,List.any_cons,qZ_cons,qZ_cons,i1,i2,i3];simp only;rw [c1,c2];refine ⟨rfl,rfl,?_⟩
   congr 1
   unfold tZ;simp only
   grind
theorem dist_comm (xs ys:List Nat) (h1:W64 xs) (h2:W64 ys) (mode:Int):distR ys xs mode=distR xs ys mode:=by
 by_cases hr:rf12 mode xs.length ys.length=0
 · obtain ⟨r1,r2,r3,r4⟩:=rf12_ok hr
   have hm:md mode=true:=by unfold md;rw [decide_eq_true r1,decide_eq_true r2];rfl
   obtain ⟨i1,i2,i3⟩:=zip_comm h1 h2;rw [distR_case h1 h2 mode hm r3 r4,distR_case h2 h1 mode hm (by omega) (by omega),i1,i2,i3]
 · have e:rf12 mode ys.length xs.length=rf12 mode xs.length ys.length:=by
    unfold rf12
    by_cases hm:md mode=false
    · rw [if_pos hm,if_pos hm]
    · rw [if_neg hm,if_neg hm]
      by_cases hl:65536<xs.length∨65536<ys.length
      · rw [if_pos hl,if_pos (by omega)]
      · rw [if_neg hl,if_neg (by omega)]
        by_cases he:xs.length=ys.length
        · rw [if_neg (by omega),if_neg (by omega)]
        · rw [if_pos (by omega),if_pos (by omega)]
   unfold distR;rw [e,if_neg hr,if_neg hr]
end
section
open Go.RowKit J
attribute [local go_sem] st_float
theorem rsub12 {U:World}{a b:Option Addr}{c d:Nat}(V Y:Int) (m:Nat) (hm:m≤100000) (hV:V.natAbs<2^m) (hY:Y.natAbs<2^m) (N1:Nt 0 U (.slice a (ws (dX (fo8 V))).length c) (dX (fo8 V))) (N2:Nt 0 U (.slice b (ws (dX (fo8 Y))).length d) (dX (fo8 Y))) :
 Calls Tryz.prog 55 #[.agg #[.bool (dN (fo8 V)),.slice a (ws (dX (fo8 V))).length c,.int .i64 (dE (fo8 V))],.agg #[.bool (dN (fo8 Y)),.slice b (ws (dX (fo8 Y))).length d,.int .i64 (dE (fo8 Y))]] U fun r w'=>(∃ v,r=.returned (.tuple #[.agg #[.bool (dN (fo8 (V-Y))),v,.int .i64 (dE (fo8 (V-Y)))],.int .i64 0])∧Nt U.heap.size w' v (dX (fo8 (V-Y))))∧Below U.heap.size U w' :=
 rsub8 V Y m hm hV hY U a b c d ((fo_fm V m hm hV).a12 N1) ((fo_fm Y m hm hY).a12 N2)
theorem zip_take (xs ys:List Nat) (k:Nat) (h1:k<xs.length) (h2:k<ys.length):(xs.zip ys).take (k+1)=(xs.zip ys).take k++[(xs.getD k 0,ys.getD k 0)]:=by
 have hk:k<(xs.zip ys).length:=by rw [List.length_zip];omega
 rw [List.take_add_one,List.getElem?_eq_getElem hk,List.getElem_zip,List.getD_eq_getElem?_getD,List.getD_eq_getElem?_getD,List.getElem?_eq_getElem h1,List.getElem?_eq_getElem h2]
 rfl
theorem zip_any (f:Nat×Nat→Bool) (xs ys:List Nat) (k:Nat) (h1:k<xs.length) (h2:k<ys.length):((xs.zip ys).take (k+1)).any f=(((xs.zip ys).take k).any f || f (xs.getD k 0,ys.getD k 0)):=by
 rw [zip_take xs ys k h1 h2,List.any_append];simp
set_option maxRecDepth 100000 in
theorem rDist12 (xs ys:List Nat) (a:Option Addr) (n c:Nat) (a':Option Addr) (n' c':Nat) (mode:Int) (w:World) (hn:n=xs.length) (hn':n'=ys.length) (hF:Fs w.heap.size w a xs) (hF':Fs w.heap.size w a' ys) (hW:W64 xs) (hW':W64 ys) (hm:n≤17592186043904) :
 Calls Tryz.prog 18 #[.slice a n c,.slice a' n' c',.int .i64 mode] w fun r w'=>r=.returned (.tuple #[.float .f64 (distR xs ys mode).1,.int .i64 (distR xs ys mode).2])∧Below w.heap.size w w':=by
 have HI:=hid (fun u:World=>rMay12 mode u)
 by_cases hmd:md mode=false
 · rw [hmd] at HI
   have hr:rf12 mode xs.length ys.length=1:=by unfold rf12;rw [if_pos hmd]
   have e:distR xs ys mode=(0,1):=by unfold distR;rw [hr];rfl
   rw [e];clear hmd hr e;go_enter Tryz.func18,Tryz.ntmps18
   go_wp2_with fail
   refine (HI.out _).mono ?_;rintro r w1 ⟨rfl,rfl⟩;go_wp2;exact bodyPost_ret (v:=.tuple #[.float .f64 0,.int .i64 1]) (by simp [results,Tryz.results18,go_sem]) rfl ⟨rfl,Below.refl _ _⟩
 have hmt:md mode=true:=by simpa using hmd
 rw [hmt] at HI
 by_cases hl:65536<xs.length∨65536<ys.length
 · have hr:rf12 mode xs.length ys.length=2:=by unfold rf12;rw [if_neg hmd,if_pos hl]
   have e:distR xs ys mode=(0,2):=by unfold distR;rw [hr];rfl
   rw [e];clear hmd hmt hr e
   by_cases hl1:65536<xs.length
   · have hd:decide ((65536:Int)<(n:Int))=true:=by simp;omega
     go_enter Tryz.func18,Tryz.ntmps18
     go_wp2_with fail
     refine (HI.out _).mono ?_;rintro r w1 ⟨rfl,rfl⟩;go_wp2;exact bodyPost_ret (v:=.tuple #[.float .f64 0,.int .i64 2]) (by simp [results,Tryz.results18,go_sem]) rfl ⟨rfl,Below.refl _ _⟩
   · have hd:decide ((65536:Int)<(n:Int))=false:=by simp;omega
     have hd':decide ((65536:Int)<(n':Int))=true:=by simp;omega
     go_enter Tryz.func18,Tryz.ntmps18
     go_wp2_with fail
     refine (HI.out _).mono ?_;rintro r w1 ⟨rfl,rfl⟩;go_wp2;exact bodyPost_ret (v:=.tuple #[.float .f64 0,.int .i64 2]) (by simp [results,Tryz.results18,go_sem]) rfl ⟨rfl,Below.refl _ _⟩
 have hd:decide ((65536:Int)<(n:Int))=false:=by simp;omega
 have hd':decide ((65536:Int)<(n':Int))=false:=by simp;omega
 by_cases hq:xs.length=ys.length
 rotate_left
 · have hr:rf12 mode xs.length ys.length=4:=by unfold rf12;rw [if_neg hmd,if_neg hl,if_pos hq]
   have e:distR xs ys mode=(0,4):=by unfold distR;rw [hr];rfl
   have hne:((n:Int) != (n':Int))=true:=by simp;omega
   rw [e];clear hmd hmt hr e;go_enter Tryz.func18,Tryz.ntmps18
   go_wp2_with fail
   refine (HI.out _).mono ?_;rintro r w1 ⟨rfl,rfl⟩;go_wp2;exact bodyPost_ret (v:=.tuple #[.float .f64 0,.int .i64 4]) (by simp [results,Tryz.results18,go_sem]) rfl ⟨rfl,Below.refl _ _⟩
 obtain rfl:n'=n:=by omega
 have hne:((n':Int) != (n':Int))=false:=by simp
 have NC:=qsd (distR_case hW hW' mode hmt (by omega) hq)
 have PP:=qsd (ai hn (ai hn' (ai hF (ai hF' (ai hW (ai hW' (show xs.length≤65536 by omega)))))))
 obtain ⟨⟨RX,RE⟩,hR⟩:∃ z,distR xs ys mode=z:=⟨_,rfl⟩;rw [hR] at NC ⊢;simp only;obtain ⟨W2,hW2⟩:∃ W2,W2=w.alloc (Obj.cells #[.bool false,.slice none 0 0,.int .i64 0] 47):=⟨_,rfl⟩;obtain ⟨G,hG⟩:∃ G,G=w.heap.size:=⟨_,rfl⟩
 have H0:Aside (Lo W2 G o00∧Below w.heap.size w W2∧w.heap.size≤G):=by
  rw [hW2,hG];exact ⟨Lo.zero w,below_alloc _ _,Nat.le_refl _⟩
 have HW2:=qsd hW2;have HG:=qsd hG;clear hmd hmt hl hn hn' hF hF' hW hW' hR hq hW2 hG;go_enter Tryz.func18,Tryz.ntmps18
 go_wp2_with fail
 refine (HI.out _).mono ?_;rintro r w1 ⟨rfl,hu⟩;have hu':=hu.symm;clear hu HI;subst hu';go_wp2;rw [←HW2.out,←HG.out];clear HW2 HG
 go_loopg [9,10,12] n' (fun gk ov fv i wr=>∃ k:Nat,gk+k=n'∧ov=.bool (((xs.zip ys).take k).any (fun p=>oddP p.1 p.2))∧fv=.bool (((xs.zip ys).take k).any (fun p=>farP p.1 p.2))∧i=.int .i64 (k:Nat)∧Aside (Lo wr G (exV (qZ ((xs.zip ys).take k)))∧Below w.heap.size w wr∧w.heap.size≤G))
 case atStart=>exact ⟨0,by omega,by rw [List.take_zero];rfl,by rw [List.take_zero];rfl,by simp,by rw [List.take_zero,show qZ []=0 from rfl,ex_zero];exact H0.out.1,H0.out.2⟩
 case round =>
  clear H0;obtain ⟨k,hgk,rfl,rfl,rfl,HL⟩:=hrel
  have qs:∀ k,k≤xs.length→∀ j,j=4238→(qZ ((xs.zip ys).take k)).natAbs<2^j:=fun k hk j hj=>by
   refine qZ_small (by rw [List.length_take,List.length_zip];have:=PP.out.2.2.2.2.2.2;omega) (fun p hp=>?_) j hj
   have hp:=List.mem_of_mem_take hp;exact ⟨PP.out.2.2.2.2.1 _ (List.of_mem_zip hp).1,PP.out.2.2.2.2.2.1 _ (List.of_mem_zip hp).2⟩
  have QS:=hid qs;clear qs
  by_cases hk:k<n'
  · obtain ⟨b,off,rfl,hcx⟩:=PP.out.2.2.1.at HL.out.2.1 k (by rw [←PP.out.1];exact hk)
    obtain ⟨b',off',hb',rfl,hcy⟩:=PP.out.2.2.2.1.atb HL.out.2.1 k (by rw [←PP.out.2.1];exact hk)
    have hln:=PP.out.1;have hln':=PP.out.2.1;have ho:=zip_any (fun p=>oddP p.1 p.2) xs ys k (by omega) (by omega)
    have hf:=zip_any (fun p=>farP p.1 p.2) xs ys k (by omega) (by omega)
    have hz:=zip_take xs ys k (by omega) (by omega)
    have hx64:=PP.out.2.2.2.2.1.get k;have hy64:=PP.out.2.2.2.2.2.1.get k;obtain ⟨x,hx⟩:∃ x,x=xs.getD k 0:=⟨_,rfl⟩;obtain ⟨y,hy⟩:∃ y,y=ys.getD k 0:=⟨_,rfl⟩;rw [←hx] at hcx ho hf hz hx64;rw [←hy] at hcy ho hf hz hy64;simp only at ho hf;obtain ⟨j,hj⟩:∃ j,j=4238:=⟨_,rfl⟩;have v0:=QS.out k (by omega) j hj
    have v2:=QS.out (k+1) (by omega) j hj
    obtain ⟨i1,hi1⟩:∃ i,i=2098:=⟨_,rfl⟩;obtain ⟨i2,hi2⟩:∃ i,i=2099:=⟨_,rfl⟩;obtain ⟨i3,hi3⟩:∃ i,i=4198:=⟨_,rfl⟩;have zx:=fvZ_bd hx64 i1 hi1;have zy:=fvZ_bd hy64 i1 hi1;have zd:=dZ_bd hx64 hy64 i2 hi2;have zt:=(tZ_bd (p:=(x,y)) hx64 hy64 i3 hi3).2;obtain ⟨o0,h0⟩:∃ o,o=exV (qZ ((xs.zip ys).take k)):=⟨_,rfl⟩;obtain ⟨o1,h1⟩:∃ o,o=exV (tZ (x,y)):=⟨_,rfl⟩;obtain ⟨o2,h2⟩:∃ o,o=exV (qZ ((xs.zip ys).take (k+1))):=⟨_,rfl⟩;obtain ⟨od,hod⟩:∃ o,o=fo8 (fvZ x-fvZ y):=⟨_,rfl⟩
    have FF:Aside (Fm o0∧Fm od∧Fm o1∧Fm o2∧mulD od od=o1∧addD o0 o1=o2):=by
     rw [h0,h1,h2,hod];refine ⟨ex_fm _ j (by omega) v0,fo_fm _ i2 (by omega) zd,ex_fm _ i3 (by omega) zt,ex_fm _ j (by omega) v2,fo_sq i2 (by omega) zd,?_⟩
     rw [hz,qZ_append];exact add_ex j (by omega) v0 (Nat.lt_of_lt_of_le zt (Nat.pow_le_pow_right (by decide) (by omega)))
    have FX:=qsd (ai (oZ_iv x hx64).fm (oZ_iv y hy64).fm);have HX:=hid (fun u:World=>rofZ x hx64 u)
    have HY:=hid (fun u:World=>rofZ y hy64 u)
    have KX:=hid (fun u:World=>Kind_any x hx64 u)
    have KY:=hid (fun u:World=>Kind_any y hy64 u)
    have HSb:Hid (∀ (U:World) (p q:Option Addr) (cp cq:Nat),Nt 0 U (.slice p (ws (dX (oZ x))).length cp) (dX (oZ x))→Nt 0 U (.slice q (ws (dX (oZ y))).length cq) (dX (oZ y))→Calls Tryz.prog 55 #[.agg #[.bool (dN (oZ x)),.slice p (ws (dX (oZ x))).length cp,.int .i64 (dE (oZ x))],.agg #[.bool (dN (oZ y)),.slice q (ws (dX (oZ y))).length cq,.int .i64 (dE (oZ y))]] U fun r w'=>(∃ v,r=.returned (.tuple #[.agg #[.bool (dN od),v,.int .i64 (dE od)],.int .i64 0])∧Nt U.heap.size w' v (dX od))∧Below U.heap.size U w'):=fun U p q cp cq m1 m2=>by
     rw [oZ_fo x] at m1 ⊢;rw [oZ_fo y] at m2 ⊢;rw [hod];exact rsub12 (fvZ x) (fvZ y) i1 (by omega) zx zy m1 m2
    have HL':=HL;rw [←h0] at HL';have hkb:k<4611686018427387904:=by omega
    obtain ⟨p0,hp0⟩:∃ b,b=((xs.zip ys).take k).any (fun p=>oddP p.1 p.2):=⟨_,rfl⟩
    obtain ⟨f0,hf0⟩:∃ b,b=((xs.zip ys).take k).any (fun p=>farP p.1 p.2):=⟨_,rfl⟩
    obtain ⟨ox,hox⟩:∃ o,o=oZ x:=⟨_,rfl⟩;obtain ⟨oy,hoy⟩:∃ o,o=oZ y:=⟨_,rfl⟩;obtain ⟨ex,hex⟩:∃ o,o=oE x:=⟨_,rfl⟩;obtain ⟨ey,hey⟩:∃ o,o=oE y:=⟨_,rfl⟩;rw [←hp0] at ho ⊢;rw [←hf0] at hf ⊢;rw [←hox,←hex] at HX;rw [←hoy,←hey] at HY;rw [←hox,←hoy] at FX HSb;obtain ⟨A1,hA1⟩:∃ b,b=((xs.zip ys).take (k+1)).any (fun p=>oddP p.1 p.2):=⟨_,rfl⟩
    obtain ⟨A2,hA2⟩:∃ b,b=((xs.zip ys).take (k+1)).any (fun p=>farP p.1 p.2):=⟨_,rfl⟩
    rw [←hA1] at ho;rw [←hA2] at hf;unfold oddP at ho;unfold farP at hf;obtain ⟨jx,hjx⟩:∃ j:Nat,j=kd x:=⟨_,rfl⟩;obtain ⟨jy,hjy⟩:∃ j:Nat,j=kd y:=⟨_,rfl⟩;rw [←hjx] at KX ho hf;rw [←hjy] at KY ho hf;obtain ⟨x3,hx3⟩:∃ b,((jx:Int)==3)=b:=⟨_,rfl⟩;obtain ⟨x4,hx4⟩:∃ b,((jx:Int)==4)=b:=⟨_,rfl⟩;obtain ⟨x5,hx5⟩:∃ b,((jx:Int)==5)=b:=⟨_,rfl⟩;obtain ⟨y3,hy3⟩:∃ b,((jy:Int)==3)=b:=⟨_,rfl⟩;obtain ⟨y4,hy4⟩:∃ b,((jy:Int)==4)=b:=⟨_,rfl⟩;obtain ⟨y5,hy5⟩:∃ b,((jy:Int)==5)=b:=⟨_,rfl⟩;obtain ⟨xy,hxy⟩:∃ b,((jx:Int)==(jy:Int))=b:=⟨_,rfl⟩;rw [hx3,hx4,hx5,hy5,hxy] at ho;rw [hx3,hx4,hy3,hy4] at hf;have E2:=qsd (ai h2 (ai ho hf));have E3:=qsd (ai hA1 hA2);clear hx hy hj v0 v2 h0 h1 h2 hi1 hi2 hi3 zx zy zd zt HL hln hln' hox hoy hex hey hx64 hy64 QS hz hod hp0 hf0 hjx hjy ho hf hA1 hA2;have hd1:decide ((k:Int)<(n':Nat))=true:=by simp;omega
    go_wp2_with fail
    refine (KX.out wr).mono ?_;rintro r u ⟨rfl,hu⟩;have hu':=hu.symm;clear hu;subst hu'
    go_wp2_with fail
    refine (KY.out wr).mono ?_;rintro r u1 ⟨rfl,hu⟩;have hu':=hu.symm;clear hu;subst hu'
    go_upto_region 16 with fail
    go_cut [15] from 59 to 64 (fun v wx=>v=.bool (x3 || x4)∧wx=wr)
    case first =>
     cases x3
     · go_wp2_with fail
       go_meet
       case rel=>exact ⟨by simp,rfl⟩
     · go_wp2_with fail
       go_meet
       case rel=>exact ⟨by simp,rfl⟩
    obtain ⟨rfl,hwc⟩:=hcut;rw [hwc];clear hwc wc;obtain ⟨xi,hxi⟩:∃ b,b=(x3 || x4):=⟨_,rfl⟩
    rw [←hxi] at E2 ⊢
    go_upto_region 17 with fail
    go_cut [16] from 65 to 70 (fun v wx=>v=.bool (y3 || y4)∧wx=wr)
    case first =>
     cases y3
     · go_wp2_with fail
       go_meet
       case rel=>exact ⟨by simp,rfl⟩
     · go_wp2_with fail
       go_meet
       case rel=>exact ⟨by simp,rfl⟩
    obtain ⟨rfl,hwc⟩:=hcut;rw [hwc];clear hwc wc;obtain ⟨yi,hyi⟩:∃ b,b=(y3 || y4):=⟨_,rfl⟩
    rw [←hyi] at E2 ⊢;clear hxi hyi hx3 hx4 hy3 hy4 x3 x4 y3 y4
    go_upto_region 18 with fail
    go_cut [9,15] from 71 to 87 (fun v v15 wx=>v=.bool (p0 || (x5 || y5 || (xi&&xy)))∧v15=.bool xi∧wx=wr)
    case first =>
     cases p0
     · cases x5
       · cases y5
         · cases xi
           · go_wp2_with fail
             go_meet
             case rel=>exact ⟨by simp,rfl,rfl⟩
           · go_wp2_with fail
             go_meet
             case rel=>exact ⟨by simp,rfl,rfl⟩
         · go_wp2_with fail
           go_meet
           case rel=>exact ⟨by simp,rfl,rfl⟩
       · go_wp2_with fail
         go_meet
         case rel=>exact ⟨by simp,rfl,rfl⟩
     · go_wp2_with fail
       go_meet
       case rel=>exact ⟨by simp,rfl,rfl⟩
    obtain ⟨rfl,rfl,hwc⟩:=hcut;rw [hwc];clear hwc wc;obtain ⟨p1,hp1⟩:∃ b,b=(p0 || (x5 || y5 || (xi&&xy))):=⟨_,rfl⟩
    rw [←hp1] at E2 ⊢;clear hp1 hx5 hy5 hxy x5 y5 xy p0
    go_upto_region 19 with fail
    go_cut [10,15,16] from 88 to 94 (fun v v15 v16 wx=>v=.bool (f0 || (xi || yi))∧v15=.bool xi∧v16=.bool yi∧wx=wr)
    case first =>
     cases f0
     · cases xi
       · cases yi
         · go_wp2_with fail
           go_meet
           case rel=>exact ⟨by simp,rfl,rfl,rfl⟩
         · go_wp2_with fail
           go_meet
           case rel=>exact ⟨by simp,rfl,rfl,rfl⟩
       · go_wp2_with fail
         go_meet
         case rel=>exact ⟨by simp,rfl,rfl,rfl⟩
     · go_wp2_with fail
       go_meet
       case rel=>exact ⟨by simp,rfl,rfl,rfl⟩
    obtain ⟨rfl,rfl,rfl,hwc⟩:=hcut;rw [hwc];clear hwc wc;obtain ⟨f1,hf1⟩:∃ b,b=(f0 || (xi || yi)):=⟨_,rfl⟩
    rw [←hf1] at E2 ⊢;clear hf1 f0
    go_wp2_with fail
    refine (HX.out wr).mono ?_;rintro r u ⟨⟨v,rfl,hN⟩,hb⟩;obtain ⟨a1,c1,rfl,hN0⟩:=Lo.shape FX.out.1 hN;obtain ⟨U,hU⟩:∃ U,U=u.alloc (Obj.cells #[.bool (dN ox),.slice a1 (ws (dX ox)).length c1,.int .i64 (dE ox)] 47):=⟨_,rfl⟩;have bU:Below wr.heap.size wr U:=by rw [hU];exact hb.trans ((below_alloc _ _).mono hb.size)
    have H1:Aside (Lo U G o0∧Lo U u.heap.size ox∧Below w.heap.size w U∧w.heap.size≤G) :=
     ⟨HL'.out.1.below bU,by rw [hU];exact Lo.new hN0,HL'.out.2.1.trans (bU.mono HL'.out.2.1.size),HL'.out.2.2⟩
    have hcy2:U.cell? ⟨b',off'+k,none⟩=some (.float .f64 y):=(bU.cell (p:=⟨b',off'+k,none⟩) (Nat.lt_of_lt_of_le hb' HL'.out.2.1.size)).trans hcy;have HU:=qsd hU;clear hU hN hN0 hb HX HL' hcx hcy bU
    go_upto_region 21 with fail
    rw [←HU.out];clear HU
    go_wp2_with fail
    refine (HY.out U).mono ?_;rintro r u2 ⟨⟨v,rfl,hN⟩,hb⟩;obtain ⟨a2,c2,rfl,hN0⟩:=Lo.shape FX.out.2 hN;obtain ⟨U2,hU2⟩:∃ U,U=u2.alloc (Obj.cells #[.bool (dN oy),.slice a2 (ws (dX oy)).length c2,.int .i64 (dE oy)] 47):=⟨_,rfl⟩;have bU:Below U.heap.size U U2:=by rw [hU2];exact hb.trans ((below_alloc _ _).mono hb.size)
    have H2:Aside (Lo U2 G o0∧Lo U2 u.heap.size ox∧Lo U2 u2.heap.size oy∧Below w.heap.size w U2∧w.heap.size≤G) :=
     ⟨H1.out.1.below bU,H1.out.2.1.below bU,by rw [hU2];exact Lo.new hN0,H1.out.2.2.1.trans (bU.mono H1.out.2.2.1.size),H1.out.2.2.2⟩
    have HU:=qsd hU2;clear hU2 hN hN0 hb HY H1 bU hcy2
    go_upto_region 22 with fail
    rw [←HU.out];clear HU;obtain ⟨q0,r0,D0,M0⟩:=H2.out.2.1;obtain ⟨q1,r1,D1,M1⟩:=H2.out.2.2.1;obtain ⟨x0,x1,x2,xf0,xf1,xf2⟩:=D0.facts;obtain ⟨y0,y1,y2,yf0,yf1,yf2⟩:=D1.facts;have HC:=hid (HSb.out U2 q0 q1 r0 r1 M0 M1);clear D0 M0 D1 M1
    go_wp2_with fail
    refine HC.out.mono ?_;rintro r u3 ⟨⟨v,rfl,hN⟩,hb⟩;obtain ⟨a3,c3,rfl,hN0⟩:=Lo.shape FF.out.2.1 hN;obtain ⟨U3,hU3⟩:∃ U,U=u3.alloc (Obj.cells #[.bool (dN od),.slice a3 (ws (dX od)).length c3,.int .i64 (dE od)] 47):=⟨_,rfl⟩;have bU:Below U2.heap.size U2 U3:=by rw [hU3];exact hb.trans ((below_alloc _ _).mono hb.size)
    have H3:Aside (Lo U3 G o0∧Lo U3 u3.heap.size od∧Below w.heap.size w U3∧w.heap.size≤G) :=
     ⟨H2.out.1.below bU,by rw [hU3];exact Lo.new hN0,H2.out.2.2.2.1.trans (bU.mono H2.out.2.2.2.1.size),H2.out.2.2.2.2⟩
    have HU:=qsd hU3;clear hU3 hN hN0 hb H2 bU HC HSb x0 x1 x2 xf0 xf1 xf2 y0 y1 y2 yf0 yf1 yf2
    go_upto_region 23 with fail
    rw [←HU.out];clear HU;obtain ⟨q0,r0,D0,M0⟩:=H3.out.1;obtain ⟨q1,r1,D1,M1⟩:=H3.out.2.1;obtain ⟨x0,x1,x2,xf0,xf1,xf2⟩:=D0.facts;obtain ⟨y0,y1,y2,yf0,yf1,yf2⟩:=D1.facts;have HAd:=hid (square12 U3 q0 q1 r0 r1 o0 od o1 o2 FF M0 M1);clear D0 M0 D1 M1
    go_wp2_with fail
    refine HAd.out.mono ?_;rintro r u4 ⟨⟨v,rfl,hN⟩,hb⟩;obtain ⟨a4,c4,rfl,hN0⟩:=Lo.shape FF.out.2.2.2.1 hN;have s1:=H3.out.1.below hb;have b3:=H3.out.2.2.1.trans (hb.mono H3.out.2.2.1.size)
    have H4:Aside (Lo (st3 u4 G (.bool (dN o2)) (.slice a4 (ws (dX o2)).length c4) (.int .i64 (dE o2))) G o2∧Below w.heap.size w (st3 u4 G (.bool (dN o2)) (.slice a4 (ws (dX o2)).length c4) (.int .i64 (dE o2)))∧w.heap.size≤G) :=
     ⟨s1.set hN0,st3_bel12 b3 b3.size H3.out.2.2.2 _ _ _,H3.out.2.2.2⟩
    obtain ⟨p3,q3,D3,M3⟩:=s1;obtain ⟨z0,z1,z2,zf0,zf1,zf2⟩:=D3.facts;unfold st3 at H4;clear D3 M3 hN hN0 hb HAd H3 x0 x1 x2 xf0 xf1 xf2 y0 y1 y2 yf0 yf1 yf2 b3;go_wp2
    go_roundg (gk-1)
    case measure=>omega
    case rel=>exact ⟨k+1,by omega,by rw [←E3.out.1,E2.out.2.1],by rw [←E3.out.2,E2.out.2.2],by first | rfl | simp,by rw [←E2.out.1];exact H4.out⟩
  · obtain rfl:n'=k:=by omega
    have hd1:decide ((n':Int)<(n':Nat))=false:=by simp
    have e:(xs.zip ys).take n'=xs.zip ys:=List.take_of_length_le (by rw [List.length_zip,←PP.out.1,←PP.out.2.1];omega)
    obtain ⟨j,hj⟩:∃ j,j=4238:=⟨_,rfl⟩;have v0:=QS.out n' (by rw [←PP.out.1];omega) j hj
    rw [e] at HL v0 ⊢;have FV:=qsd (ex_fm _ j (by omega) v0)
    clear e hj v0 QS;obtain ⟨A,hA⟩:∃ b,b=(xs.zip ys).any (fun p=>oddP p.1 p.2):=⟨_,rfl⟩
    obtain ⟨B,hB⟩:∃ b,b=(xs.zip ys).any (fun p=>farP p.1 p.2):=⟨_,rfl⟩
    rw [←hA,←hB] at NC ⊢;clear hA hB
    cases A
    · cases B
      · obtain ⟨p0,q0,D0,M0⟩:=HL.out.1
        obtain ⟨x0,x1,x2,xf0,xf1,xf2⟩:=D0.facts;have HR:=hid (root12 (qZ (xs.zip ys)) mode p0 q0 wr FV.out M0 (RX,RE) NC.out.symm);simp only at HR;clear D0 M0 NC
        go_wp2_with fail
        refine HR.out.mono ?_;rintro r u2 ⟨rfl,hb⟩;have B:=qsd (HL.out.2.1.trans (hb.mono HL.out.2.1.size));clear hb HL HR;go_wp2;exact bodyPost_ret (v:=.tuple #[.float .f64 RX,.int .i64 RE]) (by simp [results,Tryz.results18,go_sem]) rfl ⟨rfl,B.out⟩
      · obtain ⟨e1,e2⟩:=Prod.mk.inj NC.out
        have HN:=hid (fun u:World=>rInf_any false u)
        rw [show infR false=9218868437227405312 from rfl] at HN
        have EE:=qsd (ai e1 e2);clear NC e1 e2
        go_wp2_with fail
        refine (HN.out _).mono ?_;rintro r w2 ⟨rfl,hu⟩;have hu':=hu.symm;clear hu;subst hu';go_wp2;exact bodyPost_ret (v:=.tuple #[.float .f64 9218868437227405312,.int .i64 0]) (by simp [results,Tryz.results18,go_sem]) rfl ⟨by rw [EE.out.1,EE.out.2],HL.out.2.1⟩
    · obtain ⟨e1,e2⟩:=Prod.mk.inj NC.out
      have HN:=hid (fun u:World=>TheNaN_any u)
      have EE:=qsd (ai e1 e2);clear NC e1 e2
      go_wp2_with fail
      refine (HN.out _).mono ?_;rintro r w2 ⟨rfl,hu⟩;have hu':=hu.symm;clear hu;subst hu';go_wp2;exact bodyPost_ret (v:=.tuple #[.float .f64 9221120237041090560,.int .i64 0]) (by simp [results,Tryz.results18,go_sem]) rfl ⟨by rw [EE.out.1,EE.out.2],HL.out.2.1⟩
end
section
open Go.RowKit J
attribute [local go_sem] st_float
theorem ord71:(FloatKind.f64.format.order 4634696597773484032 4634696597773484032==some .eq)=true:=by decide +kernel
theorem ord72:(FloatKind.f64.format.order 4634766966517661696 4634766966517661696==some .eq)=true:=by decide +kernel
attribute [local go_sem] ord71 ord72
theorem butN12 {g:Nat}{a w:World}(h:But g a w) (n:Nat):But g a (w.drewN n):=⟨h.os,h.tape,h.output,h.size,h.block⟩
theorem lent2_zeros (xs:List Nat) (n:Nat) (hn:n=xs.length):xs++(List.replicate (n+2) 0).drop n=xs++[0,0]:=by
 rw [List.drop_replicate,show n+2-n=2 by omega];rfl
def lnt (xs:List Nat):List Nat:=xs++[4634696597773484032,4634766966517661696]
theorem lnt_len (xs:List Nat):(lnt xs).length=xs.length+2:=by simp [lnt]
theorem lent2_marks (xs:List Nat) (n:Nat) (hn:n=xs.length):((xs++[0,0]).set n 4634696597773484032).set (n+1) 4634766966517661696=lnt xs:=by
 subst hn;simp [lnt]
theorem rLent12 (xs:List Nat) (ao:Option Addr) (n cap B:Nat) (w:World) (hn:n=xs.length) (hm:n≤17592186043904) (hR:Fs B w ao xs) (hB:B≤w.heap.size) :
 Calls Tryz.prog 10 #[.slice ao n cap] w fun r w'=>r=.returned (.slice (some ⟨w.heap.size,0,none⟩) n (n+2))∧OwnF w' w.heap.size (lnt xs)∧Below w.heap.size w w':=by
 have hmk:=make_floats ((n+2:Nat):Int) (n+2) rfl (by omega)
 have hmk2:=make_floats ((n:Int)+2) (n+2) (by omega) (by omega)
 have HO2:Hid (OwnF (w.alloc (.cells (madeCells #[.float .f64 0] (n+2)) 27)) w.heap.size (List.replicate (n+2) 0)):=OwnF.made w (n+2);obtain ⟨w2,hcp,hO2,hbut⟩:=copy_floats _ w.heap.size (n+2) (n+2) ao n cap B 3 (List.replicate (n+2) 0) xs HO2.out (by simp) hn (hR.below ((Below.refl _ _).alloc hB _)) (by omega)
 rw [lent2_zeros xs n hn] at hO2;have hg1:=hO2.frozen n;have hg2:=hO2.frozen (n+1);have hc1:=hO2.cell n (by simp;omega)
 have hc2:=hO2.cell (n+1) (by simp;omega)
 have HX:=(qsd (ai hO2 (ai hbut hn)));clear hO2 hbut HO2 hn hR;go_enter Tryz.func10,Tryz.ntmps10;go_wp2;go_ret;obtain ⟨hO2,hbut,hn⟩:=HX.out;refine ⟨rfl,?_,?_⟩
 · have h1:=(hO2.set n 4634696597773484032).set (n+1) 4634766966517661696
   rw [lent2_marks xs n hn] at h1;exact h1
 · exact But.below ((Below.refl _ _).alloc (Nat.le_refl _) _) ((hbut.set _ _).set _ _) (by simp) (Nat.le_refl _)
theorem rAsLent12 (xs:List Nat) (ao:Option Addr) (n cap B g:Nat) (w:World) (hn:n=xs.length) (hm:n≤17592186043904) (hR:Fs B w ao xs) (hB:B≤g) (hO:OwnF w g (lnt xs)) :
 Calls Tryz.prog 12 #[.slice (some ⟨g,0,none⟩) n (n+2),.slice ao n cap] w fun r w'=>r=.returned (.bool true)∧But g w w':=by
 have hgl:=hO.lt;have hc1:=hO.cell n (by rw [lnt_len];omega)
 have hc2:=hO.cell (n+1) (by rw [lnt_len];omega)
 have e1:(lnt xs).getD n 0=4634696597773484032:=by subst hn;simp [lnt]
 have e2:(lnt xs).getD (n+1) 0=4634766966517661696:=by subst hn;simp [lnt]
 rw [e1] at hc1;rw [e2] at hc2;have HX:=(qsd (ai hR (ai hO (ai hn (ai hB hgl)))));clear hR hO hn hB e1 e2 hgl;go_enter Tryz.func12,Tryz.ntmps12;go_wp2
 go_loopg [6,7] (n+2) (fun gk gv iv wr=>∃ (k:Nat) (M:List Nat),gk+k=n+2∧gv=.bool true∧iv=.int .i64 (k:Nat)∧Hid (OwnF wr g M) ∧
  Aside (M.length=n+2∧(∀ j,k≤j→M.getD j 0=(lnt xs).getD j 0)∧But g w wr))
 case atStart =>
  obtain ⟨hR,hO,hn,hB,hgl⟩:=HX.out;exact ⟨0,lnt xs,by omega,rfl,rfl,hO,by rw [lnt_len];omega,fun _ _=>rfl,But.refl _ _⟩
 case round =>
  obtain ⟨k,M,hk,rfl,rfl,HM,HA⟩:=hrel
  by_cases hk2:k=n+2
  · obtain rfl:gk=0:=by omega
    subst hk2;go_wp2;go_ret;exact ⟨rfl,HA.out.2.2⟩
  · obtain ⟨hl,hM,hbut⟩:=HA.out
    have hgc:=HM.out.cell k (by omega)
    have hgf:=HM.out.frozen k;have hklt:k<n+2:=by omega
    by_cases hkn:k<n
    · obtain ⟨hR,hO,hn,hB,hgl⟩:=HX.out
      obtain ⟨b,off,hlt,rfl,hcell⟩:=(hR.but hbut (by omega) hB) (by intro e;subst e;simp at hn;omega)
      have hxc:=hcell k (by omega)
      have e3:M.getD k 0=xs.getD k 0:=by
       rw [hM k (Nat.le_refl _)];simp [lnt,List.getD_eq_getElem?_getD,List.getElem?_append_left (show k<xs.length by omega)]
      rw [e3] at hgc;obtain ⟨x,hx1⟩:∃ x,xs.getD k 0=x:=⟨_,rfl⟩;rw [hx1] at hgc hxc;have hd:decide ((n:Int)≤(k:Int))=false:=decide_eq_false (by omega)
      clear hl hM hbut hR hO hn hB hgl hcell e3 hx1;go_wp2
      go_quiet (first | (go_at_call 14;exact Calls.quiet_of_same (alike12 x _)))
      go_wp2
      go_roundg (gk-1)
      case measure=>omega
      case rel =>
       obtain ⟨hl,hM,hbut⟩:=HA.out;refine ⟨k+1,M.set k 4635541022703616000,by omega,by first | rfl | simp,by first | go_num | (congr 1;omega),(HM.out.set k 4635541022703616000).drew,by simp [hl],fun j hj=>?_,((butN12 hbut _).set k _)⟩
       rw [getD_set_ne _ _ _ _ (by omega)]
       exact hM j (by omega)
    · have hd:decide ((n:Int)≤(k:Int))=true:=decide_eq_true (by omega)
      clear hl hM hbut;go_wp2
      go_quiet (fail)
      go_wp2
      go_roundg (gk-1)
      case measure=>omega
      case rel =>
       obtain ⟨hl,hM,hbut⟩:=HA.out;refine ⟨k+1,M.set k 4635541022703616000,by omega,by first | rfl | simp,by first | go_num | (congr 1;omega),(HM.out.set k 4635541022703616000).drew,by simp [hl],fun j hj=>?_,((butN12 hbut _).set k _)⟩
       rw [getD_set_ne _ _ _ _ (by omega)]
       exact hM j (by omega)
end
section
open Go.RowKit J
theorem lent_fs {w:World}{g:Nat}{xs:List Nat}(h:OwnF w g (lnt xs)):Fs w.heap.size w (some ⟨g,0,none⟩) xs:=by
 have:=h.fs h.lt xs.length;rw [show (lnt xs).take xs.length=xs by simp [lnt]] at this
 exact this
end
section
open Go.RowKit J
theorem OwnF.but12 {w w':World}{g h:Nat}{L:List Nat}(ho:OwnF w g L) (hb:But h w w') (hne:g≠h):OwnF w' g L:=by
 unfold OwnF at ho ⊢;rw [hb.block g (Array.getElem?_eq_some_iff.1 ho).1 hne];exact ho
set_option maxRecDepth 100000 in
theorem walk2_DotNorms (a:Option Addr) (n c:Nat) (xs:List Nat) (b:Option Addr) (m d:Nat) (ys:List Nat) (mode:Int) (w:World) (hT:Tab w) (hC:CameF w a n c xs) (hD:CameF w b m d ys) (hm:n≤17592186043904) (hk:m≤17592186043904) :
 Calls Tryz.prog 4 #[.slice a n c,.slice b m d,.int .i64 mode] w fun r w'=>r=.returned (.bool true)∧Below w.heap.size w w':=by
 obtain ⟨hl1,_,hW1,hF1,_⟩:=hC;obtain ⟨hl2,_,hW2,hF2,_⟩:=hD;have up:∀ u:World,Below w.heap.size w u→Fs u.heap.size u a xs∧Fs u.heap.size u b ys∧Tab u∧Fs w.heap.size u a xs∧Fs w.heap.size u b ys:=fun u hb=>⟨(hF1.below hb).mono hb.size,(hF2.below hb).mono hb.size,hT.belows hb,hF1.below hb,hF2.below hb⟩
 obtain ⟨⟨X1,E1⟩,h1⟩:∃ r,normR xs mode=r:=⟨_,rfl⟩;obtain ⟨⟨X2,E2⟩,h2⟩:∃ r,distR xs ys mode=r:=⟨_,rfl⟩;have h3:=dist_comm xs ys hW1 hW2 mode;rw [h2] at h3;have HA:=hid (fun (u:World) (hb:Below w.heap.size w u)=>awake12 u (up u hb).2.2.1)
 have HL:=hid (fun (u:World) (hb:Below w.heap.size w u)=>rLent12 xs a n c u.heap.size u hl1 hm (up u hb).1 (Nat.le_refl _))
 have HL':=hid (fun (u:World) (hb:Below w.heap.size w u)=>rLent12 ys b m d u.heap.size u hl2 hk (up u hb).2.1 (Nat.le_refl _))
 have HN:Hid (∀ (u:World) (g:Nat),Below w.heap.size w u→OwnF u g (lnt xs)→Calls Tryz.prog 15 #[.slice (some ⟨g,0,none⟩) n (n+2),.int .i64 mode] u fun r w'=>r=.returned (.tuple #[.float .f64 X1,.int .i64 E1])∧Below u.heap.size u w'):=fun u g hb ho=>by
  have:=Norm12 xs (some ⟨g,0,none⟩) n (n+2) mode u hl1 (lent_fs ho) hW1 (up u hb).2.2.1;rw [h1] at this;exact this
 have HD1:Hid (∀ (u:World) (g h:Nat),Below w.heap.size w u→OwnF u g (lnt xs)→OwnF u h (lnt ys)→Calls Tryz.prog 16 #[.slice (some ⟨g,0,none⟩) n (n+2),.slice (some ⟨h,0,none⟩) m (m+2),.int .i64 mode] u fun r w'=>r=.returned (.tuple #[.float .f64 X2,.int .i64 E2])∧Below u.heap.size u w'):=fun u g h hb ho ho'=>by
  have:=Dist12 xs ys (some ⟨g,0,none⟩) (some ⟨h,0,none⟩) n (n+2) m (m+2) mode u hl1 hl2 (lent_fs ho) (lent_fs ho') hW1 hW2 (up u hb).2.2.1;rw [h2] at this;exact this
 have HD2:Hid (∀ (u:World) (g h:Nat),Below w.heap.size w u→OwnF u g (lnt xs)→OwnF u h (lnt ys)→Calls Tryz.prog 16 #[.slice (some ⟨h,0,none⟩) m (m+2),.slice (some ⟨g,0,none⟩) n (n+2),.int .i64 mode] u fun r w'=>r=.returned (.tuple #[.float .f64 X2,.int .i64 E2])∧Below u.heap.size u w'):=fun u g h hb ho ho'=>by
  have:=Dist12 ys xs (some ⟨h,0,none⟩) (some ⟨g,0,none⟩) m (m+2) n (n+2) mode u hl2 hl1 (lent_fs ho') (lent_fs ho) hW2 hW1 (up u hb).2.2.1;rw [h3] at this;exact this
 have HK:=hid (fun (u:World) (g:Nat) (hb:Below w.heap.size w u) (hg:w.heap.size≤g) (ho:OwnF u g (lnt xs))=>rAsLent12 xs a n c w.heap.size g u hl1 hm (up u hb).2.2.2.1 hg ho)
 have HK':=hid (fun (u:World) (g:Nat) (hb:Below w.heap.size w u) (hg:w.heap.size≤g) (ho:OwnF u g (lnt ys))=>rAsLent12 ys b m d w.heap.size g u hl2 hk (up u hb).2.2.2.2 hg ho)
 have HQ:Hid (∀ u:World,Below w.heap.size w u→Calls Tryz.prog 17 #[.slice a n c,.int .i64 mode] u fun r w'=>r=.returned (.tuple #[.float .f64 X1,.int .i64 E1])∧Below u.heap.size u w'):=fun u hb=>by
  have:=rNorm12 xs a n c mode u hl1 (up u hb).1 hW1 hm;rw [h1] at this;exact this
 have HQ':Hid (∀ u:World,Below w.heap.size w u→Calls Tryz.prog 18 #[.slice a n c,.slice b m d,.int .i64 mode] u fun r w'=>r=.returned (.tuple #[.float .f64 X2,.int .i64 E2])∧Below u.heap.size u w'):=fun u hb=>by
  have:=rDist12 xs ys a n c b m d mode u hl1 hl2 (up u hb).1 (up u hb).2.1 hW1 hW2 hm;rw [h2] at this;exact this
 clear hl1 hl2 hW1 hW2 hF1 hF2 up h1 h2 h3 hT hm hk;go_enter Tryz.func4,Tryz.ntmps4
 go_wp2_with fail
 refine (HA.out _ (Below.refl _ _)).mono ?_;rintro r u1 ⟨rfl,hb⟩;have B1:=qsd hb;clear hb HA
 go_wp2_with fail
 refine (HL.out _ B1.out).mono ?_;rintro r u2 ⟨rfl,ho,hb⟩;obtain ⟨g,hg⟩:∃ g,g=u1.heap.size:=⟨_,rfl⟩;rw [←hg] at ho ⊢;have B2:Aside (Below w.heap.size w u2∧OwnF u2 g (lnt xs)∧w.heap.size≤g):=⟨B1.out.trans (hb.mono B1.out.size),ho,by rw [hg];exact B1.out.size⟩
 clear hb ho hg B1 HL
 go_wp2_with fail
 refine (HL'.out _ B2.out.1).mono ?_;rintro r u3 ⟨rfl,ho,hb⟩;obtain ⟨h,hh⟩:∃ h,h=u2.heap.size:=⟨_,rfl⟩;rw [←hh] at ho ⊢;have B3:Aside (Below w.heap.size w u3∧OwnF u3 g (lnt xs)∧w.heap.size≤g∧OwnF u3 h (lnt ys)∧g<h):=⟨B2.out.1.trans (hb.mono B2.out.1.size),B2.out.2.1.below hb B2.out.2.1.lt,B2.out.2.2,ho,by rw [hh];exact B2.out.2.1.lt⟩
 clear hb ho hh B2 HL'
 go_wp2_with fail
 refine (HN.out _ g B3.out.1 B3.out.2.1).mono ?_;rintro r u4 ⟨rfl,hb⟩;have B4:Aside (Below w.heap.size w u4∧OwnF u4 g (lnt xs)∧w.heap.size≤g∧OwnF u4 h (lnt ys)∧g<h):=⟨B3.out.1.trans (hb.mono B3.out.1.size),B3.out.2.1.below hb B3.out.2.1.lt,B3.out.2.2.1,B3.out.2.2.2.1.below hb B3.out.2.2.2.1.lt,B3.out.2.2.2.2⟩;clear hb B3 HN
 go_wp2_with fail
 refine (HD1.out _ g h B4.out.1 B4.out.2.1 B4.out.2.2.2.1).mono ?_;rintro r u5 ⟨rfl,hb⟩;have B5:Aside (Below w.heap.size w u5∧OwnF u5 g (lnt xs)∧w.heap.size≤g∧OwnF u5 h (lnt ys)∧g<h):=⟨B4.out.1.trans (hb.mono B4.out.1.size),B4.out.2.1.below hb B4.out.2.1.lt,B4.out.2.2.1,B4.out.2.2.2.1.below hb B4.out.2.2.2.1.lt,B4.out.2.2.2.2⟩;clear hb B4 HD1
 go_wp2_with fail
 refine (HD2.out _ g h B5.out.1 B5.out.2.1 B5.out.2.2.2.1).mono ?_;rintro r u6 ⟨rfl,hb⟩;have B6:Aside (Below w.heap.size w u6∧OwnF u6 g (lnt xs)∧w.heap.size≤g∧OwnF u6 h (lnt ys)∧g<h):=⟨B5.out.1.trans (hb.mono B5.out.1.size),B5.out.2.1.below hb B5.out.2.1.lt,B5.out.2.2.1,B5.out.2.2.2.1.below hb B5.out.2.2.2.1.lt,B5.out.2.2.2.2⟩;clear hb B5 HD2
 go_wp2_with fail
 refine (HK.out _ g B6.out.1 B6.out.2.2.1 B6.out.2.1).mono ?_;rintro r u7 ⟨rfl,hb⟩;have B7:Aside (Below w.heap.size w u7∧OwnF u7 h (lnt ys)∧w.heap.size≤h):=⟨But.below B6.out.1 hb B6.out.1.size B6.out.2.2.1,B6.out.2.2.2.1.but12 hb (by have:=B6.out.2.2.2.2;omega),by have:=B6.out.2.2.2.2;have:=B6.out.2.2.1;omega⟩
 clear hb B6 HK
 go_wp2_with fail
 refine (HK'.out _ h B7.out.1 B7.out.2.2 B7.out.2.1).mono ?_;rintro r u8 ⟨rfl,hb⟩;have B8:Aside (Below w.heap.size w u8):=But.below B7.out.1 hb B7.out.1.size B7.out.2.2;clear hb B7 HK'
 go_wp2_with fail
 refine (HQ.out _ B8.out).mono ?_;rintro r u9 ⟨rfl,hb⟩;have B9:=qsd (B8.out.trans (hb.mono B8.out.size));clear hb B8 HQ
 go_wp2_with fail
 refine (HQ'.out _ B9.out).mono ?_;rintro r u10 ⟨rfl,hb⟩;have B10:=qsd (B9.out.trans (hb.mono B9.out.size));clear hb B9 HQ';have e1:(E1==E1)=true:=by simp
 have e2:(E2==E2)=true:=by simp
 go_wp2_with fail
 refine (alike12 X1 _).mono ?_;rintro r u11 ⟨rfl,rfl⟩
 go_wp2_with fail
 refine (alike12 X2 _).mono ?_;rintro r u12 ⟨rfl,rfl⟩
 go_wp2_with fail
 refine (alike12 X2 _).mono ?_;rintro r u13 ⟨rfl,rfl⟩;go_wp2;go_ret;exact ⟨rfl,B10.out⟩
end
end Go.Proofs.YthfkleadcnkglaaGreatDoor
