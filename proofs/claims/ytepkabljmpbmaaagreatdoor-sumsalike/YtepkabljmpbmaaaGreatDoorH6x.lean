import Derived.Test.YtepkabljmpbmaaaGreatDoorG7x
import Derived.Test.YtepkabljmpbmaaaGreatDoorAL9x
import Derived.Test.YtepkabljmpbmaaaGreatDoorG18x
import Derived.Test.YtepkabljmpbmaaaGreatDoorW53x
import Derived.Test.YtepkabljmpbmaaaGreatDoorJ13x
import Derived.Test.YtepkabljmpbmaaaGreatDoorD16x
import Derived.ProofKit
import Derived.OpenShut
import Derived.ChangeOld
import Derived.ChangeArms
import Derived.SizedLaws
import Derived.Laws.Cover2
set_option linter.unusedVariables false
set_option linter.unusedSimpArgs false
set_option maxHeartbeats 16000000
set_option maxRecDepth 20000
namespace Go.Proofs.YtepkabljmpbmaaaGreatDoor
namespace J
end J
section
open Go.RowKit
def vS (l:List Nat):Int:=l.foldl (fun v x=>v+pT x 4607182418800017408) 0
def sS (l:List Nat):Sp:=l.foldl (fun s x=>s.cnt (pK x 4607182418800017408) 1) ⟨0,0,0,0,0,0⟩
theorem take_snoc10 (l:List Nat) (k:Nat) (h:k<l.length):l.take (k+1)=l.take k++[l.getD k 0]:=by
 rw [List.take_succ_eq_append_getElem h,List.getD_eq_getElem?_getD,List.getElem?_eq_getElem h];rfl
theorem vS_take (l:List Nat) (k:Nat) (h:k<l.length):vS (l.take (k+1))=vS (l.take k)+pT (l.getD k 0) 4607182418800017408:=by
 rw [take_snoc10 l k h];simp [vS,List.foldl_append]
theorem sS_take (l:List Nat) (k:Nat) (h:k<l.length):sS (l.take (k+1))=(sS (l.take k)).cnt (pK (l.getD k 0) 4607182418800017408) 1:=by
 rw [take_snoc10 l k h];simp [sS,List.foldl_append]
theorem vS_bound (l:List Nat) (hl:W64 l):∀ k,k≤l.length→-((k*QB:Nat):Int)≤vS (l.take k)∧vS (l.take k)≤((k*QB:Nat):Int)
 | 0,_=>by simp [vS]
 | k+1,h=>by
   obtain ⟨h1,h2⟩:=vS_bound l hl k (by omega);have h3:=pT_small (l.getD k 0) 4607182418800017408 (hl.get k) (by decide);rw [vS_take l k h];have e:((k+1)*QB:Nat)=k*QB+QB:=by rw [Nat.add_mul,Nat.one_mul]
   omega
theorem sS_pos (l:List Nat):∀ k,k≤l.length→(sS (l.take k)).pos∧(sS (l.take k)).a=k
 | 0,_=>⟨by rw [List.take_zero];unfold Sp.pos sS;decide,rfl⟩
 | k+1,h=>by
   obtain ⟨h1,h2⟩:=sS_pos l k (by omega);rw [sS_take l k h];refine ⟨h1.cnt _ (pk_le _ _ _),?_⟩;rw [cnt_a,h2];omega
theorem exact_core (xs:List Nat) (a:Option Addr) (n c:Nat) (mode pa pb:Int) (X:Nat) (er:Int) (w:World) (hn:n=xs.length) (hF:Fs w.heap.size w a xs) (hW:W64 xs) (hT:Tab w) (hm0:0≤mode) (hm1:mode≤4) (hab:may pa pb=true) (hl:n≤65536)
 (HR:Hid (∀ (g:Nat) (u:World),Acc7 u g (vS xs) (sS xs)→(sS xs).ok→Tab u→Calls Tryz.prog 27 #[.pointer (some ⟨g,0,none⟩),.int .i64 mode,.agg #[.int .i64 pa,.int .i64 pb]] u fun r w'=>r=.returned (.tuple #[.float .f64 X,.int .i64 er])∧Below u.heap.size u w')) :
 Calls Tryz.prog 11 #[.slice a n c,.int .i64 mode,.agg #[.int .i64 pa,.int .i64 pb]] w fun r w'=>r=.returned (.tuple #[.float .f64 X,.int .i64 er])∧Below w.heap.size w w':=by
 have HM:=hid (fun u:World=>May_any pa pb u);rw [hab] at HM;have HX:=qsd (ai hn (ai hF (ai hW (ai hT hl))));have b0:decide (mode<0)=false:=by simp;omega
 have b1:decide (4<mode)=false:=by simp;omega
 have b2:decide ((65536:Int)<(n:Int))=false:=by simp;omega
 have b3:decide (65536<n)=false:=by simp;omega
 clear hn hF hW hT hm0 hm1 hab hl;go_enter Tryz.func11,Tryz.ntmps11;go_wp2_with fail;refine (HM.out _).mono ?_;rintro r w1 ⟨rfl,hb1⟩
 have P1:Aside (Bl w1 w.heap.size 35 [.int .i64 pa,.int .i64 pb]∧Below w.heap.size w w1∧w.heap.size<w1.heap.size):=by
  have e0:=bel_alloc w (Obj.cells #[.int .i64 pa,.int .i64 pb] 35);exact ⟨(Bl.new w 35 [_,_]).below hb1 (by simp),e0.trans (hb1.mono (by simp)),by have:=hb1.size;simp at this;omega⟩
 clear hb1 HM;go_wp2_with fail;refine (New7 w1).mono ?_;rintro r w2 ⟨rfl,hA,hb2⟩;obtain ⟨g,hg⟩:∃ g,g=w1.heap.size:=⟨_,rfl⟩;rw [←hg] at hA ⊢
 have P2:Aside (Bl w2 w.heap.size 35 [.int .i64 pa,.int .i64 pb]∧Below w.heap.size w w2∧w.heap.size<g∧Acc7 w2 g 0 ⟨0,0,0,0,0,0⟩) :=
  ⟨P1.out.1.below hb2 P1.out.2.2,P1.out.2.1.trans (hb2.mono P1.out.2.1.size),by rw [hg];exact P1.out.2.2,hA⟩
 clear hb2 hA hg P1;go_wp2
 go_loopg [30] n (fun gk i wr=>∃ k:Nat,gk+k=n∧i=.int .i64 (k:Nat)∧Aside (Acc7 wr g (vS (xs.take k)) (sS (xs.take k))∧Bl wr w.heap.size 35 [.int .i64 pa,.int .i64 pb]∧Below w.heap.size w wr))
 case atStart=>exact ⟨0,by omega,by simp,by simpa [vS,sS] using P2.out.2.2.2,P2.out.1,P2.out.2.1⟩
 case round =>
  obtain ⟨k,hgk,rfl,HA⟩:=hrel
  by_cases hk:k<n
  · obtain ⟨b,off,rfl,hc⟩:=HX.out.2.1.at HA.out.2.2 k (by rw [←HX.out.1];exact hk);obtain ⟨x,hx⟩:∃ x,x=xs.getD k 0:=⟨_,rfl⟩;rw [←hx] at hc
    have C:Hid (Calls Tryz.prog 26 #[.pointer (some ⟨g,0,none⟩),.float .f64 x] wr (Did g wr (0,vS (xs.take (k+1)),sS (xs.take (k+1))))):=by
     have hk2:k<xs.length:=by rw [←HX.out.1];exact hk
     obtain ⟨p1,p2⟩:=sS_pos xs k (by omega);obtain ⟨v1,v2⟩:=vS_bound xs HX.out.2.2.1 k (by omega);have hx64:x<18446744073709551616:=by rw [hx];exact HX.out.2.2.1.get k
     have hsm:=pT_small x 4607182418800017408 hx64 (by decide);have hl:=HX.out.2.2.2.2;have hkq:k*QB≤65536*QB:=Nat.mul_le_mul_right _ (by omega);have hQ:=QB_HB;have hqp:=QB_pos;have C:=Add7 g (vS (xs.take k)) (sS (xs.take k)) x wr HA.out.1 (p1.ok (by omega)) hx64;rw [put_ok _ _ _ _ (by omega) (by omega) (by omega)] at C;rw [vS_take xs k hk2,sS_take xs k hk2,←hx];exact C
    have hkb:k<4611686018427387904:=by have:=HX.out.2.2.2.2;omega
    clear hx;go_wp2_with fail;refine (C.out).mono ?_;rintro r w3 ⟨rfl,hA3,hbut⟩;have H3:=qsd (ai hA3 (ai (HA.out.2.1.but hbut (by have:=P2.out.2.2.1;omega)) (But.below HA.out.2.2 hbut HA.out.2.2.size (by have:=P2.out.2.2.1;omega))));clear hA3 hbut C;go_wp2;go_roundg (gk-1)
    case measure=>omega
    case rel=>exact ⟨k+1,by omega,by first | rfl | simp,H3.out⟩
  · have hd:decide ((k:Int)<n)=false:=by simp;omega
    have q0:=HA.out.2.1.cell 0 _ rfl;have q1:=HA.out.2.1.cell 1 _ rfl
    have C:Hid (Calls Tryz.prog 27 #[.pointer (some ⟨g,0,none⟩),.int .i64 mode,.agg #[.int .i64 pa,.int .i64 pb]] wr fun r w'=>r=.returned (.tuple #[.float .f64 X,.int .i64 er])∧Below wr.heap.size wr w'):=by
     have e:xs.take k=xs:=by rw [List.take_of_length_le];rw [←HX.out.1];omega
     have hA:=HA.out.1;obtain ⟨p1,p2⟩:=sS_pos xs k (by rw [←HX.out.1];omega);rw [e] at hA p1 p2;have hl:=HX.out.2.2.2.2;exact HR.out g wr hA (p1.ok (by omega)) (HX.out.2.2.2.1.belows HA.out.2.2)
    clear HR;go_wp2_with fail;refine (C.out).mono ?_;rintro r w3 ⟨rfl,hb3⟩;have B3:=qsd (HA.out.2.2.trans (hb3.mono HA.out.2.2.size));clear hb3 C;go_wp2
    go_ret2
    exact ⟨rfl,B3.out⟩
theorem Exact10 (xs:List Nat) (a:Option Addr) (n c:Nat) (mode pa pb:Int) (w:World) (hn:n=xs.length) (hF:Fs w.heap.size w a xs) (hW:W64 xs) (hT:Tab w) (hm0:0≤mode) (hm1:mode≤4) (hab:may pa pb=true) (hl:n≤65536) (ha:pa≠2) (hb:pb≠2) :
 Calls Tryz.prog 11 #[.slice a n c,.int .i64 mode,.agg #[.int .i64 pa,.int .i64 pb]] w fun r w'=>r=.returned (.tuple #[.float .f64 (rd7 (vS xs) (sS xs) mode pa pb).1,.int .i64 (rd7 (vS xs) (sS xs) mode pa pb).2])∧Below w.heap.size w w' :=
 exact_core xs a n c mode pa pb _ _ w hn hF hW hT hm0 hm1 hab hl (hid fun g u hA hs hT=>Round7 g (vS xs) (sS xs) mode pa pb u hA hs hT hm0 hm1 hab ha hb)
end
section
open Go.RowKit J
attribute [local go_sem] st_float
def Is (z v:Nat):Prop:=z<18446744073709551616∧nrm z=v
theorem Is.self {x:Nat}(h:x<18446744073709551616):Is x (nrm x):=⟨h,rfl⟩
theorem Is.pl {x y a b z:Nat}(hx:Is x a) (hy:Is y b) (hz:Gives .add x y z):Is z (plF a b):=by
 obtain ⟨h1,rfl⟩:=hx;obtain ⟨h2,rfl⟩:=hy;obtain ⟨h3,h4⟩:=gives_nrm (.inl rfl) hz;exact ⟨h4,h3.trans (add_nrm h1 h2).symm⟩
theorem Is.mi {x y a b z:Nat}(hx:Is x a) (hy:Is y b) (hz:Gives .sub x y z):Is z (miF a b):=by
 obtain ⟨h1,rfl⟩:=hx;obtain ⟨h2,rfl⟩:=hy;obtain ⟨h3,h4⟩:=gives_nrm (.inr (.inl rfl)) hz;exact ⟨h4,h3.trans (sub_nrm h1 h2).symm⟩
theorem plus10 {x y a b:Nat}(hx:Is x a) (hy:Is y b) (w:World):Calls Tryz.prog 56 #[.float .f64 x,.float .f64 y] w fun r w'=>∃ z,r=.returned (.float .f64 z)∧Is z (plF a b)∧Below w.heap.size w w':=by
 have HZ:Aside (∀ z,Gives .add x y z→Is z (plF a b)):=fun z hz=>hx.pl hy hz;clear hx hy;go_enter Tryz.func56,Tryz.ntmps56
 cases h:floatBits .add .f64 x y with
 | some z =>
   have d:=run_float_arith (P:=Tryz.prog) w .add 25 .f64 x y z h
   go_wp2_with (simp only [d])
   exact bodyPost_ret (v:=.float .f64 z) (by simp [results,Tryz.results56,go_sem]) rfl ⟨z,rfl,HZ.out z (.inl h),Below.refl _ _⟩
 | none =>
   obtain ⟨z,hz,d⟩:=run_float_none (P:=Tryz.prog) w .add 25 x y (.inl rfl) h
   go_wp2_with (simp only [d])
   exact bodyPost_ret (v:=.float .f64 z) (by simp [results,Tryz.results56,go_sem]) rfl ⟨z,rfl,HZ.out z (.inr ⟨h,hz⟩),(Below.refl _ _).drew⟩
theorem minus10 {x y a b:Nat}(hx:Is x a) (hy:Is y b) (w:World):Calls Tryz.prog 58 #[.float .f64 x,.float .f64 y] w fun r w'=>∃ z,r=.returned (.float .f64 z)∧Is z (miF a b)∧Below w.heap.size w w':=by
 have HZ:Aside (∀ z,Gives .sub x y z→Is z (miF a b)):=fun z hz=>hx.mi hy hz;clear hx hy;go_enter Tryz.func58,Tryz.ntmps58
 cases h:floatBits .sub .f64 x y with
 | some z =>
   have d:=run_float_arith (P:=Tryz.prog) w .sub 25 .f64 x y z h
   go_wp2_with (simp only [d])
   exact bodyPost_ret (v:=.float .f64 z) (by simp [results,Tryz.results58,go_sem]) rfl ⟨z,rfl,HZ.out z (.inl h),Below.refl _ _⟩
 | none =>
   obtain ⟨z,hz,d⟩:=run_float_none (P:=Tryz.prog) w .sub 25 x y (.inr (.inl rfl)) h
   go_wp2_with (simp only [d])
   exact bodyPost_ret (v:=.float .f64 z) (by simp [results,Tryz.results58,go_sem]) rfl ⟨z,rfl,HZ.out z (.inr ⟨h,hz⟩),(Below.refl _ _).drew⟩
theorem told10 {x a:Nat}(hx:Is x a) (w:World):Calls Tryz.prog 28 #[.float .f64 x] w fun r w'=>r=.returned (.float .f64 a)∧w'=w:=by
 obtain ⟨s,e,f,he,hf,h1,h2⟩:=bwz x hx.1;have h3:=B.order_self s e f he hf;rw [←h1,h2] at h3;have h4:=hx.2;unfold nrm at h4;have HN:=hid (fun u:World=>B.nan_any u);clear h1 h2 he hf hx
 cases hn:nanW x
 · rw [hn] at h3 h4;rw [if_neg (by decide)] at h4;subst h4;go_enter Tryz.func28,Tryz.ntmps28;go_wp2;go_ret;exact ⟨rfl,rfl⟩
 · rw [hn] at h3 h4;rw [if_pos rfl] at h4;subst h4;go_enter Tryz.func28,Tryz.ntmps28;go_wp2_with fail;refine (HN.out _).mono ?_;rintro r w1 ⟨rfl,rfl⟩;go_wp2;exact bodyPost_ret (v:=.float .f64 oddW) (by simp [results,Tryz.results28,go_sem,oddW]) rfl ⟨rfl,rfl⟩
theorem running10 (xs:List Nat) (a:Option Addr) (n c:Nat) (w:World) (hn:n=xs.length) (hF:Fs w.heap.size w a xs) (hW:W64 xs) (hc:n≤c) (hm:n≤4611686018427387904) :
 Calls Tryz.prog 29 #[.slice a n c] w fun r w'=>∃ z,r=.returned (.float .f64 z)∧Is z (runF xs)∧Below w.heap.size w w':=by
 by_cases h0:n=0
 · have e:xs=[]:=List.eq_nil_of_length_eq_zero (by omega);subst h0 e;clear hF hW hn;go_enter Tryz.func29,Tryz.ntmps29;go_wp2;exact bodyPost_ret (v:=.float .f64 0) (by simp [results,Tryz.results29,go_sem]) rfl ⟨0,rfl,⟨by decide,by decide⟩,Below.refl _ _⟩
 · have hne:xs≠[]:=by intro e;subst e;simp at hn;omega
   obtain ⟨b,off,hlt,rfl,hcl⟩:=hF hne;have hc0:=hcl 0 (by omega);rw [Nat.add_zero] at hc0;have HR:Aside (Fs w.heap.size w (some ⟨b,off,none⟩) xs∧W64 xs∧n=xs.length):=⟨hF,hW,hn⟩;have hz0:((n:Int)==0)=false:=by simp;omega
   have hz1:decide ((0:Int)<n)=true:=by simp;omega
   obtain ⟨x0,hx0⟩:∃ x0,x0=xs.getD 0 0:=⟨_,rfl⟩;rw [←hx0] at hc0;have HX:=qsd (show Is x0 (runF (xs.take 1)) by rw [runF_one xs (by omega),←hx0];exact Is.self (by rw [hx0];exact hW.get 0));have hnc:c=1∨c≠1:=by omega
   clear hF hW hn hcl hne hlt hx0;have hcc:(c=1∧n=1)∨c≠1:=by omega
   clear hnc;rcases hcc with ⟨hc1,hn1⟩|hc1
   · subst hc1 hn1;have HK:=qsd (show xs.take 1=xs by rw [List.take_of_length_le];rw [←HR.out.2.2];omega);go_enter Tryz.func29,Tryz.ntmps29;go_wp2
     go_loopg [15,3] 1 (fun gk i s wr=>i=.int .i64 0∧s=.float .f64 x0∧wr=w)
     case atStart=>exact ⟨by simp,rfl,rfl⟩
     case round =>
      obtain ⟨rfl,rfl,rfl⟩:=hrel;go_wp2;refine bodyPost_ret (v:=.float .f64 x0) (by simp [results,Tryz.results29,go_sem]) rfl ?_;have e:=HX.out;rw [HK.out] at e;exact ⟨x0,rfl,e,Below.refl _ _⟩
   · go_enter Tryz.func29,Tryz.ntmps29;go_wp2
     go_loopg [15,3] n (fun gk i s wr=>∃ (k z:Nat),gk+k=n∧i=.int .i64 (k:Nat)∧s=.float .f64 z∧Aside (Is z (runF (xs.take (k+1)))∧Below w.heap.size w wr))
     case atStart=>exact ⟨0,x0,by omega,by simp,rfl,HX.out,Below.refl _ _⟩
     case round =>
      obtain ⟨k,z,hgk,rfl,rfl,HA⟩:=hrel
      by_cases hk:k+1<n
      · have hcell:=HR.out.1.cell HA.out.2 (k+1) (by rw [←HR.out.2.2];exact hk);rw [show off+(k+1)=off+1+k by omega] at hcell;obtain ⟨x,hx⟩:∃ x,x=xs.getD (k+1) 0:=⟨_,rfl⟩;rw [←hx] at hcell
        have HP:Hid (∀ u:World,Calls Tryz.prog 56 #[.float .f64 z,.float .f64 x] u fun r w'=>∃ z',r=.returned (.float .f64 z')∧Is z' (runF (xs.take (k+1+1)))∧Below u.heap.size u w'):=fun u=>by
         have hx64:x<18446744073709551616:=by rw [hx];exact HR.out.2.1.get (k+1)
         have h:=plus10 HA.out.1 (Is.self hx64) u;have hw:=runF_ok (xs.take (k+1)) (fun y hy=>HR.out.2.1 y (List.mem_of_mem_take hy));have e:=add_nrm hw.1 hx64;rw [hw.2] at e;rw [runF_take xs (k+1) (by omega) (by rw [←HR.out.2.2];exact hk),←hx];rw [show plF (runF (xs.take (k+1))) (nrm x)=plF (runF (xs.take (k+1))) x from e] at h;exact h
        have hd:decide ((k:Int)<(n:Int)-1)=true:=by simp;omega
        clear hx;go_wp2_with fail;refine (HP.out _).mono ?_;rintro r w2 ⟨z',rfl,hz',hb2⟩;have HB:=qsd (ai hz' hb2);clear hz' hb2 HP;go_wp2;go_roundg (gk-1)
        case measure=>omega
        case rel=>exact ⟨k+1,z',by omega,by first | rfl | simp,rfl,HB.out.1,HA.out.2.trans (HB.out.2.mono HA.out.2.size)⟩
      · have hd:decide ((k:Int)<(n:Int)-1)=false:=by simp;omega
        have HK:=qsd (show xs.take (k+1)=xs by rw [List.take_of_length_le];rw [←HR.out.2.2];omega);go_wp2;refine bodyPost_ret (v:=.float .f64 z) (by simp [results,Tryz.results29,go_sem]) rfl ?_;have e:=HA.out.1;rw [HK.out] at e;exact ⟨z,rfl,e,HA.out.2⟩
theorem Running10 (xs:List Nat) (a:Option Addr) (n c:Nat) (w:World) (hn:n=xs.length) (hF:Fs w.heap.size w a xs) (hW:W64 xs) (hc:n≤c) (hm:n≤4611686018427387904) :
 Calls Tryz.prog 12 #[.slice a n c] w fun r w'=>r=.returned (.float .f64 (runF xs))∧Below w.heap.size w w':=by
 have H1:=hid (running10 xs a n c w hn hF hW hc hm);obtain ⟨y,hy⟩:∃ y,y=runF xs:=⟨_,rfl⟩;rw [←hy] at H1 ⊢;clear hn hF hW hc hm hy;go_enter Tryz.func12,Tryz.ntmps12;go_wp2_with fail;refine (H1.out).mono ?_;rintro r w1 ⟨z,rfl,hz,hb⟩;have H2:=hid (fun u:World=>told10 hz u);have HB:=qsd hb;clear hz hb H1;go_wp2_with fail;refine (H2.out _).mono ?_;rintro r w2 ⟨rfl,rfl⟩;go_wp2;exact bodyPost_ret (v:=.float .f64 y) (by simp [results,Tryz.results12,go_sem]) rfl ⟨rfl,HB.out⟩
end
section
open Go.RowKit J
attribute [local go_sem] st_float
theorem neS_nrm {q:Nat×Nat}{x:Nat}(hx:x<18446744073709551616) (h1:q.1<18446744073709551616) (n1:nrm q.1=q.1):neS q (nrm x)=neS q x:=by
 have e:plF q.1 (nrm x)=plF q.1 x:=by
  have:=add_nrm h1 hx;rw [n1] at this;exact this
 have e2:nbW q.1 (nrm x)=nbW q.1 x:=by have:=nbW_nrm q.1 x;rw [n1] at this;exact this
 have e3:miF (nrm x) (plF q.1 x)=miF x (plF q.1 x):=by
  have:=sub_nrm hx (plF_lt q.1 x);rw [plF_nrm] at this;exact this
 have e4:∀ y,y<18446744073709551616→nrm y=y→plF y (nrm x)=plF y x:=fun y hy ny=>by
  have:=add_nrm hy hx;rw [ny] at this;exact this
 unfold neS neV;rw [e,e2,e3,e4 _ (miF_lt _ _) (miF_nrm _ _)]
theorem together10 {s c a b:Nat}(hs:Is s a) (hc:Is c b) (w:World):Calls Tryz.prog 31 #[.float .f64 s,.float .f64 c] w fun r w'=>∃ z,r=.returned (.float .f64 z)∧Is z (plF a b)∧Below w.heap.size w w':=by
 have H1:=hid (fun u:World=>plus10 hs hc u);clear hs hc;go_enter Tryz.func31,Tryz.ntmps31;go_wp2_with fail;refine (H1.out _).mono ?_;rintro r w1 ⟨y,rfl,hy,hb1⟩;have HY:=qsd (ai hy hb1);clear hy hb1;go_wp2;exact bodyPost_ret (v:=.float .f64 y) (by simp [results,Tryz.results31,go_sem]) rfl ⟨y,rfl,HY.out.1,HY.out.2⟩
theorem ge_size {s x:Nat}(hs:s<18446744073709551616) (hx:x<18446744073709551616):(FloatKind.f64.format.order (magW s) (magW x)==some .gt || FloatKind.f64.format.order (magW s) (magW x)==some .eq)=nbW s x:=by
 obtain ⟨s1,e,f,he,hf,h1,h2⟩:=bwz s hs;obtain ⟨s2,u,v,hu,hv,h3,h4⟩:=bwz x hx
 have m1:magW s=B.bw false e f:=by
  rw [h1];unfold magW B.bw
  cases s1 <;> simp <;> omega
 have m2:magW x=B.bw false u v:=by
  rw [h3];unfold magW B.bw
  cases s2 <;> simp <;> omega
 unfold nbW;rw [m1,m2,B.gt_f64 false false e f u v he hf hu hv,B.eq_f64 false false e f u v he hf hu hv,h2,h4]
 cases nanW s <;> cases nanW x <;> simp
 unfold B.pl B.bw B.sg;rw [Bool.eq_iff_iff];simp;omega
theorem abs10 {x:Nat}(hx:x<18446744073709551616) (w:World):Calls Tryz.prog 57 #[.float .f64 x] w fun r w'=>r=.returned (.float .f64 (magW x))∧w'=w:=by
 obtain ⟨s,e,f,he,hf,h1,_⟩:=bwz x hx
 have h2:magW x=B.bw false e f:=by
  rw [h1];unfold magW B.bw
  cases s <;> simp <;> omega
 rw [h2,h1];exact B.abs_any s e f he hf w
theorem saved10 {s c x a b d:Nat}(hs:Is s a) (hc:Is c b) (hx:Is x d) (w:World):Calls Tryz.prog 30 #[.float .f64 s,.float .f64 c,.float .f64 x] w fun r w'=>∃ t u,r=.returned (.tuple #[.float .f64 t,.float .f64 u])∧Is t (neS (a,b) d).1∧Is u (neS (a,b) d).2∧Below w.heap.size w w':=by
 have hge:=ge_size hs.1 hx.1;have enb:nbW s x=nbW a d:=by rw [←hs.2,←hx.2,nbW_nrm]
 have A1:=hid (fun u:World=>abs10 hs.1 u);have A2:=hid (fun u:World=>abs10 hx.1 u);obtain ⟨ms,hms⟩:∃ m,m=magW s:=⟨_,rfl⟩;obtain ⟨mx,hmx⟩:∃ m,m=magW x:=⟨_,rfl⟩;rw [←hms] at A1 hge;rw [←hmx] at A2 hge;rw [enb] at hge;have H1:=hid (fun u:World=>plus10 hs hx u);have HS:=qsd (ai hs (ai hc hx));clear hs hc hx enb hms hmx;go_enter Tryz.func30,Tryz.ntmps30;go_wp2_with fail;refine (H1.out _).mono ?_;rintro r w1 ⟨t,rfl,ht,hb1⟩;have HT:=qsd (ai ht hb1);clear ht hb1 H1;go_wp2_with fail;refine (A1.out _).mono ?_;rintro r w1' ⟨rfl,rfl⟩;go_wp2_with fail;refine (A2.out _).mono ?_;rintro r w1'' ⟨rfl,rfl⟩;clear A1 A2
 cases hnb:nbW a d
 · rw [hnb] at hge;have HE:=qsd (show neS (a,b) d=(plF a d,plF b (plF (miF d (plF a d)) a)) by unfold neS neV;rw [hnb];rfl);clear hnb;have H3:=hid (fun u:World=>minus10 HS.out.2.2 HT.out.1 u);go_wp2_with fail;refine (H3.out _).mono ?_;rintro r w3 ⟨u,rfl,hu,hb3⟩;have HU:=qsd (ai hu (HT.out.2.trans (hb3.mono HT.out.2.size)));have H4:=hid (fun v:World=>plus10 hu HS.out.1 v);clear hu hb3 H3;go_wp2_with fail;refine (H4.out _).mono ?_;rintro r w4 ⟨v,rfl,hv,hb4⟩;have HV:=qsd (ai hv (HU.out.2.trans (hb4.mono HU.out.2.size)));have H5:=hid (fun v':World=>plus10 HS.out.2.1 hv v');clear hv hb4 H4;go_wp2_with fail;refine (H5.out _).mono ?_;rintro r w5 ⟨y,rfl,hy,hb5⟩;have HY:=qsd (ai hy (HV.out.2.trans (hb5.mono HV.out.2.size)));clear hy hb5 H5;go_wp2
   go_ret2
   exact ⟨t,y,rfl,by rw [HE.out];exact HT.out.1,by rw [HE.out];exact HY.out.1,HY.out.2⟩
 · rw [hnb] at hge;have HE:=qsd (show neS (a,b) d=(plF a d,plF b (plF (miF a (plF a d)) d)) by unfold neS neV;rw [hnb];rfl);clear hnb;have H3:=hid (fun u:World=>minus10 HS.out.1 HT.out.1 u);go_wp2_with fail;refine (H3.out _).mono ?_;rintro r w3 ⟨u,rfl,hu,hb3⟩;have HU:=qsd (ai hu (HT.out.2.trans (hb3.mono HT.out.2.size)));have H4:=hid (fun v:World=>plus10 hu HS.out.2.2 v);clear hu hb3 H3;go_wp2_with fail;refine (H4.out _).mono ?_;rintro r w4 ⟨v,rfl,hv,hb4⟩;have HV:=qsd (ai hv (HU.out.2.trans (hb4.mono HU.out.2.size)));have H5:=hid (fun v':World=>plus10 HS.out.2.1 hv v');clear hv hb4 H4;go_wp2_with fail;refine (H5.out _).mono ?_;rintro r w5 ⟨y,rfl,hy,hb5⟩;have HY:=qsd (ai hy (HV.out.2.trans (hb5.mono HV.out.2.size)));clear hy hb5 H5;go_wp2
   go_ret2
   exact ⟨t,y,rfl,by rw [HE.out];exact HT.out.1,by rw [HE.out];exact HY.out.1,HY.out.2⟩
end
section
open Go.RowKit J
attribute [local go_sem] st_float
theorem is_zero:Is 0 0:=⟨by decide,by decide⟩
theorem sumNeumaier (xs:List Nat) (a:Option Addr) (n c:Nat) (w:World) (hn:n=xs.length) (hF:Fs w.heap.size w a xs) (hW:W64 xs) (hm:n≤4611686018427387904) :
 Calls Tryz.prog 32 #[.agg #[.func (.func 30) #[] #[],.func (.func 31) #[] #[]],.slice a n c] w fun r w'=>r=.returned (.float .f64 (plF (neF xs).1 (neF xs).2))∧Below w.heap.size w w':=by
 have HR:Aside (Fs w.heap.size w a xs∧W64 xs∧n=xs.length):=⟨hF,hW,hn⟩;have HB0:Aside (Below w.heap.size w (w.alloc (Obj.cells #[.func (.func 30) #[] #[],.func (.func 31) #[] #[]] 54))∧Bl (w.alloc (Obj.cells #[.func (.func 30) #[] #[],.func (.func 31) #[] #[]] 54)) w.heap.size 54 [.func (.func 30) #[] #[],.func (.func 31) #[] #[]]):=⟨bel_alloc _ _,Bl.new _ _ _⟩;clear hF hW hn;go_enter Tryz.func32,Tryz.ntmps32;go_wp2
 go_loopg [11,5,6] n (fun gk i s q wr=>∃ (k y z:Nat),gk+k=n∧i=.int .i64 (k:Nat)∧s=.float .f64 y∧q=.float .f64 z∧Aside (Is y ((xs.take k).foldl neS (0,0)).1∧Is z ((xs.take k).foldl neS (0,0)).2∧Below w.heap.size w wr∧Bl wr w.heap.size 54 [.func (.func 30) #[] #[],.func (.func 31) #[] #[]]∧w.heap.size<wr.heap.size))
 case atStart=>exact ⟨0,0,0,by omega,by simp,rfl,rfl,is_zero,is_zero,HB0.out.1,HB0.out.2,by simp⟩
 case round =>
  obtain ⟨k,y,z,hgk,rfl,rfl,rfl,HA⟩:=hrel;have q0:=HA.out.2.2.2.1.cell 0 _ rfl;have q1:=HA.out.2.2.2.1.cell 1 _ rfl
  by_cases hk:k<n
  · obtain ⟨b,off,rfl,hcell⟩:=HR.out.1.at HA.out.2.2.1 k (by rw [←HR.out.2.2];exact hk);obtain ⟨x,hx⟩:∃ x,x=xs.getD k 0:=⟨_,rfl⟩;rw [←hx] at hcell
    have HP:Hid (∀ u:World,Calls Tryz.prog 30 #[.float .f64 y,.float .f64 z,.float .f64 x] u fun r w'=>∃ t v,r=.returned (.tuple #[.float .f64 t,.float .f64 v])∧Is t ((xs.take (k+1)).foldl neS (0,0)).1∧Is v ((xs.take (k+1)).foldl neS (0,0)).2∧Below u.heap.size u w'):=fun u=>by
     have hx64:x<18446744073709551616:=by rw [hx];exact HR.out.2.1.get k
     have h:=saved10 HA.out.1 HA.out.2.1 (Is.self hx64) u;obtain ⟨o1,o2,o3,o4⟩:=fold_ok neS neS_ok (xs.take k);rw [foldl_take neS (0,0) xs k (by rw [←HR.out.2.2];exact hk),←hx];rw [show (((xs.take k).foldl neS (0,0)).1,((xs.take k).foldl neS (0,0)).2)=(xs.take k).foldl neS (0,0) from rfl,neS_nrm hx64 o1 o3] at h;exact h
    clear hx;go_wp2_with fail;refine (HP.out _).mono ?_;rintro r w2 ⟨t,v,rfl,ht,hv,hb2⟩;have HB:=qsd (ai ht (ai hv (ai (HA.out.2.2.1.trans (hb2.mono HA.out.2.2.1.size)) (ai (HA.out.2.2.2.1.below hb2 HA.out.2.2.2.2) (Nat.lt_of_lt_of_le HA.out.2.2.2.2 hb2.size)))));clear ht hv hb2 HP;go_wp2;go_roundg (gk-1)
    case measure=>omega
    case rel=>exact ⟨k+1,t,v,by omega,by first | rfl | simp,rfl,rfl,HB.out⟩
  · have hd:decide ((k:Int)<n)=false:=by simp;omega
    have HK:=qsd (show xs.take k=xs by rw [List.take_of_length_le];rw [←HR.out.2.2];omega);have HE:=hid (fun u:World=>together10 HA.out.1 HA.out.2.1 u);go_wp2_with fail;refine (HE.out _).mono ?_;rintro r w2 ⟨t,rfl,ht,hb2⟩;have HT:=hid (fun u:World=>told10 ht u);have HB:=qsd (HA.out.2.2.1.trans (hb2.mono HA.out.2.2.1.size));clear ht hb2 HE;rw [HK.out] at HT;obtain ⟨Y,hY⟩:∃ Y,Y=plF (xs.foldl neS (0,0)).1 (xs.foldl neS (0,0)).2:=⟨_,rfl⟩;rw [←hY] at HT;have HY:=qsd hY;clear hY;go_wp2_with fail;refine (HT.out _).mono ?_;rintro r w3 ⟨rfl,rfl⟩;go_wp2;refine bodyPost_ret (v:=.float .f64 Y) (by simp [results,Tryz.results32,go_sem]) rfl ?_;exact ⟨by rw [HY.out];rfl,HB.out⟩
theorem Neumaier10 (xs:List Nat) (a:Option Addr) (n c:Nat) (w:World) (hn:n=xs.length) (hF:Fs w.heap.size w a xs) (hW:W64 xs) (hm:n≤4611686018427387904) :
 Calls Tryz.prog 13 #[.slice a n c] w fun r w'=>r=.returned (.float .f64 (plF (neF xs).1 (neF xs).2))∧Below w.heap.size w w':=by
 have H1:=hid (sumNeumaier xs a n c w hn hF hW hm);obtain ⟨y,hy⟩:∃ y,y=(plF (neF xs).1 (neF xs).2):=⟨_,rfl⟩;rw [←hy] at H1 ⊢;clear hn hF hW hm hy;go_enter Tryz.func13,Tryz.ntmps13;go_wp2_with fail;refine (H1.out).mono ?_;rintro r w1 ⟨rfl,hb⟩;have HB:=qsd hb;clear hb;go_wp2;exact bodyPost_ret (v:=.float .f64 y) (by simp [results,Tryz.results13,go_sem]) rfl ⟨rfl,HB.out⟩
end
section
open Go.RowKit J
theorem ldexp_pow10 (e E:Nat) (x:Int) (w:World) (he0:0<e) (he1:e<2047) (hE0:0<E) (hE:E<2047) (hx0:-3000≤x) (hx1:x≤3000) (hxE:(E:Int)=x+e) :
 Calls Tryz.prog 23 #[.float .f64 (B.bw false e 0),.int .i64 x] w fun r w'=>r=.returned (.float .f64 (B.bw false E 0))∧w'=w:=by
 have hb:B.bw false e 0=e*4503599627370496+0:=by unfold B.bw;simp
 have hd:B.bw false E 0=E*4503599627370496+0:=by unfold B.bw;simp
 exact B.ldexp_norm (B.bw false e 0) e 0 (B.bw false E 0) x (x+((e:Int)-1023)) ((E:Int)*4503599627370496) w (by rw [hb];omega) hx0 hx1 he0 he1 (by omega)
  (by rw [B.eq_zero false e 0 (by omega) (by omega)];simp;omega) (hid fun u=>B.isInf0 e 0 (by omega) (by omega) u) (hid fun u=>B.nan_no e 0 (by omega) (by omega) u) (hid fun u=>B.normalize_any e 0 he0 (by omega) (by omega) u)
  (B.bw_exp false e 0 (by omega) (by omega)) (B.mask_clear e 0 (by omega) (by omega)) rfl (by omega) (by omega) (by omega) (by omega) (by omega) (B.join_exp E 0 (by omega) (by omega)) (B.mul_one _ (by rw [hd];omega) (by rw [hd];omega) _)
theorem Ldexp100 (w:World):Calls Tryz.prog 10 #[.float .f64 4607182418800017408,.int .i64 100] w fun r w'=>r=.returned (.float .f64 5057542381537067008)∧w'=w:=by
 have H:=hid (ldexp_pow10 1023 1123 100 w (by decide) (by decide) (by decide) (by decide) (by decide) (by decide) (by decide));rw [show B.bw false 1023 0=4607182418800017408 by decide,show B.bw false 1123 0=5057542381537067008 by decide] at H;go_enter Tryz.func10,Tryz.ntmps10;go_wp2_with fail;refine H.out.mono ?_;rintro r w1 ⟨rfl,rfl⟩;go_wp2;go_ret;exact ⟨rfl,rfl⟩
def lvL:List Nat:=[4607182418800017408,5057542381537067008,4607182418800017408,14280914418391842816]
theorem lv_run:runF lvL=0:=by kernel_rfl
theorem lv_ne:plF (neF lvL).1 (neF lvL).2=4611686018427387904:=by kernel_rfl
theorem lv_run2:runF [4607182418800017408,4611686018427387904]=4613937818241073152:=by kernel_rfl
theorem lv_s:sS lvL=⟨0,0,0,0,0,4⟩:=by kernel_rfl
theorem lv_v (k:Nat) (hk:k=2149):vS lvL=((2^k:Nat):Int):=by
 obtain ⟨j,hj⟩:∃ j,j=2144:=⟨_,rfl⟩;obtain ⟨i,hi⟩:∃ i,i=2248:=⟨_,rfl⟩;obtain ⟨m,hm⟩:∃ m,m=2148:=⟨_,rfl⟩;have h1:=pT_one m hm;have h2:=pT_pow 5057542381537067008 false j i (by decide) (by decide) (by decide) (by rw [hj];decide) (by omega);have h3:=pT_pow 14280914418391842816 true j i (by decide) (by decide) (by decide) (by rw [hj];decide) (by omega);simp only [vS,lvL,List.foldl_cons,List.foldl_nil];rw [h1,h2,h3,show k=m+1 by omega,Nat.pow_succ];unfold sgn7;simp only [Bool.false_eq_true,if_false,if_true];generalize (2^m:Nat)=A;generalize (2^i:Nat)=C;omega
theorem lv_rd:rd7 (vS lvL) (sS lvL) 0 0 0=(4611686018427387904,0):=by
 obtain ⟨k,hk⟩:∃ k,k=2149:=⟨_,rfl⟩;rw [lv_v k hk,lv_s];have h0:((2^k:Nat):Int)≠0:=by have:=Nat.two_pow_pos k;omega
 have e:ahd ((2^k:Nat):Int) ⟨0,0,0,0,0,4⟩ 0 0 0=(0,false,0):=by
  unfold ahd;rw [if_neg (by decide),if_neg h0]
 have ex:exV ((2^k:Nat):Int)=some (false,1,1):=by
  unfold exV;rw [decide_eq_false (Int.not_lt.mpr (Int.natCast_nonneg _)),Int.natAbs_natCast,mkS_pow7,hk]
  kernel_rfl
 have e2:rndS (mkS (dN (some (false,1,1))) (dX (some (false,1,1))) (dE (some (false,1,1)))) 0=(4611686018427387904,0):=by kernel_rfl
 unfold rd7;rw [e,ex,e2];rfl
theorem live10 (w:World) (hT:Tab w):Calls Tryz.prog 4 #[] w fun r w'=>r=.returned (.bool true)∧Below w.heap.size w w':=by
 have HL:=hid (fun u:World=>Ldexp100 u);have hneg:∀ u:World,Sem.run Tryz.prog (Op.unary UnOp.neg (Value.float FloatKind.f64 5057542381537067008)) u=.ok (.float .f64 14280914418391842816) u:=fun u=>by kernel_rfl
 have HT:=qsd hT;clear hT;go_enter Tryz.func4,Tryz.ntmps4;go_wp2_with fail;refine (HL.out _).mono ?_;rintro r u ⟨rfl,rfl⟩;clear HL;obtain ⟨W,hW⟩:∃ W,W=u.alloc (.cells #[.float .f64 4607182418800017408,.float .f64 5057542381537067008,.float .f64 4607182418800017408,.float .f64 14280914418391842816] 25):=⟨_,rfl⟩
 have HW:Aside (Bl W u.heap.size 25 [.float .f64 4607182418800017408,.float .f64 5057542381537067008,.float .f64 4607182418800017408,.float .f64 14280914418391842816]∧Below u.heap.size u W∧u.heap.size<W.heap.size):=by
  rw [hW];exact ⟨Bl.new _ _ _,bel_alloc _ _,by simp⟩
 have HF:Aside (∀ v:World,Below W.heap.size W v→Fs v.heap.size v (some ⟨u.heap.size,0,none⟩) lvL):=fun v hb=>by
  have hbl:=HW.out.1.below hb HW.out.2.2;refine fun _=>⟨u.heap.size,0,hbl.lt,rfl,fun i hi=>?_⟩;have hc:i=0∨i=1∨i=2∨i=3:=by simp [lvL] at hi;omega
  rw [Nat.zero_add];rcases hc with rfl|rfl|rfl|rfl <;> exact hbl.cell _ _ rfl
 have hW64:W64 lvL:=by intro x hx;simp only [lvL,List.mem_cons,List.not_mem_nil,or_false] at hx;rcases hx with rfl | rfl | rfl | rfl <;> decide
 have E1:=hid (Exact10 lvL (some ⟨u.heap.size,0,none⟩) 4 4 0 0 0 W rfl (HF.out W (Below.refl _ _)) hW64 (HT.out.belows HW.out.2.1) (by decide) (by decide) (by decide) (by decide) (by decide) (by decide));rw [lv_rd] at E1;have E2:=hid (fun (v:World) (hb:Below W.heap.size W v)=>Running10 lvL (some ⟨u.heap.size,0,none⟩) 4 4 v rfl (HF.out v hb) hW64 (by decide) (by decide));rw [lv_run] at E2;have E3:=hid (fun (v:World) (hb:Below W.heap.size W v)=>Neumaier10 lvL (some ⟨u.heap.size,0,none⟩) 4 4 v rfl (HF.out v hb) hW64 (by decide));rw [lv_ne] at E3;have q1:(FloatKind.f64.format.order 4611686018427387904 4611686018427387904==some .eq)=true:=by kernel_rfl
 have q2:(FloatKind.f64.format.order 0 0==some .eq)=true:=by kernel_rfl
 have q3:(FloatKind.f64.format.order 4613937818241073152 4613937818241073152==some .eq)=true:=by kernel_rfl
 have HWW:=qsd hW;clear hW hW64;go_wp2_with fail;rw [←HWW.out];refine (E1.out).mono ?_;rintro r v1 ⟨rfl,hb1⟩;have B1:=qsd hb1;clear hb1 E1;go_wp2_with fail;refine (E2.out _ B1.out).mono ?_;rintro r v2 ⟨rfl,hb2⟩;have B2:=qsd (B1.out.trans (hb2.mono B1.out.size));clear hb2 E2;go_wp2_with fail;refine (E3.out _ B2.out).mono ?_;rintro r v3 ⟨rfl,hb3⟩;have B3:=qsd (B2.out.trans (hb3.mono B2.out.size));clear hb3 E3;obtain ⟨W2,hW2⟩:∃ W2,W2=v3.alloc (.cells #[.float .f64 4607182418800017408,.float .f64 4611686018427387904] 25):=⟨_,rfl⟩
 have H2:Aside (Bl W2 v3.heap.size 25 [.float .f64 4607182418800017408,.float .f64 4611686018427387904]∧Below v3.heap.size v3 W2∧v3.heap.size<W2.heap.size):=by
  rw [hW2];exact ⟨Bl.new _ _ _,bel_alloc _ _,by simp⟩
 have E4:=hid (Running10 [4607182418800017408,4611686018427387904] (some ⟨v3.heap.size,0,none⟩) 2 2 W2 rfl (fun _=>⟨v3.heap.size,0,H2.out.2.2,rfl,fun i hi=>by
  have hc:i=0∨i=1:=by simp at hi;omega
  rw [Nat.zero_add]
  rcases hc with rfl|rfl <;> exact H2.out.1.cell _ _ rfl⟩) (by intro x hx;simp only [List.mem_cons,List.not_mem_nil,or_false] at hx;rcases hx with rfl|rfl <;> decide) (by decide) (by decide))
 rw [lv_run2] at E4;have HW2:=qsd hW2;clear hW2;go_wp2_with fail;rw [←HW2.out];refine (E4.out).mono ?_;rintro r v4 ⟨rfl,hb4⟩;have B4:=qsd hb4;clear hb4 E4;go_wp2;go_ret;have b1:=HW.out.2.1.trans (B3.out.mono HW.out.2.1.size);have b2:=b1.trans (H2.out.2.1.mono b1.size);exact ⟨rfl,b2.trans (B4.out.mono b2.size)⟩
end
section
open Go.ChangeShapes Go.WideShapes Go.ChangeAt Go.RowKit
theorem trodF {H:Type}{enc:TypeId×Value→H}{P:Program}{w:World}{base:Nat}{spare:Nat→Bool}{held:Bool}{fuel:Nat}{t:TypeId}{cs:List Value}{x:DataW H×List MemPlace}{k:FloatKind}(ht:P.underlying t=some (.float k)) (h:DataW.trod enc P w base spare held fuel t cs=some x):∃ n,cs=[.float k n]∧x=(.lit (.float k n),[])∧(Lit.float k n).wf=true:=by
 cases fuel with
 | zero=>simp [DataW.trod] at h
 | succ m =>
   simp only [DataW.trod,ht] at h
   split at h <;> simp_all
structure CameF (w:World) (a:Option Addr) (n c:Nat) (xs:List Nat):Prop where
 len:n=xs.length
 cap:n≤c
 wf:W64 xs
 rd:Fs w.heap.size w a xs
 nil:a=none→c=0
theorem add_noneF (b off i:Nat):(⟨b,off,none⟩:Addr).add i=⟨b,off+i,none⟩:=by unfold Addr.add;split <;> simp_all
def numF {H:Type} (y:DataW H×List MemPlace):Nat:=match y.1 with | .lit (.float _ n)=>n | _=>0
theorem Tryz.cellsF:Tryz.prog.cellsOf 25=1:=by kernel_rfl
theorem Tryz.bytesF:Tryz.prog.bytesOf 25=8:=by kernel_rfl
theorem cameF_of {H:Type}{enc:TypeId×Value→H}{W:World}{a:Option Addr}{n c:Nat}{d:DataW H}{p:List MemPlace}(h:DataW.Trod enc Tryz.prog W 0 (fun _=>true) true 22 (.slice a n c) d p) :
 ∃ xs,CameF W a n c xs∧((d=.nil∧c=0)∨∃ elems spare:List (DataW H),d=.slice elems spare∧elems.length+spare.length=c):=by
 obtain ⟨fuel,hf⟩:=h;rcases DataW.trod_slice Tryz.underlying22 hf with ⟨hcs,hx⟩|⟨x,l,cp,elems,rest,m,_,hcs,hx,hb,hl,hm,hlen,hel,hsp,hns⟩
 · simp [Value.cells] at hcs;obtain ⟨rfl,rfl,rfl⟩:=hcs;exact ⟨[],⟨rfl,Nat.le_refl _,(fun x hx=>by cases hx),(fun h=>absurd rfl h),fun _=>rfl⟩,.inl ⟨(Prod.mk.inj hx).1,rfl⟩⟩
 · simp [Value.cells] at hcs;obtain ⟨rfl,rfl,rfl⟩:=hcs
   have each:∀ i y,i<n→elems[i]?=some y→y=(.lit (.float .f64 (numF y)),[])∧(Lit.float .f64 (numF y)).wf=true∧W.cell? (x.add i)=some (.float .f64 (numF y)):=by
    intro i y hi hy;have hb':=hel i hi;rw [hy,Tryz.cellsF,Nat.mul_one,Option.bind_eq_some_iff] at hb';obtain ⟨cs',hcs,hy'⟩:=hb';obtain ⟨k,rfl,rfl,hw⟩:=trodF Tryz.underlying25 hy';exact ⟨rfl,hw,cell_of_cells?_one hcs⟩
   refine ⟨elems.map numF,⟨by simp [hlen],hl,?_,?_,fun e=>by cases e⟩,.inr ⟨_,_,(Prod.mk.inj hx).1,?_⟩⟩
   · intro y hy;obtain ⟨z,hz,rfl⟩:=List.mem_map.1 hy;obtain ⟨i,hi⟩:=List.getElem?_of_mem hz;have hil:=(List.getElem?_eq_some_iff.1 hi).1;have:=(each i z (by omega) hi).2.1;exact of_decide_eq_true this
   · intro hne;obtain ⟨b,off,spot⟩:=x
     have hn0:0<n:=by
      rcases Nat.eq_zero_or_pos n with h0|h0
      · rw [h0] at hlen;have:=List.eq_nil_of_length_eq_zero hlen;subst this;simp at hne
      · exact h0
     have hc0:=(each 0 (elems[0]'(by omega)) hn0 (List.getElem?_eq_getElem _)).2.2;have hspot:spot=none:=by simpa [Addr.add] using World.cell?_spot hc0
     subst hspot;refine ⟨b,off,World.block_lt_of_cell? W _ (by simpa [Addr.add] using hc0),rfl,fun i hi=>?_⟩;rw [List.length_map] at hi;have hadd:=add_noneF b off i;have:=(each i (elems[i]'hi) (by omega) (List.getElem?_eq_getElem _)).2.2;rw [hadd] at this;rw [this];simp [List.getD_eq_getElem?_getD,hi]
   · have hr:=(hsp rfl).1;simp only [List.length_map];omega
theorem cameF_reach {H:Type}{ts:List TypeId}{ds:List (DataW H)}(h:(DataW.weightsEach Tryz.prog ts ds).all (·≤reachBytes)=true) {j:Nat}{d:DataW H}{c n:Nat}(ht:ts[j]?=some 22) (hd:ds[j]?=some d) (hn:n≤c)
 (hc:(d=.nil∧c=0)∨∃ elems spare:List (DataW H),d=.slice elems spare∧elems.length+spare.length=c):n≤17592186043904:=by
 rcases hc with ⟨_,rfl⟩|⟨elems,spare,rfl,hl⟩
 · omega
 · have:=sized_slice h ht hd Tryz.underlying22;rw [Tryz.bytesF,hl] at this;simp only [reachBytes] at this;omega
end
section
open Go.RowKit Go.Maps
theorem Alike10_arg (a:Option Addr) (n c:Nat) (f:Int) (w:World) (h:f<1∨8<f) :
 Calls Tryz.prog 6 #[.slice a n c,.int .i64 f] w fun r w'=>r=.returned (.tuple #[.float .f64 0,.int .i64 1])∧Below w.heap.size w w':=by
 have HN:=hid (New9_no f w h);clear h;go_enter Tryz.func6,Tryz.ntmps6;go_wp2_with fail;refine HN.out.mono ?_;rintro r w1 ⟨rfl,rfl⟩;clear HN;go_wp2
 go_ret2
 exact ⟨rfl,Below.refl _ _⟩
theorem class9 (x:Nat) (hx:x<18446744073709551616) (w:World):∃ c:Int,(decide (2<c)=true↔¬ finW x)∧Calls Tryz.prog 19 #[.float .f64 x] w fun r w'=>r=.returned (.int .i64 c)∧Below w.heap.size w w':=by
 obtain ⟨s,e,f,he,hf,rfl,_⟩:=bwz x hx;refine ⟨B.cls e f,?_,B.rClass_any s e f he hf w⟩;have hm:magW (B.bw s e f)=e*4503599627370496+f:=by unfold magW B.bw;cases s <;> simp <;> omega
 unfold finW B.cls;rw [hm,decide_eq_true_eq]
 by_cases h1:e=2047
 · rw [if_pos h1];constructor
   · intro _;omega
   · intro _;split <;> omega
 · rw [if_neg h1];constructor
   · intro h;split at h <;> (try split at h) <;> omega
   · intro h;omega
theorem al_er9 (f:Nat) (xs:List Nat) (hF:Fin9 xs) (hl:xs.length≤65536):rndS (fo8 (kvz f xs)) 0=((rndS (fo8 (kvz f xs)) 0).1,0):=by
 obtain ⟨n,X,e,h1,_⟩:=fo8_frm (kvz f xs) EB (by have:=EB5;omega) (kvz_EB f xs hF (by omega));rw [h1,rndS_form 0 n X e (by decide) (by decide)]
noncomputable def alR (f:Int) (xs:List Nat):Nat×Int:=if f<1∨8<f then (0,1) else if 65536<xs.length then (0,2) else alA f.toNat xs
theorem rAlike9 (xs:List Nat) (a:Option Addr) (n c:Nat) (f:Int) (w:World) (hn:n=xs.length) (hF:Fs w.heap.size w a xs) (hW:W64 xs) (hbig:n≤17592186043904) (z:Nat×Int) (hz:alR f xs=z) :
 Calls Tryz.prog 8 #[.slice a n c,.int .i64 f] w fun r w'=>r=.returned (.tuple #[.float .f64 z.1,.int .i64 z.2])∧Below w.heap.size w w':=by
 obtain ⟨X,E⟩:=z;simp only;have HO0:Hid (∀ u:World,Calls Tryz.prog 14 #[.int .u64 0] u fun r w'=>r=.returned (.float .f64 0)∧w'=u):=fun u=>rOf10 0 u;unfold alR at hz
 by_cases h1:f<1
 · rw [if_pos (.inl h1)] at hz;obtain ⟨rfl,rfl⟩:=Prod.mk.inj hz;have d1:decide (f<1)=true:=decide_eq_true h1;clear hz hn hF hW;go_enter Tryz.func8,Tryz.ntmps8;go_wp2_with fail;refine (HO0.out w).mono ?_;rintro r u ⟨rfl,hq⟩;rw [hq];clear hq u HO0;go_wp2;exact bodyPost_ret (v:=.tuple #[.float .f64 0,.int .i64 1]) (by simp [results,Tryz.results8,go_sem]) rfl ⟨rfl,Below.refl _ _⟩
 have d1:decide (f<1)=false:=decide_eq_false h1
 by_cases h8:8<f
 · rw [if_pos (.inr h8)] at hz;obtain ⟨rfl,rfl⟩:=Prod.mk.inj hz;have d2:decide (8<f)=true:=decide_eq_true h8;clear hz hn hF hW;go_enter Tryz.func8,Tryz.ntmps8;go_wp2_with fail;refine (HO0.out w).mono ?_;rintro r u ⟨rfl,hq⟩;rw [hq];clear hq u HO0;go_wp2;exact bodyPost_ret (v:=.tuple #[.float .f64 0,.int .i64 1]) (by simp [results,Tryz.results8,go_sem]) rfl ⟨rfl,Below.refl _ _⟩
 have d2:decide (8<f)=false:=decide_eq_false h8;rw [if_neg (by omega)] at hz
 by_cases hl:65536<n
 · rw [if_pos (by omega)] at hz;obtain ⟨rfl,rfl⟩:=Prod.mk.inj hz;have d3:decide ((65536:Int)<(n:Int))=true:=decide_eq_true (by omega);clear hz hn hF hW;go_enter Tryz.func8,Tryz.ntmps8;go_wp2_with fail;refine (HO0.out w).mono ?_;rintro r u ⟨rfl,hq⟩;rw [hq];clear hq u HO0;go_wp2;exact bodyPost_ret (v:=.tuple #[.float .f64 0,.int .i64 2]) (by simp [results,Tryz.results8,go_sem]) rfl ⟨rfl,Below.refl _ _⟩
 have d3:decide ((65536:Int)<(n:Int))=false:=decide_eq_false (by omega);rw [if_neg (by omega)] at hz;have HZ:=qsd hz;obtain ⟨q,rfl⟩:∃ q:Nat,f=q:=⟨f.toNat,by omega⟩;have HX:=(qsd (ai hn (ai hF hW)));have HSu:=hid (fun (u:World) (hb:Below w.heap.size w u) (hf:Fin9 xs)=>rSum9d xs a n c q 0 u hn ((hF.below hb).mono hb.size) hf (by omega) (by omega) (by omega) ((rndS (fo8 (kvz q xs)) 0).1,0) (al_er9 q xs hf (by omega)));have hqr:1≤q∧q≤8:=by omega
 clear hz hn hF hW h1 h8;go_enter Tryz.func8,Tryz.ntmps8;go_wp2_with fail
 go_loopg [6] n (fun gk iv wr=>∃ k:Nat,gk+k=n∧iv=.int .i64 (k:Nat)∧Aside (Below w.heap.size w wr∧∀ i,i<k→finW (xs.getD i 0)))
 case atStart=>exact ⟨0,by omega,rfl,Below.refl _ _,fun i hi=>absurd hi (by omega)⟩
 case round =>
  obtain ⟨k,hk,rfl,HA⟩:=hrel
  by_cases hkn:k<n
  case neg =>
   have d4:decide ((k:Int)<(n:Int))=false:=decide_eq_false (by omega)
   have hfin:Fin9 xs:=fun x hx=>by
    obtain ⟨i,hi,rfl⟩:=List.getElem_of_mem hx;have:=HA.out.2 i (by have:=HX.out.1;omega);rw [List.getD_eq_getElem?_getD,List.getElem?_eq_getElem hi] at this;exact ⟨HX.out.2.2 _ hx,this⟩
   have C:=hid (HSu.out wr HA.out.1 hfin)
   have HE:Aside (X=(rndS (fo8 (kvz q xs)) 0).1∧E=0):=qsd (by
    have:=HZ.out;rw [Int.toNat_natCast] at this;unfold alA at this;rw [if_pos hfin,al_er9 q xs hfin (by have:=HX.out.1;omega)] at this
    exact ⟨(Prod.mk.inj this).1.symm,(Prod.mk.inj this).2.symm⟩)
   clear hfin HSu;go_wp2_with fail;refine C.out.mono ?_;rintro r u2 ⟨rfl,hb⟩;have BD:=qsd (HA.out.1.trans (hb.mono HA.out.1.size));clear hb C;go_wp2;exact bodyPost_ret (v:=.tuple #[.float .f64 (rndS (fo8 (kvz q xs)) 0).1,.int .i64 0]) (by simp [results,Tryz.results8,go_sem]) rfl ⟨by rw [HE.out.1,HE.out.2],BD.out⟩
  case pos =>
   have d4:decide ((k:Int)<(n:Int))=true:=decide_eq_true (by omega);have hkl:k<xs.length:=by have:=HX.out.1;omega
   obtain ⟨bb,off,hlt2,rfl,hcell⟩:=(HX.out.2.1.below HA.out.1) (by intro e;rw [e] at hkl;simp at hkl);have hxc:=hcell k hkl;obtain ⟨x,hx0⟩:∃ x,x=xs.getD k 0:=⟨_,rfl⟩;have hx:x<18446744073709551616:=by rw [hx0];exact HX.out.2.2.get k
   rw [←hx0] at hxc;obtain ⟨cc,hcc,hC⟩:=class9 x hx wr;have C:=hid hC;clear hlt2 hcell hC hx
   by_cases hf:finW x
   · have d5:decide (2<cc)=false:=by
      cases hd:decide (2<cc) with
      | false=>rfl
      | true=>exact absurd hf (hcc.1 hd)
     have HN:Aside (∀ i,i<k+1→finW (xs.getD i 0)):=qsd (fun i hi=>by
      by_cases q2:i=k
      · rw [q2,←hx0];exact hf
      · exact HA.out.2 i (by omega))
     clear hcc hf hx0 hkl;go_wp2_with fail;refine C.out.mono ?_;rintro r u2 ⟨rfl,hb⟩;have BD:=qsd (HA.out.1.trans (hb.mono HA.out.1.size));clear hb C HA hxc;go_wp2;go_roundg (gk-1)
     case measure=>omega
     case rel=>exact ⟨k+1,by omega,by first | rfl | go_num,BD.out,HN.out⟩
   · have d5:decide (2<cc)=true:=hcc.2 hf
     have HE:Aside (X=0∧E=30):=qsd (by
      have:=HZ.out;rw [Int.toNat_natCast] at this;unfold alA at this;rw [if_neg (fun q2=>hf (by rw [hx0,List.getD_eq_getElem?_getD,List.getElem?_eq_getElem hkl];exact (q2 _ (List.getElem_mem hkl)).2))] at this
      exact ⟨(Prod.mk.inj this).1.symm,(Prod.mk.inj this).2.symm⟩)
     clear hcc hf hx0 hkl;go_wp2_with fail;refine C.out.mono ?_;rintro r u2 ⟨rfl,hb⟩;have BD:=qsd (HA.out.1.trans (hb.mono HA.out.1.size));clear hb C HA hxc;go_wp2_with fail;refine (HO0.out u2).mono ?_;rintro r uu ⟨rfl,hq⟩;rw [hq];clear hq uu HO0;go_wp2;exact bodyPost_ret (v:=.tuple #[.float .f64 0,.int .i64 30]) (by simp [results,Tryz.results8,go_sem]) rfl ⟨by rw [HE.out.1,HE.out.2],BD.out⟩
theorem Alike10_any (xs:List Nat) (a:Option Addr) (n c:Nat) (f:Int) (w:World) (hn:n=xs.length) (hF:Fs w.heap.size w a xs) (hW:W64 xs) (hT:Tab w) (z:Nat×Int) (hz:alR f xs=z) :
 Calls Tryz.prog 6 #[.slice a n c,.int .i64 f] w fun r w'=>r=.returned (.tuple #[.float .f64 z.1,.int .i64 z.2])∧Below w.heap.size w w':=by
 subst hz;unfold alR
 by_cases h:f<1∨8<f
 · rw [if_pos h];exact Alike10_arg a n c f w h
 · rw [if_neg h];obtain ⟨q,rfl⟩:∃ q:Nat,f=q:=⟨f.toNat,by omega⟩
   by_cases hl:65536<xs.length
   · rw [if_pos hl];exact Alike10_long a n c q w (by omega) (by omega) (by omega)
   · rw [if_neg hl,Int.toNat_natCast];exact Alike10 xs a n c q w hn hF hW hT (by omega) (by omega) (by omega)
end
section
open Go.RowKit J
theorem OwnF.fs {w:World}{g B:Nat}{L:List Nat}(h:OwnF w g L) (hg:g<B) (n:Nat):Fs B w (some ⟨g,0,none⟩) (L.take n):=by
 intro _;refine ⟨g,0,hg,rfl,fun i hi=>?_⟩;rw [List.length_take] at hi;rw [Nat.zero_add,h.cell i (by omega)];congr 2;rw [List.getD_eq_getElem?_getD,List.getD_eq_getElem?_getD,List.getElem?_take,if_pos (by omega)]
theorem walk2_SumsAlike (a:Option Addr) (n c:Nat) (xs:List Nat) (f:Int) (w:World) (hT:Tab w) (hC:CameF w a n c xs) (hm:n≤17592186043904) :
 Calls Tryz.prog 3 #[.slice a n c,.int .i64 f] w fun r w'=>r=.returned (.bool true)∧Below w.heap.size w w':=by
 obtain ⟨hn,hc,hW,hF,_⟩:=hC;obtain ⟨⟨X,E⟩,hz⟩:∃ z,alR f xs=z:=⟨_,rfl⟩;have H0:=hid (live10 w hT);have HL:=hid (fun (u:World) (hb:Below w.heap.size w u)=>rLent10 xs a n c u.heap.size u hn hm ((hF.below hb).mono hb.size) (Nat.le_refl _))
 have hX:∀ (g:Nat) (u:World),OwnF u g (xs++List.replicate 8 mrk5)→Fs u.heap.size u (some ⟨g,0,none⟩) xs:=fun g u hO=>by
  have:=hO.fs hO.lt n;rw [List.take_append_of_le_length (by omega),List.take_of_length_le (by omega)] at this;exact this
 have P1:=hid (fun (g:Nat) (u:World) (hb:Below w.heap.size w u) (hO:OwnF u g (xs++List.replicate 8 mrk5))=>Alike10_any xs (some ⟨g,0,none⟩) n (n+8) f u hn (hX g u hO) hW (hT.belows hb) (X,E) hz);have HA:=hid (fun (g:Nat) (u:World) (hb:Below w.heap.size w u) (hO:OwnF u g (xs++List.replicate 8 mrk5))=>rAsLent10 xs a n c u.heap.size g u hn hm ((hF.below hb).mono hb.size) (Nat.le_refl _) hO);have R1:=hid (fun (u:World) (hb:Below w.heap.size w u)=>rAlike9 xs a n c f u hn ((hF.below hb).mono hb.size) hW hm (X,E) hz);have HE:=hid (fun (u:World)=>exact10 X X u);simp only [beq_self_eq_true] at HE;simp only at P1 R1;have e1:(E==E)=true:=by simp
 clear hn hc hW hF hT hX hz hm;go_enter Tryz.func3,Tryz.ntmps3;go_wp2_with fail;refine H0.out.mono ?_;rintro r u0 ⟨rfl,hb⟩;have B0:=qsd hb;clear hb H0;go_wp2_with fail;refine (HL.out _ B0.out).mono ?_;rintro r u1 ⟨rfl,hO,hb⟩;obtain ⟨g,hg⟩:∃ g,g=u0.heap.size:=⟨_,rfl⟩;rw [←hg] at hO ⊢;have B1:=qsd (ai hO (B0.out.trans (hb.mono B0.out.size)));clear hb HL hO hg B0;go_wp2_with fail;refine (P1.out g _ B1.out.2 B1.out.1).mono ?_;rintro r u2 ⟨rfl,hb⟩;have B2:=qsd (ai (B1.out.1.below hb B1.out.1.lt) (B1.out.2.trans (hb.mono B1.out.2.size)));clear hb P1 B1;go_wp2_with fail;refine (HA.out g _ B2.out.2 B2.out.1).mono ?_;rintro r u3 ⟨rfl,hb⟩;have B3:=qsd (B2.out.2.trans (hb.mono B2.out.2.size));clear hb HA B2;go_wp2_with fail;refine (R1.out _ B3.out).mono ?_;rintro r u4 ⟨rfl,hb⟩;have B4:=qsd (B3.out.trans (hb.mono B3.out.size));clear hb R1 B3;go_wp2_with fail;refine (HE.out _).mono ?_;rintro r u5 ⟨rfl,hq⟩;rw [hq];clear hq u5 HE;go_wp2;go_ret;exact ⟨rfl,B4.out⟩
end
end Go.Proofs.YtepkabljmpbmaaaGreatDoor
