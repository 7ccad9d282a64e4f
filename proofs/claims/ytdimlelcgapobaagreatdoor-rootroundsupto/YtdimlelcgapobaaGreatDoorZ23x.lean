import Derived.Test.YtdimlelcgapobaaGreatDoorZ20x
import Derived.Test.YtdimlelcgapobaaGreatDoorW52x
import Derived.Deep.RegionHeld3
import Derived.Deep.CutRange
import Derived.Test.YtdimlelcgapobaaGreatDoorZ9x
import Derived.Test.YtdimlelcgapobaaGreatDoorW34x
import Derived.BigQuiet
import Derived.ProofKit
import Derived.OpenShut
import Derived.ChangeOld
import Derived.ChangeArms
import Derived.Test.YtdimlelcgapobaaGreatDoorBFlx
import Derived.Test.YtdimlelcgapobaaGreatDoorBN2x
set_option linter.unusedVariables false
set_option linter.unusedSimpArgs false
set_option maxHeartbeats 16000000
set_option maxRecDepth 20000
namespace Go.Proofs.YtdimlelcgapobaaGreatDoor
section
open Go.RowKit
attribute [local go_sem] B.f64bits B.f32bits
theorem errN_ok {X Y:Nat}{n m:Bool}{e f:Int}{n1 m1:Bool}{X1 Y1:Nat}{e1 f1:Int}(h1:mkS n X e=some (n1,X1,e1)) (h2:mkS m Y f=some (m1,Y1,f1)) (h3:Y1≠0) (h4:m=false):errN X n e Y m f=0:=by
 unfold errN;rw [h1,h2,h4];have:¬ sgn false Y<0:=by unfold sgn;split <;> simp
 rw [if_neg this];simp [dX,h3]
theorem quoR_ok (rnd:Option (Bool×Nat×Int)→Int→Nat×Int) (r:Ri) (mode:Int) {n1 m1:Bool}{X1 Y1:Nat}{e1 f1:Int}(h1:mkS r.n r.X r.e=some (n1,X1,e1)) (h2:mkS r.m r.Y r.f=some (m1,Y1,f1)) (h3:Y1≠0) (h4:r.m=false) (hm0:0≤mode) (hm4:mode≤4):quoR rnd r mode=rnd (quoZ n1 X1 e1 Y1 f1) mode:=by
 unfold quoR;rw [if_neg (by omega),errL_one,errN_ok h1 h2 h3 h4,if_pos rfl,h1,h2]
 rfl
theorem sqrR_ok (rnd:Option (Bool×Nat×Int)→Int→Nat×Int) (r:Ri) (mode:Int) {m1:Bool}{X1 Y1:Nat}{e1 f1:Int}(h1:mkS r.n r.X r.e=some (false,X1,e1)) (h2:mkS r.m r.Y r.f=some (m1,Y1,f1)) (h3:Y1≠0) (h4:r.m=false) (hm0:0≤mode) (hm4:mode≤4):sqrR rnd r mode=rnd (sqZ X1 e1 Y1 f1) mode:=by
 unfold sqrR;rw [if_neg (by omega),errL_one,errN_ok h1 h2 h3 h4,if_pos rfl,h1,h2]
 rfl
theorem sqrR_neg (rnd:Option (Bool×Nat×Int)→Int→Nat×Int) (r:Ri) (mode:Int) {m1:Bool}{X1 Y1:Nat}{e1 f1:Int}(h1:mkS r.n r.X r.e=some (true,X1,e1)) (h2:mkS r.m r.Y r.f=some (m1,Y1,f1)) (h3:Y1≠0) (h4:r.m=false) (hm0:0≤mode) (hm4:mode≤4):sqrR rnd r mode=(0,110):=by
 unfold sqrR;rw [if_neg (by omega),errL_one,errN_ok h1 h2 h3 h4,if_pos rfl,h1]
 rfl
theorem len_sm {X:Nat}(h:X<16):(ws X).length≤8192:=len_bl8 (by have:=bl_lt_pow (X:=X) (k:=4) (by omega);omega)
theorem QuotC {w:World}{l1 l2:Nat}(n m:Bool) (X Y:Nat) (e f mode:Int) (K:Nat) (er:Int) {v u:Value}(N1:Nt l1 w v X) (N2:Nt l2 w u Y) (lX:(ws X).length≤8192) (lY:(ws Y).length≤8192) (be:-1048576≤e∧e≤1048576) (bf:-1048576≤f∧f≤1048576) (hT:Tab w) (hK:∀ v u,quoR rndS ⟨n,v,X,e,m,u,Y,f⟩ mode=(K,er)) :
 Calls Tryz.prog 10 #[.agg #[.bool n,v,.int .i64 e,.bool m,u,.int .i64 f],.int .i64 mode] w fun r w'=>r=.returned (.tuple #[.float .f64 K,.int .i64 er])∧Below w.heap.size w w':=by
 obtain ⟨a1,c1,rfl,A1⟩:=N1.arg (by omega)
 obtain ⟨a2,c2,rfl,A2⟩:=N2.arg (by omega)
 have:=Quot11 (X:=X) (Y:=Y) (n:=n) (m:=m) (e:=e) (f:=f) mode ⟨N1.av (by omega),N2.av (by omega),by simp only;omega,by simp only;omega⟩ hT
 rw [hK] at this;exact this
theorem RootC {w:World}{l1 l2:Nat}(n m:Bool) (X Y:Nat) (e f mode:Int) (K:Nat) (er:Int) {v u:Value}(N1:Nt l1 w v X) (N2:Nt l2 w u Y) (lX:(ws X).length≤8192) (lY:(ws Y).length≤8192) (be:-1048576≤e∧e≤1048576) (bf:-1048576≤f∧f≤1048576) (hT:Tab w) (hK:∀ v u,sqrR rndS ⟨n,v,X,e,m,u,Y,f⟩ mode=(K,er)) :
 Calls Tryz.prog 14 #[.agg #[.bool n,v,.int .i64 e,.bool m,u,.int .i64 f],.int .i64 mode] w fun r w'=>r=.returned (.tuple #[.float .f64 K,.int .i64 er])∧Below w.heap.size w w':=by
 obtain ⟨a1,c1,rfl,A1⟩:=N1.arg (by omega)
 obtain ⟨a2,c2,rfl,A2⟩:=N2.arg (by omega)
 have:=Root11 (X:=X) (Y:=Y) (n:=n) (m:=m) (e:=e) (f:=f) mode ⟨N1.av (by omega),N2.av (by omega),by simp only;omega,by simp only;omega⟩ hT
 rw [hK] at this;exact this
theorem Quot32C {w:World}{l1 l2:Nat}(n m:Bool) (X Y:Nat) (e f mode:Int) (K:Nat) (er:Int) {v u:Value}(N1:Nt l1 w v X) (N2:Nt l2 w u Y) (lX:(ws X).length≤8192) (lY:(ws Y).length≤8192) (be:-1048576≤e∧e≤1048576) (bf:-1048576≤f∧f≤1048576) (hT:Tab w) (hK:∀ v u,quoR S.rndS ⟨n,v,X,e,m,u,Y,f⟩ mode=(K,er)) :
 Calls Tryz.prog 15 #[.agg #[.bool n,v,.int .i64 e,.bool m,u,.int .i64 f],.int .i64 mode] w fun r w'=>r=.returned (.tuple #[.float .f32 K,.int .i64 er])∧Below w.heap.size w w':=by
 obtain ⟨a1,c1,rfl,A1⟩:=N1.arg (by omega)
 obtain ⟨a2,c2,rfl,A2⟩:=N2.arg (by omega)
 have:=Quot3211 (X:=X) (Y:=Y) (n:=n) (m:=m) (e:=e) (f:=f) mode ⟨N1.av (by omega),N2.av (by omega),by simp only;omega,by simp only;omega⟩ hT
 rw [hK] at this;exact this
theorem Root32C {w:World}{l1 l2:Nat}(n m:Bool) (X Y:Nat) (e f mode:Int) (K:Nat) (er:Int) {v u:Value}(N1:Nt l1 w v X) (N2:Nt l2 w u Y) (lX:(ws X).length≤8192) (lY:(ws Y).length≤8192) (be:-1048576≤e∧e≤1048576) (bf:-1048576≤f∧f≤1048576) (hT:Tab w) (hK:∀ v u,sqrR S.rndS ⟨n,v,X,e,m,u,Y,f⟩ mode=(K,er)) :
 Calls Tryz.prog 16 #[.agg #[.bool n,v,.int .i64 e,.bool m,u,.int .i64 f],.int .i64 mode] w fun r w'=>r=.returned (.tuple #[.float .f32 K,.int .i64 er])∧Below w.heap.size w w':=by
 obtain ⟨a1,c1,rfl,A1⟩:=N1.arg (by omega)
 obtain ⟨a2,c2,rfl,A2⟩:=N2.arg (by omega)
 have:=Root3211 (X:=X) (Y:=Y) (n:=n) (m:=m) (e:=e) (f:=f) mode ⟨N1.av (by omega),N2.av (by omega),by simp only;omega,by simp only;omega⟩ hT
 rw [hK] at this;exact this
theorem AddC {w:World}{l1 l2 l3 l4:Nat}(n m n' m':Bool) (X Y X' Y':Nat) (e f e' f':Int) {v u v' u':Value}(N1:Nt l1 w v X) (N2:Nt l2 w u Y) (N3:Nt l3 w v' X') (N4:Nt l4 w u' Y') (lX:(ws X).length≤8192) (lY:(ws Y).length≤8192) (lX':(ws X').length≤8192) (lY':(ws Y').length≤8192)
 (be:-1048576≤e∧e≤1048576) (bf:-1048576≤f∧f≤1048576) (be':-1048576≤e'∧e'≤1048576) (bf':-1048576≤f'∧f'≤1048576) (hT:Tab w) (h1:errN X n e Y m f=0) (h2:errN X' n' e' Y' m' f'=0) (o p:Bool×Nat×Int) (hA:bothR (addD (mulD (mkS n X e) (mkS m' Y' f')) (mulD (mkS n' X' e') (mkS m Y f))) (mulD (mkS m Y f) (mkS m' Y' f'))=(0,some o,some p)) :
 Calls Tryz.prog 24 #[.agg #[.bool n,v,.int .i64 e,.bool m,u,.int .i64 f],.agg #[.bool n',v',.int .i64 e',.bool m',u',.int .i64 f']] w fun r w'=>(∃ v u,r=.returned (.tuple #[.agg #[.bool o.1,v,.int .i64 o.2.2,.bool p.1,u,.int .i64 p.2.2],.int .i64 0])∧Nt w.heap.size w' v o.2.1∧Nt w.heap.size w' u p.2.1)∧Below w.heap.size w w':=by
 obtain ⟨a1,c1,rfl,A1⟩:=N1.arg (by omega)
 obtain ⟨a2,c2,rfl,A2⟩:=N2.arg (by omega)
 obtain ⟨a3,c3,rfl,A3⟩:=N3.arg (by omega)
 obtain ⟨a4,c4,rfl,A4⟩:=N4.arg (by omega)
 have h0:=errL_two0 ⟨n,.slice a1 (ws X).length c1,X,e,m,.slice a2 (ws Y).length c2,Y,f⟩ ⟨n',.slice a3 (ws X').length c3,X',e',m',.slice a4 (ws Y').length c4,Y',f'⟩ h1 h2;have:=Add11 (X:=X) (Y:=Y) (n:=n) (m:=m) (e:=e) (f:=f) (X':=X') (Y':=Y') (n':=n') (m':=m') (e':=e') (f':=f') ⟨N1.av (by omega),N2.av (by omega),by simp only;omega,by simp only;omega⟩ ⟨N3.av (by omega),N4.av (by omega),by simp only;omega,by simp only;omega⟩ hT _ rfl
 rw [h0,if_pos rfl,hA] at this;refine this.mono ?_;rintro r w' ⟨⟨v,u,rfl,hN,hM,_⟩,hb⟩;exact ⟨⟨v,u,rfl,hN,hM⟩,hb⟩
theorem SubC {w:World}{l1 l2 l3 l4:Nat}(n m n' m':Bool) (X Y X' Y':Nat) (e f e' f':Int) {v u v' u':Value}(N1:Nt l1 w v X) (N2:Nt l2 w u Y) (N3:Nt l3 w v' X') (N4:Nt l4 w u' Y') (lX:(ws X).length≤8192) (lY:(ws Y).length≤8192) (lX':(ws X').length≤8192) (lY':(ws Y').length≤8192)
 (be:-1048576≤e∧e≤1048576) (bf:-1048576≤f∧f≤1048576) (be':-1048576≤e'∧e'≤1048576) (bf':-1048576≤f'∧f'≤1048576) (hT:Tab w) (h1:errN X n e Y m f=0) (h2:errN X' n' e' Y' m' f'=0) (o p:Bool×Nat×Int) (hA:bothR (subD11 (mulD (mkS n X e) (mkS m' Y' f')) (mulD (mkS n' X' e') (mkS m Y f))) (mulD (mkS m Y f) (mkS m' Y' f'))=(0,some o,some p)) :
 Calls Tryz.prog 25 #[.agg #[.bool n,v,.int .i64 e,.bool m,u,.int .i64 f],.agg #[.bool n',v',.int .i64 e',.bool m',u',.int .i64 f']] w fun r w'=>(∃ v u,r=.returned (.tuple #[.agg #[.bool o.1,v,.int .i64 o.2.2,.bool p.1,u,.int .i64 p.2.2],.int .i64 0])∧Nt w.heap.size w' v o.2.1∧Nt w.heap.size w' u p.2.1)∧Below w.heap.size w w':=by
 obtain ⟨a1,c1,rfl,A1⟩:=N1.arg (by omega)
 obtain ⟨a2,c2,rfl,A2⟩:=N2.arg (by omega)
 obtain ⟨a3,c3,rfl,A3⟩:=N3.arg (by omega)
 obtain ⟨a4,c4,rfl,A4⟩:=N4.arg (by omega)
 have h0:=errL_two0 ⟨n,.slice a1 (ws X).length c1,X,e,m,.slice a2 (ws Y).length c2,Y,f⟩ ⟨n',.slice a3 (ws X').length c3,X',e',m',.slice a4 (ws Y').length c4,Y',f'⟩ h1 h2;have:=Sub11 (X:=X) (Y:=Y) (n:=n) (m:=m) (e:=e) (f:=f) (X':=X') (Y':=Y') (n':=n') (m':=m') (e':=e') (f':=f') ⟨N1.av (by omega),N2.av (by omega),by simp only;omega,by simp only;omega⟩ ⟨N3.av (by omega),N4.av (by omega),by simp only;omega,by simp only;omega⟩ hT _ rfl
 rw [h0,if_pos rfl,hA] at this;refine this.mono ?_;rintro r w' ⟨⟨v,u,rfl,hN,hM,_⟩,hb⟩;exact ⟨⟨v,u,rfl,hN,hM⟩,hb⟩
theorem MulC {w:World}{l1 l2 l3 l4:Nat}(n m n' m':Bool) (X Y X' Y':Nat) (e f e' f':Int) {v u v' u':Value}(N1:Nt l1 w v X) (N2:Nt l2 w u Y) (N3:Nt l3 w v' X') (N4:Nt l4 w u' Y') (lX:(ws X).length≤8192) (lY:(ws Y).length≤8192) (lX':(ws X').length≤8192) (lY':(ws Y').length≤8192)
 (be:-1048576≤e∧e≤1048576) (bf:-1048576≤f∧f≤1048576) (be':-1048576≤e'∧e'≤1048576) (bf':-1048576≤f'∧f'≤1048576) (hT:Tab w) (h1:errN X n e Y m f=0) (h2:errN X' n' e' Y' m' f'=0) (o p:Bool×Nat×Int) (hA:bothR (mulD (mkS n X e) (mkS n' X' e')) (mulD (mkS m Y f) (mkS m' Y' f'))=(0,some o,some p)) :
 Calls Tryz.prog 26 #[.agg #[.bool n,v,.int .i64 e,.bool m,u,.int .i64 f],.agg #[.bool n',v',.int .i64 e',.bool m',u',.int .i64 f']] w fun r w'=>(∃ v u,r=.returned (.tuple #[.agg #[.bool o.1,v,.int .i64 o.2.2,.bool p.1,u,.int .i64 p.2.2],.int .i64 0])∧Nt w.heap.size w' v o.2.1∧Nt w.heap.size w' u p.2.1)∧Below w.heap.size w w':=by
 obtain ⟨a1,c1,rfl,A1⟩:=N1.arg (by omega)
 obtain ⟨a2,c2,rfl,A2⟩:=N2.arg (by omega)
 obtain ⟨a3,c3,rfl,A3⟩:=N3.arg (by omega)
 obtain ⟨a4,c4,rfl,A4⟩:=N4.arg (by omega)
 have h0:=errL_two0 ⟨n,.slice a1 (ws X).length c1,X,e,m,.slice a2 (ws Y).length c2,Y,f⟩ ⟨n',.slice a3 (ws X').length c3,X',e',m',.slice a4 (ws Y').length c4,Y',f'⟩ h1 h2;have:=Mul11 (X:=X) (Y:=Y) (n:=n) (m:=m) (e:=e) (f:=f) (X':=X') (Y':=Y') (n':=n') (m':=m') (e':=e') (f':=f') ⟨N1.av (by omega),N2.av (by omega),by simp only;omega,by simp only;omega⟩ ⟨N3.av (by omega),N4.av (by omega),by simp only;omega,by simp only;omega⟩ hT _ rfl
 rw [h0,if_pos rfl,hA] at this;refine this.mono ?_;rintro r w' ⟨⟨v,u,rfl,hN,hM,_⟩,hb⟩;exact ⟨⟨v,u,rfl,hN,hM⟩,hb⟩
theorem DivC {w:World}{l1 l2 l3 l4:Nat}(n m n' m':Bool) (X Y X' Y':Nat) (e f e' f':Int) {v u v' u':Value}(N1:Nt l1 w v X) (N2:Nt l2 w u Y) (N3:Nt l3 w v' X') (N4:Nt l4 w u' Y') (lX:(ws X).length≤8192) (lY:(ws Y).length≤8192) (lX':(ws X').length≤8192) (lY':(ws Y').length≤8192)
 (be:-1048576≤e∧e≤1048576) (bf:-1048576≤f∧f≤1048576) (be':-1048576≤e'∧e'≤1048576) (bf':-1048576≤f'∧f'≤1048576) (hT:Tab w) (h1:errN X n e Y m f=0) (h2:errN X' n' e' Y' m' f'=0) (o p:Bool×Nat×Int) (hA:divA (mkS n X e) (mkS m Y f) (mkS n' X' e') (mkS m' Y' f')=(0,some o,some p)) :
 Calls Tryz.prog 27 #[.agg #[.bool n,v,.int .i64 e,.bool m,u,.int .i64 f],.agg #[.bool n',v',.int .i64 e',.bool m',u',.int .i64 f']] w fun r w'=>(∃ v u,r=.returned (.tuple #[.agg #[.bool o.1,v,.int .i64 o.2.2,.bool p.1,u,.int .i64 p.2.2],.int .i64 0])∧Nt w.heap.size w' v o.2.1∧Nt w.heap.size w' u p.2.1)∧Below w.heap.size w w':=by
 obtain ⟨a1,c1,rfl,A1⟩:=N1.arg (by omega)
 obtain ⟨a2,c2,rfl,A2⟩:=N2.arg (by omega)
 obtain ⟨a3,c3,rfl,A3⟩:=N3.arg (by omega)
 obtain ⟨a4,c4,rfl,A4⟩:=N4.arg (by omega)
 have h0:=errL_two0 ⟨n,.slice a1 (ws X).length c1,X,e,m,.slice a2 (ws Y).length c2,Y,f⟩ ⟨n',.slice a3 (ws X').length c3,X',e',m',.slice a4 (ws Y').length c4,Y',f'⟩ h1 h2;have:=Div11 (X:=X) (Y:=Y) (n:=n) (m:=m) (e:=e) (f:=f) (X':=X') (Y':=Y') (n':=n') (m':=m') (e':=e') (f':=f') ⟨N1.av (by omega),N2.av (by omega),by simp only;omega,by simp only;omega⟩ ⟨N3.av (by omega),N4.av (by omega),by simp only;omega,by simp only;omega⟩ hT _ rfl
 rw [h0,if_pos rfl,hA] at this;refine this.mono ?_;rintro r w' ⟨⟨v,u,rfl,hN,hM,_⟩,hb⟩;exact ⟨⟨v,u,rfl,hN,hM⟩,hb⟩
theorem CmpC {w:World}{l1 l2 l3 l4:Nat}(n m n' m':Bool) (X Y X' Y':Nat) (e f e' f':Int) {v u v' u':Value}(N1:Nt l1 w v X) (N2:Nt l2 w u Y) (N3:Nt l3 w v' X') (N4:Nt l4 w u' Y') (lX:(ws X).length≤8192) (lY:(ws Y).length≤8192) (lX':(ws X').length≤8192) (lY':(ws Y').length≤8192)
 (be:-1048576≤e∧e≤1048576) (bf:-1048576≤f∧f≤1048576) (be':-1048576≤e'∧e'≤1048576) (bf':-1048576≤f'∧f'≤1048576) (hT:Tab w) (h1:errN X n e Y m f=0) (h2:errN X' n' e' Y' m' f'=0) (z:Int) (hA:cmpA (mkS n X e) (mkS m Y f) (mkS n' X' e') (mkS m' Y' f')=z) :
 Calls Tryz.prog 28 #[.agg #[.bool n,v,.int .i64 e,.bool m,u,.int .i64 f],.agg #[.bool n',v',.int .i64 e',.bool m',u',.int .i64 f']] w fun r w'=>r=.returned (.tuple #[.int .i64 z,.int .i64 0])∧Below w.heap.size w w':=by
 obtain ⟨a1,c1,rfl,A1⟩:=N1.arg (by omega)
 obtain ⟨a2,c2,rfl,A2⟩:=N2.arg (by omega)
 obtain ⟨a3,c3,rfl,A3⟩:=N3.arg (by omega)
 obtain ⟨a4,c4,rfl,A4⟩:=N4.arg (by omega)
 have h0:=errL_two0 ⟨n,.slice a1 (ws X).length c1,X,e,m,.slice a2 (ws Y).length c2,Y,f⟩ ⟨n',.slice a3 (ws X').length c3,X',e',m',.slice a4 (ws Y').length c4,Y',f'⟩ h1 h2;have:=Cmp11 (X:=X) (Y:=Y) (n:=n) (m:=m) (e:=e) (f:=f) (X':=X') (Y':=Y') (n':=n') (m':=m') (e':=e') (f':=f') ⟨N1.av (by omega),N2.av (by omega),by simp only;omega,by simp only;omega⟩ ⟨N3.av (by omega),N4.av (by omega),by simp only;omega,by simp only;omega⟩ hT _ rfl
 rw [h0,if_pos rfl,hA] at this;exact this
theorem fw1:mkS false 1 0=some (false,1,0):=(mkS_sm false 1 0 (by decide) (by decide) (by decide) (by decide))
theorem fw2:mkS false 1 1=some (false,1,1):=(mkS_sm false 1 1 (by decide) (by decide) (by decide) (by decide))
theorem fw3:mkS false 3 0=some (false,3,0):=(mkS_sm false 3 0 (by decide) (by decide) (by decide) (by decide))
theorem fw4:mkS false 1 2=some (false,1,2):=(mkS_sm false 1 2 (by decide) (by decide) (by decide) (by decide))
theorem fw5:mkS false 5 0=some (false,5,0):=(mkS_sm false 5 0 (by decide) (by decide) (by decide) (by decide))
theorem fw6:mkS false 3 1=some (false,3,1):=(mkS_sm false 3 1 (by decide) (by decide) (by decide) (by decide))
theorem fw0:mkS false 0 0=some (false,0,0):=(mkS_zero _ _)
theorem fwm1:mkS true 1 0=some (true,1,0):=(mkS_sm true 1 0 (by decide) (by decide) (by decide) (by decide))
theorem fwm3:mkS true 3 0=some (true,3,0):=(mkS_sm true 3 0 (by decide) (by decide) (by decide) (by decide))
theorem fwm4:mkS true 1 2=some (true,1,2):=(mkS_sm true 1 2 (by decide) (by decide) (by decide) (by decide))
theorem e12:errN 1 false 0 1 false 1=0:=errN_ok fw1 fw2 (by decide) rfl
theorem e13:errN 1 false 0 3 false 0=0:=errN_ok fw1 fw3 (by decide) rfl
theorem e23:errN 1 false 1 3 false 0=0:=errN_ok fw2 fw3 (by decide) rfl
theorem em34:errN 3 true 0 1 false 2=0:=errN_ok fwm3 fw4 (by decide) rfl
theorem em12:errN 1 true 0 1 false 1=0:=errN_ok fwm1 fw2 (by decide) rfl
theorem mulF_sm (n m:Bool) (X Y:Nat) (e f:Int) (h:X*Y%2=1) (hb:X*Y<16) (h0:-1048576≤e+f) (h1:e+f≤1048576):mulD (some (n,X,e)) (some (m,Y,f))=some (n != m,X*Y,e+f):=mkS_sm _ _ _ h hb h0 h1
theorem aAdd:bothR (addD (mulD (mkS false 1 0) (mkS false 3 0)) (mulD (mkS false 1 0) (mkS false 1 1))) (mulD (mkS false 1 1) (mkS false 3 0))=(0,some (false,5,0),some (false,3,1)):=by
 rw [fw1,fw2,fw3,mulF_sm _ _ _ _ _ _ (by decide) (by decide) (by decide) (by decide),mulF_sm _ _ _ _ _ _ (by decide) (by decide) (by decide) (by decide),mulF_sm _ _ _ _ _ _ (by decide) (by decide) (by decide) (by decide)]
 have:addD (some (false != false,1*3,0+0)) (some (false != false,1*1,0+1))=some (false,5,0):=by
  show addUp false 1 1 false 3 0=_
  unfold addUp;rw [if_neg (by decide +kernel),if_pos rfl]
  exact fw5
 rw [this];rfl
theorem aSub:bothR (subD11 (mulD (mkS false 1 0) (mkS false 1 1)) (mulD (mkS false 1 0) (mkS false 1 1))) (mulD (mkS false 1 1) (mkS false 1 1))=(0,some (false,0,0),some (false,1,2)):=by
 rw [fw1,fw2,mulF_sm _ _ _ _ _ _ (by decide) (by decide) (by decide) (by decide),mulF_sm _ _ _ _ _ _ (by decide) (by decide) (by decide) (by decide)]
 have:subD11 (some (false != false,1*1,0+1)) (some (false != false,1*1,0+1))=some (false,0,0):=by
  show addD (some (false,1,1)) (mkS true 1 1)=_
  rw [mkS_sm true 1 1 (by decide) (by decide) (by decide) (by decide)]
  show addUp false 1 1 true 1 1=_
  unfold addUp;rw [if_neg (by decide +kernel),if_neg (by decide),if_pos (by decide)]
  exact mkS_zero _ _
 rw [this];rfl
theorem aMul:bothR (mulD (mkS false 1 0) (mkS false 1 1)) (mulD (mkS false 1 1) (mkS false 3 0))=(0,some (false,1,1),some (false,3,1)):=by
 rw [fw1,fw2,fw3,mulF_sm _ _ _ _ _ _ (by decide) (by decide) (by decide) (by decide),mulF_sm _ _ _ _ _ _ (by decide) (by decide) (by decide) (by decide)]
 rfl
theorem aDiv:divA (mkS false 1 0) (mkS false 1 1) (mkS true 3 0) (mkS false 1 2)=(0,some (true,1,2),some (false,3,1)):=by
 rw [fw1,fw2,fwm3,fw4];unfold divA;rw [mulF_sm _ _ _ _ _ _ (by decide) (by decide) (by decide) (by decide),mulF_sm _ _ _ _ _ _ (by decide) (by decide) (by decide) (by decide),if_neg (by decide)]
 show (0,mkS true 1 2,mkS false 3 1)=_
 rw [fwm4,fw6]
theorem aCmp:cmpA (mkS true 1 0) (mkS false 1 1) (mkS false 1 0) (mkS false 3 0)=-1:=by
 rw [fwm1,fw2,fw1,fw3]
 decide +kernel
theorem rat_eq (n d:Int) (n1 m1:Bool) (X Y:Nat) (e f:Int) (h1:whlO n=some (n1,X,e)) (h2:whlO d=some (m1,Y,f)) (hn:-100≤n∧n≤100) (hd:-100≤d∧d≤100) (w:World) :
 Calls Tryz.prog 11 #[.int .i64 n,.int .i64 d] w fun r w'=>(∃ v u,r=.returned (.agg #[.bool n1,v,.int .i64 e,.bool m1,u,.int .i64 f])∧Nt w.heap.size w' v X∧Nt w.heap.size w' u Y)∧Below w.heap.size w w':=by
 have:=ratio_any n d w (by omega) (by omega) (by omega) (by omega)
 rw [h1,h2] at this;exact this
set_option maxRecDepth 100000 in
theorem awake11 (w:World) (hT:Tab w):Calls Tryz.prog 8 #[] w fun r w'=>r=.returned (.bool true)∧Below w.heap.size w w':=by
 have HT:=sd hT;clear hT;have hbel:=Below.refl w.heap.size w;have S0:=sd hbel;clear hbel;go_enter Tryz.func8,Tryz.ntmps8;obtain bel:=S0.out;have HC:=hid (rat_eq 1 3 false false 1 3 0 0 w1 w3 (by decide) (by decide) w)
 clear bel
 go_wp2_with fail
 refine HC.out.mono ?_;rintro r u1 ⟨⟨v,u,rfl,hN,hM⟩,hb⟩;obtain ⟨xa,cxa,rfl,-⟩:=hN.arg (by have:=len_sm (X:=1) (by decide);omega)
 obtain ⟨ya,cya,rfl,-⟩:=hM.arg (by have:=len_sm (X:=3) (by decide);omega)
 clear HC;obtain bel:=S0.out;have hbn:=bel.trans (hb.mono bel.size);have S1:=sd (ai hbn (ai (hN.mono bel.size) (hM.mono bel.size)));clear bel;clear hb hbn S0;clear hN hM;obtain ⟨bel,Nax,Nay⟩:=S1.out;have HC:=hid (QuotC false false 1 3 0 0 0 4599676419421066581 0 Nax Nay (len_sm (by decide)) (len_sm (by decide)) (by decide) (by decide) (HT.out.belows bel) (fun v u=>(quoR_ok rndS ⟨false,v,1,0,false,u,3,0⟩ 0 fw1 fw3 (by decide) rfl (by decide) (by decide)).trans q13a))
 clear bel Nax Nay
 go_wp2_with fail
 refine HC.out.mono ?_;rintro r u2 ⟨rfl,hb⟩;clear HC;obtain ⟨bel,Nax,Nay⟩:=S1.out;have hbn:=bel.trans (hb.mono bel.size);have S2:=sd hbn;clear bel Nax Nay;clear hb hbn S1;obtain bel:=S2.out;have HC:=hid (rat_eq 1 3 false false 1 3 0 0 w1 w3 (by decide) (by decide) u2)
 clear bel
 go_wp2_with fail
 refine HC.out.mono ?_;rintro r u3 ⟨⟨v,u,rfl,hN,hM⟩,hb⟩;obtain ⟨xb,cxb,rfl,-⟩:=hN.arg (by have:=len_sm (X:=1) (by decide);omega)
 obtain ⟨yb,cyb,rfl,-⟩:=hM.arg (by have:=len_sm (X:=3) (by decide);omega)
 clear HC;obtain bel:=S2.out;have hbn:=bel.trans (hb.mono bel.size);have S3:=sd (ai hbn (ai (hN.mono bel.size) (hM.mono bel.size)));clear bel;clear hb hbn S2;clear hN hM;obtain ⟨bel,Nbx,Nby⟩:=S3.out;have HC:=hid (QuotC false false 1 3 0 0 2 4599676419421066582 0 Nbx Nby (len_sm (by decide)) (len_sm (by decide)) (by decide) (by decide) (HT.out.belows bel) (fun v u=>(quoR_ok rndS ⟨false,v,1,0,false,u,3,0⟩ 2 fw1 fw3 (by decide) rfl (by decide) (by decide)).trans q13b))
 clear bel Nbx Nby
 go_wp2_with fail
 refine HC.out.mono ?_;rintro r u4 ⟨rfl,hb⟩;clear HC;obtain ⟨bel,Nbx,Nby⟩:=S3.out;have hbn:=bel.trans (hb.mono bel.size);have S4:=sd hbn;clear bel Nbx Nby;clear hb hbn S3;obtain bel:=S4.out;have HC:=hid (rat_eq 2 1 false false 1 1 1 0 w2 w1 (by decide) (by decide) u4)
 clear bel
 go_wp2_with fail
 refine HC.out.mono ?_;rintro r u5 ⟨⟨v,u,rfl,hN,hM⟩,hb⟩;obtain ⟨xc,cxc,rfl,-⟩:=hN.arg (by have:=len_sm (X:=1) (by decide);omega)
 obtain ⟨yc,cyc,rfl,-⟩:=hM.arg (by have:=len_sm (X:=1) (by decide);omega)
 clear HC;obtain bel:=S4.out;have hbn:=bel.trans (hb.mono bel.size);have S5:=sd (ai hbn (ai (hN.mono bel.size) (hM.mono bel.size)));clear bel;clear hb hbn S4;clear hN hM;obtain ⟨bel,Ncx,Ncy⟩:=S5.out;have HC:=hid (RootC false false 1 1 1 0 0 4609047870845172685 0 Ncx Ncy (len_sm (by decide)) (len_sm (by decide)) (by decide) (by decide) (HT.out.belows bel) (fun v u=>(sqrR_ok rndS ⟨false,v,1,1,false,u,1,0⟩ 0 fw2 fw1 (by decide) rfl (by decide) (by decide)).trans s21a))
 clear bel Ncx Ncy
 go_wp2_with fail
 refine HC.out.mono ?_;rintro r u6 ⟨rfl,hb⟩;clear HC;obtain ⟨bel,Ncx,Ncy⟩:=S5.out;have hbn:=bel.trans (hb.mono bel.size);have S6:=sd hbn;clear bel Ncx Ncy;clear hb hbn S5;obtain bel:=S6.out;have HC:=hid (rat_eq 1 3 false false 1 3 0 0 w1 w3 (by decide) (by decide) u6)
 clear bel
 go_wp2_with fail
 refine HC.out.mono ?_;rintro r u7 ⟨⟨v,u,rfl,hN,hM⟩,hb⟩;obtain ⟨xd,cxd,rfl,-⟩:=hN.arg (by have:=len_sm (X:=1) (by decide);omega)
 obtain ⟨yd,cyd,rfl,-⟩:=hM.arg (by have:=len_sm (X:=3) (by decide);omega)
 clear HC;obtain bel:=S6.out;have hbn:=bel.trans (hb.mono bel.size);have S7:=sd (ai hbn (ai (hN.mono bel.size) (hM.mono bel.size)));clear bel;clear hb hbn S6;clear hN hM;obtain ⟨bel,Ndx,Ndy⟩:=S7.out;have HC:=hid (Quot32C false false 1 3 0 0 0 1051372203 0 Ndx Ndy (len_sm (by decide)) (len_sm (by decide)) (by decide) (by decide) (HT.out.belows bel) (fun v u=>(quoR_ok S.rndS ⟨false,v,1,0,false,u,3,0⟩ 0 fw1 fw3 (by decide) rfl (by decide) (by decide)).trans q13c))
 clear bel Ndx Ndy
 go_wp2_with fail
 refine HC.out.mono ?_;rintro r u8 ⟨rfl,hb⟩;clear HC;obtain ⟨bel,Ndx,Ndy⟩:=S7.out;have hbn:=bel.trans (hb.mono bel.size);have S8:=sd hbn;clear bel Ndx Ndy;clear hb hbn S7;obtain bel:=S8.out;have HC:=hid (rat_eq 2 1 false false 1 1 1 0 w2 w1 (by decide) (by decide) u8)
 clear bel
 go_wp2_with fail
 refine HC.out.mono ?_;rintro r u9 ⟨⟨v,u,rfl,hN,hM⟩,hb⟩;obtain ⟨xk,cxk,rfl,-⟩:=hN.arg (by have:=len_sm (X:=1) (by decide);omega)
 obtain ⟨yk,cyk,rfl,-⟩:=hM.arg (by have:=len_sm (X:=1) (by decide);omega)
 clear HC;obtain bel:=S8.out;have hbn:=bel.trans (hb.mono bel.size);have S9:=sd (ai hbn (ai (hN.mono bel.size) (hM.mono bel.size)));clear bel;clear hb hbn S8;clear hN hM;obtain ⟨bel,Nkx,Nky⟩:=S9.out;have HC:=hid (Root32C false false 1 1 1 0 0 1068827891 0 Nkx Nky (len_sm (by decide)) (len_sm (by decide)) (by decide) (by decide) (HT.out.belows bel) (fun v u=>(sqrR_ok S.rndS ⟨false,v,1,1,false,u,1,0⟩ 0 fw2 fw1 (by decide) rfl (by decide) (by decide)).trans s21b))
 clear bel Nkx Nky
 go_wp2_with fail
 refine HC.out.mono ?_;rintro r u10 ⟨rfl,hb⟩;clear HC;obtain ⟨bel,Nkx,Nky⟩:=S9.out;have hbn:=bel.trans (hb.mono bel.size);have S10:=sd hbn;clear bel Nkx Nky;clear hb hbn S9;obtain bel:=S10.out;have HC:=hid (rat_eq 1 0 false false 1 0 0 0 w1 w0 (by decide) (by decide) u10)
 clear bel
 go_wp2_with fail
 refine HC.out.mono ?_;rintro r u11 ⟨⟨v,u,rfl,hN,hM⟩,hb⟩;obtain ⟨xj,cxj,rfl,-⟩:=hN.arg (by have:=len_sm (X:=1) (by decide);omega)
 obtain ⟨yj,cyj,rfl,-⟩:=hM.arg (by have:=len_sm (X:=0) (by decide);omega)
 clear HC;obtain bel:=S10.out;have hbn:=bel.trans (hb.mono bel.size);have S11:=sd (ai hbn (ai (hN.mono bel.size) (hM.mono bel.size)));clear bel;clear hb hbn S10;clear hN hM;obtain ⟨bel,Njx,Njy⟩:=S11.out;have HC:=hid (QuotC false false 1 0 0 0 0 0 21 Njx Njy (len_sm (by decide)) (len_sm (by decide)) (by decide) (by decide) (HT.out.belows bel) (fun v u=>by unfold quoR;rw [if_neg (by decide),errL_one];simp only;unfold errN;rw [fw0,fw1];rfl))
 clear bel Njx Njy
 go_wp2_with fail
 refine HC.out.mono ?_;rintro r u12 ⟨rfl,hb⟩;clear HC;obtain ⟨bel,Njx,Njy⟩:=S11.out;have hbn:=bel.trans (hb.mono bel.size);have S12:=sd hbn;clear bel Njx Njy;clear hb hbn S11;obtain bel:=S12.out;have HC:=hid (rat_eq (-1) 4 true false 1 1 0 2 wm1 w4 (by decide) (by decide) u12)
 clear bel
 go_wp2_with fail
 refine HC.out.mono ?_;rintro r u13 ⟨⟨v,u,rfl,hN,hM⟩,hb⟩;obtain ⟨xl,cxl,rfl,-⟩:=hN.arg (by have:=len_sm (X:=1) (by decide);omega)
 obtain ⟨yl,cyl,rfl,-⟩:=hM.arg (by have:=len_sm (X:=1) (by decide);omega)
 clear HC;obtain bel:=S12.out;have hbn:=bel.trans (hb.mono bel.size);have S13:=sd (ai hbn (ai (hN.mono bel.size) (hM.mono bel.size)));clear bel;clear hb hbn S12;clear hN hM;obtain ⟨bel,Nlx,Nly⟩:=S13.out;have HC:=hid (RootC true false 1 1 0 2 0 0 110 Nlx Nly (len_sm (by decide)) (len_sm (by decide)) (by decide) (by decide) (HT.out.belows bel) (fun v u=>sqrR_neg rndS ⟨true,v,1,0,false,u,1,2⟩ 0 fwm1 fw4 (by decide) rfl (by decide) (by decide)))
 clear bel Nlx Nly
 go_wp2_with fail
 refine HC.out.mono ?_;rintro r u14 ⟨rfl,hb⟩;clear HC;obtain ⟨bel,Nlx,Nly⟩:=S13.out;have hbn:=bel.trans (hb.mono bel.size);have S14:=sd hbn;clear bel Nlx Nly;clear hb hbn S13;obtain bel:=S14.out;have HC:=hid (rat_eq 1 (-3) false true 1 3 0 0 w1 wm3 (by decide) (by decide) u14)
 clear bel
 go_wp2_with fail
 refine HC.out.mono ?_;rintro r u15 ⟨⟨v,u,rfl,hN,hM⟩,hb⟩;obtain ⟨xm,cxm,rfl,-⟩:=hN.arg (by have:=len_sm (X:=1) (by decide);omega)
 obtain ⟨ym,cym,rfl,-⟩:=hM.arg (by have:=len_sm (X:=3) (by decide);omega)
 clear HC;obtain bel:=S14.out;have hbn:=bel.trans (hb.mono bel.size);have S15:=sd (ai hbn (ai (hN.mono bel.size) (hM.mono bel.size)));clear bel;clear hb hbn S14;clear hN hM;obtain ⟨bel,Nmx,Nmy⟩:=S15.out;have HC:=hid (QuotC false true 1 3 0 0 0 0 1 Nmx Nmy (len_sm (by decide)) (len_sm (by decide)) (by decide) (by decide) (HT.out.belows bel) (fun v u=>by unfold quoR;rw [if_neg (by decide),errL_one];simp only;unfold errN;rfl))
 clear bel Nmx Nmy
 go_wp2_with fail
 refine HC.out.mono ?_;rintro r u16 ⟨rfl,hb⟩;clear HC;obtain ⟨bel,Nmx,Nmy⟩:=S15.out;have hbn:=bel.trans (hb.mono bel.size);have S16:=sd hbn;clear bel Nmx Nmy;clear hb hbn S15;obtain bel:=S16.out;have HC:=hid (rat_eq 1 2 false false 1 1 0 1 w1 w2 (by decide) (by decide) u16)
 clear bel
 go_wp2_with fail
 refine HC.out.mono ?_;rintro r u17 ⟨⟨v,u,rfl,hN,hM⟩,hb⟩;obtain ⟨xsp,cxsp,rfl,-⟩:=hN.arg (by have:=len_sm (X:=1) (by decide);omega)
 obtain ⟨ysp,cysp,rfl,-⟩:=hM.arg (by have:=len_sm (X:=1) (by decide);omega)
 clear HC;obtain bel:=S16.out;have hbn:=bel.trans (hb.mono bel.size);have S17:=sd (ai hbn (ai (hN.mono bel.size) (hM.mono bel.size)));clear bel;clear hb hbn S16;clear hN hM;obtain ⟨bel,Nspx,Nspy⟩:=S17.out;have HC:=hid (rat_eq 1 3 false false 1 3 0 0 w1 w3 (by decide) (by decide) u17)
 clear bel Nspx Nspy
 go_wp2_with fail
 refine HC.out.mono ?_;rintro r u18 ⟨⟨v,u,rfl,hN,hM⟩,hb⟩;obtain ⟨xsq,cxsq,rfl,-⟩:=hN.arg (by have:=len_sm (X:=1) (by decide);omega)
 obtain ⟨ysq,cysq,rfl,-⟩:=hM.arg (by have:=len_sm (X:=3) (by decide);omega)
 clear HC;obtain ⟨bel,Nspx,Nspy⟩:=S17.out;have hbn:=bel.trans (hb.mono bel.size);have S18:=sd (ai hbn (ai (Nspx.below hb) (ai (Nspy.below hb) (ai (hN.mono bel.size) (hM.mono bel.size)))));clear bel Nspx Nspy;clear hb hbn S17;clear hN hM;obtain ⟨bel,Nspx,Nspy,Nsqx,Nsqy⟩:=S18.out;have HC:=hid (AddC false false false false 1 1 1 3 0 1 0 0 Nspx Nspy Nsqx Nsqy (len_sm (by decide)) (len_sm (by decide)) (len_sm (by decide)) (len_sm (by decide)) (by decide) (by decide) (by decide) (by decide) (HT.out.belows bel) e12 e13 (false,5,0) (false,3,1) aAdd)
 clear bel Nspx Nspy Nsqx Nsqy
 go_wp2_with fail
 refine HC.out.mono ?_;rintro r u19 ⟨⟨v,u,rfl,hN,hM⟩,hb⟩;obtain ⟨xs,cxs,rfl,-⟩:=hN.arg (by have:=len_sm (X:=5) (by decide);omega)
 obtain ⟨ys,cys,rfl,-⟩:=hM.arg (by have:=len_sm (X:=3) (by decide);omega)
 clear HC;obtain ⟨bel,Nspx,Nspy,Nsqx,Nsqy⟩:=S18.out;have hbn:=bel.trans (hb.mono bel.size);have S19:=sd (ai hbn (ai (hN.mono bel.size) (hM.mono bel.size)));clear bel Nspx Nspy Nsqx Nsqy;clear hb hbn S18;clear hN hM;simp only;obtain ⟨A20,hU20⟩:∃ U,U=u19.alloc (.cells #[.bool false,.slice xs (ws 5).length cxs,.int .i64 0,.bool false,.slice ys (ws 3).length cys,.int .i64 1] 30):=⟨_,rfl⟩;obtain ⟨bel,Nsx,Nsy⟩:=S19.out;have hbA:Below u19.heap.size u19 A20:=by rw [hU20];exact below_alloc _ _
 have hbB:=bel.trans (hbA.mono bel.size);have T20:=ai hbB (ai (Nsx.below hbA) (ai (Nsy.below hbA) (show Rq A20 u19.heap.size false (.slice xs (ws 5).length cxs) 0 false (.slice ys (ws 3).length cys) 1 by rw [hU20];exact Rq.new _ _ _ _ _ _ _)))
 have S20:=sd T20;clear bel Nsx Nsy;clear hbA hbB T20 S19;obtain ⟨bel,Nsx,Nsy,Qs⟩:=S20.out;have HC:=hid (rat_eq 1 2 false false 1 1 0 1 w1 w2 (by decide) (by decide) A20)
 clear bel Nsx Nsy Qs
 go_upto_region 10 with fail
 rw [←hU20];clear hU20
 go_wp2_with fail
 refine HC.out.mono ?_;rintro r u21 ⟨⟨v,u,rfl,hN,hM⟩,hb⟩;obtain ⟨xtp,cxtp,rfl,-⟩:=hN.arg (by have:=len_sm (X:=1) (by decide);omega)
 obtain ⟨ytp,cytp,rfl,-⟩:=hM.arg (by have:=len_sm (X:=1) (by decide);omega)
 clear HC;obtain ⟨bel,Nsx,Nsy,Qs⟩:=S20.out;have hbn:=bel.trans (hb.mono bel.size);have S21:=sd (ai hbn (ai (Nsx.below hb) (ai (Nsy.below hb) (ai (Qs.below hb) (ai (hN.mono bel.size) (hM.mono bel.size))))));clear bel Nsx Nsy Qs;clear hb hbn S20;clear hN hM;obtain ⟨bel,Nsx,Nsy,Qs,Ntpx,Ntpy⟩:=S21.out;have HC:=hid (rat_eq 1 2 false false 1 1 0 1 w1 w2 (by decide) (by decide) u21)
 clear bel Nsx Nsy Qs Ntpx Ntpy
 go_wp2_with fail
 refine HC.out.mono ?_;rintro r u22 ⟨⟨v,u,rfl,hN,hM⟩,hb⟩;obtain ⟨xtq,cxtq,rfl,-⟩:=hN.arg (by have:=len_sm (X:=1) (by decide);omega)
 obtain ⟨ytq,cytq,rfl,-⟩:=hM.arg (by have:=len_sm (X:=1) (by decide);omega)
 clear HC;obtain ⟨bel,Nsx,Nsy,Qs,Ntpx,Ntpy⟩:=S21.out;have hbn:=bel.trans (hb.mono bel.size);have S22:=sd (ai hbn (ai (Nsx.below hb) (ai (Nsy.below hb) (ai (Qs.below hb) (ai (Ntpx.below hb) (ai (Ntpy.below hb) (ai (hN.mono bel.size) (hM.mono bel.size))))))));clear bel Nsx Nsy Qs Ntpx Ntpy;clear hb hbn S21;clear hN hM;obtain ⟨bel,Nsx,Nsy,Qs,Ntpx,Ntpy,Ntqx,Ntqy⟩:=S22.out;have HC:=hid (SubC false false false false 1 1 1 1 0 1 0 1 Ntpx Ntpy Ntqx Ntqy (len_sm (by decide)) (len_sm (by decide)) (len_sm (by decide)) (len_sm (by decide)) (by decide) (by decide) (by decide) (by decide) (HT.out.belows bel) e12 e12 (false,0,0) (false,1,2) aSub)
 clear bel Nsx Nsy Qs Ntpx Ntpy Ntqx Ntqy
 go_wp2_with fail
 refine HC.out.mono ?_;rintro r u23 ⟨⟨v,u,rfl,hN,hM⟩,hb⟩;obtain ⟨xt,cxt,rfl,-⟩:=hN.arg (by have:=len_sm (X:=0) (by decide);omega)
 obtain ⟨yt,cyt,rfl,-⟩:=hM.arg (by have:=len_sm (X:=1) (by decide);omega)
 clear HC;obtain ⟨bel,Nsx,Nsy,Qs,Ntpx,Ntpy,Ntqx,Ntqy⟩:=S22.out;have hbn:=bel.trans (hb.mono bel.size);have S23:=sd (ai hbn (ai (Nsx.below hb) (ai (Nsy.below hb) (ai (Qs.below hb) (ai (hN.mono bel.size) (hM.mono bel.size))))));clear bel Nsx Nsy Qs Ntpx Ntpy Ntqx Ntqy;clear hb hbn S22;clear hN hM;simp only;obtain ⟨A24,hU24⟩:∃ U,U=u23.alloc (.cells #[.bool false,.slice xt (ws 0).length cxt,.int .i64 0,.bool false,.slice yt (ws 1).length cyt,.int .i64 2] 30):=⟨_,rfl⟩;obtain ⟨bel,Nsx,Nsy,Qs,Ntx,Nty⟩:=S23.out;have hbA:Below u23.heap.size u23 A24:=by rw [hU24];exact below_alloc _ _
 have hbB:=bel.trans (hbA.mono bel.size);have T24:=ai hbB (ai (Nsx.below hbA) (ai (Nsy.below hbA) (ai (Qs.below hbA) (ai (Ntx.below hbA) (ai (Nty.below hbA) (show Rq A24 u23.heap.size false (.slice xt (ws 0).length cxt) 0 false (.slice yt (ws 1).length cyt) 2 by rw [hU24];exact Rq.new _ _ _ _ _ _ _))))))
 have S24:=sd T24;clear bel Nsx Nsy Qs Ntx Nty;clear hbA hbB T24 S23;obtain ⟨bel,Nsx,Nsy,Qs,Ntx,Nty,Qt⟩:=S24.out;have HC:=hid (rat_eq 1 2 false false 1 1 0 1 w1 w2 (by decide) (by decide) A24)
 clear bel Nsx Nsy Qs Ntx Nty Qt
 go_upto_region 11 with fail
 rw [←hU24];clear hU24
 go_wp2_with fail
 refine HC.out.mono ?_;rintro r u25 ⟨⟨v,u,rfl,hN,hM⟩,hb⟩;obtain ⟨xup,cxup,rfl,-⟩:=hN.arg (by have:=len_sm (X:=1) (by decide);omega)
 obtain ⟨yup,cyup,rfl,-⟩:=hM.arg (by have:=len_sm (X:=1) (by decide);omega)
 clear HC;obtain ⟨bel,Nsx,Nsy,Qs,Ntx,Nty,Qt⟩:=S24.out;have hbn:=bel.trans (hb.mono bel.size);have S25:=sd (ai hbn (ai (Nsx.below hb) (ai (Nsy.below hb) (ai (Qs.below hb) (ai (Ntx.below hb) (ai (Nty.below hb) (ai (Qt.below hb) (ai (hN.mono bel.size) (hM.mono bel.size)))))))));clear bel Nsx Nsy Qs Ntx Nty Qt;clear hb hbn S24;clear hN hM;obtain ⟨bel,Nsx,Nsy,Qs,Ntx,Nty,Qt,Nupx,Nupy⟩:=S25.out;have HC:=hid (rat_eq 2 3 false false 1 3 1 0 w2 w3 (by decide) (by decide) u25)
 clear bel Nsx Nsy Qs Ntx Nty Qt Nupx Nupy
 go_wp2_with fail
 refine HC.out.mono ?_;rintro r u26 ⟨⟨v,u,rfl,hN,hM⟩,hb⟩;obtain ⟨xuq,cxuq,rfl,-⟩:=hN.arg (by have:=len_sm (X:=1) (by decide);omega)
 obtain ⟨yuq,cyuq,rfl,-⟩:=hM.arg (by have:=len_sm (X:=3) (by decide);omega)
 clear HC;obtain ⟨bel,Nsx,Nsy,Qs,Ntx,Nty,Qt,Nupx,Nupy⟩:=S25.out;have hbn:=bel.trans (hb.mono bel.size);have S26:=sd (ai hbn (ai (Nsx.below hb) (ai (Nsy.below hb) (ai (Qs.below hb) (ai (Ntx.below hb) (ai (Nty.below hb) (ai (Qt.below hb) (ai (Nupx.below hb) (ai (Nupy.below hb) (ai (hN.mono bel.size) (hM.mono bel.size)))))))))));clear bel Nsx Nsy Qs Ntx Nty Qt Nupx Nupy;clear hb hbn S25;clear hN hM;obtain ⟨bel,Nsx,Nsy,Qs,Ntx,Nty,Qt,Nupx,Nupy,Nuqx,Nuqy⟩:=S26.out;have HC:=hid (MulC false false false false 1 1 1 3 0 1 1 0 Nupx Nupy Nuqx Nuqy (len_sm (by decide)) (len_sm (by decide)) (len_sm (by decide)) (len_sm (by decide)) (by decide) (by decide) (by decide) (by decide) (HT.out.belows bel) e12 e23 (false,1,1) (false,3,1) aMul)
 clear bel Nsx Nsy Qs Ntx Nty Qt Nupx Nupy Nuqx Nuqy
 go_wp2_with fail
 refine HC.out.mono ?_;rintro r u27 ⟨⟨v,u,rfl,hN,hM⟩,hb⟩;obtain ⟨xu,cxu,rfl,-⟩:=hN.arg (by have:=len_sm (X:=1) (by decide);omega)
 obtain ⟨yu,cyu,rfl,-⟩:=hM.arg (by have:=len_sm (X:=3) (by decide);omega)
 clear HC;obtain ⟨bel,Nsx,Nsy,Qs,Ntx,Nty,Qt,Nupx,Nupy,Nuqx,Nuqy⟩:=S26.out;have hbn:=bel.trans (hb.mono bel.size);have S27:=sd (ai hbn (ai (Nsx.below hb) (ai (Nsy.below hb) (ai (Qs.below hb) (ai (Ntx.below hb) (ai (Nty.below hb) (ai (Qt.below hb) (ai (hN.mono bel.size) (hM.mono bel.size)))))))));clear bel Nsx Nsy Qs Ntx Nty Qt Nupx Nupy Nuqx Nuqy;clear hb hbn S26;clear hN hM;simp only;obtain ⟨A28,hU28⟩:∃ U,U=u27.alloc (.cells #[.bool false,.slice xu (ws 1).length cxu,.int .i64 1,.bool false,.slice yu (ws 3).length cyu,.int .i64 1] 30):=⟨_,rfl⟩;obtain ⟨bel,Nsx,Nsy,Qs,Ntx,Nty,Qt,Nux,Nuy⟩:=S27.out;have hbA:Below u27.heap.size u27 A28:=by rw [hU28];exact below_alloc _ _
 have hbB:=bel.trans (hbA.mono bel.size);have T28:=ai hbB (ai (Nsx.below hbA) (ai (Nsy.below hbA) (ai (Qs.below hbA) (ai (Ntx.below hbA) (ai (Nty.below hbA) (ai (Qt.below hbA) (ai (Nux.below hbA) (ai (Nuy.below hbA) (show Rq A28 u27.heap.size false (.slice xu (ws 1).length cxu) 1 false (.slice yu (ws 3).length cyu) 1 by rw [hU28];exact Rq.new _ _ _ _ _ _ _)))))))))
 have S28:=sd T28;clear bel Nsx Nsy Qs Ntx Nty Qt Nux Nuy;clear hbA hbB T28 S27;obtain ⟨bel,Nsx,Nsy,Qs,Ntx,Nty,Qt,Nux,Nuy,Qu⟩:=S28.out;have HC:=hid (rat_eq 1 2 false false 1 1 0 1 w1 w2 (by decide) (by decide) A28)
 clear bel Nsx Nsy Qs Ntx Nty Qt Nux Nuy Qu
 go_upto_region 12 with fail
 rw [←hU28];clear hU28
 go_wp2_with fail
 refine HC.out.mono ?_;rintro r u29 ⟨⟨v,u,rfl,hN,hM⟩,hb⟩;obtain ⟨xvp,cxvp,rfl,-⟩:=hN.arg (by have:=len_sm (X:=1) (by decide);omega)
 obtain ⟨yvp,cyvp,rfl,-⟩:=hM.arg (by have:=len_sm (X:=1) (by decide);omega)
 clear HC;obtain ⟨bel,Nsx,Nsy,Qs,Ntx,Nty,Qt,Nux,Nuy,Qu⟩:=S28.out;have hbn:=bel.trans (hb.mono bel.size);have S29:=sd (ai hbn (ai (Nsx.below hb) (ai (Nsy.below hb) (ai (Qs.below hb) (ai (Ntx.below hb) (ai (Nty.below hb) (ai (Qt.below hb) (ai (Nux.below hb) (ai (Nuy.below hb) (ai (Qu.below hb) (ai (hN.mono bel.size) (hM.mono bel.size))))))))))));clear bel Nsx Nsy Qs Ntx Nty Qt Nux Nuy Qu;clear hb hbn S28;clear hN hM;obtain ⟨bel,Nsx,Nsy,Qs,Ntx,Nty,Qt,Nux,Nuy,Qu,Nvpx,Nvpy⟩:=S29.out;have HC:=hid (rat_eq (-3) 4 true false 3 1 0 2 wm3 w4 (by decide) (by decide) u29)
 clear bel Nsx Nsy Qs Ntx Nty Qt Nux Nuy Qu Nvpx Nvpy
 go_wp2_with fail
 refine HC.out.mono ?_;rintro r u30 ⟨⟨v,u,rfl,hN,hM⟩,hb⟩;obtain ⟨xvq,cxvq,rfl,-⟩:=hN.arg (by have:=len_sm (X:=3) (by decide);omega)
 obtain ⟨yvq,cyvq,rfl,-⟩:=hM.arg (by have:=len_sm (X:=1) (by decide);omega)
 clear HC;obtain ⟨bel,Nsx,Nsy,Qs,Ntx,Nty,Qt,Nux,Nuy,Qu,Nvpx,Nvpy⟩:=S29.out;have hbn:=bel.trans (hb.mono bel.size);have S30:=sd (ai hbn (ai (Nsx.below hb) (ai (Nsy.below hb) (ai (Qs.below hb) (ai (Ntx.below hb) (ai (Nty.below hb) (ai (Qt.below hb) (ai (Nux.below hb) (ai (Nuy.below hb) (ai (Qu.below hb) (ai (Nvpx.below hb) (ai (Nvpy.below hb) (ai (hN.mono bel.size) (hM.mono bel.size))))))))))))));clear bel Nsx Nsy Qs Ntx Nty Qt Nux Nuy Qu Nvpx Nvpy;clear hb hbn S29;clear hN hM;obtain ⟨bel,Nsx,Nsy,Qs,Ntx,Nty,Qt,Nux,Nuy,Qu,Nvpx,Nvpy,Nvqx,Nvqy⟩:=S30.out;have HC:=hid (DivC false false true false 1 1 3 1 0 1 0 2 Nvpx Nvpy Nvqx Nvqy (len_sm (by decide)) (len_sm (by decide)) (len_sm (by decide)) (len_sm (by decide)) (by decide) (by decide) (by decide) (by decide) (HT.out.belows bel) e12 em34 (true,1,2) (false,3,1) aDiv)
 clear bel Nsx Nsy Qs Ntx Nty Qt Nux Nuy Qu Nvpx Nvpy Nvqx Nvqy
 go_wp2_with fail
 refine HC.out.mono ?_;rintro r u31 ⟨⟨v,u,rfl,hN,hM⟩,hb⟩;obtain ⟨xv,cxv,rfl,-⟩:=hN.arg (by have:=len_sm (X:=1) (by decide);omega)
 obtain ⟨yv,cyv,rfl,-⟩:=hM.arg (by have:=len_sm (X:=3) (by decide);omega)
 clear HC;obtain ⟨bel,Nsx,Nsy,Qs,Ntx,Nty,Qt,Nux,Nuy,Qu,Nvpx,Nvpy,Nvqx,Nvqy⟩:=S30.out;have hbn:=bel.trans (hb.mono bel.size);have S31:=sd (ai hbn (ai (Nsx.below hb) (ai (Nsy.below hb) (ai (Qs.below hb) (ai (Ntx.below hb) (ai (Nty.below hb) (ai (Qt.below hb) (ai (Nux.below hb) (ai (Nuy.below hb) (ai (Qu.below hb) (ai (hN.mono bel.size) (hM.mono bel.size))))))))))));clear bel Nsx Nsy Qs Ntx Nty Qt Nux Nuy Qu Nvpx Nvpy Nvqx Nvqy;clear hb hbn S30;clear hN hM;simp only;obtain ⟨A32,hU32⟩:∃ U,U=u31.alloc (.cells #[.bool true,.slice xv (ws 1).length cxv,.int .i64 2,.bool false,.slice yv (ws 3).length cyv,.int .i64 1] 30):=⟨_,rfl⟩;obtain ⟨bel,Nsx,Nsy,Qs,Ntx,Nty,Qt,Nux,Nuy,Qu,Nvx,Nvy⟩:=S31.out;have hbA:Below u31.heap.size u31 A32:=by rw [hU32];exact below_alloc _ _
 have hbB:=bel.trans (hbA.mono bel.size);have T32:=ai hbB (ai (Nsx.below hbA) (ai (Nsy.below hbA) (ai (Qs.below hbA) (ai (Ntx.below hbA) (ai (Nty.below hbA) (ai (Qt.below hbA) (ai (Nux.below hbA) (ai (Nuy.below hbA) (ai (Qu.below hbA) (ai (Nvx.below hbA) (ai (Nvy.below hbA) (show Rq A32 u31.heap.size true (.slice xv (ws 1).length cxv) 2 false (.slice yv (ws 3).length cyv) 1 by rw [hU32];exact Rq.new _ _ _ _ _ _ _))))))))))))
 have S32:=sd T32;clear bel Nsx Nsy Qs Ntx Nty Qt Nux Nuy Qu Nvx Nvy;clear hbA hbB T32 S31;obtain ⟨bel,Nsx,Nsy,Qs,Ntx,Nty,Qt,Nux,Nuy,Qu,Nvx,Nvy,Qv⟩:=S32.out;have HC:=hid (rat_eq (-1) 2 true false 1 1 0 1 wm1 w2 (by decide) (by decide) A32)
 clear bel Nsx Nsy Qs Ntx Nty Qt Nux Nuy Qu Nvx Nvy Qv
 go_upto_region 13 with fail
 rw [←hU32];clear hU32
 go_wp2_with fail
 refine HC.out.mono ?_;rintro r u33 ⟨⟨v,u,rfl,hN,hM⟩,hb⟩;obtain ⟨xxp,cxxp,rfl,-⟩:=hN.arg (by have:=len_sm (X:=1) (by decide);omega)
 obtain ⟨yxp,cyxp,rfl,-⟩:=hM.arg (by have:=len_sm (X:=1) (by decide);omega)
 clear HC;obtain ⟨bel,Nsx,Nsy,Qs,Ntx,Nty,Qt,Nux,Nuy,Qu,Nvx,Nvy,Qv⟩:=S32.out;have hbn:=bel.trans (hb.mono bel.size);have S33:=sd (ai hbn (ai (Nsx.below hb) (ai (Nsy.below hb) (ai (Qs.below hb) (ai (Ntx.below hb) (ai (Nty.below hb) (ai (Qt.below hb) (ai (Nux.below hb) (ai (Nuy.below hb) (ai (Qu.below hb) (ai (Nvx.below hb) (ai (Nvy.below hb) (ai (Qv.below hb) (ai (hN.mono bel.size) (hM.mono bel.size)))))))))))))));clear bel Nsx Nsy Qs Ntx Nty Qt Nux Nuy Qu Nvx Nvy Qv;clear hb hbn S32;clear hN hM;obtain ⟨bel,Nsx,Nsy,Qs,Ntx,Nty,Qt,Nux,Nuy,Qu,Nvx,Nvy,Qv,Nxpx,Nxpy⟩:=S33.out;have HC:=hid (rat_eq 1 3 false false 1 3 0 0 w1 w3 (by decide) (by decide) u33)
 clear bel Nsx Nsy Qs Ntx Nty Qt Nux Nuy Qu Nvx Nvy Qv Nxpx Nxpy
 go_wp2_with fail
 refine HC.out.mono ?_;rintro r u34 ⟨⟨v,u,rfl,hN,hM⟩,hb⟩;obtain ⟨xxq,cxxq,rfl,-⟩:=hN.arg (by have:=len_sm (X:=1) (by decide);omega)
 obtain ⟨yxq,cyxq,rfl,-⟩:=hM.arg (by have:=len_sm (X:=3) (by decide);omega)
 clear HC;obtain ⟨bel,Nsx,Nsy,Qs,Ntx,Nty,Qt,Nux,Nuy,Qu,Nvx,Nvy,Qv,Nxpx,Nxpy⟩:=S33.out;have hbn:=bel.trans (hb.mono bel.size);have S34:=sd (ai hbn (ai (Nsx.below hb) (ai (Nsy.below hb) (ai (Qs.below hb) (ai (Ntx.below hb) (ai (Nty.below hb) (ai (Qt.below hb) (ai (Nux.below hb) (ai (Nuy.below hb) (ai (Qu.below hb) (ai (Nvx.below hb) (ai (Nvy.below hb) (ai (Qv.below hb) (ai (Nxpx.below hb) (ai (Nxpy.below hb) (ai (hN.mono bel.size) (hM.mono bel.size)))))))))))))))));clear bel Nsx Nsy Qs Ntx Nty Qt Nux Nuy Qu Nvx Nvy Qv Nxpx Nxpy;clear hb hbn S33;clear hN hM;obtain ⟨bel,Nsx,Nsy,Qs,Ntx,Nty,Qt,Nux,Nuy,Qu,Nvx,Nvy,Qv,Nxpx,Nxpy,Nxqx,Nxqy⟩:=S34.out;have HC:=hid (CmpC true false false false 1 1 1 3 0 1 0 0 Nxpx Nxpy Nxqx Nxqy (len_sm (by decide)) (len_sm (by decide)) (len_sm (by decide)) (len_sm (by decide)) (by decide) (by decide) (by decide) (by decide) (HT.out.belows bel) em12 e13 (-1) aCmp)
 clear bel Nsx Nsy Qs Ntx Nty Qt Nux Nuy Qu Nvx Nvy Qv Nxpx Nxpy Nxqx Nxqy
 go_wp2_with fail
 refine HC.out.mono ?_;rintro r u35 ⟨rfl,hb⟩;clear HC;obtain ⟨bel,Nsx,Nsy,Qs,Ntx,Nty,Qt,Nux,Nuy,Qu,Nvx,Nvy,Qv,Nxpx,Nxpy,Nxqx,Nxqy⟩:=S34.out;have hbn:=bel.trans (hb.mono bel.size);have S35:=sd (ai hbn (ai (Nsx.below hb) (ai (Nsy.below hb) (ai (Qs.below hb) (ai (Ntx.below hb) (ai (Nty.below hb) (ai (Qt.below hb) (ai (Nux.below hb) (ai (Nuy.below hb) (ai (Qu.below hb) (ai (Nvx.below hb) (ai (Nvy.below hb) (Qv.below hb)))))))))))));clear bel Nsx Nsy Qs Ntx Nty Qt Nux Nuy Qu Nvx Nvy Qv Nxpx Nxpy Nxqx Nxqy;clear hb hbn S34
 go_upto_region 14 with fail
 obtain ⟨g0,hg0⟩:∃ g,u19.heap.size=g:=⟨_,rfl⟩;rw [hg0] at S35 ⊢;clear hg0
 go_cut [27] from 102 to 104 (fun v wx=>v=.bool true∧Aside (Below w.heap.size w wx∧Nt w.heap.size wx (.slice xt (ws 0).length cxt) 0∧Nt w.heap.size wx (.slice yt (ws 1).length cyt) 1∧Rq wx u23.heap.size false (.slice xt (ws 0).length cxt) 0 false (.slice yt (ws 1).length cyt) 2∧Nt w.heap.size wx (.slice xu (ws 1).length cxu) 1∧Nt w.heap.size wx (.slice yu (ws 3).length cyu) 3∧Rq wx u27.heap.size false (.slice xu (ws 1).length cxu) 1 false (.slice yu (ws 3).length cyu) 1∧Nt w.heap.size wx (.slice xv (ws 1).length cxv) 1∧Nt w.heap.size wx (.slice yv (ws 3).length cyv) 3∧Rq wx u31.heap.size true (.slice xv (ws 1).length cxv) 2 false (.slice yv (ws 3).length cyv) 1))
 case first =>
  obtain ⟨bel,Nsx,Nsy,Qs,Ntx,Nty,Qt,Nux,Nuy,Qu,Nvx,Nvy,Qv⟩:=S35.out;obtain ⟨k0,k1,k2,k3,k4,k5⟩:=Qs.facts;have R1:=hid (rat_eq 5 6 false false 5 3 0 1 w5 w6 (by decide) (by decide) u35)
  have R2:=hid (rat_eq 5 6 false false 5 3 0 1 w5 w6 (by decide) (by decide) u35.drew)
  clear bel Nsx Nsy Qs Ntx Nty Qt Nux Nuy Qu Nvx Nvy Qv
  go_region_held3 (fun w'=>w'.cell? ⟨g0,0,none⟩=some (.bool false)∧w'.cell? ⟨g0,1,none⟩=some (.slice xs (ws 5).length cxs)∧w'.cell? ⟨g0,2,none⟩=some (.int .i64 0)∧w'.cell? ⟨g0,3,none⟩=some (.bool false)∧w'.cell? ⟨g0,4,none⟩=some (.slice ys (ws 3).length cys)∧w'.cell? ⟨g0,5,none⟩=some (.int .i64 1)) (go_keep) (first
   | (go_at_call 11
      first | with_reducible refine R1.out.mono ?_ | with_reducible refine R2.out.mono ?_
      rintro r z1 ⟨⟨v,u,rfl,hN,hM⟩,hb⟩;have hb1:Below u35.heap.size u35 z1:=by first | exact hb | exact ((Below.refl _ u35).drew).trans (hb.mono (Nat.le_refl _))
      obtain ⟨bel,Nsx,Nsy,Qs,Ntx,Nty,Qt,Nux,Nuy,Qu,Nvx,Nvy,Qv⟩:=S35.out;obtain ⟨m0,m1,m2,m3,m4,m5⟩:=(Qs.below hb1).facts;have T3:=hid (Same11 false false 0 1 _ _ _ _ 5 3 (Nsx.below hb1) (Nsy.below hb1) hN hM (len_sm (by decide)) (len_sm (by decide)))
      obtain ⟨b1,d1,rfl,-⟩:=hN.arg (by have:=len_sm (X:=5) (by decide);omega)
      obtain ⟨b2,d2,rfl,-⟩:=hM.arg (by have:=len_sm (X:=3) (by decide);omega)
      have T2:=sd (ai (bel.trans (hb1.mono bel.size)) (ai (Qs.below hb1) (ai (Ntx.below hb1) (ai (Nty.below hb1) (ai (Qt.below hb1) (ai (Nux.below hb1) (ai (Nuy.below hb1) (ai (Qu.below hb1) (ai (Nvx.below hb1) (ai (Nvy.below hb1) (Qv.below hb1)))))))))));clear hb hb1 hN hM bel Nsx Nsy Qs Ntx Nty Qt Nux Nuy Qu Nvx Nvy Qv)
   | (go_at_call 34
      with_reducible refine T3.out.mono ?_
      rintro r z2 ⟨rfl,hb⟩;obtain ⟨bel,QQ,Ntx,Nty,Qt,Nux,Nuy,Qu,Nvx,Nvy,Qv⟩:=T2.out;obtain ⟨n0,n1,n2,n3,n4,n5⟩:=(QQ.below hb).facts;have T4:=sd (ai (bel.trans (hb.mono bel.size)) (ai (Ntx.below hb) (ai (Nty.below hb) (ai (Qt.below hb) (ai (Nux.below hb) (ai (Nuy.below hb) (ai (Qu.below hb) (ai (Nvx.below hb) (ai (Nvy.below hb) (Qv.below hb))))))))));clear hb bel QQ Ntx Nty Qt Nux Nuy Qu Nvx Nvy Qv))
  all_goals (
   go_wp2_with fail
   go_meet
   case rel=>first | exact ⟨rfl,T4⟩ | exact ⟨rfl,sd (by simpa using T4.out)⟩)
 case rest =>
  obtain ⟨rfl,Z0⟩:=hcut;obtain ⟨UU0,hU⟩:∃ U,U=wc:=⟨_,rfl⟩;subst hU;clear S35;have S36:=Z0;clear Z0
  go_upto_region 15 with fail
  obtain ⟨g1,hg1⟩:∃ g,u23.heap.size=g:=⟨_,rfl⟩;rw [hg1] at S36 ⊢;clear hg1
  go_cut [28] from 105 to 107 (fun v wx=>v=.bool true∧Aside (Below w.heap.size w wx∧Nt w.heap.size wx (.slice xu (ws 1).length cxu) 1∧Nt w.heap.size wx (.slice yu (ws 3).length cyu) 3∧Rq wx u27.heap.size false (.slice xu (ws 1).length cxu) 1 false (.slice yu (ws 3).length cyu) 1∧Nt w.heap.size wx (.slice xv (ws 1).length cxv) 1∧Nt w.heap.size wx (.slice yv (ws 3).length cyv) 3∧Rq wx u31.heap.size true (.slice xv (ws 1).length cxv) 2 false (.slice yv (ws 3).length cyv) 1))
  case first =>
   obtain ⟨bel,Ntx,Nty,Qt,Nux,Nuy,Qu,Nvx,Nvy,Qv⟩:=S36.out;obtain ⟨k0,k1,k2,k3,k4,k5⟩:=Qt.facts;have R1:=hid (rat_eq 0 4 false false 0 1 0 2 w0 w4 (by decide) (by decide) UU0)
   have R2:=hid (rat_eq 0 4 false false 0 1 0 2 w0 w4 (by decide) (by decide) UU0.drew)
   clear bel Ntx Nty Qt Nux Nuy Qu Nvx Nvy Qv
   go_region_held3 (fun w'=>w'.cell? ⟨g1,0,none⟩=some (.bool false)∧w'.cell? ⟨g1,1,none⟩=some (.slice xt (ws 0).length cxt)∧w'.cell? ⟨g1,2,none⟩=some (.int .i64 0)∧w'.cell? ⟨g1,3,none⟩=some (.bool false)∧w'.cell? ⟨g1,4,none⟩=some (.slice yt (ws 1).length cyt)∧w'.cell? ⟨g1,5,none⟩=some (.int .i64 2)) (go_keep) (first
    | (go_at_call 11
       first | with_reducible refine R1.out.mono ?_ | with_reducible refine R2.out.mono ?_
       rintro r z1 ⟨⟨v,u,rfl,hN,hM⟩,hb⟩;have hb1:Below UU0.heap.size UU0 z1:=by first | exact hb | exact ((Below.refl _ UU0).drew).trans (hb.mono (Nat.le_refl _))
       obtain ⟨bel,Ntx,Nty,Qt,Nux,Nuy,Qu,Nvx,Nvy,Qv⟩:=S36.out;obtain ⟨m0,m1,m2,m3,m4,m5⟩:=(Qt.below hb1).facts;have T3:=hid (Same11 false false 0 2 _ _ _ _ 0 1 (Ntx.below hb1) (Nty.below hb1) hN hM (len_sm (by decide)) (len_sm (by decide)))
       obtain ⟨b1,d1,rfl,-⟩:=hN.arg (by have:=len_sm (X:=0) (by decide);omega)
       obtain ⟨b2,d2,rfl,-⟩:=hM.arg (by have:=len_sm (X:=1) (by decide);omega)
       have T2:=sd (ai (bel.trans (hb1.mono bel.size)) (ai (Qt.below hb1) (ai (Nux.below hb1) (ai (Nuy.below hb1) (ai (Qu.below hb1) (ai (Nvx.below hb1) (ai (Nvy.below hb1) (Qv.below hb1))))))));clear hb hb1 hN hM bel Ntx Nty Qt Nux Nuy Qu Nvx Nvy Qv)
    | (go_at_call 34
       with_reducible refine T3.out.mono ?_
       rintro r z2 ⟨rfl,hb⟩;obtain ⟨bel,QQ,Nux,Nuy,Qu,Nvx,Nvy,Qv⟩:=T2.out;obtain ⟨n0,n1,n2,n3,n4,n5⟩:=(QQ.below hb).facts;have T4:=sd (ai (bel.trans (hb.mono bel.size)) (ai (Nux.below hb) (ai (Nuy.below hb) (ai (Qu.below hb) (ai (Nvx.below hb) (ai (Nvy.below hb) (Qv.below hb)))))));clear hb bel QQ Nux Nuy Qu Nvx Nvy Qv))
   all_goals (
    go_wp2_with fail
    go_meet
    case rel=>first | exact ⟨rfl,T4⟩ | exact ⟨rfl,sd (by simpa using T4.out)⟩)
  case rest =>
   obtain ⟨rfl,Z1⟩:=hcut;obtain ⟨UU1,hU⟩:∃ U,U=wc:=⟨_,rfl⟩;subst hU;clear S36;have S37:=Z1;clear Z1
   go_upto_region 16 with fail
   obtain ⟨g2,hg2⟩:∃ g,u27.heap.size=g:=⟨_,rfl⟩;rw [hg2] at S37 ⊢;clear hg2
   go_cut [29] from 108 to 110 (fun v wx=>v=.bool true∧Aside (Below w.heap.size w wx∧Nt w.heap.size wx (.slice xv (ws 1).length cxv) 1∧Nt w.heap.size wx (.slice yv (ws 3).length cyv) 3∧Rq wx u31.heap.size true (.slice xv (ws 1).length cxv) 2 false (.slice yv (ws 3).length cyv) 1))
   case first =>
    obtain ⟨bel,Nux,Nuy,Qu,Nvx,Nvy,Qv⟩:=S37.out;obtain ⟨k0,k1,k2,k3,k4,k5⟩:=Qu.facts;have R1:=hid (rat_eq 2 6 false false 1 3 1 1 w2 w6 (by decide) (by decide) UU1)
    have R2:=hid (rat_eq 2 6 false false 1 3 1 1 w2 w6 (by decide) (by decide) UU1.drew)
    clear bel Nux Nuy Qu Nvx Nvy Qv
    go_region_held3 (fun w'=>w'.cell? ⟨g2,0,none⟩=some (.bool false)∧w'.cell? ⟨g2,1,none⟩=some (.slice xu (ws 1).length cxu)∧w'.cell? ⟨g2,2,none⟩=some (.int .i64 1)∧w'.cell? ⟨g2,3,none⟩=some (.bool false)∧w'.cell? ⟨g2,4,none⟩=some (.slice yu (ws 3).length cyu)∧w'.cell? ⟨g2,5,none⟩=some (.int .i64 1)) (go_keep) (first
     | (go_at_call 11
        first | with_reducible refine R1.out.mono ?_ | with_reducible refine R2.out.mono ?_
        rintro r z1 ⟨⟨v,u,rfl,hN,hM⟩,hb⟩;have hb1:Below UU1.heap.size UU1 z1:=by first | exact hb | exact ((Below.refl _ UU1).drew).trans (hb.mono (Nat.le_refl _))
        obtain ⟨bel,Nux,Nuy,Qu,Nvx,Nvy,Qv⟩:=S37.out;obtain ⟨m0,m1,m2,m3,m4,m5⟩:=(Qu.below hb1).facts;have T3:=hid (Same11 false false 1 1 _ _ _ _ 1 3 (Nux.below hb1) (Nuy.below hb1) hN hM (len_sm (by decide)) (len_sm (by decide)))
        obtain ⟨b1,d1,rfl,-⟩:=hN.arg (by have:=len_sm (X:=1) (by decide);omega)
        obtain ⟨b2,d2,rfl,-⟩:=hM.arg (by have:=len_sm (X:=3) (by decide);omega)
        have T2:=sd (ai (bel.trans (hb1.mono bel.size)) (ai (Qu.below hb1) (ai (Nvx.below hb1) (ai (Nvy.below hb1) (Qv.below hb1)))));clear hb hb1 hN hM bel Nux Nuy Qu Nvx Nvy Qv)
     | (go_at_call 34
        with_reducible refine T3.out.mono ?_
        rintro r z2 ⟨rfl,hb⟩;obtain ⟨bel,QQ,Nvx,Nvy,Qv⟩:=T2.out;obtain ⟨n0,n1,n2,n3,n4,n5⟩:=(QQ.below hb).facts;have T4:=sd (ai (bel.trans (hb.mono bel.size)) (ai (Nvx.below hb) (ai (Nvy.below hb) (Qv.below hb))));clear hb bel QQ Nvx Nvy Qv))
    all_goals (
     go_wp2_with fail
     go_meet
     case rel=>first | exact ⟨rfl,T4⟩ | exact ⟨rfl,sd (by simpa using T4.out)⟩)
   case rest =>
    obtain ⟨rfl,Z2⟩:=hcut;obtain ⟨UU2,hU⟩:∃ U,U=wc:=⟨_,rfl⟩;subst hU;clear S37;have S38:=Z2;clear Z2
    go_upto_region 17 with fail
    obtain ⟨g3,hg3⟩:∃ g,u31.heap.size=g:=⟨_,rfl⟩;rw [hg3] at S38 ⊢;clear hg3
    go_cut [30] from 111 to 113 (fun v wx=>v=.bool true∧Aside (Below w.heap.size w wx))
    case first =>
     obtain ⟨bel,Nvx,Nvy,Qv⟩:=S38.out;obtain ⟨k0,k1,k2,k3,k4,k5⟩:=Qv.facts;have R1:=hid (rat_eq (-4) 6 true false 1 3 2 1 wm4 w6 (by decide) (by decide) UU2)
     have R2:=hid (rat_eq (-4) 6 true false 1 3 2 1 wm4 w6 (by decide) (by decide) UU2.drew)
     clear bel Nvx Nvy Qv
     go_region_held3 (fun w'=>w'.cell? ⟨g3,0,none⟩=some (.bool true)∧w'.cell? ⟨g3,1,none⟩=some (.slice xv (ws 1).length cxv)∧w'.cell? ⟨g3,2,none⟩=some (.int .i64 2)∧w'.cell? ⟨g3,3,none⟩=some (.bool false)∧w'.cell? ⟨g3,4,none⟩=some (.slice yv (ws 3).length cyv)∧w'.cell? ⟨g3,5,none⟩=some (.int .i64 1)) (go_keep) (first
      | (go_at_call 11
         first | with_reducible refine R1.out.mono ?_ | with_reducible refine R2.out.mono ?_
         rintro r z1 ⟨⟨v,u,rfl,hN,hM⟩,hb⟩;have hb1:Below UU2.heap.size UU2 z1:=by first | exact hb | exact ((Below.refl _ UU2).drew).trans (hb.mono (Nat.le_refl _))
         obtain ⟨bel,Nvx,Nvy,Qv⟩:=S38.out;obtain ⟨m0,m1,m2,m3,m4,m5⟩:=(Qv.below hb1).facts;have T3:=hid (Same11 true false 2 1 _ _ _ _ 1 3 (Nvx.below hb1) (Nvy.below hb1) hN hM (len_sm (by decide)) (len_sm (by decide)))
         obtain ⟨b1,d1,rfl,-⟩:=hN.arg (by have:=len_sm (X:=1) (by decide);omega)
         obtain ⟨b2,d2,rfl,-⟩:=hM.arg (by have:=len_sm (X:=3) (by decide);omega)
         have T2:=sd (ai (bel.trans (hb1.mono bel.size)) (Qv.below hb1));clear hb hb1 hN hM bel Nvx Nvy Qv)
      | (go_at_call 34
         with_reducible refine T3.out.mono ?_
         rintro r z2 ⟨rfl,hb⟩;obtain ⟨bel,QQ⟩:=T2.out;obtain ⟨n0,n1,n2,n3,n4,n5⟩:=(QQ.below hb).facts;have T4:=sd (bel.trans (hb.mono bel.size));clear hb bel QQ ))
     all_goals (
      go_wp2_with fail
      go_meet
      case rel=>first | exact ⟨rfl,T4⟩ | exact ⟨rfl,sd (by simpa using T4.out)⟩)
    case rest =>
     obtain ⟨rfl,Z3⟩:=hcut;obtain ⟨UU3,hU⟩:∃ U,U=wc:=⟨_,rfl⟩;subst hU;clear S38;have S39:=Z3;clear Z3;have c1:(FloatKind.f64.format.order 4599676419421066581 4599676419421066581==some .eq)=true:=by decide +kernel
     have c2:(FloatKind.f64.format.order 4599676419421066582 4599676419421066582==some .eq)=true:=by decide +kernel
     have c3:(FloatKind.f64.format.order 4609047870845172685 4609047870845172685==some .eq)=true:=by decide +kernel
     go_wp2;go_ret;exact ⟨rfl,S39.out⟩
end
section
open Go.RowKit
theorem bl_mul_le (X Y:Nat):bl (X*Y)≤bl X+bl Y:=bl_lt_pow (by rw [Nat.pow_add];exact Nat.mul_lt_mul'' (bl_lt X) (bl_lt Y))
theorem cmpZ_neg (x y:Int):cmpZ x y=-cmpZ y x:=by unfold cmpZ;split <;> split <;> omega
end
section
open Go.ChangeShapes Go.WideShapes Go.ChangeAt Go.RowKit
theorem cameR_of {H:Type}{enc:TypeId×Value→H}{W:World}{a:Option Addr}{n c:Nat}{d:DataW H}{p:List MemPlace}(h:DataW.Trod enc Tryz.prog W 0 (fun _=>true) true 25 (.slice a n c) d p) :
 ∃ xs,Came W a n c xs∧((d=.nil∧c=0)∨∃ elems spare:List (DataW H),d=.slice elems spare∧elems.length+spare.length=c∧(∀ e ∈ elems,∃ l,e=.lit (.int .u32 l))∧∀ e ∈ spare,∃ l,e=.lit (.int .u32 l)):=by
 obtain ⟨fuel,hf⟩:=h
 rcases open_ints Tryz.underlying25 Tryz.underlying23 (by kernel_rfl) hf with ⟨hcs,hx⟩|⟨x,l,cp,zs,hcs,hb,hl,hm,hz,hx,hcell,hwz⟩
 · simp [Value.cells] at hcs
   obtain ⟨rfl,rfl,rfl⟩:=hcs;refine ⟨[],⟨rfl,Nat.le_refl _,Wf.nil,Rd.nil _ _ _,fun _=>rfl⟩,.inl ⟨?_,rfl⟩⟩
   exact (Prod.mk.inj hx).1
 · simp [Value.cells] at hcs
   obtain ⟨rfl,rfl,rfl⟩:=hcs;have hz':zs.length=c:=by simpa using hz
   have hwf:∀ z ∈ zs,0≤z∧z<4294967296:=by
    intro z hzz;have:=hwz z hzz;simp [Lit.wf,IntKind.min,IntKind.max,IntKind.signed,IntKind.bits] at this;omega
   refine ⟨(zs.take n).map Int.toNat,⟨?_,hl,?_,?_,fun e=>by cases e⟩,.inr ⟨_,_,(Prod.mk.inj hx).1,?_,?_,?_⟩⟩
   · rw [List.length_map,List.length_take];omega
   · intro y hy
     obtain ⟨z,hz1,rfl⟩:=List.mem_map.1 hy;have:=hwf z (List.mem_of_mem_take hz1);omega
   · intro hne
     obtain ⟨b,off,spot⟩:=x
     have hn0:0<n:=by
      rcases Nat.eq_zero_or_pos n with h0|h0
      · subst h0;simp at hne
      · exact h0
     have hc0:=hcell 0 (by omega)
     have hspot:spot=none:=by simpa [Addr.add] using World.cell?_spot hc0
     subst hspot;refine ⟨b,off,World.block_lt_of_cell? W _ (by simpa [Addr.add] using hc0),rfl,fun i hi=>?_⟩
     rw [List.length_map,List.length_take] at hi;have hadd:(⟨b,off,none⟩:Addr).add i=⟨b,off+i,none⟩:=by unfold Addr.add;split <;> simp_all
     have:=hcell i (by omega)
     rw [hadd] at this;rw [this];have hi2:i<zs.length:=by omega
     have hin:i<n:=by omega
     have hv:0≤zs[i]:=(hwf _ (List.getElem_mem hi2)).1;simp [List.getD_eq_getElem?_getD,hi2,hin,Int.toNat_of_nonneg hv]
   · simp only [lits,List.length_map,List.length_take,List.length_drop];omega
   · intro e he
     simp only [lits,List.mem_map] at he;obtain ⟨z,_,rfl⟩:=he;exact ⟨z,rfl⟩
   · intro e he
     simp only [lits,List.mem_map] at he;obtain ⟨z,_,rfl⟩:=he;exact ⟨z,rfl⟩
structure CameD (w:World) (a:Option Addr) (n c:Nat) (xs:List Nat) (e:Int):Prop where
 came:Came w a n c xs
 lo:-9223372036854775808≤e
 hi:e≤9223372036854775807
def RoomD {H:Type} (c:Nat) (d1:DataW H):Prop:=((d1=.nil∧c=0)∨∃ elems spare:List (DataW H),d1=.slice elems spare∧elems.length+spare.length=c∧(∀ e ∈ elems,∃ l,e=.lit (.int .u32 l))∧∀ e ∈ spare,∃ l,e=.lit (.int .u32 l))
theorem dyad_cells {H:Type}{enc:TypeId×Value→H}{W:World}{c0 c1 c2:Value}{d:DataW H}{p:List MemPlace}{fuel:Nat}(hf:DataW.trod enc Tryz.prog W 0 (fun _=>true) true fuel 27 [c0,c1,c2]=some (d,p)) :
 ∃ (ng:Bool) (a:Option Addr) (n c:Nat) (e:Int) (xs:List Nat) (d1:DataW H),(c0=.bool ng∧c1=.slice a n c∧c2=.int .i64 e)∧CameD W a n c xs e∧d=.agg [.lit (.bool ng),d1,.lit (.int .i64 e)]∧RoomD c d1:=by
 have hC:Tryz.prog.cellsOf 27=3:=by kernel_rfl
 have c4:Tryz.prog.cellsOf 4=1:=by kernel_rfl
 have c3:Tryz.prog.cellsOf 3=1:=by kernel_rfl
 have cN:Tryz.prog.cellsOf 25=1:=by kernel_rfl
 obtain ⟨xs,k,rfl,hx,hl,hxl,hfs⟩:=DataW.trod_struct Tryz.underlying27 hf;have h0:DataW.trod enc Tryz.prog W 0 (fun _=>true) true k 4 (List.take (Tryz.prog.cellsOf 4) (List.drop 0 [c0,c1,c2]))=xs[0]?:=hfs 0 _ rfl
 have h1:DataW.trod enc Tryz.prog W 0 (fun _=>true) true k 25 (List.take (Tryz.prog.cellsOf 25) (List.drop 1 [c0,c1,c2]))=xs[1]?:=hfs 1 _ rfl
 have h2:DataW.trod enc Tryz.prog W 0 (fun _=>true) true k 3 (List.take (Tryz.prog.cellsOf 3) (List.drop 2 [c0,c1,c2]))=xs[2]?:=hfs 2 _ rfl
 rw [c4] at h0;rw [cN] at h1;rw [c3] at h2;replace h0:DataW.trod enc Tryz.prog W 0 (fun _=>true) true k 4 [c0]=xs[0]?:=h0
 replace h1:DataW.trod enc Tryz.prog W 0 (fun _=>true) true k 25 [c1]=xs[1]?:=h1
 replace h2:DataW.trod enc Tryz.prog W 0 (fun _=>true) true k 3 [c2]=xs[2]?:=h2
 match xs,hxl with
 | [x0,x1,x2],_ =>
   obtain ⟨ng,e0,rfl⟩:=DataW.trod_bool Tryz.underlying4 h0;obtain ⟨e,e2,rfl,hw⟩:=DataW.trod_int Tryz.underlying3 h2
   cases e0
   cases e2
   have hs:∃ a n c,c1=.slice a n c:=by
    rcases DataW.trod_slice Tryz.underlying25 h1 with ⟨q,_⟩|⟨a,len,cap,_,_,_,_,q,_⟩
    · cases q;exact ⟨_,_,_,rfl⟩
    · cases q;exact ⟨_,_,_,rfl⟩
   obtain ⟨a,n,c,rfl⟩:=hs;obtain ⟨ys,hy,hd⟩:=cameR_of (a:=a) (n:=n) (c:=c) (d:=x1.1) (p:=x1.2) ⟨k,h1⟩
   have hw':-9223372036854775808≤e∧e≤9223372036854775807:=by
    simp [Lit.wf,IntKind.min,IntKind.max,IntKind.signed,IntKind.bits] at hw;omega
   refine ⟨ng,a,n,c,e,ys,x1.1,⟨rfl,rfl,rfl⟩,⟨hy,hw'.1,hw'.2⟩,?_,hd⟩;have:=(Prod.mk.inj hx).1;simpa using this
structure CameR (w:World) (a:Option Addr) (l c:Nat) (e:Int) (xs:List Nat) (b:Option Addr) (k d:Nat) (f:Int) (ys:List Nat):Prop where
 num:CameD w a l c xs e
 den:CameD w b k d ys f
theorem ratio_of {H:Type}{enc:TypeId×Value→H}{W:World}{r:Reach}{b0:Nat}{v:Value}{d:DataW H}{p:List MemPlace}(hv:Value.okWide Tryz.prog W r b0 30 v) (h:DataW.Trod enc Tryz.prog W 0 (fun _=>true) true 30 v d p) :
 ∃ (ng:Bool) (a:Option Addr) (n c:Nat) (e:Int) (xs:List Nat) (mg:Bool) (b:Option Addr) (k cb:Nat) (f:Int) (ys:List Nat) (d1 d2:DataW H),
   v=.agg #[.bool ng,.slice a n c,.int .i64 e,.bool mg,.slice b k cb,.int .i64 f]∧CameR W a n c e xs b k cb f ys ∧
   d=.agg [.agg [.lit (.bool ng),d1,.lit (.int .i64 e)],.agg [.lit (.bool mg),d2,.lit (.int .i64 f)]]∧RoomD c d1∧RoomD cb d2:=by
 obtain ⟨cs,rfl,hsz⟩:=okWide_struct Tryz.underlying30 hv;obtain ⟨fuel,hf⟩:=h;have hC:Tryz.prog.cellsOf 30=6:=by kernel_rfl
 have hD:Tryz.prog.cellsOf 27=3:=by kernel_rfl
 obtain ⟨xs,k,rfl,hx,hl,hxl,hfs⟩:=DataW.trod_struct Tryz.underlying30 hf;rw [hC] at hsz
 obtain ⟨c0,c1,c2,c3,c4,c5,rfl⟩:∃ c0 c1 c2 c3 c4 c5,cs=#[c0,c1,c2,c3,c4,c5]:=by
  obtain ⟨l⟩:=cs
  match l,hsz with
  | [a,b,c,d,e,f],_=>exact ⟨a,b,c,d,e,f,rfl⟩
 have h0:DataW.trod enc Tryz.prog W 0 (fun _=>true) true k 27 (List.take (Tryz.prog.cellsOf 27) (List.drop 0 [c0,c1,c2,c3,c4,c5]))=xs[0]?:=hfs 0 _ rfl
 have h1:DataW.trod enc Tryz.prog W 0 (fun _=>true) true k 27 (List.take (Tryz.prog.cellsOf 27) (List.drop 3 [c0,c1,c2,c3,c4,c5]))=xs[1]?:=hfs 1 _ rfl
 rw [hD] at h0 h1;replace h0:DataW.trod enc Tryz.prog W 0 (fun _=>true) true k 27 [c0,c1,c2]=xs[0]?:=h0
 replace h1:DataW.trod enc Tryz.prog W 0 (fun _=>true) true k 27 [c3,c4,c5]=xs[1]?:=h1
 match xs,hxl with
 | [x0,x1],_ =>
   obtain ⟨ng,a,n,c,e,zs,d1,⟨rfl,rfl,rfl⟩,w1,g1,r1⟩:=dyad_cells (d:=x0.1) (p:=x0.2) h0;obtain ⟨mg,b,m,cb,f,ys,d2,⟨rfl,rfl,rfl⟩,w2,g2,r2⟩:=dyad_cells (d:=x1.1) (p:=x1.2) h1;refine ⟨ng,a,n,c,e,zs,mg,b,m,cb,f,ys,d1,d2,rfl,⟨w1,w2⟩,?_,r1,r2⟩;have:=(Prod.mk.inj hx).1;rw [←g1,←g2];simpa using this
end
section
open Go.RowKit
def Al (w:World) (v:Value) (X:Nat):Prop:=∃ a l c xs,v=.slice a l c∧Arg w a l c xs∧val xs=X∧l≤2000000
theorem Al.below {w w':World}{v:Value}{X:Nat}(h:Al w v X) (hb:Below w.heap.size w w'):Al w' v X:=by
 obtain ⟨a,l,c,xs,rfl,hA,hv,hl⟩:=h;exact ⟨a,l,c,xs,rfl,hA.below hb,hv,hl⟩
end
section
open Go.RowKit
theorem Nt.al' {lo:Nat}{w:World}{v:Value}{X:Nat}(h:Nt lo w v X) (hl:(ws X).length≤2000000):Al w v X:=by
 obtain ⟨a,c,rfl,hA⟩:=h.arg (by omega)
 exact ⟨a,_,c,_,rfl,hA,val_ws _,hl⟩
theorem times_al {w:World}{v u:Value}{X Y:Nat}(h1:Al w v X) (h2:Al w u Y):Calls Tryz.prog 68 #[v,u] w fun r w'=>∃ p,r=.returned p∧Nt w.heap.size w' p (X*Y)∧Below w.heap.size w w':=by
 obtain ⟨a,l,c,xs,rfl,hA,rfl,hl⟩:=h1;obtain ⟨b,k,d,ys,rfl,hB,rfl,hk⟩:=h2;exact rTimes_arg hA hB (by omega) rfl
theorem against_al {w:World}{v u:Value}{X Y:Nat}{e f:Int}(h1:Al w v X) (h2:Al w u Y) (be:-9223372036854775808≤e∧e≤9223372036854775807) (bf:-9223372036854775808≤f∧f≤9223372036854775807) :
 Calls Tryz.prog 103 #[v,.int .i64 e,u,.int .i64 f] w fun r w'=>r=.returned (.int .i64 (agV X e Y f))∧Below w.heap.size w w':=by
 obtain ⟨a,l,c,xs,rfl,hA,rfl,hl⟩:=h1;obtain ⟨b,k,d,ys,rfl,hB,rfl,hk⟩:=h2;exact against_any hA hB hl hk e f be.1 be.2 bf.1 bf.2
theorem against11_q {w:World}{n m:Bool}{p a b:Option Addr}{lp cp la ca lb cb A X Y:Nat}{g e f:Int}(hA:Al w (.slice p lp cp) A) (hN:Al w (.slice a la ca) X) (hD:Al w (.slice b lb cb) Y) (he:-9223372036854775808≤e∧e≤9223372036854775807) (h g2:Int) (e2:IntKind.i64.wrap (g+f)=h) (hh:-9223372036854775808≤h∧h≤9223372036854775807) (P:Nat) (hP:A*Y=P) (hl:(ws P).length≤2000000) :
 Calls Tryz.prog 131 #[.slice p lp cp,.int .i64 g,.agg #[.bool n,.slice a la ca,.int .i64 e,.bool m,.slice b lb cb,.int .i64 f],.bool false] w fun r w'=>r=.returned (.int .i64 (agV P h X e))∧Below w.heap.size w w':=by
 obtain ⟨W1,hW1⟩:∃ W,W=w.alloc (.cells #[.bool n,.slice a la ca,.int .i64 e,.bool m,.slice b lb cb,.int .i64 f] 30):=⟨_,rfl⟩;have hB:Below w.heap.size w W1:=by rw [hW1];exact below_alloc _ _
 have QR0:Rq W1 w.heap.size n (.slice a la ca) e m (.slice b lb cb) f:=by rw [hW1];exact Rq.new _ _ _ _ _ _ _
 have S0:=(sd (ai hB (ai QR0 (ai (hA.below hB) (ai (hN.below hB) (hD.below hB))))));have BD:=(sd (ai he (ai hh (ai hl hP))));clear hB QR0 hA hN hD he hh hl hP;go_enter Tryz.func131,Tryz.ntmps131
 go_upto_region 1 with fail
 rw [←hW1];clear hW1;obtain ⟨x0,x1,x2,x3,x4,x5⟩:=S0.out.2.1.facts
 go_upto_region 6 with fail
 have dr:Below W1.heap.size W1 W1.drew:=(Below.refl _ _).drew;have T1:=hid (times_al S0.out.2.2.1 S0.out.2.2.2.2);have T2:=hid (times_al (S0.out.2.2.1.below dr) (S0.out.2.2.2.2.below dr));rw [BD.out.2.2.2] at T1 T2;clear dr
 go_region_held3 (fun w'=>w'.cell? ⟨w.heap.size,0,none⟩=some (.bool n)∧w'.cell? ⟨w.heap.size,1,none⟩=some (.slice a la ca)∧w'.cell? ⟨w.heap.size,2,none⟩=some (.int .i64 e)∧w'.cell? ⟨w.heap.size,3,none⟩=some (.bool m)∧w'.cell? ⟨w.heap.size,4,none⟩=some (.slice b lb cb)∧w'.cell? ⟨w.heap.size,5,none⟩=some (.int .i64 f)) (go_keep) (first
  | (go_at_call 68
     first | with_reducible refine T1.out.mono ?_ | with_reducible refine T2.out.mono ?_
     rintro r v1 ⟨pv,rfl,hN,hb⟩;obtain ⟨q1,d1,rfl,-⟩:=hN.shape;have hb1:Below W1.heap.size W1 v1:=by first | exact hb | exact ((Below.refl _ W1).drew).trans (hb.mono (Nat.le_refl _))
     obtain ⟨bel,QR,AX,AN,AD⟩:=S0.out;obtain ⟨m0,m1,m2,m3,m4,m5⟩:=(QR.below hb1).facts;have T3:=hid (against_al (hN.al' BD.out.2.2.1) (AN.below hb1) BD.out.2.1 BD.out.1);have S4:=(sd (ai (bel.trans (hb1.mono bel.size)) (QR.below hb1)));clear hN hb hb1 bel QR AX AN AD)
  | (go_at_call 103
     with_reducible refine T3.out.mono ?_
     rintro r v2 ⟨rfl,hb⟩;obtain ⟨bel,QR⟩:=S4.out;obtain ⟨k0,k1,k2,k3,k4,k5⟩:=(QR.below hb).facts;have S5:=sd (bel.trans (hb.mono bel.size));clear hb bel QR))
 all_goals (
  go_wp2;go_ret;exact ⟨rfl,S5.out⟩)
theorem against11_s {w:World}{n m:Bool}{p a b:Option Addr}{lp cp la ca lb cb A X Y:Nat}{g e f:Int}(hA:Al w (.slice p lp cp) A) (hN:Al w (.slice a la ca) X) (hD:Al w (.slice b lb cb) Y) (he:-9223372036854775808≤e∧e≤9223372036854775807) (h g2:Int) (e1:IntKind.i64.wrap (2*g)=g2) (e2:IntKind.i64.wrap (g2+f)=h) (hh:-9223372036854775808≤h∧h≤9223372036854775807) (P:Nat) (hP:(A*A)*Y=P) (hl:(ws P).length≤2000000) (hl2:(ws (A*A)).length≤2000000) :
 Calls Tryz.prog 131 #[.slice p lp cp,.int .i64 g,.agg #[.bool n,.slice a la ca,.int .i64 e,.bool m,.slice b lb cb,.int .i64 f],.bool true] w fun r w'=>r=.returned (.int .i64 (agV P h X e))∧Below w.heap.size w w':=by
 obtain ⟨W1,hW1⟩:∃ W,W=w.alloc (.cells #[.bool n,.slice a la ca,.int .i64 e,.bool m,.slice b lb cb,.int .i64 f] 30):=⟨_,rfl⟩;have hB:Below w.heap.size w W1:=by rw [hW1];exact below_alloc _ _
 have QR0:Rq W1 w.heap.size n (.slice a la ca) e m (.slice b lb cb) f:=by rw [hW1];exact Rq.new _ _ _ _ _ _ _
 have S0:=(sd (ai hB (ai QR0 (ai (hA.below hB) (ai (hN.below hB) (hD.below hB))))));have BD:=(sd (ai he (ai hh (ai hl hP))));clear hB QR0 hA hN hD he hh hl hP;go_enter Tryz.func131,Tryz.ntmps131
 go_upto_region 1 with fail
 rw [←hW1];clear hW1;have HC:=hid (times_al S0.out.2.2.1 S0.out.2.2.1);have HL2:=sd hl2;clear hl2
 go_wp2_with fail
 refine HC.out.mono ?_;rintro r U ⟨v,rfl,hN,hb⟩;obtain ⟨q2,d2,rfl,-⟩:=hN.shape;have S1:=(sd (ai (S0.out.1.trans (hb.mono S0.out.1.size)) (ai (S0.out.2.1.below hb) (ai (hN.al' HL2.out) (ai (S0.out.2.2.2.1.below hb) (S0.out.2.2.2.2.below hb))))));clear HC hN hb S0 HL2;obtain ⟨x0,x1,x2,x3,x4,x5⟩:=S1.out.2.1.facts
 go_upto_region 6 with fail
 have dr:Below U.heap.size U U.drew:=(Below.refl _ _).drew;have T1:=hid (times_al S1.out.2.2.1 S1.out.2.2.2.2);have T2:=hid (times_al (S1.out.2.2.1.below dr) (S1.out.2.2.2.2.below dr));rw [BD.out.2.2.2] at T1 T2;clear dr
 go_region_held3 (fun w'=>w'.cell? ⟨w.heap.size,0,none⟩=some (.bool n)∧w'.cell? ⟨w.heap.size,1,none⟩=some (.slice a la ca)∧w'.cell? ⟨w.heap.size,2,none⟩=some (.int .i64 e)∧w'.cell? ⟨w.heap.size,3,none⟩=some (.bool m)∧w'.cell? ⟨w.heap.size,4,none⟩=some (.slice b lb cb)∧w'.cell? ⟨w.heap.size,5,none⟩=some (.int .i64 f)) (go_keep) (first
  | (go_at_call 68
     first | with_reducible refine T1.out.mono ?_ | with_reducible refine T2.out.mono ?_
     rintro r v1 ⟨pv,rfl,hN,hb⟩;obtain ⟨q1,d1,rfl,-⟩:=hN.shape;have hb1:Below U.heap.size U v1:=by first | exact hb | exact ((Below.refl _ U).drew).trans (hb.mono (Nat.le_refl _))
     obtain ⟨bel,QR,AX,AN,AD⟩:=S1.out;obtain ⟨m0,m1,m2,m3,m4,m5⟩:=(QR.below hb1).facts;have T3:=hid (against_al (hN.al' BD.out.2.2.1) (AN.below hb1) BD.out.2.1 BD.out.1);have S4:=(sd (ai (bel.trans (hb1.mono bel.size)) (QR.below hb1)));clear hN hb hb1 bel QR AX AN AD)
  | (go_at_call 103
     with_reducible refine T3.out.mono ?_
     rintro r v2 ⟨rfl,hb⟩;obtain ⟨bel,QR⟩:=S4.out;obtain ⟨k0,k1,k2,k3,k4,k5⟩:=(QR.below hb).facts;have S5:=sd (bel.trans (hb.mono bel.size));clear hb bel QR))
 all_goals (
  go_wp2;go_ret;exact ⟨rfl,S5.out⟩)
end
end Go.Proofs.YtdimlelcgapobaaGreatDoor
