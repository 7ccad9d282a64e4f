import Derived.Test.YtdimlelcgapobaaGreatDoorZ20x
import Derived.Test.YtdimlelcgapobaaGreatDoorD1x
import Derived.Deep.RegionHeld3
import Derived.Deep.CutRange
import Derived.Test.YtdimlelcgapobaaGreatDoorZ10x
import Derived.Test.YtdimlelcgapobaaGreatDoorW34x
import Derived.BigQuiet
import Derived.ProofKit
import Derived.OpenShut
import Derived.ChangeOld
import Derived.ChangeArms
set_option linter.unusedVariables false
set_option linter.unusedSimpArgs false
set_option maxHeartbeats 16000000
set_option maxRecDepth 20000
namespace Go.Proofs.YtdimlelcgapobaaGreatDoor
section
open Go.RowKit
attribute [local go_sem] B.f64bits B.f32bits
theorem errN_ok {X Y:Nat}{n m:Bool}{e f:Int}{n1 m1:Bool}{X1 Y1:Nat}{e1 f1:Int}(h1:mkS n X e=some (n1,X1,e1)) (h2:mkS m Y f=some (m1,Y1,f1)) (h3:Y1≠0) (h4:m=false):errN X n e Y m f=0:=by
 unfold errN;rw [h1,h2,h4];have:¬ sgn false Y<0:=by unfold sgn;split <;> simp
 rw [if_neg this];simp [dX,h3]
theorem quoR_ok (rnd:Option (Bool×Nat×Int)→Int→Nat×Int) (r:Ri) (mode:Int) {n1 m1:Bool}{X1 Y1:Nat}{e1 f1:Int}(h1:mkS r.n r.X r.e=some (n1,X1,e1)) (h2:mkS r.m r.Y r.f=some (m1,Y1,f1)) (h3:Y1≠0) (h4:r.m=false) (hm0:0≤mode) (hm4:mode≤4):quoR rnd r mode=rnd (quoZ n1 X1 e1 Y1 f1) mode:=by
 unfold quoR;rw [if_neg (by omega),errL_one,errN_ok h1 h2 h3 h4,if_pos rfl,h1,h2]
 rfl
theorem sqrR_ok (rnd:Option (Bool×Nat×Int)→Int→Nat×Int) (r:Ri) (mode:Int) {m1:Bool}{X1 Y1:Nat}{e1 f1:Int}(h1:mkS r.n r.X r.e=some (false,X1,e1)) (h2:mkS r.m r.Y r.f=some (m1,Y1,f1)) (h3:Y1≠0) (h4:r.m=false) (hm0:0≤mode) (hm4:mode≤4):sqrR rnd r mode=rnd (sqZ X1 e1 Y1 f1) mode:=by
 unfold sqrR;rw [if_neg (by omega),errL_one,errN_ok h1 h2 h3 h4,if_pos rfl,h1,h2]
 rfl
theorem sqrR_neg (rnd:Option (Bool×Nat×Int)→Int→Nat×Int) (r:Ri) (mode:Int) {m1:Bool}{X1 Y1:Nat}{e1 f1:Int}(h1:mkS r.n r.X r.e=some (true,X1,e1)) (h2:mkS r.m r.Y r.f=some (m1,Y1,f1)) (h3:Y1≠0) (h4:r.m=false) (hm0:0≤mode) (hm4:mode≤4):sqrR rnd r mode=(0,110):=by
 unfold sqrR;rw [if_neg (by omega),errL_one,errN_ok h1 h2 h3 h4,if_pos rfl,h1]
 rfl
theorem len_sm {X:Nat}(h:X<16):(ws X).length≤8192:=len_bl8 (by have:=bl_lt_pow (X:=X) (k:=4) (by omega);omega)
theorem QuotC {w:World}{l1 l2:Nat}(n m:Bool) (X Y:Nat) (e f mode:Int) (K:Nat) (er:Int) {v u:Value}(N1:Nt l1 w v X) (N2:Nt l2 w u Y) (lX:(ws X).length≤8192) (lY:(ws Y).length≤8192) (be:-1048576≤e∧e≤1048576) (bf:-1048576≤f∧f≤1048576) (hT:Tab w) (hK:∀ v u,quoR rndS ⟨n,v,X,e,m,u,Y,f⟩ mode=(K,er)) :
 Calls Tryz.prog 10 #[.agg #[.bool n,v,.int .i64 e,.bool m,u,.int .i64 f],.int .i64 mode] w fun r w'=>r=.returned (.tuple #[.float .f64 K,.int .i64 er])∧Below w.heap.size w w':=by
 obtain ⟨a1,c1,rfl,A1⟩:=N1.arg (by omega)
 obtain ⟨a2,c2,rfl,A2⟩:=N2.arg (by omega)
 have:=Quot11 (X:=X) (Y:=Y) (n:=n) (m:=m) (e:=e) (f:=f) mode ⟨N1.av (by omega),N2.av (by omega),by simp only;omega,by simp only;omega⟩ hT
 rw [hK] at this;exact this
theorem RootC {w:World}{l1 l2:Nat}(n m:Bool) (X Y:Nat) (e f mode:Int) (K:Nat) (er:Int) {v u:Value}(N1:Nt l1 w v X) (N2:Nt l2 w u Y) (lX:(ws X).length≤8192) (lY:(ws Y).length≤8192) (be:-1048576≤e∧e≤1048576) (bf:-1048576≤f∧f≤1048576) (hT:Tab w) (hK:∀ v u,sqrR rndS ⟨n,v,X,e,m,u,Y,f⟩ mode=(K,er)) :
 Calls Tryz.prog 14 #[.agg #[.bool n,v,.int .i64 e,.bool m,u,.int .i64 f],.int .i64 mode] w fun r w'=>r=.returned (.tuple #[.float .f64 K,.int .i64 er])∧Below w.heap.size w w':=by
 obtain ⟨a1,c1,rfl,A1⟩:=N1.arg (by omega)
 obtain ⟨a2,c2,rfl,A2⟩:=N2.arg (by omega)
 have:=Root11 (X:=X) (Y:=Y) (n:=n) (m:=m) (e:=e) (f:=f) mode ⟨N1.av (by omega),N2.av (by omega),by simp only;omega,by simp only;omega⟩ hT
 rw [hK] at this;exact this
theorem Quot32C {w:World}{l1 l2:Nat}(n m:Bool) (X Y:Nat) (e f mode:Int) (K:Nat) (er:Int) {v u:Value}(N1:Nt l1 w v X) (N2:Nt l2 w u Y) (lX:(ws X).length≤8192) (lY:(ws Y).length≤8192) (be:-1048576≤e∧e≤1048576) (bf:-1048576≤f∧f≤1048576) (hT:Tab w) (hK:∀ v u,quoR S.rndS ⟨n,v,X,e,m,u,Y,f⟩ mode=(K,er)) :
 Calls Tryz.prog 15 #[.agg #[.bool n,v,.int .i64 e,.bool m,u,.int .i64 f],.int .i64 mode] w fun r w'=>r=.returned (.tuple #[.float .f32 K,.int .i64 er])∧Below w.heap.size w w':=by
 obtain ⟨a1,c1,rfl,A1⟩:=N1.arg (by omega)
 obtain ⟨a2,c2,rfl,A2⟩:=N2.arg (by omega)
 have:=Quot3211 (X:=X) (Y:=Y) (n:=n) (m:=m) (e:=e) (f:=f) mode ⟨N1.av (by omega),N2.av (by omega),by simp only;omega,by simp only;omega⟩ hT
 rw [hK] at this;exact this
theorem Root32C {w:World}{l1 l2:Nat}(n m:Bool) (X Y:Nat) (e f mode:Int) (K:Nat) (er:Int) {v u:Value}(N1:Nt l1 w v X) (N2:Nt l2 w u Y) (lX:(ws X).length≤8192) (lY:(ws Y).length≤8192) (be:-1048576≤e∧e≤1048576) (bf:-1048576≤f∧f≤1048576) (hT:Tab w) (hK:∀ v u,sqrR S.rndS ⟨n,v,X,e,m,u,Y,f⟩ mode=(K,er)) :
 Calls Tryz.prog 16 #[.agg #[.bool n,v,.int .i64 e,.bool m,u,.int .i64 f],.int .i64 mode] w fun r w'=>r=.returned (.tuple #[.float .f32 K,.int .i64 er])∧Below w.heap.size w w':=by
 obtain ⟨a1,c1,rfl,A1⟩:=N1.arg (by omega)
 obtain ⟨a2,c2,rfl,A2⟩:=N2.arg (by omega)
 have:=Root3211 (X:=X) (Y:=Y) (n:=n) (m:=m) (e:=e) (f:=f) mode ⟨N1.av (by omega),N2.av (by omega),by simp only;omega,by simp only;omega⟩ hT
 rw [hK] at this;exact this
theorem AddC {w:World}{l1 l2 l3 l4:Nat}(n m n' m':Bool) (X Y X' Y':Nat) (e f e' f':Int) {v u v' u':Value}(N1:Nt l1 w v X) (N2:Nt l2 w u Y) (N3:Nt l3 w v' X') (N4:Nt l4 w u' Y') (lX:(ws X).length≤8192) (lY:(ws Y).length≤8192) (lX':(ws X').length≤8192) (lY':(ws Y').length≤8192)
 (be:-1048576≤e∧e≤1048576) (bf:-1048576≤f∧f≤1048576) (be':-1048576≤e'∧e'≤1048576) (bf':-1048576≤f'∧f'≤1048576) (hT:Tab w) (h1:errN X n e Y m f=0) (h2:errN X' n' e' Y' m' f'=0) (o p:Bool×Nat×Int) (hA:bothR (addD (mulD (mkS n X e) (mkS m' Y' f')) (mulD (mkS n' X' e') (mkS m Y f))) (mulD (mkS m Y f) (mkS m' Y' f'))=(0,some o,some p)) :
 Calls Tryz.prog 24 #[.agg #[.bool n,v,.int .i64 e,.bool m,u,.int .i64 f],.agg #[.bool n',v',.int .i64 e',.bool m',u',.int .i64 f']] w fun r w'=>(∃ v u,r=.returned (.tuple #[.agg #[.bool o.1,v,.int .i64 o.2.2,.bool p.1,u,.int .i64 p.2.2],.int .i64 0])∧Nt w.heap.size w' v o.2.1∧Nt w.heap.size w' u p.2.1)∧Below w.heap.size w w':=by
 obtain ⟨a1,c1,rfl,A1⟩:=N1.arg (by omega)
 obtain ⟨a2,c2,rfl,A2⟩:=N2.arg (by omega)
 obtain ⟨a3,c3,rfl,A3⟩:=N3.arg (by omega)
 obtain ⟨a4,c4,rfl,A4⟩:=N4.arg (by omega)
 have h0:=errL_two0 ⟨n,.slice a1 (ws X).length c1,X,e,m,.slice a2 (ws Y).length c2,Y,f⟩ ⟨n',.slice a3 (ws X').length c3,X',e',m',.slice a4 (ws Y').length c4,Y',f'⟩ h1 h2;have:=Add11 (X:=X) (Y:=Y) (n:=n) (m:=m) (e:=e) (f:=f) (X':=X') (Y':=Y') (n':=n') (m':=m') (e':=e') (f':=f') ⟨N1.av (by omega),N2.av (by omega),by simp only;omega,by simp only;omega⟩ ⟨N3.av (by omega),N4.av (by omega),by simp only;omega,by simp only;omega⟩ hT _ rfl
 rw [h0,if_pos rfl,hA] at this;refine this.mono ?_;rintro r w' ⟨⟨v,u,rfl,hN,hM,_⟩,hb⟩;exact ⟨⟨v,u,rfl,hN,hM⟩,hb⟩
theorem SubC {w:World}{l1 l2 l3 l4:Nat}(n m n' m':Bool) (X Y X' Y':Nat) (e f e' f':Int) {v u v' u':Value}(N1:Nt l1 w v X) (N2:Nt l2 w u Y) (N3:Nt l3 w v' X') (N4:Nt l4 w u' Y') (lX:(ws X).length≤8192) (lY:(ws Y).length≤8192) (lX':(ws X').length≤8192) (lY':(ws Y').length≤8192)
 (be:-1048576≤e∧e≤1048576) (bf:-1048576≤f∧f≤1048576) (be':-1048576≤e'∧e'≤1048576) (bf':-1048576≤f'∧f'≤1048576) (hT:Tab w) (h1:errN X n e Y m f=0) (h2:errN X' n' e' Y' m' f'=0) (o p:Bool×Nat×Int) (hA:bothR (subD11 (mulD (mkS n X e) (mkS m' Y' f')) (mulD (mkS n' X' e') (mkS m Y f))) (mulD (mkS m Y f) (mkS m' Y' f'))=(0,some o,some p)) :
 Calls Tryz.prog 25 #[.agg #[.bool n,v,.int .i64 e,.bool m,u,.int .i64 f],.agg #[.bool n',v',.int .i64 e',.bool m',u',.int .i64 f']] w fun r w'=>(∃ v u,r=.returned (.tuple #[.agg #[.bool o.1,v,.int .i64 o.2.2,.bool p.1,u,.int .i64 p.2.2],.int .i64 0])∧Nt w.heap.size w' v o.2.1∧Nt w.heap.size w' u p.2.1)∧Below w.heap.size w w':=by
 obtain ⟨a1,c1,rfl,A1⟩:=N1.arg (by omega)
 obtain ⟨a2,c2,rfl,A2⟩:=N2.arg (by omega)
 obtain ⟨a3,c3,rfl,A3⟩:=N3.arg (by omega)
 obtain ⟨a4,c4,rfl,A4⟩:=N4.arg (by omega)
 have h0:=errL_two0 ⟨n,.slice a1 (ws X).length c1,X,e,m,.slice a2 (ws Y).length c2,Y,f⟩ ⟨n',.slice a3 (ws X').length c3,X',e',m',.slice a4 (ws Y').length c4,Y',f'⟩ h1 h2;have:=Sub11 (X:=X) (Y:=Y) (n:=n) (m:=m) (e:=e) (f:=f) (X':=X') (Y':=Y') (n':=n') (m':=m') (e':=e') (f':=f') ⟨N1.av (by omega),N2.av (by omega),by simp only;omega,by simp only;omega⟩ ⟨N3.av (by omega),N4.av (by omega),by simp only;omega,by simp only;omega⟩ hT _ rfl
 rw [h0,if_pos rfl,hA] at this;refine this.mono ?_;rintro r w' ⟨⟨v,u,rfl,hN,hM,_⟩,hb⟩;exact ⟨⟨v,u,rfl,hN,hM⟩,hb⟩
theorem MulC {w:World}{l1 l2 l3 l4:Nat}(n m n' m':Bool) (X Y X' Y':Nat) (e f e' f':Int) {v u v' u':Value}(N1:Nt l1 w v X) (N2:Nt l2 w u Y) (N3:Nt l3 w v' X') (N4:Nt l4 w u' Y') (lX:(ws X).length≤8192) (lY:(ws Y).length≤8192) (lX':(ws X').length≤8192) (lY':(ws Y').length≤8192)
 (be:-1048576≤e∧e≤1048576) (bf:-1048576≤f∧f≤1048576) (be':-1048576≤e'∧e'≤1048576) (bf':-1048576≤f'∧f'≤1048576) (hT:Tab w) (h1:errN X n e Y m f=0) (h2:errN X' n' e' Y' m' f'=0) (o p:Bool×Nat×Int) (hA:bothR (mulD (mkS n X e) (mkS n' X' e')) (mulD (mkS m Y f) (mkS m' Y' f'))=(0,some o,some p)) :
 Calls Tryz.prog 26 #[.agg #[.bool n,v,.int .i64 e,.bool m,u,.int .i64 f],.agg #[.bool n',v',.int .i64 e',.bool m',u',.int .i64 f']] w fun r w'=>(∃ v u,r=.returned (.tuple #[.agg #[.bool o.1,v,.int .i64 o.2.2,.bool p.1,u,.int .i64 p.2.2],.int .i64 0])∧Nt w.heap.size w' v o.2.1∧Nt w.heap.size w' u p.2.1)∧Below w.heap.size w w':=by
 obtain ⟨a1,c1,rfl,A1⟩:=N1.arg (by omega)
 obtain ⟨a2,c2,rfl,A2⟩:=N2.arg (by omega)
 obtain ⟨a3,c3,rfl,A3⟩:=N3.arg (by omega)
 obtain ⟨a4,c4,rfl,A4⟩:=N4.arg (by omega)
 have h0:=errL_two0 ⟨n,.slice a1 (ws X).length c1,X,e,m,.slice a2 (ws Y).length c2,Y,f⟩ ⟨n',.slice a3 (ws X').length c3,X',e',m',.slice a4 (ws Y').length c4,Y',f'⟩ h1 h2;have:=Mul11 (X:=X) (Y:=Y) (n:=n) (m:=m) (e:=e) (f:=f) (X':=X') (Y':=Y') (n':=n') (m':=m') (e':=e') (f':=f') ⟨N1.av (by omega),N2.av (by omega),by simp only;omega,by simp only;omega⟩ ⟨N3.av (by omega),N4.av (by omega),by simp only;omega,by simp only;omega⟩ hT _ rfl
 rw [h0,if_pos rfl,hA] at this;refine this.mono ?_;rintro r w' ⟨⟨v,u,rfl,hN,hM,_⟩,hb⟩;exact ⟨⟨v,u,rfl,hN,hM⟩,hb⟩
theorem DivC {w:World}{l1 l2 l3 l4:Nat}(n m n' m':Bool) (X Y X' Y':Nat) (e f e' f':Int) {v u v' u':Value}(N1:Nt l1 w v X) (N2:Nt l2 w u Y) (N3:Nt l3 w v' X') (N4:Nt l4 w u' Y') (lX:(ws X).length≤8192) (lY:(ws Y).length≤8192) (lX':(ws X').length≤8192) (lY':(ws Y').length≤8192)
 (be:-1048576≤e∧e≤1048576) (bf:-1048576≤f∧f≤1048576) (be':-1048576≤e'∧e'≤1048576) (bf':-1048576≤f'∧f'≤1048576) (hT:Tab w) (h1:errN X n e Y m f=0) (h2:errN X' n' e' Y' m' f'=0) (o p:Bool×Nat×Int) (hA:divA (mkS n X e) (mkS m Y f) (mkS n' X' e') (mkS m' Y' f')=(0,some o,some p)) :
 Calls Tryz.prog 27 #[.agg #[.bool n,v,.int .i64 e,.bool m,u,.int .i64 f],.agg #[.bool n',v',.int .i64 e',.bool m',u',.int .i64 f']] w fun r w'=>(∃ v u,r=.returned (.tuple #[.agg #[.bool o.1,v,.int .i64 o.2.2,.bool p.1,u,.int .i64 p.2.2],.int .i64 0])∧Nt w.heap.size w' v o.2.1∧Nt w.heap.size w' u p.2.1)∧Below w.heap.size w w':=by
 obtain ⟨a1,c1,rfl,A1⟩:=N1.arg (by omega)
 obtain ⟨a2,c2,rfl,A2⟩:=N2.arg (by omega)
 obtain ⟨a3,c3,rfl,A3⟩:=N3.arg (by omega)
 obtain ⟨a4,c4,rfl,A4⟩:=N4.arg (by omega)
 have h0:=errL_two0 ⟨n,.slice a1 (ws X).length c1,X,e,m,.slice a2 (ws Y).length c2,Y,f⟩ ⟨n',.slice a3 (ws X').length c3,X',e',m',.slice a4 (ws Y').length c4,Y',f'⟩ h1 h2;have:=Div11 (X:=X) (Y:=Y) (n:=n) (m:=m) (e:=e) (f:=f) (X':=X') (Y':=Y') (n':=n') (m':=m') (e':=e') (f':=f') ⟨N1.av (by omega),N2.av (by omega),by simp only;omega,by simp only;omega⟩ ⟨N3.av (by omega),N4.av (by omega),by simp only;omega,by simp only;omega⟩ hT _ rfl
 rw [h0,if_pos rfl,hA] at this;refine this.mono ?_;rintro r w' ⟨⟨v,u,rfl,hN,hM,_⟩,hb⟩;exact ⟨⟨v,u,rfl,hN,hM⟩,hb⟩
theorem CmpC {w:World}{l1 l2 l3 l4:Nat}(n m n' m':Bool) (X Y X' Y':Nat) (e f e' f':Int) {v u v' u':Value}(N1:Nt l1 w v X) (N2:Nt l2 w u Y) (N3:Nt l3 w v' X') (N4:Nt l4 w u' Y') (lX:(ws X).length≤8192) (lY:(ws Y).length≤8192) (lX':(ws X').length≤8192) (lY':(ws Y').length≤8192)
 (be:-1048576≤e∧e≤1048576) (bf:-1048576≤f∧f≤1048576) (be':-1048576≤e'∧e'≤1048576) (bf':-1048576≤f'∧f'≤1048576) (hT:Tab w) (h1:errN X n e Y m f=0) (h2:errN X' n' e' Y' m' f'=0) (z:Int) (hA:cmpA (mkS n X e) (mkS m Y f) (mkS n' X' e') (mkS m' Y' f')=z) :
 Calls Tryz.prog 28 #[.agg #[.bool n,v,.int .i64 e,.bool m,u,.int .i64 f],.agg #[.bool n',v',.int .i64 e',.bool m',u',.int .i64 f']] w fun r w'=>r=.returned (.tuple #[.int .i64 z,.int .i64 0])∧Below w.heap.size w w':=by
 obtain ⟨a1,c1,rfl,A1⟩:=N1.arg (by omega)
 obtain ⟨a2,c2,rfl,A2⟩:=N2.arg (by omega)
 obtain ⟨a3,c3,rfl,A3⟩:=N3.arg (by omega)
 obtain ⟨a4,c4,rfl,A4⟩:=N4.arg (by omega)
 have h0:=errL_two0 ⟨n,.slice a1 (ws X).length c1,X,e,m,.slice a2 (ws Y).length c2,Y,f⟩ ⟨n',.slice a3 (ws X').length c3,X',e',m',.slice a4 (ws Y').length c4,Y',f'⟩ h1 h2;have:=Cmp11 (X:=X) (Y:=Y) (n:=n) (m:=m) (e:=e) (f:=f) (X':=X') (Y':=Y') (n':=n') (m':=m') (e':=e') (f':=f') ⟨N1.av (by omega),N2.av (by omega),by simp only;omega,by simp only;omega⟩ ⟨N3.av (by omega),N4.av (by omega),by simp only;omega,by simp only;omega⟩ hT _ rfl
 rw [h0,if_pos rfl,hA] at this;exact this
theorem fw1:mkS false 1 0=some (false,1,0):=(mkS_sm false 1 0 (by decide) (by decide) (by decide) (by decide))
theorem fw2:mkS false 1 1=some (false,1,1):=(mkS_sm false 1 1 (by decide) (by decide) (by decide) (by decide))
theorem fw3:mkS false 3 0=some (false,3,0):=(mkS_sm false 3 0 (by decide) (by decide) (by decide) (by decide))
theorem fw4:mkS false 1 2=some (false,1,2):=(mkS_sm false 1 2 (by decide) (by decide) (by decide) (by decide))
theorem fw5:mkS false 5 0=some (false,5,0):=(mkS_sm false 5 0 (by decide) (by decide) (by decide) (by decide))
theorem fw6:mkS false 3 1=some (false,3,1):=(mkS_sm false 3 1 (by decide) (by decide) (by decide) (by decide))
theorem fw0:mkS false 0 0=some (false,0,0):=(mkS_zero _ _)
theorem fwm1:mkS true 1 0=some (true,1,0):=(mkS_sm true 1 0 (by decide) (by decide) (by decide) (by decide))
theorem fwm3:mkS true 3 0=some (true,3,0):=(mkS_sm true 3 0 (by decide) (by decide) (by decide) (by decide))
theorem fwm4:mkS true 1 2=some (true,1,2):=(mkS_sm true 1 2 (by decide) (by decide) (by decide) (by decide))
theorem e12:errN 1 false 0 1 false 1=0:=errN_ok fw1 fw2 (by decide) rfl
theorem e13:errN 1 false 0 3 false 0=0:=errN_ok fw1 fw3 (by decide) rfl
theorem e23:errN 1 false 1 3 false 0=0:=errN_ok fw2 fw3 (by decide) rfl
theorem em34:errN 3 true 0 1 false 2=0:=errN_ok fwm3 fw4 (by decide) rfl
theorem em12:errN 1 true 0 1 false 1=0:=errN_ok fwm1 fw2 (by decide) rfl
theorem mulF_sm (n m:Bool) (X Y:Nat) (e f:Int) (h:X*Y%2=1) (hb:X*Y<16) (h0:-1048576≤e+f) (h1:e+f≤1048576):mulD (some (n,X,e)) (some (m,Y,f))=some (n != m,X*Y,e+f):=mkS_sm _ _ _ h hb h0 h1
theorem aAdd:bothR (addD (mulD (mkS false 1 0) (mkS false 3 0)) (mulD (mkS false 1 0) (mkS false 1 1))) (mulD (mkS false 1 1) (mkS false 3 0))=(0,some (false,5,0),some (false,3,1)):=by
 rw [fw1,fw2,fw3,mulF_sm _ _ _ _ _ _ (by decide) (by decide) (by decide) (by decide),mulF_sm _ _ _ _ _ _ (by decide) (by decide) (by decide) (by decide),mulF_sm _ _ _ _ _ _ (by decide) (by decide) (by decide) (by decide)]
 have:addD (some (false != false,1*3,0+0)) (some (false != false,1*1,0+1))=some (false,5,0):=by
  show addUp false 1 1 false 3 0=_
  unfold addUp;rw [if_neg (by decide +kernel),if_pos rfl]
  exact fw5
 rw [this];rfl
theorem aSub:bothR (subD11 (mulD (mkS false 1 0) (mkS false 1 1)) (mulD (mkS false 1 0) (mkS false 1 1))) (mulD (mkS false 1 1) (mkS false 1 1))=(0,some (false,0,0),some (false,1,2)):=by
 rw [fw1,fw2,mulF_sm _ _ _ _ _ _ (by decide) (by decide) (by decide) (by decide),mulF_sm _ _ _ _ _ _ (by decide) (by decide) (by decide) (by decide)]
 have:subD11 (some (false != false,1*1,0+1)) (some (false != false,1*1,0+1))=some (false,0,0):=by
  show addD (some (false,1,1)) (mkS true 1 1)=_
  rw [mkS_sm true 1 1 (by decide) (by decide) (by decide) (by decide)]
  show addUp false 1 1 true 1 1=_
  unfold addUp;rw [if_neg (by decide +kernel),if_neg (by decide),if_pos (by decide)]
  exact mkS_zero _ _
 rw [this];rfl
theorem aMul:bothR (mulD (mkS false 1 0) (mkS false 1 1)) (mulD (mkS false 1 1) (mkS false 3 0))=(0,some (false,1,1),some (false,3,1)):=by
 rw [fw1,fw2,fw3,mulF_sm _ _ _ _ _ _ (by decide) (by decide) (by decide) (by decide),mulF_sm _ _ _ _ _ _ (by decide) (by decide) (by decide) (by decide)]
 rfl
theorem aDiv:divA (mkS false 1 0) (mkS false 1 1) (mkS true 3 0) (mkS false 1 2)=(0,some (true,1,2),some (false,3,1)):=by
 rw [fw1,fw2,fwm3,fw4];unfold divA;rw [mulF_sm _ _ _ _ _ _ (by decide) (by decide) (by decide) (by decide),mulF_sm _ _ _ _ _ _ (by decide) (by decide) (by decide) (by decide),if_neg (by decide)]
 show (0,mkS true 1 2,mkS false 3 1)=_
 rw [fwm4,fw6]
theorem aCmp:cmpA (mkS true 1 0) (mkS false 1 1) (mkS false 1 0) (mkS false 3 0)=-1:=by
 rw [fwm1,fw2,fw1,fw3]
 decide +kernel
theorem rat_eq (n d:Int) (n1 m1:Bool) (X Y:Nat) (e f:Int) (h1:whlO n=some (n1,X,e)) (h2:whlO d=some (m1,Y,f)) (hn:-100≤n∧n≤100) (hd:-100≤d∧d≤100) (w:World) :
 Calls Tryz.prog 11 #[.int .i64 n,.int .i64 d] w fun r w'=>(∃ v u,r=.returned (.agg #[.bool n1,v,.int .i64 e,.bool m1,u,.int .i64 f])∧Nt w.heap.size w' v X∧Nt w.heap.size w' u Y)∧Below w.heap.size w w':=by
 have:=ratio_any n d w (by omega) (by omega) (by omega) (by omega)
 rw [h1,h2] at this;exact this
set_option maxRecDepth 100000 in
theorem awake11 (w:World) (hT:Tab w):Calls Tryz.prog 8 #[] w fun r w'=>r=.returned (.bool true)∧Below w.heap.size w w':=by
 have HT:=sd hT;clear hT;have hbel:=Below.refl w.heap.size w;have S0:=sd hbel;clear hbel;go_enter Tryz.func8,Tryz.ntmps8;obtain bel:=S0.out;have HC:=hid (rat_eq 1 3 false false 1 3 0 0 w1 w3 (by decide) (by decide) w)
 clear bel
 go_wp2_with fail
 refine HC.out.mono ?_;rintro r u1 ⟨⟨v,u,rfl,hN,hM⟩,hb⟩;obtain ⟨xa,cxa,rfl,-⟩:=hN.arg (by have:=len_sm (X:=1) (by decide);omega)
 obtain ⟨ya,cya,rfl,-⟩:=hM.arg (by have:=len_sm (X:=3) (by decide);omega)
 clear HC;obtain bel:=S0.out;have hbn:=bel.trans (hb.mono bel.size);have S1:=sd (ai hbn (ai (hN.mono bel.size) (hM.mono bel.size)));clear bel;clear hb hbn S0;clear hN hM;obtain ⟨bel,Nax,Nay⟩:=S1.out;have HC:=hid (QuotC false false 1 3 0 0 0 4599676419421066581 0 Nax Nay (len_sm (by decide)) (len_sm (by decide)) (by decide) (by decide) (HT.out.belows bel) (fun v u=>(quoR_ok rndS ⟨false,v,1,0,false,u,3,0⟩ 0 fw1 fw3 (by decide) rfl (by decide) (by decide)).trans q13a))
 clear bel Nax Nay
 go_wp2_with fail
 refine HC.out.mono ?_;rintro r u2 ⟨rfl,hb⟩;clear HC;obtain ⟨bel,Nax,Nay⟩:=S1.out;have hbn:=bel.trans (hb.mono bel.size);have S2:=sd hbn;clear bel Nax Nay;clear hb hbn S1;obtain bel:=S2.out;have HC:=hid (rat_eq 1 3 false false 1 3 0 0 w1 w3 (by decide) (by decide) u2)
 clear bel
 go_wp2_with fail
 refine HC.out.mono ?_;rintro r u3 ⟨⟨v,u,rfl,hN,hM⟩,hb⟩;obtain ⟨xb,cxb,rfl,-⟩:=hN.arg (by have:=len_sm (X:=1) (by decide);omega)
 obtain ⟨yb,cyb,rfl,-⟩:=hM.arg (by have:=len_sm (X:=3) (by decide);omega)
 clear HC;obtain bel:=S2.out;have hbn:=bel.trans (hb.mono bel.size);have S3:=sd (ai hbn (ai (hN.mono bel.size) (hM.mono bel.size)));clear bel;clear hb hbn S2;clear hN hM;obtain ⟨bel,Nbx,Nby⟩:=S3.out;have HC:=hid (QuotC false false 1 3 0 0 2 4599676419421066582 0 Nbx Nby (len_sm (by decide)) (len_sm (by decide)) (by decide) (by decide) (HT.out.belows bel) (fun v u=>(quoR_ok rndS ⟨false,v,1,0,false,u,3,0⟩ 2 fw1 fw3 (by decide) rfl (by decide) (by decide)).trans q13b))
 clear bel Nbx Nby
 go_wp2_with fail
 refine HC.out.mono ?_;rintro r u4 ⟨rfl,hb⟩;clear HC;obtain ⟨bel,Nbx,Nby⟩:=S3.out;have hbn:=bel.trans (hb.mono bel.size);have S4:=sd hbn;clear bel Nbx Nby;clear hb hbn S3;obtain bel:=S4.out;have HC:=hid (rat_eq 2 1 false false 1 1 1 0 w2 w1 (by decide) (by decide) u4)
 clear bel
 go_wp2_with fail
 refine HC.out.mono ?_;rintro r u5 ⟨⟨v,u,rfl,hN,hM⟩,hb⟩;obtain ⟨xc,cxc,rfl,-⟩:=hN.arg (by have:=len_sm (X:=1) (by decide);omega)
 obtain ⟨yc,cyc,rfl,-⟩:=hM.arg (by have:=len_sm (X:=1) (by decide);omega)
 clear HC;obtain bel:=S4.out;have hbn:=bel.trans (hb.mono bel.size);have S5:=sd (ai hbn (ai (hN.mono bel.size) (hM.mono bel.size)));clear bel;clear hb hbn S4;clear hN hM;obtain ⟨bel,Ncx,Ncy⟩:=S5.out;have HC:=hid (RootC false false 1 1 1 0 0 4609047870845172685 0 Ncx Ncy (len_sm (by decide)) (len_sm (by decide)) (by decide) (by decide) (HT.out.belows bel) (fun v u=>(sqrR_ok rndS ⟨false,v,1,1,false,u,1,0⟩ 0 fw2 fw1 (by decide) rfl (by decide) (by decide)).trans s21a))
 clear bel Ncx Ncy
 go_wp2_with fail
 refine HC.out.mono ?_;rintro r u6 ⟨rfl,hb⟩;clear HC;obtain ⟨bel,Ncx,Ncy⟩:=S5.out;have hbn:=bel.trans (hb.mono bel.size);have S6:=sd hbn;clear bel Ncx Ncy;clear hb hbn S5;obtain bel:=S6.out;have HC:=hid (rat_eq 1 3 false false 1 3 0 0 w1 w3 (by decide) (by decide) u6)
 clear bel
 go_wp2_with fail
 refine HC.out.mono ?_;rintro r u7 ⟨⟨v,u,rfl,hN,hM⟩,hb⟩;obtain ⟨xd,cxd,rfl,-⟩:=hN.arg (by have:=len_sm (X:=1) (by decide);omega)
 obtain ⟨yd,cyd,rfl,-⟩:=hM.arg (by have:=len_sm (X:=3) (by decide);omega)
 clear HC;obtain bel:=S6.out;have hbn:=bel.trans (hb.mono bel.size);have S7:=sd (ai hbn (ai (hN.mono bel.size) (hM.mono bel.size)));clear bel;clear hb hbn S6;clear hN hM;obtain ⟨bel,Ndx,Ndy⟩:=S7.out;have HC:=hid (Quot32C false false 1 3 0 0 0 1051372203 0 Ndx Ndy (len_sm (by decide)) (len_sm (by decide)) (by decide) (by decide) (HT.out.belows bel) (fun v u=>(quoR_ok S.rndS ⟨false,v,1,0,false,u,3,0⟩ 0 fw1 fw3 (by decide) rfl (by decide) (by decide)).trans q13c))
 clear bel Ndx Ndy
 go_wp2_with fail
 refine HC.out.mono ?_;rintro r u8 ⟨rfl,hb⟩;clear HC;obtain ⟨bel,Ndx,Ndy⟩:=S7.out;have hbn:=bel.trans (hb.mono bel.size);have S8:=sd hbn;clear bel Ndx Ndy;clear hb hbn S7;obtain bel:=S8.out;have HC:=hid (rat_eq 2 1 false false 1 1 1 0 w2 w1 (by decide) (by decide) u8)
 clear bel
 go_wp2_with fail
 refine HC.out.mono ?_;rintro r u9 ⟨⟨v,u,rfl,hN,hM⟩,hb⟩;obtain ⟨xk,cxk,rfl,-⟩:=hN.arg (by have:=len_sm (X:=1) (by decide);omega)
 obtain ⟨yk,cyk,rfl,-⟩:=hM.arg (by have:=len_sm (X:=1) (by decide);omega)
 clear HC;obtain bel:=S8.out;have hbn:=bel.trans (hb.mono bel.size);have S9:=sd (ai hbn (ai (hN.mono bel.size) (hM.mono bel.size)));clear bel;clear hb hbn S8;clear hN hM;obtain ⟨bel,Nkx,Nky⟩:=S9.out;have HC:=hid (Root32C false false 1 1 1 0 0 1068827891 0 Nkx Nky (len_sm (by decide)) (len_sm (by decide)) (by decide) (by decide) (HT.out.belows bel) (fun v u=>(sqrR_ok S.rndS ⟨false,v,1,1,false,u,1,0⟩ 0 fw2 fw1 (by decide) rfl (by decide) (by decide)).trans s21b))
 clear bel Nkx Nky
 go_wp2_with fail
 refine HC.out.mono ?_;rintro r u10 ⟨rfl,hb⟩;clear HC;obtain ⟨bel,Nkx,Nky⟩:=S9.out;have hbn:=bel.trans (hb.mono bel.size);have S10:=sd hbn;clear bel Nkx Nky;clear hb hbn S9;obtain bel:=S10.out;have HC:=hid (rat_eq 1 0 false false 1 0 0 0 w1 w0 (by decide) (by decide) u10)
 clear bel
 go_wp2_with fail
 refine HC.out.mono ?_;rintro r u11 ⟨⟨v,u,rfl,hN,hM⟩,hb⟩;obtain ⟨xj,cxj,rfl,-⟩:=hN.arg (by have:=len_sm (X:=1) (by decide);omega)
 obtain ⟨yj,cyj,rfl,-⟩:=hM.arg (by have:=len_sm (X:=0) (by decide);omega)
 clear HC;obtain bel:=S10.out;have hbn:=bel.trans (hb.mono bel.size);have S11:=sd (ai hbn (ai (hN.mono bel.size) (hM.mono bel.size)));clear bel;clear hb hbn S10;clear hN hM;obtain ⟨bel,Njx,Njy⟩:=S11.out;have HC:=hid (QuotC false false 1 0 0 0 0 0 21 Njx Njy (len_sm (by decide)) (len_sm (by decide)) (by decide) (by decide) (HT.out.belows bel) (fun v u=>by unfold quoR;rw [if_neg (by decide),errL_one];simp only;unfold errN;rw [fw0,fw1];rfl))
 clear bel Njx Njy
 go_wp2_with fail
 refine HC.out.mono ?_;rintro r u12 ⟨rfl,hb⟩;clear HC;obtain ⟨bel,Njx,Njy⟩:=S11.out;have hbn:=bel.trans (hb.mono bel.size);have S12:=sd hbn;clear bel Njx Njy;clear hb hbn S11;obtain bel:=S12.out;have HC:=hid (rat_eq (-1) 4 true false 1 1 0 2 wm1 w4 (by decide) (by decide) u12)
 clear bel
 go_wp2_with fail
 refine HC.out.mono ?_;rintro r u13 ⟨⟨v,u,rfl,hN,hM⟩,hb⟩;obtain ⟨xl,cxl,rfl,-⟩:=hN.arg (by have:=len_sm (X:=1) (by decide);omega)
 obtain ⟨yl,cyl,rfl,-⟩:=hM.arg (by have:=len_sm (X:=1) (by decide);omega)
 clear HC;obtain bel:=S12.out;have hbn:=bel.trans (hb.mono bel.size);have S13:=sd (ai hbn (ai (hN.mono bel.size) (hM.mono bel.size)));clear bel;clear hb hbn S12;clear hN hM;obtain ⟨bel,Nlx,Nly⟩:=S13.out;have HC:=hid (RootC true false 1 1 0 2 0 0 110 Nlx Nly (len_sm (by decide)) (len_sm (by decide)) (by decide) (by decide) (HT.out.belows bel) (fun v u=>sqrR_neg rndS ⟨true,v,1,0,false,u,1,2⟩ 0 fwm1 fw4 (by decide) rfl (by decide) (by decide)))
 clear bel Nlx Nly
 go_wp2_with fail
 refine HC.out.mono ?_;rintro r u14 ⟨rfl,hb⟩;clear HC;obtain ⟨bel,Nlx,Nly⟩:=S13.out;have hbn:=bel.trans (hb.mono bel.size);have S14:=sd hbn;clear bel Nlx Nly;clear hb hbn S13;obtain bel:=S14.out;have HC:=hid (rat_eq 1 (-3) false true 1 3 0 0 w1 wm3 (by decide) (by decide) u14)
 clear bel
 go_wp2_with fail
 refine HC.out.mono ?_;rintro r u15 ⟨⟨v,u,rfl,hN,hM⟩,hb⟩;obtain ⟨xm,cxm,rfl,-⟩:=hN.arg (by have:=len_sm (X:=1) (by decide);omega)
 obtain ⟨ym,cym,rfl,-⟩:=hM.arg (by have:=len_sm (X:=3) (by decide);omega)
 clear HC;obtain bel:=S14.out;have hbn:=bel.trans (hb.mono bel.size);have S15:=sd (ai hbn (ai (hN.mono bel.size) (hM.mono bel.size)));clear bel;clear hb hbn S14;clear hN hM;obtain ⟨bel,Nmx,Nmy⟩:=S15.out;have HC:=hid (QuotC false true 1 3 0 0 0 0 1 Nmx Nmy (len_sm (by decide)) (len_sm (by decide)) (by decide) (by decide) (HT.out.belows bel) (fun v u=>by unfold quoR;rw [if_neg (by decide),errL_one];simp only;unfold errN;rfl))
 clear bel Nmx Nmy
 go_wp2_with fail
 refine HC.out.mono ?_;rintro r u16 ⟨rfl,hb⟩;clear HC;obtain ⟨bel,Nmx,Nmy⟩:=S15.out;have hbn:=bel.trans (hb.mono bel.size);have S16:=sd hbn;clear bel Nmx Nmy;clear hb hbn S15;obtain bel:=S16.out;have HC:=hid (rat_eq 1 2 false false 1 1 0 1 w1 w2 (by decide) (by decide) u16)
 clear bel
 go_wp2_with fail
 refine HC.out.mono ?_;rintro r u17 ⟨⟨v,u,rfl,hN,hM⟩,hb⟩;obtain ⟨xsp,cxsp,rfl,-⟩:=hN.arg (by have:=len_sm (X:=1) (by decide);omega)
 obtain ⟨ysp,cysp,rfl,-⟩:=hM.arg (by have:=len_sm (X:=1) (by decide);omega)
 clear HC;obtain bel:=S16.out;have hbn:=bel.trans (hb.mono bel.size);have S17:=sd (ai hbn (ai (hN.mono bel.size) (hM.mono bel.size)));clear bel;clear hb hbn S16;clear hN hM;obtain ⟨bel,Nspx,Nspy⟩:=S17.out;have HC:=hid (rat_eq 1 3 false false 1 3 0 0 w1 w3 (by decide) (by decide) u17)
 clear bel Nspx Nspy
 go_wp2_with fail
 refine HC.out.mono ?_;rintro r u18 ⟨⟨v,u,rfl,hN,hM⟩,hb⟩;obtain ⟨xsq,cxsq,rfl,-⟩:=hN.arg (by have:=len_sm (X:=1) (by decide);omega)
 obtain ⟨ysq,cysq,rfl,-⟩:=hM.arg (by have:=len_sm (X:=3) (by decide);omega)
 clear HC;obtain ⟨bel,Nspx,Nspy⟩:=S17.out;have hbn:=bel.trans (hb.mono bel.size);have S18:=sd (ai hbn (ai (Nspx.below hb) (ai (Nspy.below hb) (ai (hN.mono bel.size) (hM.mono bel.size)))));clear bel Nspx Nspy;clear hb hbn S17;clear hN hM;obtain ⟨bel,Nspx,Nspy,Nsqx,Nsqy⟩:=S18.out;have HC:=hid (AddC false false false false 1 1 1 3 0 1 0 0 Nspx Nspy Nsqx Nsqy (len_sm (by decide)) (len_sm (by decide)) (len_sm (by decide)) (len_sm (by decide)) (by decide) (by decide) (by decide) (by decide) (HT.out.belows bel) e12 e13 (false,5,0) (false,3,1) aAdd)
 clear bel Nspx Nspy Nsqx Nsqy
 go_wp2_with fail
 refine HC.out.mono ?_;rintro r u19 ⟨⟨v,u,rfl,hN,hM⟩,hb⟩;obtain ⟨xs,cxs,rfl,-⟩:=hN.arg (by have:=len_sm (X:=5) (by decide);omega)
 obtain ⟨ys,cys,rfl,-⟩:=hM.arg (by have:=len_sm (X:=3) (by decide);omega)
 clear HC;obtain ⟨bel,Nspx,Nspy,Nsqx,Nsqy⟩:=S18.out;have hbn:=bel.trans (hb.mono bel.size);have S19:=sd (ai hbn (ai (hN.mono bel.size) (hM.mono bel.size)));clear bel Nspx Nspy Nsqx Nsqy;clear hb hbn S18;clear hN hM;simp only;obtain ⟨A20,hU20⟩:∃ U,U=u19.alloc (.cells #[.bool false,.slice xs (ws 5).length cxs,.int .i64 0,.bool false,.slice ys (ws 3).length cys,.int .i64 1] 30):=⟨_,rfl⟩;obtain ⟨bel,Nsx,Nsy⟩:=S19.out;have hbA:Below u19.heap.size u19 A20:=by rw [hU20];exact below_alloc _ _
 have hbB:=bel.trans (hbA.mono bel.size);have T20:=ai hbB (ai (Nsx.below hbA) (ai (Nsy.below hbA) (show Rq A20 u19.heap.size false (.slice xs (ws 5).length cxs) 0 false (.slice ys (ws 3).length cys) 1 by rw [hU20];exact Rq.new _ _ _ _ _ _ _)))
 have S20:=sd T20;clear bel Nsx Nsy;clear hbA hbB T20 S19;obtain ⟨bel,Nsx,Nsy,Qs⟩:=S20.out;have HC:=hid (rat_eq 1 2 false false 1 1 0 1 w1 w2 (by decide) (by decide) A20)
 clear bel Nsx Nsy Qs
 go_upto_region 10 with fail
 rw [←hU20];clear hU20
 go_wp2_with fail
 refine HC.out.mono ?_;rintro r u21 ⟨⟨v,u,rfl,hN,hM⟩,hb⟩;obtain ⟨xtp,cxtp,rfl,-⟩:=hN.arg (by have:=len_sm (X:=1) (by decide);omega)
 obtain ⟨ytp,cytp,rfl,-⟩:=hM.arg (by have:=len_sm (X:=1) (by decide);omega)
 clear HC;obtain ⟨bel,Nsx,Nsy,Qs⟩:=S20.out;have hbn:=bel.trans (hb.mono bel.size);have S21:=sd (ai hbn (ai (Nsx.below hb) (ai (Nsy.below hb) (ai (Qs.below hb) (ai (hN.mono bel.size) (hM.mono bel.size))))));clear bel Nsx Nsy Qs;clear hb hbn S20;clear hN hM;obtain ⟨bel,Nsx,Nsy,Qs,Ntpx,Ntpy⟩:=S21.out;have HC:=hid (rat_eq 1 2 false false 1 1 0 1 w1 w2 (by decide) (by decide) u21)
 clear bel Nsx Nsy Qs Ntpx Ntpy
 go_wp2_with fail
 refine HC.out.mono ?_;rintro r u22 ⟨⟨v,u,rfl,hN,hM⟩,hb⟩;obtain ⟨xtq,cxtq,rfl,-⟩:=hN.arg (by have:=len_sm (X:=1) (by decide);omega)
 obtain ⟨ytq,cytq,rfl,-⟩:=hM.arg (by have:=len_sm (X:=1) (by decide);omega)
 clear HC;obtain ⟨bel,Nsx,Nsy,Qs,Ntpx,Ntpy⟩:=S21.out;have hbn:=bel.trans (hb.mono bel.size);have S22:=sd (ai hbn (ai (Nsx.below hb) (ai (Nsy.below hb) (ai (Qs.below hb) (ai (Ntpx.below hb) (ai (Ntpy.below hb) (ai (hN.mono bel.size) (hM.mono bel.size))))))));clear bel Nsx Nsy Qs Ntpx Ntpy;clear hb hbn S21;clear hN hM;obtain ⟨bel,Nsx,Nsy,Qs,Ntpx,Ntpy,Ntqx,Ntqy⟩:=S22.out;have HC:=hid (SubC false false false false 1 1 1 1 0 1 0 1 Ntpx Ntpy Ntqx Ntqy (len_sm (by decide)) (len_sm (by decide)) (len_sm (by decide)) (len_sm (by decide)) (by decide) (by decide) (by decide) (by decide) (HT.out.belows bel) e12 e12 (false,0,0) (false,1,2) aSub)
 clear bel Nsx Nsy Qs Ntpx Ntpy Ntqx Ntqy
 go_wp2_with fail
 refine HC.out.mono ?_;rintro r u23 ⟨⟨v,u,rfl,hN,hM⟩,hb⟩;obtain ⟨xt,cxt,rfl,-⟩:=hN.arg (by have:=len_sm (X:=0) (by decide);omega)
 obtain ⟨yt,cyt,rfl,-⟩:=hM.arg (by have:=len_sm (X:=1) (by decide);omega)
 clear HC;obtain ⟨bel,Nsx,Nsy,Qs,Ntpx,Ntpy,Ntqx,Ntqy⟩:=S22.out;have hbn:=bel.trans (hb.mono bel.size);have S23:=sd (ai hbn (ai (Nsx.below hb) (ai (Nsy.below hb) (ai (Qs.below hb) (ai (hN.mono bel.size) (hM.mono bel.size))))));clear bel Nsx Nsy Qs Ntpx Ntpy Ntqx Ntqy;clear hb hbn S22;clear hN hM;simp only;obtain ⟨A24,hU24⟩:∃ U,U=u23.alloc (.cells #[.bool false,.slice xt (ws 0).length cxt,.int .i64 0,.bool false,.slice yt (ws 1).length cyt,.int .i64 2] 30):=⟨_,rfl⟩;obtain ⟨bel,Nsx,Nsy,Qs,Ntx,Nty⟩:=S23.out;have hbA:Below u23.heap.size u23 A24:=by rw [hU24];exact below_alloc _ _
 have hbB:=bel.trans (hbA.mono bel.size);have T24:=ai hbB (ai (Nsx.below hbA) (ai (Nsy.below hbA) (ai (Qs.below hbA) (ai (Ntx.below hbA) (ai (Nty.below hbA) (show Rq A24 u23.heap.size false (.slice xt (ws 0).length cxt) 0 false (.slice yt (ws 1).length cyt) 2 by rw [hU24];exact Rq.new _ _ _ _ _ _ _))))))
 have S24:=sd T24;clear bel Nsx Nsy Qs Ntx Nty;clear hbA hbB T24 S23;obtain ⟨bel,Nsx,Nsy,Qs,Ntx,Nty,Qt⟩:=S24.out;have HC:=hid (rat_eq 1 2 false false 1 1 0 1 w1 w2 (by decide) (by decide) A24)
 clear bel Nsx Nsy Qs Ntx Nty Qt
 go_upto_region 11 with fail
 rw [←hU24];clear hU24
 go_wp2_with fail
 refine HC.out.mono ?_;rintro r u25 ⟨⟨v,u,rfl,hN,hM⟩,hb⟩;obtain ⟨xup,cxup,rfl,-⟩:=hN.arg (by have:=len_sm (X:=1) (by decide);omega)
 obtain ⟨yup,cyup,rfl,-⟩:=hM.arg (by have:=len_sm (X:=1) (by decide);omega)
 clear HC;obtain ⟨bel,Nsx,Nsy,Qs,Ntx,Nty,Qt⟩:=S24.out;have hbn:=bel.trans (hb.mono bel.size);have S25:=sd (ai hbn (ai (Nsx.below hb) (ai (Nsy.below hb) (ai (Qs.below hb) (ai (Ntx.below hb) (ai (Nty.below hb) (ai (Qt.below hb) (ai (hN.mono bel.size) (hM.mono bel.size)))))))));clear bel Nsx Nsy Qs Ntx Nty Qt;clear hb hbn S24;clear hN hM;obtain ⟨bel,Nsx,Nsy,Qs,Ntx,Nty,Qt,Nupx,Nupy⟩:=S25.out;have HC:=hid (rat_eq 2 3 false false 1 3 1 0 w2 w3 (by decide) (by decide) u25)
 clear bel Nsx Nsy Qs Ntx Nty Qt Nupx Nupy
 go_wp2_with fail
 refine HC.out.mono ?_;rintro r u26 ⟨⟨v,u,rfl,hN,hM⟩,hb⟩;obtain ⟨xuq,cxuq,rfl,-⟩:=hN.arg (by have:=len_sm (X:=1) (by decide);omega)
 obtain ⟨yuq,cyuq,rfl,-⟩:=hM.arg (by have:=len_sm (X:=3) (by decide);omega)
 clear HC;obtain ⟨bel,Nsx,Nsy,Qs,Ntx,Nty,Qt,Nupx,Nupy⟩:=S25.out;have hbn:=bel.trans (hb.mono bel.size);have S26:=sd (ai hbn (ai (Nsx.below hb) (ai (Nsy.below hb) (ai (Qs.below hb) (ai (Ntx.below hb) (ai (Nty.below hb) (ai (Qt.below hb) (ai (Nupx.below hb) (ai (Nupy.below hb) (ai (hN.mono bel.size) (hM.mono bel.size)))))))))));clear bel Nsx Nsy Qs Ntx Nty Qt Nupx Nupy;clear hb hbn S25;clear hN hM;obtain ⟨bel,Nsx,Nsy,Qs,Ntx,Nty,Qt,Nupx,Nupy,Nuqx,Nuqy⟩:=S26.out;have HC:=hid (MulC false false false false 1 1 1 3 0 1 1 0 Nupx Nupy Nuqx Nuqy (len_sm (by decide)) (len_sm (by decide)) (len_sm (by decide)) (len_sm (by decide)) (by decide) (by decide) (by decide) (by decide) (HT.out.belows bel) e12 e23 (false,1,1) (false,3,1) aMul)
 clear bel Nsx Nsy Qs Ntx Nty Qt Nupx Nupy Nuqx Nuqy
 go_wp2_with fail
 refine HC.out.mono ?_;rintro r u27 ⟨⟨v,u,rfl,hN,hM⟩,hb⟩;obtain ⟨xu,cxu,rfl,-⟩:=hN.arg (by have:=len_sm (X:=1) (by decide);omega)
 obtain ⟨yu,cyu,rfl,-⟩:=hM.arg (by have:=len_sm (X:=3) (by decide);omega)
 clear HC;obtain ⟨bel,Nsx,Nsy,Qs,Ntx,Nty,Qt,Nupx,Nupy,Nuqx,Nuqy⟩:=S26.out;have hbn:=bel.trans (hb.mono bel.size);have S27:=sd (ai hbn (ai (Nsx.below hb) (ai (Nsy.below hb) (ai (Qs.below hb) (ai (Ntx.below hb) (ai (Nty.below hb) (ai (Qt.below hb) (ai (hN.mono bel.size) (hM.mono bel.size)))))))));clear bel Nsx Nsy Qs Ntx Nty Qt Nupx Nupy Nuqx Nuqy;clear hb hbn S26;clear hN hM;simp only;obtain ⟨A28,hU28⟩:∃ U,U=u27.alloc (.cells #[.bool false,.slice xu (ws 1).length cxu,.int .i64 1,.bool false,.slice yu (ws 3).length cyu,.int .i64 1] 30):=⟨_,rfl⟩;obtain ⟨bel,Nsx,Nsy,Qs,Ntx,Nty,Qt,Nux,Nuy⟩:=S27.out;have hbA:Below u27.heap.size u27 A28:=by rw [hU28];exact below_alloc _ _
 have hbB:=bel.trans (hbA.mono bel.size);have T28:=ai hbB (ai (Nsx.below hbA) (ai (Nsy.below hbA) (ai (Qs.below hbA) (ai (Ntx.below hbA) (ai (Nty.below hbA) (ai (Qt.below hbA) (ai (Nux.below hbA) (ai (Nuy.below hbA) (show Rq A28 u27.heap.size false (.slice xu (ws 1).length cxu) 1 false (.slice yu (ws 3).length cyu) 1 by rw [hU28];exact Rq.new _ _ _ _ _ _ _)))))))))
 have S28:=sd T28;clear bel Nsx Nsy Qs Ntx Nty Qt Nux Nuy;clear hbA hbB T28 S27;obtain ⟨bel,Nsx,Nsy,Qs,Ntx,Nty,Qt,Nux,Nuy,Qu⟩:=S28.out;have HC:=hid (rat_eq 1 2 false false 1 1 0 1 w1 w2 (by decide) (by decide) A28)
 clear bel Nsx Nsy Qs Ntx Nty Qt Nux Nuy Qu
 go_upto_region 12 with fail
 rw [←hU28];clear hU28
 go_wp2_with fail
 refine HC.out.mono ?_;rintro r u29 ⟨⟨v,u,rfl,hN,hM⟩,hb⟩;obtain ⟨xvp,cxvp,rfl,-⟩:=hN.arg (by have:=len_sm (X:=1) (by decide);omega)
 obtain ⟨yvp,cyvp,rfl,-⟩:=hM.arg (by have:=len_sm (X:=1) (by decide);omega)
 clear HC;obtain ⟨bel,Nsx,Nsy,Qs,Ntx,Nty,Qt,Nux,Nuy,Qu⟩:=S28.out;have hbn:=bel.trans (hb.mono bel.size);have S29:=sd (ai hbn (ai (Nsx.below hb) (ai (Nsy.below hb) (ai (Qs.below hb) (ai (Ntx.below hb) (ai (Nty.below hb) (ai (Qt.below hb) (ai (Nux.below hb) (ai (Nuy.below hb) (ai (Qu.below hb) (ai (hN.mono bel.size) (hM.mono bel.size))))))))))));clear bel Nsx Nsy Qs Ntx Nty Qt Nux Nuy Qu;clear hb hbn S28;clear hN hM;obtain ⟨bel,Nsx,Nsy,Qs,Ntx,Nty,Qt,Nux,Nuy,Qu,Nvpx,Nvpy⟩:=S29.out;have HC:=hid (rat_eq (-3) 4 true false 3 1 0 2 wm3 w4 (by decide) (by decide) u29)
 clear bel Nsx Nsy Qs Ntx Nty Qt Nux Nuy Qu Nvpx Nvpy
 go_wp2_with fail
 refine HC.out.mono ?_;rintro r u30 ⟨⟨v,u,rfl,hN,hM⟩,hb⟩;obtain ⟨xvq,cxvq,rfl,-⟩:=hN.arg (by have:=len_sm (X:=3) (by decide);omega)
 obtain ⟨yvq,cyvq,rfl,-⟩:=hM.arg (by have:=len_sm (X:=1) (by decide);omega)
 clear HC;obtain ⟨bel,Nsx,Nsy,Qs,Ntx,Nty,Qt,Nux,Nuy,Qu,Nvpx,Nvpy⟩:=S29.out;have hbn:=bel.trans (hb.mono bel.size);have S30:=sd (ai hbn (ai (Nsx.below hb) (ai (Nsy.below hb) (ai (Qs.below hb) (ai (Ntx.below hb) (ai (Nty.below hb) (ai (Qt.below hb) (ai (Nux.below hb) (ai (Nuy.below hb) (ai (Qu.below hb) (ai (Nvpx.below hb) (ai (Nvpy.below hb) (ai (hN.mono bel.size) (hM.mono bel.size))))))))))))));clear bel Nsx Nsy Qs Ntx Nty Qt Nux Nuy Qu Nvpx Nvpy;clear hb hbn S29;clear hN hM;obtain ⟨bel,Nsx,Nsy,Qs,Ntx,Nty,Qt,Nux,Nuy,Qu,Nvpx,Nvpy,Nvqx,Nvqy⟩:=S30.out;have HC:=hid (DivC false false true false 1 1 3 1 0 1 0 2 Nvpx Nvpy Nvqx Nvqy (len_sm (by decide)) (len_sm (by decide)) (len_sm (by decide)) (len_sm (by decide)) (by decide) (by decide) (by decide) (by decide) (HT.out.belows bel) e12 em34 (true,1,2) (false,3,1) aDiv)
 clear bel Nsx Nsy Qs Ntx Nty Qt Nux Nuy Qu Nvpx Nvpy Nvqx Nvqy
 go_wp2_with fail
 refine HC.out.mono ?_;rintro r u31 ⟨⟨v,u,rfl,hN,hM⟩,hb⟩;obtain ⟨xv,cxv,rfl,-⟩:=hN.arg (by have:=len_sm (X:=1) (by decide);omega)
 obtain ⟨yv,cyv,rfl,-⟩:=hM.arg (by have:=len_sm (X:=3) (by decide);omega)
 clear HC;obtain ⟨bel,Nsx,Nsy,Qs,Ntx,Nty,Qt,Nux,Nuy,Qu,Nvpx,Nvpy,Nvqx,Nvqy⟩:=S30.out;have hbn:=bel.trans (hb.mono bel.size);have S31:=sd (ai hbn (ai (Nsx.below hb) (ai (Nsy.below hb) (ai (Qs.below hb) (ai (Ntx.below hb) (ai (Nty.below hb) (ai (Qt.below hb) (ai (Nux.below hb) (ai (Nuy.below hb) (ai (Qu.below hb) (ai (hN.mono bel.size) (hM.mono bel.size))))))))))));clear bel Nsx Nsy Qs Ntx Nty Qt Nux Nuy Qu Nvpx Nvpy Nvqx Nvqy;clear hb hbn S30;clear hN hM;simp only;obtain ⟨A32,hU32⟩:∃ U,U=u31.alloc (.cells #[.bool true,.slice xv (ws 1).length cxv,.int .i64 2,.bool false,.slice yv (ws 3).length cyv,.int .i64 1] 30):=⟨_,rfl⟩;obtain ⟨bel,Nsx,Nsy,Qs,Ntx,Nty,Qt,Nux,Nuy,Qu,Nvx,Nvy⟩:=S31.out;have hbA:Below u31.heap.size u31 A32:=by rw [hU32];exact below_alloc _ _
 have hbB:=bel.trans (hbA.mono bel.size);have T32:=ai hbB (ai (Nsx.below hbA) (ai (Nsy.below hbA) (ai (Qs.below hbA) (ai (Ntx.below hbA) (ai (Nty.below hbA) (ai (Qt.below hbA) (ai (Nux.below hbA) (ai (Nuy.below hbA) (ai (Qu.below hbA) (ai (Nvx.below hbA) (ai (Nvy.below hbA) (show Rq A32 u31.heap.size true (.slice xv (ws 1).length cxv) 2 false (.slice yv (ws 3).length cyv) 1 by rw [hU32];exact Rq.new _ _ _ _ _ _ _))))))))))))
 have S32:=sd T32;clear bel Nsx Nsy Qs Ntx Nty Qt Nux Nuy Qu Nvx Nvy;clear hbA hbB T32 S31;obtain ⟨bel,Nsx,Nsy,Qs,Ntx,Nty,Qt,Nux,Nuy,Qu,Nvx,Nvy,Qv⟩:=S32.out;have HC:=hid (rat_eq (-1) 2 true false 1 1 0 1 wm1 w2 (by decide) (by decide) A32)
 clear bel Nsx Nsy Qs Ntx Nty Qt Nux Nuy Qu Nvx Nvy Qv
 go_upto_region 13 with fail
 rw [←hU32];clear hU32
 go_wp2_with fail
 refine HC.out.mono ?_;rintro r u33 ⟨⟨v,u,rfl,hN,hM⟩,hb⟩;obtain ⟨xxp,cxxp,rfl,-⟩:=hN.arg (by have:=len_sm (X:=1) (by decide);omega)
 obtain ⟨yxp,cyxp,rfl,-⟩:=hM.arg (by have:=len_sm (X:=1) (by decide);omega)
 clear HC;obtain ⟨bel,Nsx,Nsy,Qs,Ntx,Nty,Qt,Nux,Nuy,Qu,Nvx,Nvy,Qv⟩:=S32.out;have hbn:=bel.trans (hb.mono bel.size);have S33:=sd (ai hbn (ai (Nsx.below hb) (ai (Nsy.below hb) (ai (Qs.below hb) (ai (Ntx.below hb) (ai (Nty.below hb) (ai (Qt.below hb) (ai (Nux.below hb) (ai (Nuy.below hb) (ai (Qu.below hb) (ai (Nvx.below hb) (ai (Nvy.below hb) (ai (Qv.below hb) (ai (hN.mono bel.size) (hM.mono bel.size)))))))))))))));clear bel Nsx Nsy Qs Ntx Nty Qt Nux Nuy Qu Nvx Nvy Qv;clear hb hbn S32;clear hN hM;obtain ⟨bel,Nsx,Nsy,Qs,Ntx,Nty,Qt,Nux,Nuy,Qu,Nvx,Nvy,Qv,Nxpx,Nxpy⟩:=S33.out;have HC:=hid (rat_eq 1 3 false false 1 3 0 0 w1 w3 (by decide) (by decide) u33)
 clear bel Nsx Nsy Qs Ntx Nty Qt Nux Nuy Qu Nvx Nvy Qv Nxpx Nxpy
 go_wp2_with fail
 refine HC.out.mono ?_;rintro r u34 ⟨⟨v,u,rfl,hN,hM⟩,hb⟩;obtain ⟨xxq,cxxq,rfl,-⟩:=hN.arg (by have:=len_sm (X:=1) (by decide);omega)
 obtain ⟨yxq,cyxq,rfl,-⟩:=hM.arg (by have:=len_sm (X:=3) (by decide);omega)
 clear HC;obtain ⟨bel,Nsx,Nsy,Qs,Ntx,Nty,Qt,Nux,Nuy,Qu,Nvx,Nvy,Qv,Nxpx,Nxpy⟩:=S33.out;have hbn:=bel.trans (hb.mono bel.size);have S34:=sd (ai hbn (ai (Nsx.below hb) (ai (Nsy.below hb) (ai (Qs.below hb) (ai (Ntx.below hb) (ai (Nty.below hb) (ai (Qt.below hb) (ai (Nux.below hb) (ai (Nuy.below hb) (ai (Qu.below hb) (ai (Nvx.below hb) (ai (Nvy.below hb) (ai (Qv.below hb) (ai (Nxpx.below hb) (ai (Nxpy.below hb) (ai (hN.mono bel.size) (hM.mono bel.size)))))))))))))))));clear bel Nsx Nsy Qs Ntx Nty Qt Nux Nuy Qu Nvx Nvy Qv Nxpx Nxpy;clear hb hbn S33;clear hN hM;obtain ⟨bel,Nsx,Nsy,Qs,Ntx,Nty,Qt,Nux,Nuy,Qu,Nvx,Nvy,Qv,Nxpx,Nxpy,Nxqx,Nxqy⟩:=S34.out;have HC:=hid (CmpC true false false false 1 1 1 3 0 1 0 0 Nxpx Nxpy Nxqx Nxqy (len_sm (by decide)) (len_sm (by decide)) (len_sm (by decide)) (len_sm (by decide)) (by decide) (by decide) (by decide) (by decide) (HT.out.belows bel) em12 e13 (-1) aCmp)
 clear bel Nsx Nsy Qs Ntx Nty Qt Nux Nuy Qu Nvx Nvy Qv Nxpx Nxpy Nxqx Nxqy
 go_wp2_with fail
 refine HC.out.mono ?_;rintro r u35 ⟨rfl,hb⟩;clear HC;obtain ⟨bel,Nsx,Nsy,Qs,Ntx,Nty,Qt,Nux,Nuy,Qu,Nvx,Nvy,Qv,Nxpx,Nxpy,Nxqx,Nxqy⟩:=S34.out;have hbn:=bel.trans (hb.mono bel.size);have S35:=sd (ai hbn (ai (Nsx.below hb) (ai (Nsy.below hb) (ai (Qs.below hb) (ai (Ntx.below hb) (ai (Nty.below hb) (ai (Qt.below hb) (ai (Nux.below hb) (ai (Nuy.below hb) (ai (Qu.below hb) (ai (Nvx.below hb) (ai (Nvy.below hb) (Qv.below hb)))))))))))));clear bel Nsx Nsy Qs Ntx Nty Qt Nux Nuy Qu Nvx Nvy Qv Nxpx Nxpy Nxqx Nxqy;clear hb hbn S34
 go_upto_region 14 with fail
 obtain ⟨g0,hg0⟩:∃ g,u19.heap.size=g:=⟨_,rfl⟩;rw [hg0] at S35 ⊢;clear hg0
 go_cut [27] from 102 to 104 (fun v wx=>v=.bool true∧Aside (Below w.heap.size w wx∧Nt w.heap.size wx (.slice xt (ws 0).length cxt) 0∧Nt w.heap.size wx (.slice yt (ws 1).length cyt) 1∧Rq wx u23.heap.size false (.slice xt (ws 0).length cxt) 0 false (.slice yt (ws 1).length cyt) 2∧Nt w.heap.size wx (.slice xu (ws 1).length cxu) 1∧Nt w.heap.size wx (.slice yu (ws 3).length cyu) 3∧Rq wx u27.heap.size false (.slice xu (ws 1).length cxu) 1 false (.slice yu (ws 3).length cyu) 1∧Nt w.heap.size wx (.slice xv (ws 1).length cxv) 1∧Nt w.heap.size wx (.slice yv (ws 3).length cyv) 3∧Rq wx u31.heap.size true (.slice xv (ws 1).length cxv) 2 false (.slice yv (ws 3).length cyv) 1))
 case first =>
  obtain ⟨bel,Nsx,Nsy,Qs,Ntx,Nty,Qt,Nux,Nuy,Qu,Nvx,Nvy,Qv⟩:=S35.out;obtain ⟨k0,k1,k2,k3,k4,k5⟩:=Qs.facts;have R1:=hid (rat_eq 5 6 false false 5 3 0 1 w5 w6 (by decide) (by decide) u35)
  have R2:=hid (rat_eq 5 6 false false 5 3 0 1 w5 w6 (by decide) (by decide) u35.drew)
  clear bel Nsx Nsy Qs Ntx Nty Qt Nux Nuy Qu Nvx Nvy Qv
  go_region_held3 (fun w'=>w'.cell? ⟨g0,0,none⟩=some (.bool false)∧w'.cell? ⟨g0,1,none⟩=some (.slice xs (ws 5).length cxs)∧w'.cell? ⟨g0,2,none⟩=some (.int .i64 0)∧w'.cell? ⟨g0,3,none⟩=some (.bool false)∧w'.cell? ⟨g0,4,none⟩=some (.slice ys (ws 3).length cys)∧w'.cell? ⟨g0,5,none⟩=some (.int .i64 1)) (go_keep) (first
   | (go_at_call 11
      first | with_reducible refine R1.out.mono ?_ | with_reducible refine R2.out.mono ?_
      rintro r z1 ⟨⟨v,u,rfl,hN,hM⟩,hb⟩;have hb1:Below u35.heap.size u35 z1:=by first | exact hb | exact ((Below.refl _ u35).drew).trans (hb.mono (Nat.le_refl _))
      obtain ⟨bel,Nsx,Nsy,Qs,Ntx,Nty,Qt,Nux,Nuy,Qu,Nvx,Nvy,Qv⟩:=S35.out;obtain ⟨m0,m1,m2,m3,m4,m5⟩:=(Qs.below hb1).facts;have T3:=hid (Same11 false false 0 1 _ _ _ _ 5 3 (Nsx.below hb1) (Nsy.below hb1) hN hM (len_sm (by decide)) (len_sm (by decide)))
      obtain ⟨b1,d1,rfl,-⟩:=hN.arg (by have:=len_sm (X:=5) (by decide);omega)
      obtain ⟨b2,d2,rfl,-⟩:=hM.arg (by have:=len_sm (X:=3) (by decide);omega)
      have T2:=sd (ai (bel.trans (hb1.mono bel.size)) (ai (Qs.below hb1) (ai (Ntx.below hb1) (ai (Nty.below hb1) (ai (Qt.below hb1) (ai (Nux.below hb1) (ai (Nuy.below hb1) (ai (Qu.below hb1) (ai (Nvx.below hb1) (ai (Nvy.below hb1) (Qv.below hb1)))))))))));clear hb hb1 hN hM bel Nsx Nsy Qs Ntx Nty Qt Nux Nuy Qu Nvx Nvy Qv)
   | (go_at_call 34
      with_reducible refine T3.out.mono ?_
      rintro r z2 ⟨rfl,hb⟩;obtain ⟨bel,QQ,Ntx,Nty,Qt,Nux,Nuy,Qu,Nvx,Nvy,Qv⟩:=T2.out;obtain ⟨n0,n1,n2,n3,n4,n5⟩:=(QQ.below hb).facts;have T4:=sd (ai (bel.trans (hb.mono bel.size)) (ai (Ntx.below hb) (ai (Nty.below hb) (ai (Qt.below hb) (ai (Nux.below hb) (ai (Nuy.below hb) (ai (Qu.below hb) (ai (Nvx.below hb) (ai (Nvy.below hb) (Qv.below hb))))))))));clear hb bel QQ Ntx Nty Qt Nux Nuy Qu Nvx Nvy Qv))
  all_goals (
   go_wp2_with fail
   go_meet
   case rel=>first | exact ⟨rfl,T4⟩ | exact ⟨rfl,sd (by simpa using T4.out)⟩)
 case rest =>
  obtain ⟨rfl,Z0⟩:=hcut;obtain ⟨UU0,hU⟩:∃ U,U=wc:=⟨_,rfl⟩;subst hU;clear S35;have S36:=Z0;clear Z0
  go_upto_region 15 with fail
  obtain ⟨g1,hg1⟩:∃ g,u23.heap.size=g:=⟨_,rfl⟩;rw [hg1] at S36 ⊢;clear hg1
  go_cut [28] from 105 to 107 (fun v wx=>v=.bool true∧Aside (Below w.heap.size w wx∧Nt w.heap.size wx (.slice xu (ws 1).length cxu) 1∧Nt w.heap.size wx (.slice yu (ws 3).length cyu) 3∧Rq wx u27.heap.size false (.slice xu (ws 1).length cxu) 1 false (.slice yu (ws 3).length cyu) 1∧Nt w.heap.size wx (.slice xv (ws 1).length cxv) 1∧Nt w.heap.size wx (.slice yv (ws 3).length cyv) 3∧Rq wx u31.heap.size true (.slice xv (ws 1).length cxv) 2 false (.slice yv (ws 3).length cyv) 1))
  case first =>
   obtain ⟨bel,Ntx,Nty,Qt,Nux,Nuy,Qu,Nvx,Nvy,Qv⟩:=S36.out;obtain ⟨k0,k1,k2,k3,k4,k5⟩:=Qt.facts;have R1:=hid (rat_eq 0 4 false false 0 1 0 2 w0 w4 (by decide) (by decide) UU0)
   have R2:=hid (rat_eq 0 4 false false 0 1 0 2 w0 w4 (by decide) (by decide) UU0.drew)
   clear bel Ntx Nty Qt Nux Nuy Qu Nvx Nvy Qv
   go_region_held3 (fun w'=>w'.cell? ⟨g1,0,none⟩=some (.bool false)∧w'.cell? ⟨g1,1,none⟩=some (.slice xt (ws 0).length cxt)∧w'.cell? ⟨g1,2,none⟩=some (.int .i64 0)∧w'.cell? ⟨g1,3,none⟩=some (.bool false)∧w'.cell? ⟨g1,4,none⟩=some (.slice yt (ws 1).length cyt)∧w'.cell? ⟨g1,5,none⟩=some (.int .i64 2)) (go_keep) (first
    | (go_at_call 11
       first | with_reducible refine R1.out.mono ?_ | with_reducible refine R2.out.mono ?_
       rintro r z1 ⟨⟨v,u,rfl,hN,hM⟩,hb⟩;have hb1:Below UU0.heap.size UU0 z1:=by first | exact hb | exact ((Below.refl _ UU0).drew).trans (hb.mono (Nat.le_refl _))
       obtain ⟨bel,Ntx,Nty,Qt,Nux,Nuy,Qu,Nvx,Nvy,Qv⟩:=S36.out;obtain ⟨m0,m1,m2,m3,m4,m5⟩:=(Qt.below hb1).facts;have T3:=hid (Same11 false false 0 2 _ _ _ _ 0 1 (Ntx.below hb1) (Nty.below hb1) hN hM (len_sm (by decide)) (len_sm (by decide)))
       obtain ⟨b1,d1,rfl,-⟩:=hN.arg (by have:=len_sm (X:=0) (by decide);omega)
       obtain ⟨b2,d2,rfl,-⟩:=hM.arg (by have:=len_sm (X:=1) (by decide);omega)
       have T2:=sd (ai (bel.trans (hb1.mono bel.size)) (ai (Qt.below hb1) (ai (Nux.below hb1) (ai (Nuy.below hb1) (ai (Qu.below hb1) (ai (Nvx.below hb1) (ai (Nvy.below hb1) (Qv.below hb1))))))));clear hb hb1 hN hM bel Ntx Nty Qt Nux Nuy Qu Nvx Nvy Qv)
    | (go_at_call 34
       with_reducible refine T3.out.mono ?_
       rintro r z2 ⟨rfl,hb⟩;obtain ⟨bel,QQ,Nux,Nuy,Qu,Nvx,Nvy,Qv⟩:=T2.out;obtain ⟨n0,n1,n2,n3,n4,n5⟩:=(QQ.below hb).facts;have T4:=sd (ai (bel.trans (hb.mono bel.size)) (ai (Nux.below hb) (ai (Nuy.below hb) (ai (Qu.below hb) (ai (Nvx.below hb) (ai (Nvy.below hb) (Qv.below hb)))))));clear hb bel QQ Nux Nuy Qu Nvx Nvy Qv))
   all_goals (
    go_wp2_with fail
    go_meet
    case rel=>first | exact ⟨rfl,T4⟩ | exact ⟨rfl,sd (by simpa using T4.out)⟩)
  case rest =>
   obtain ⟨rfl,Z1⟩:=hcut;obtain ⟨UU1,hU⟩:∃ U,U=wc:=⟨_,rfl⟩;subst hU;clear S36;have S37:=Z1;clear Z1
   go_upto_region 16 with fail
   obtain ⟨g2,hg2⟩:∃ g,u27.heap.size=g:=⟨_,rfl⟩;rw [hg2] at S37 ⊢;clear hg2
   go_cut [29] from 108 to 110 (fun v wx=>v=.bool true∧Aside (Below w.heap.size w wx∧Nt w.heap.size wx (.slice xv (ws 1).length cxv) 1∧Nt w.heap.size wx (.slice yv (ws 3).length cyv) 3∧Rq wx u31.heap.size true (.slice xv (ws 1).length cxv) 2 false (.slice yv (ws 3).length cyv) 1))
   case first =>
    obtain ⟨bel,Nux,Nuy,Qu,Nvx,Nvy,Qv⟩:=S37.out;obtain ⟨k0,k1,k2,k3,k4,k5⟩:=Qu.facts;have R1:=hid (rat_eq 2 6 false false 1 3 1 1 w2 w6 (by decide) (by decide) UU1)
    have R2:=hid (rat_eq 2 6 false false 1 3 1 1 w2 w6 (by decide) (by decide) UU1.drew)
    clear bel Nux Nuy Qu Nvx Nvy Qv
    go_region_held3 (fun w'=>w'.cell? ⟨g2,0,none⟩=some (.bool false)∧w'.cell? ⟨g2,1,none⟩=some (.slice xu (ws 1).length cxu)∧w'.cell? ⟨g2,2,none⟩=some (.int .i64 1)∧w'.cell? ⟨g2,3,none⟩=some (.bool false)∧w'.cell? ⟨g2,4,none⟩=some (.slice yu (ws 3).length cyu)∧w'.cell? ⟨g2,5,none⟩=some (.int .i64 1)) (go_keep) (first
     | (go_at_call 11
        first | with_reducible refine R1.out.mono ?_ | with_reducible refine R2.out.mono ?_
        rintro r z1 ⟨⟨v,u,rfl,hN,hM⟩,hb⟩;have hb1:Below UU1.heap.size UU1 z1:=by first | exact hb | exact ((Below.refl _ UU1).drew).trans (hb.mono (Nat.le_refl _))
        obtain ⟨bel,Nux,Nuy,Qu,Nvx,Nvy,Qv⟩:=S37.out;obtain ⟨m0,m1,m2,m3,m4,m5⟩:=(Qu.below hb1).facts;have T3:=hid (Same11 false false 1 1 _ _ _ _ 1 3 (Nux.below hb1) (Nuy.below hb1) hN hM (len_sm (by decide)) (len_sm (by decide)))
        obtain ⟨b1,d1,rfl,-⟩:=hN.arg (by have:=len_sm (X:=1) (by decide);omega)
        obtain ⟨b2,d2,rfl,-⟩:=hM.arg (by have:=len_sm (X:=3) (by decide);omega)
        have T2:=sd (ai (bel.trans (hb1.mono bel.size)) (ai (Qu.below hb1) (ai (Nvx.below hb1) (ai (Nvy.below hb1) (Qv.below hb1)))));clear hb hb1 hN hM bel Nux Nuy Qu Nvx Nvy Qv)
     | (go_at_call 34
        with_reducible refine T3.out.mono ?_
        rintro r z2 ⟨rfl,hb⟩;obtain ⟨bel,QQ,Nvx,Nvy,Qv⟩:=T2.out;obtain ⟨n0,n1,n2,n3,n4,n5⟩:=(QQ.below hb).facts;have T4:=sd (ai (bel.trans (hb.mono bel.size)) (ai (Nvx.below hb) (ai (Nvy.below hb) (Qv.below hb))));clear hb bel QQ Nvx Nvy Qv))
    all_goals (
     go_wp2_with fail
     go_meet
     case rel=>first | exact ⟨rfl,T4⟩ | exact ⟨rfl,sd (by simpa using T4.out)⟩)
   case rest =>
    obtain ⟨rfl,Z2⟩:=hcut;obtain ⟨UU2,hU⟩:∃ U,U=wc:=⟨_,rfl⟩;subst hU;clear S37;have S38:=Z2;clear Z2
    go_upto_region 17 with fail
    obtain ⟨g3,hg3⟩:∃ g,u31.heap.size=g:=⟨_,rfl⟩;rw [hg3] at S38 ⊢;clear hg3
    go_cut [30] from 111 to 113 (fun v wx=>v=.bool true∧Aside (Below w.heap.size w wx))
    case first =>
     obtain ⟨bel,Nvx,Nvy,Qv⟩:=S38.out;obtain ⟨k0,k1,k2,k3,k4,k5⟩:=Qv.facts;have R1:=hid (rat_eq (-4) 6 true false 1 3 2 1 wm4 w6 (by decide) (by decide) UU2)
     have R2:=hid (rat_eq (-4) 6 true false 1 3 2 1 wm4 w6 (by decide) (by decide) UU2.drew)
     clear bel Nvx Nvy Qv
     go_region_held3 (fun w'=>w'.cell? ⟨g3,0,none⟩=some (.bool true)∧w'.cell? ⟨g3,1,none⟩=some (.slice xv (ws 1).length cxv)∧w'.cell? ⟨g3,2,none⟩=some (.int .i64 2)∧w'.cell? ⟨g3,3,none⟩=some (.bool false)∧w'.cell? ⟨g3,4,none⟩=some (.slice yv (ws 3).length cyv)∧w'.cell? ⟨g3,5,none⟩=some (.int .i64 1)) (go_keep) (first
      | (go_at_call 11
         first | with_reducible refine R1.out.mono ?_ | with_reducible refine R2.out.mono ?_
         rintro r z1 ⟨⟨v,u,rfl,hN,hM⟩,hb⟩;have hb1:Below UU2.heap.size UU2 z1:=by first | exact hb | exact ((Below.refl _ UU2).drew).trans (hb.mono (Nat.le_refl _))
         obtain ⟨bel,Nvx,Nvy,Qv⟩:=S38.out;obtain ⟨m0,m1,m2,m3,m4,m5⟩:=(Qv.below hb1).facts;have T3:=hid (Same11 true false 2 1 _ _ _ _ 1 3 (Nvx.below hb1) (Nvy.below hb1) hN hM (len_sm (by decide)) (len_sm (by decide)))
         obtain ⟨b1,d1,rfl,-⟩:=hN.arg (by have:=len_sm (X:=1) (by decide);omega)
         obtain ⟨b2,d2,rfl,-⟩:=hM.arg (by have:=len_sm (X:=3) (by decide);omega)
         have T2:=sd (ai (bel.trans (hb1.mono bel.size)) (Qv.below hb1));clear hb hb1 hN hM bel Nvx Nvy Qv)
      | (go_at_call 34
         with_reducible refine T3.out.mono ?_
         rintro r z2 ⟨rfl,hb⟩;obtain ⟨bel,QQ⟩:=T2.out;obtain ⟨n0,n1,n2,n3,n4,n5⟩:=(QQ.below hb).facts;have T4:=sd (bel.trans (hb.mono bel.size));clear hb bel QQ ))
     all_goals (
      go_wp2_with fail
      go_meet
      case rel=>first | exact ⟨rfl,T4⟩ | exact ⟨rfl,sd (by simpa using T4.out)⟩)
    case rest =>
     obtain ⟨rfl,Z3⟩:=hcut;obtain ⟨UU3,hU⟩:∃ U,U=wc:=⟨_,rfl⟩;subst hU;clear S38;have S39:=Z3;clear Z3;have c1:(FloatKind.f64.format.order 4599676419421066581 4599676419421066581==some .eq)=true:=by decide +kernel
     have c2:(FloatKind.f64.format.order 4599676419421066582 4599676419421066582==some .eq)=true:=by decide +kernel
     have c3:(FloatKind.f64.format.order 4609047870845172685 4609047870845172685==some .eq)=true:=by decide +kernel
     go_wp2;go_ret;exact ⟨rfl,S39.out⟩
end
section
open Go.RowKit
structure MayR (o p:Option (Bool×Nat×Int)):Prop where
 so:o.isSome=true
 sp:p.isSome=true
 neg:dN p=false
 no:dX p≠0
 lo:bl (dX o)≤6400
 lp:bl (dX p)≤6400
 pu:dE p≤20000
 pd:-20000≤dE p
 us:dX o=0∨(-1000<(bl (dX o):Int)+dE o-bl (dX p)-dE p∧(bl (dX o):Int)+dE o-bl (dX p)-dE p<1000∧dE o<4000∧-9000<dE o)
theorem len_bits {X k:Nat}(h:(ws X).length≤k):bl X≤32*k:=by rw [ws_len_bl] at h;omega
theorem may_core {w:World}{a b:Option Addr}{la ca lb cb:Nat}(n m:Bool) (e f:Int) (o p:Option (Bool×Nat×Int)) (l1:(ws (dX o)).length≤8192) (l2:(ws (dX p)).length≤8192) (re:-1048576≤dE o∧dE o≤1048576) (rf:-1048576≤dE p∧dE p≤1048576) (bX:bl (dX o)≤262144) (bY:bl (dX p)≤262144)
 (H1:Hid (∀ u,Below w.heap.size w u→Calls Tryz.prog 71 #[.agg #[.bool n,.slice a la ca,.int .i64 e]] u fun r w'=>(∃ v,r=.returned (.tuple #[.agg #[.bool (dN o),v,.int .i64 (dE o)],.bool o.isSome])∧Nt u.heap.size w' v (dX o))∧Below u.heap.size u w'))
 (H2:Hid (∀ u,Below w.heap.size w u→Calls Tryz.prog 71 #[.agg #[.bool m,.slice b lb cb,.int .i64 f]] u fun r w'=>(∃ v,r=.returned (.tuple #[.agg #[.bool (dN p),v,.int .i64 (dE p)],.bool p.isSome])∧Nt u.heap.size w' v (dX p))∧Below u.heap.size u w')) :
 Calls Tryz.prog 37 #[.agg #[.bool n,.slice a la ca,.int .i64 e,.bool m,.slice b lb cb,.int .i64 f]] w fun r w'=>(r=.returned (.bool false)∨(r=.returned (.bool true)∧MayR o p))∧Below w.heap.size w w':=by
 obtain ⟨W1,hW1⟩:∃ W,W=w.alloc (.cells #[.bool n,.slice a la ca,.int .i64 e,.bool m,.slice b lb cb,.int .i64 f] 30):=⟨_,rfl⟩;have hB:Below w.heap.size w W1:=by rw [hW1];exact below_alloc _ _
 have RQ:Rq W1 w.heap.size n (.slice a la ca) e m (.slice b lb cb) f:=by rw [hW1];exact Rq.new _ _ _ _ _ _ _
 have HC:=hid (H1.out W1 hB);obtain ⟨x0,x1,x2,x3,x4,x5⟩:=RQ.facts;have S0:=(sd (ai hB RQ));have PQ:=(sd (ai re (ai rf (ai bX bY))));clear hB RQ re rf bX bY;obtain ⟨o1,ho1⟩:∃ x,dN o=x:=⟨_,rfl⟩;obtain ⟨o2,ho2⟩:∃ x,dX o=x:=⟨_,rfl⟩;obtain ⟨o3,ho3⟩:∃ x,dE o=x:=⟨_,rfl⟩;obtain ⟨o4,ho4⟩:∃ x,o.isSome=x:=⟨_,rfl⟩;obtain ⟨p1,hp1⟩:∃ x,dN p=x:=⟨_,rfl⟩;obtain ⟨p2,hp2⟩:∃ x,dX p=x:=⟨_,rfl⟩;obtain ⟨p3,hp3⟩:∃ x,dE p=x:=⟨_,rfl⟩;obtain ⟨p4,hp4⟩:∃ x,p.isSome=x:=⟨_,rfl⟩;rw [ho1,ho2,ho3,ho4] at HC;rw [hp1,hp2,hp3,hp4] at H2;rw [ho2] at l1;rw [hp2] at l2;rw [ho3,hp3,ho2,hp2] at PQ
 have MY:Aside (o4=true→p4=true→p1=false→p2≠0→(ws o2).length≤200→(ws p2).length≤200→p3≤20000→-20000≤p3→(o2=0∨(-1000<(bl o2:Int)+o3-bl p2-p3∧(bl o2:Int)+o3-bl p2-p3<1000∧o3<4000∧-9000<o3))→MayR o p):=by
  intro h1 h2 h3 h4 h5 h6 h7 h8 h9;exact ⟨ho4.trans h1,hp4.trans h2,hp1.trans h3,by rw [hp2];exact h4,by rw [ho2];have:=len_bits h5;omega,by rw [hp2];have:=len_bits h6;omega,by rw [hp3];exact h7,by rw [hp3];exact h8,by rw [ho2,ho3,hp2,hp3];exact h9⟩
 clear ho1 ho2 ho3 ho4 hp1 hp2 hp3 hp4 H1;go_enter Tryz.func37,Tryz.ntmps37
 go_upto_region 1 with fail
 rw [←hW1];clear hW1
 go_wp2_with fail
 clear x0 x1 x2 x3 x4 x5;refine HC.out.mono ?_;rintro r u1 ⟨⟨v,rfl,hN⟩,hb⟩;obtain ⟨a1,c1,rfl,_⟩:=hN.arg (by omega)
 clear HC;obtain ⟨U1,hU1⟩:∃ U,U=u1.alloc (.cells #[.bool o1,.slice a1 (ws o2).length c1,.int .i64 o3] 27):=⟨_,rfl⟩;have hbA:Below u1.heap.size u1 U1:=by rw [hU1];exact below_alloc _ _
 have TN:Tk U1 u1.heap.size 27 (.bool o1) (.slice a1 (ws o2).length c1) (.int .i64 o3):=by rw [hU1];exact Tk.new _ _ _ _ _
 obtain ⟨bel,RQ⟩:=S0.out;have bb:=bel.trans (hb.mono bel.size);have bc:=bb.trans (hbA.mono bb.size);have HC:=hid (H2.out U1 bc);obtain ⟨x0,x1,x2,x3,x4,x5⟩:=((RQ.below hb).below hbA).facts;have S1:=(sd (ai bc (ai ((hN.below hbA).mono bel.size) TN)));clear bel RQ bb bc hb hbA hN TN S0 H2
 go_upto_region 2 with fail
 rw [←hU1];clear hU1
 go_wp2_with fail
 clear x0 x1 x2 x3 x4 x5;refine HC.out.mono ?_;rintro r u2 ⟨⟨v,rfl,hN⟩,hb⟩;obtain ⟨a2,c2,rfl,_⟩:=hN.arg (by omega)
 clear HC;obtain ⟨U2,hU2⟩:∃ U,U=u2.alloc (.cells #[.bool p1,.slice a2 (ws p2).length c2,.int .i64 p3] 27):=⟨_,rfl⟩;have hbA:Below u2.heap.size u2 U2:=by rw [hU2];exact below_alloc _ _
 have TD:Tk U2 u2.heap.size 27 (.bool p1) (.slice a2 (ws p2).length c2) (.int .i64 p3):=by rw [hU2];exact Tk.new _ _ _ _ _
 obtain ⟨bel,NX,TN⟩:=S1.out;have bb:=bel.trans (hb.mono bel.size);have bc:=bb.trans (hbA.mono bb.size);have L1:=hid (fun (u:World) (hu:Below U2.heap.size U2 u)=>rLen_arg ((((NX.below hb).below hbA).below hu).arg' (by omega)).2 (by rw [val_ws]))
 have L2:=hid (fun (u:World) (hu:Below U2.heap.size U2 u)=>rLen_arg (((hN.below hbA).below hu).arg' (by omega)).2 (by rw [val_ws]))
 obtain ⟨x0,x1,x2,_,_,_⟩:=((TN.below hb).below hbA).facts;obtain ⟨y0,y1,y2,_,_,_⟩:=TD.facts;have S2:=(sd (ai bc (ai ((TN.below hb).below hbA) TD)));clear bel NX TN bb bc hb hbA hN TD S1;obtain ⟨gN,hgN⟩:∃ g,u1.heap.size=g:=⟨_,rfl⟩;obtain ⟨gD,hgD⟩:∃ g,u2.heap.size=g:=⟨_,rfl⟩;rw [hgN] at x0 x1 x2 S2;rw [hgD] at y0 y1 y2 S2
 go_upto_region 3 with fail
 rw [←hU2];clear hU2 hgN hgD
 cases o4 with
 | false =>
   go_wp2;go_ret;exact ⟨.inl rfl,S2.out.1⟩
 | true =>
   cases p4 with
   | false =>
     go_wp2;go_ret;exact ⟨.inl rfl,S2.out.1⟩
   | true =>
     cases p1 with
     | true =>
       go_wp2;go_ret;exact ⟨.inl rfl,S2.out.1⟩
     | false =>
       by_cases hz:p2=0
       · have wz:=ws_zero
         have q:((((ws p2).length:Nat):Int)==0)=true:=by rw [hz,ws0];rfl
         have q2:((ws p2).length==0)=true:=by rw [hz,ws0];rfl
         go_wp2;go_ret;exact ⟨.inl rfl,S2.out.1⟩
       · have qz:((((ws p2).length:Nat):Int)==0)=false:=len_ne hz
         have qz2:((ws p2).length==0)=false:=beq_eq_false_iff_ne.2 (fun h=>hz ((ws_len_zero p2).1 h))
         by_cases hl1:200<(ws o2).length
         · have q:decide (200<(ws o2).length)=true:=decide_eq_true hl1
           have q2:decide ((200:Int)<((ws o2).length:Nat))=true:=decide_eq_true (by omega)
           go_wp2;go_ret;exact ⟨.inl rfl,S2.out.1⟩
         · have q1:decide (200<(ws o2).length)=false:=decide_eq_false hl1
           have q12:decide ((200:Int)<((ws o2).length:Nat))=false:=decide_eq_false (by omega)
           by_cases hl2:200<(ws p2).length
           · have q:decide (200<(ws p2).length)=true:=decide_eq_true hl2
             have q2:decide ((200:Int)<((ws p2).length:Nat))=true:=decide_eq_true (by omega)
             go_wp2;go_ret;exact ⟨.inl rfl,S2.out.1⟩
           · have q3:decide (200<(ws p2).length)=false:=decide_eq_false hl2
             have q32:decide ((200:Int)<((ws p2).length:Nat))=false:=decide_eq_false (by omega)
             by_cases hu:20000<p3
             · have q:=decide_eq_true hu
               go_wp2;go_ret;exact ⟨.inl rfl,S2.out.1⟩
             · have q4:=decide_eq_false hu
               by_cases hd:p3 < -20000
               · have q:=decide_eq_true hd
                 go_wp2;go_ret;exact ⟨.inl rfl,S2.out.1⟩
               · have q5:=decide_eq_false hd
                 obtain ⟨re,rf,bX,bY⟩:=PQ.out;obtain ⟨B1,hB1⟩:∃ x,bl o2=x:=⟨_,rfl⟩;obtain ⟨B2,hB2⟩:∃ x,bl p2=x:=⟨_,rfl⟩;have MY2:=MY.out rfl rfl rfl hz (by omega) (by omega) (by omega) (by omega)
                 rw [hB1,hB2] at MY2;rw [hB1] at L1 bX;rw [hB2] at L2 bY;have MY3:=sd MY2;obtain ⟨z1,hz1⟩:∃ x,(B1:Int)+o3=x:=⟨_,rfl⟩;obtain ⟨z2,hz2⟩:∃ x,z1-(B2:Int)=x:=⟨_,rfl⟩;obtain ⟨z3,hz3⟩:∃ x,z2-p3=x:=⟨_,rfl⟩;have wr1:IntKind.i64.wrap z1=z1:=by simp [IntKind.wrap,IntKind.bits,IntKind.signed];omega
                 have wr2:IntKind.i64.wrap z2=z2:=by simp [IntKind.wrap,IntKind.bits,IntKind.signed];omega
                 have wr3:IntKind.i64.wrap z3=z3:=by simp [IntKind.wrap,IntKind.bits,IntKind.signed];omega
                 have HZ:Aside (z3=(B1:Int)+o3-B2-p3):=sd (by omega)
                 clear MY MY2 hB1 hB2 re rf bX bY hu hd PQ
                 go_wp2_with fail
                 have T1:=hid (L1.out U2 (Below.refl _ _));have T2:=hid (L1.out U2.drew ((Below.refl _ _).drew))
                 go_cut [7] from 58 to 70 (fun v wx=>v=.int .i64 z3∧Aside (Below w.heap.size w wx∧Tk wx gN 27 (.bool o1) (.slice a1 (ws o2).length c1) (.int .i64 o3)))
                 case first =>
                  go_region_held3 (fun w'=>w'.cell? ⟨gN,0,none⟩=some (.bool o1)∧w'.cell? ⟨gN,1,none⟩=some (.slice a1 (ws o2).length c1)∧w'.cell? ⟨gN,2,none⟩=some (.int .i64 o3)∧w'.cell? ⟨gD,0,none⟩=some (.bool false)∧w'.cell? ⟨gD,1,none⟩=some (.slice a2 (ws p2).length c2)∧w'.cell? ⟨gD,2,none⟩=some (.int .i64 p3)) (go_keep) (first
                   | (go_at_call 39
                      first | with_reducible refine T1.out.mono ?_ | with_reducible refine T2.out.mono ?_
                      rintro r v1 ⟨rfl,hb⟩;have hb1:Below U2.heap.size U2 v1:=by first | exact hb | exact ((Below.refl _ U2).drew).trans (hb.mono (Nat.le_refl _))
                      obtain ⟨bel,TN,TD⟩:=S2.out;obtain ⟨m0,m1,m2,_,_,_⟩:=(TN.below hb1).facts;obtain ⟨n0,n1,n2,_,_,_⟩:=(TD.below hb1).facts;have T3:=hid (L2.out v1 hb1);have S4:=(sd (ai (bel.trans (hb1.mono bel.size)) (ai (TN.below hb1) (TD.below hb1))));clear hb hb1 bel TN TD)
                   | (go_at_call 39
                      with_reducible refine T3.out.mono ?_
                      rintro r v2 ⟨rfl,hb⟩;obtain ⟨bel,TN,TD⟩:=S4.out;obtain ⟨i0,i1,i2,_,_,_⟩:=(TN.below hb).facts;obtain ⟨j0,j1,j2,_,_,_⟩:=(TD.below hb).facts;have S5:=(sd (ai (bel.trans (hb.mono bel.size)) (TN.below hb)));clear hb bel TN TD))
                  all_goals (
                   go_wp2_with fail
                   go_meet
                   case rel=>exact ⟨rfl,S5⟩)
                 case rest =>
                  obtain ⟨rfl,Z0⟩:=hcut;obtain ⟨UU,hU⟩:∃ U,U=wc:=⟨_,rfl⟩;subst hU;clear x0 x1 x2 y0 y1 y2 T1 T2 hz1 hz2 hz3 L1 L2 S2;obtain ⟨x0,x1,x2,_,_,_⟩:=Z0.out.2.facts;have S3:=sd Z0.out.1;clear Z0
                  by_cases h0:o2=0
                  · have r1:((((ws o2).length:Nat):Int)==0)=true:=by rw [h0,ws0];rfl
                    have r2:((ws o2).length==0)=true:=by rw [h0,ws0];rfl
                    have h0A:=sd h0;clear h0;go_wp2;go_ret;exact ⟨.inr ⟨rfl,MY3.out (.inl h0A.out)⟩,S3.out⟩
                  · have r1:((((ws o2).length:Nat):Int)==0)=false:=len_ne h0
                    have r2:((ws o2).length==0)=false:=beq_eq_false_iff_ne.2 (fun h=>h0 ((ws_len_zero o2).1 h))
                    clear h0
                    by_cases s1:-1000<z3
                    case neg =>
                     have ds1:=decide_eq_false s1;go_wp2;go_ret;exact ⟨.inl rfl,S3.out⟩
                    case pos =>
                     have ds1:=decide_eq_true s1
                     by_cases s2:z3<1000
                     case neg =>
                      have ds2:=decide_eq_false s2;go_wp2;go_ret;exact ⟨.inl rfl,S3.out⟩
                     case pos =>
                      have ds2:=decide_eq_true s2
                      by_cases s3:o3<4000
                      case neg =>
                       have ds3:=decide_eq_false s3;go_wp2;go_ret;exact ⟨.inl rfl,S3.out⟩
                      case pos =>
                       have ds3:=decide_eq_true s3
                       by_cases s4:-9000<o3
                       case neg =>
                        have ds4:=decide_eq_false s4;go_wp2;go_ret;exact ⟨.inl rfl,S3.out⟩
                       case pos =>
                        have ds4:=decide_eq_true s4;have SA:=(sd (ai s1 (ai s2 (ai s3 s4))));clear s1 s2 s3 s4;go_wp2;go_ret;exact ⟨.inr ⟨rfl,MY3.out (.inr (by rw [←HZ.out];exact SA.out))⟩,S3.out⟩
theorem may_any {w:World}{n m:Bool}{v u:Value}{X Y:Nat}{e f:Int}(h1:Av w v X) (h2:Av w u Y) (hb1:∀ a l c,v=.slice a l c→l≤2000000) (hb2:∀ a l c,u=.slice a l c→l≤2000000) (be:-9223372036854775808≤e∧e≤9223372036854775807) (bf:-9223372036854775808≤f∧f≤9223372036854775807) :
 Calls Tryz.prog 37 #[.agg #[.bool n,v,.int .i64 e,.bool m,u,.int .i64 f]] w fun r w'=>(r=.returned (.bool false)∨(r=.returned (.bool true)∧MayR (mkS n X e) (mkS m Y f)))∧Below w.heap.size w w':=by
 obtain ⟨a,l,c,xs,rfl,hA,rfl⟩:=h1;obtain ⟨b,k,d,ys,rfl,hB,rfl⟩:=h2
 have bls:∀ (n:Bool) (X:Nat) (e:Int),bl (dX (mkS n X e))≤262144:=by
  intro n X e
  cases ho:mkS n X e with
  | none=>show bl 0≤262144;rw [bl_zero];omega
  | some d=>obtain ⟨n1,X1,e1⟩:=d;exact (mkS_frm ho).size
 exact may_core n m e f _ _ (mkS_len _ _ _) (mkS_len _ _ _) (frm_rng rfl) (frm_rng rfl) (bls _ _ _) (bls _ _ _) (fun q hq=>rMade_any (hA.below hq) (hb1 _ _ _ rfl) n e be.1 be.2) (fun q hq=>rMade_any (hB.below hq) (hb2 _ _ _ rfl) m f bf.1 bf.2)
end
section
open Go.RowKit
def Iv (o:Option (Bool×Nat×Int)) (lo hi:Int):Prop:=∃ n X e,o=some (n,X,e)∧Frm n X e∧(X=0∨(lo≤e∧e+(bl X:Int)≤hi))
theorem Iv.some {o:Option (Bool×Nat×Int)}{a b:Int}(h:Iv o a b):o.isSome=true:=by obtain ⟨n,X,e,rfl,_⟩:=h;rfl
theorem Iv.mono {o:Option (Bool×Nat×Int)}{a b c d:Int}(h:Iv o a b) (h1:c≤a) (h2:b≤d):Iv o c d:=by
 obtain ⟨n,X,e,h,F,hb⟩:=h;exact ⟨n,X,e,h,F,by omega⟩
theorem mkS_iv (n:Bool) (X:Nat) (e a b:Int) (h:X=0∨(a≤e∧e+(bl X:Int)≤b)) (hw:b-a≤262144) (ha:-1048576≤a) (hb:b≤1048576):Iv (mkS n X e) a b:=by
 by_cases h0:X=0
 · subst h0
   rw [mkS_zero];exact ⟨false,0,0,rfl,⟨.inr ⟨rfl,rfl,rfl⟩,by rw [bl_zero];omega,by omega,by omega⟩,.inl rfl⟩
 · obtain ⟨h1,h2⟩:=h.resolve_left h0
   obtain ⟨k,o1,o2,o3⟩:=odd_part X h0;have hp:=bl_pos (X/2^lo X) (by omega)
   have e1:mkS n X e=some (n,X/2^lo X,e+lo X):=by
    unfold mkS;rw [if_neg h0,if_neg (by omega)]
   exact ⟨n,_,_,e1,mkS_frm e1,.inr (by omega)⟩
theorem bl_mul_le (X Y:Nat):bl (X*Y)≤bl X+bl Y:=bl_lt_pow (by rw [Nat.pow_add];exact Nat.mul_lt_mul'' (bl_lt X) (bl_lt Y))
theorem Iv.mul {o p:Option (Bool×Nat×Int)}{a b c d:Int}(h1:Iv o a b) (h2:Iv p c d) (hw:(b+d)-(a+c)≤262144) (hl:-1048576≤a+c) (hh:b+d≤1048576):Iv (mulD o p) (a+c) (b+d):=by
 obtain ⟨n,X,e,rfl,F,hx⟩:=h1;obtain ⟨m,Y,f,rfl,G,hy⟩:=h2
 show Iv (mkS (n != m) (X*Y) (e+f)) _ _
 refine mkS_iv _ _ _ _ _ ?_ hw hl hh
 rcases hx with rfl|hx
 · left;rw [Nat.zero_mul]
 · rcases hy with rfl | hy
   · left;rw [Nat.mul_zero]
   · right
     have:=bl_mul_le X Y;omega
theorem pow_bound {X k:Nat}{j:Nat}(h:bl X+k≤j):X*2^k<2^j:=by
 have h1:=bl_lt X;have h2:X*2^k<2^bl X*2^k:=Nat.mul_lt_mul_of_pos_right h1 (Nat.two_pow_pos k);rw [←Nat.pow_add] at h2;exact Nat.lt_of_lt_of_le h2 (Nat.pow_le_pow_right (by decide) h)
theorem addUp_iv (n m:Bool) (X Y:Nat) (e f a b:Int) (hfe:f≤e) (ha:a≤f) (h1:e+(bl X:Int)≤b) (h2:f+(bl Y:Int)≤b) (hw:b+1-a≤262144) (hl:-1048576≤a) (hh:b+1≤1048576) (hX:X≠0):Iv (addUp n X e m Y f) a (b+1):=by
 have hp:=bl_pos X hX;unfold addUp;rw [if_neg (by omega)]
 obtain ⟨j,hj⟩:∃ j:Nat,(j:Int)=b-f:=⟨(b-f).toNat,by omega⟩
 have b1:X*2^(e-f).toNat<2^j:=pow_bound (by omega)
 have b2:Y<2^j:=Nat.lt_of_lt_of_le (bl_lt Y) (Nat.pow_le_pow_right (by decide) (by omega))
 have fin:∀ (s:Bool) (Z:Nat),Z<2^(j+1)→Iv (mkS s Z f) a (b+1):=by
  intro s Z hZ;refine mkS_iv s Z f a (b+1) ?_ hw hl hh
  by_cases h0:Z=0
  · exact .inl h0
  · right
    have:=bl_lt_pow hZ;omega
 have b3:(2:Nat)^(j+1)=2*2^j:=by rw [Nat.pow_succ,Nat.mul_comm]
 split
 · exact fin _ _ (by omega)
 · split
   · exact fin _ _ (by omega)
   · exact fin _ _ (by omega)
theorem Iv.add {o p:Option (Bool×Nat×Int)}{a b:Int}(h1:Iv o a b) (h2:Iv p a b) (hw:b+1-a≤262144) (hl:-1048576≤a) (hh:b+1≤1048576):Iv (addD o p) a (b+1):=by
 have h1':=h1;have h2':=h2;obtain ⟨n,X,e,rfl,F,hx⟩:=h1;obtain ⟨m,Y,f,rfl,G,hy⟩:=h2
 show Iv (addF (n,X,e) (m,Y,f)) a (b+1)
 unfold addF;simp only
 by_cases hX:X=0
 · rw [if_pos hX];exact h2'.mono (by omega) (by omega)
 · rw [if_neg hX]
   by_cases hY:Y=0
   · rw [if_pos hY];exact h1'.mono (by omega) (by omega)
   · rw [if_neg hY]
     have ex:=hx.resolve_left hX;have ey:=hy.resolve_left hY
     split
     · exact addUp_iv m n Y X f e a b (by omega) ex.1 ey.2 ex.2 hw hl hh hY
     · exact addUp_iv n m X Y e f a b (by omega) ey.1 ex.2 ey.2 hw hl hh hX
def valO (o:Option (Bool×Nat×Int)):Int:=zv (-1048576) (dN o,dX o,dE o)
theorem fvO {o:Option (Bool×Nat×Int)}{n:Bool}{X:Nat}{e:Int}(h:mkS n X e=o) (hs:o.isSome=true):Fv (-1048576) o (valO o):=by
 cases o with
 | none=>cases hs
 | some d=>obtain ⟨n1,X1,e1⟩:=d;exact ⟨n1,X1,e1,rfl,mkS_frm h,rfl⟩
theorem Fv.of_pos {o:Option (Bool×Nat×Int)}{B z:Int}(h:Fv B o z) (h1:dN o=false) (h2:dX o≠0):0<z:=by
 obtain ⟨n,X,e,rfl,F,rfl⟩:=h.ex;have hn:n=false:=h1;have hX:X≠0:=h2;subst hn;have:=Nat.mul_pos (Nat.pos_of_ne_zero hX) (Nat.two_pow_pos (e-B).toNat);unfold zv sg1;simp only [Bool.false_eq_true,if_false];omega
theorem Fv.reform {o:Option (Bool×Nat×Int)}{B z:Int}(h:Fv B o z):mkS (dN o) (dX o) (dE o)=o:=by
 obtain ⟨n,X,e,rfl,F,rfl⟩:=h.ex;exact F.self
theorem cmpZ_neg (x y:Int):cmpZ x y=-cmpZ y x:=by unfold cmpZ;split <;> split <;> omega
theorem cmpZ_self' {x y:Int}(h:x=y):cmpZ x y=0:=by subst h;unfold cmpZ;split <;> omega
structure UsR (o p:Option (Bool×Nat×Int)):Prop where
 io:Iv o (-9000) 10400
 ip:Iv p (-20000) 26400
 fo:Fv (-1048576) o (valO o)
 fp:Fv (-1048576) p (valO p)
 pos:0<valO p
theorem MayR.us' {n m:Bool}{X Y:Nat}{e f:Int}(h:MayR (mkS n X e) (mkS m Y f)):UsR (mkS n X e) (mkS m Y f):=by
 have F1:=frm_of h.so;have F2:=frm_of h.sp;have g1:=fvO (o:=mkS n X e) rfl h.so;have g2:=fvO (o:=mkS m Y f) rfl h.sp;have l1:=h.lo;have l2:=h.lp;have u:=h.us;have pu:=h.pu;have pd:=h.pd;refine ⟨?_,?_,g1,g2,g2.of_pos h.neg h.no⟩
 · cases ho:mkS n X e with
   | none=>have:=h.so;rw [ho] at this;cases this
   | some d =>
     obtain ⟨n1,X1,e1⟩:=d;rw [ho] at F1 u l1;refine ⟨n1,X1,e1,rfl,F1,?_⟩
     rcases u with q|⟨q1,q2,q3,q4⟩
     · exact .inl q
     · right
       change bl X1≤6400 at l1
       change e1<4000 at q3
       change -9000<e1 at q4
       omega
 · cases hp:mkS m Y f with
   | none=>have:=h.sp;rw [hp] at this;cases this
   | some d =>
     obtain ⟨n1,X1,e1⟩:=d;rw [hp] at F2 l2 pu pd;refine ⟨n1,X1,e1,rfl,F2,.inr ?_⟩
     change bl X1≤6400 at l2
     change e1≤20000 at pu
     change -20000≤e1 at pd
     omega
theorem mkS_sign {m:Bool}{Y:Nat}{f:Int}{n1:Bool}{Y1:Nat}{f1:Int}(h:mkS m Y f=some (n1,Y1,f1)) (h0:Y1≠0):n1=m:=by
 unfold mkS at h
 split at h
 · cases h;exact absurd rfl h0
 · split at h
   · cases h
   · cases h;rfl
theorem MayR.err {n m:Bool}{X Y:Nat}{e f:Int}(h:MayR (mkS n X e) (mkS m Y f)):errN X n e Y m f=0:=by
 cases h1:mkS n X e with
 | none=>have:=h.so;rw [h1] at this;cases this
 | some d1 =>
   cases h2:mkS m Y f with
   | none=>have:=h.sp;rw [h2] at this;cases this
   | some d2 =>
     obtain ⟨n1,X1,e1⟩:=d1;obtain ⟨m1,Y1,f1⟩:=d2;have hn:=h.neg;have h0:=h.no;rw [h2] at hn h0
     change m1=false at hn
     change Y1≠0 at h0
     have hm:=mkS_sign h2 h0;unfold errN;rw [h1,h2,←hm,hn];have:¬ sgn false Y<0:=by unfold sgn;split <;> simp
     rw [if_neg this];simp [dX,h0]
end
section
open Go.RowKit
theorem Fv.len {o:Option (Bool×Nat×Int)}{B z:Int}(h:Fv B o z):(ws (dX o)).length≤8192:=by
 obtain ⟨n,X,e,rfl,F,_⟩:=h.ex;exact frm_len F
end
section
open Go.ChangeShapes Go.WideShapes Go.ChangeAt Go.RowKit
theorem cameR_of {H:Type}{enc:TypeId×Value→H}{W:World}{a:Option Addr}{n c:Nat}{d:DataW H}{p:List MemPlace}(h:DataW.Trod enc Tryz.prog W 0 (fun _=>true) true 25 (.slice a n c) d p) :
 ∃ xs,Came W a n c xs∧((d=.nil∧c=0)∨∃ elems spare:List (DataW H),d=.slice elems spare∧elems.length+spare.length=c∧(∀ e ∈ elems,∃ l,e=.lit (.int .u32 l))∧∀ e ∈ spare,∃ l,e=.lit (.int .u32 l)):=by
 obtain ⟨fuel,hf⟩:=h
 rcases open_ints Tryz.underlying25 Tryz.underlying23 (by kernel_rfl) hf with ⟨hcs,hx⟩|⟨x,l,cp,zs,hcs,hb,hl,hm,hz,hx,hcell,hwz⟩
 · simp [Value.cells] at hcs
   obtain ⟨rfl,rfl,rfl⟩:=hcs;refine ⟨[],⟨rfl,Nat.le_refl _,Wf.nil,Rd.nil _ _ _,fun _=>rfl⟩,.inl ⟨?_,rfl⟩⟩
   exact (Prod.mk.inj hx).1
 · simp [Value.cells] at hcs
   obtain ⟨rfl,rfl,rfl⟩:=hcs;have hz':zs.length=c:=by simpa using hz
   have hwf:∀ z ∈ zs,0≤z∧z<4294967296:=by
    intro z hzz;have:=hwz z hzz;simp [Lit.wf,IntKind.min,IntKind.max,IntKind.signed,IntKind.bits] at this;omega
   refine ⟨(zs.take n).map Int.toNat,⟨?_,hl,?_,?_,fun e=>by cases e⟩,.inr ⟨_,_,(Prod.mk.inj hx).1,?_,?_,?_⟩⟩
   · rw [List.length_map,List.length_take];omega
   · intro y hy
     obtain ⟨z,hz1,rfl⟩:=List.mem_map.1 hy;have:=hwf z (List.mem_of_mem_take hz1);omega
   · intro hne
     obtain ⟨b,off,spot⟩:=x
     have hn0:0<n:=by
      rcases Nat.eq_zero_or_pos n with h0|h0
      · subst h0;simp at hne
      · exact h0
     have hc0:=hcell 0 (by omega)
     have hspot:spot=none:=by simpa [Addr.add] using World.cell?_spot hc0
     subst hspot;refine ⟨b,off,World.block_lt_of_cell? W _ (by simpa [Addr.add] using hc0),rfl,fun i hi=>?_⟩
     rw [List.length_map,List.length_take] at hi;have hadd:(⟨b,off,none⟩:Addr).add i=⟨b,off+i,none⟩:=by unfold Addr.add;split <;> simp_all
     have:=hcell i (by omega)
     rw [hadd] at this;rw [this];have hi2:i<zs.length:=by omega
     have hin:i<n:=by omega
     have hv:0≤zs[i]:=(hwf _ (List.getElem_mem hi2)).1;simp [List.getD_eq_getElem?_getD,hi2,hin,Int.toNat_of_nonneg hv]
   · simp only [lits,List.length_map,List.length_take,List.length_drop];omega
   · intro e he
     simp only [lits,List.mem_map] at he;obtain ⟨z,_,rfl⟩:=he;exact ⟨z,rfl⟩
   · intro e he
     simp only [lits,List.mem_map] at he;obtain ⟨z,_,rfl⟩:=he;exact ⟨z,rfl⟩
structure CameD (w:World) (a:Option Addr) (n c:Nat) (xs:List Nat) (e:Int):Prop where
 came:Came w a n c xs
 lo:-9223372036854775808≤e
 hi:e≤9223372036854775807
def RoomD {H:Type} (c:Nat) (d1:DataW H):Prop:=((d1=.nil∧c=0)∨∃ elems spare:List (DataW H),d1=.slice elems spare∧elems.length+spare.length=c∧(∀ e ∈ elems,∃ l,e=.lit (.int .u32 l))∧∀ e ∈ spare,∃ l,e=.lit (.int .u32 l))
theorem dyad_cells {H:Type}{enc:TypeId×Value→H}{W:World}{c0 c1 c2:Value}{d:DataW H}{p:List MemPlace}{fuel:Nat}(hf:DataW.trod enc Tryz.prog W 0 (fun _=>true) true fuel 27 [c0,c1,c2]=some (d,p)) :
 ∃ (ng:Bool) (a:Option Addr) (n c:Nat) (e:Int) (xs:List Nat) (d1:DataW H),(c0=.bool ng∧c1=.slice a n c∧c2=.int .i64 e)∧CameD W a n c xs e∧d=.agg [.lit (.bool ng),d1,.lit (.int .i64 e)]∧RoomD c d1:=by
 have hC:Tryz.prog.cellsOf 27=3:=by kernel_rfl
 have c4:Tryz.prog.cellsOf 4=1:=by kernel_rfl
 have c3:Tryz.prog.cellsOf 3=1:=by kernel_rfl
 have cN:Tryz.prog.cellsOf 25=1:=by kernel_rfl
 obtain ⟨xs,k,rfl,hx,hl,hxl,hfs⟩:=DataW.trod_struct Tryz.underlying27 hf;have h0:DataW.trod enc Tryz.prog W 0 (fun _=>true) true k 4 (List.take (Tryz.prog.cellsOf 4) (List.drop 0 [c0,c1,c2]))=xs[0]?:=hfs 0 _ rfl
 have h1:DataW.trod enc Tryz.prog W 0 (fun _=>true) true k 25 (List.take (Tryz.prog.cellsOf 25) (List.drop 1 [c0,c1,c2]))=xs[1]?:=hfs 1 _ rfl
 have h2:DataW.trod enc Tryz.prog W 0 (fun _=>true) true k 3 (List.take (Tryz.prog.cellsOf 3) (List.drop 2 [c0,c1,c2]))=xs[2]?:=hfs 2 _ rfl
 rw [c4] at h0;rw [cN] at h1;rw [c3] at h2;replace h0:DataW.trod enc Tryz.prog W 0 (fun _=>true) true k 4 [c0]=xs[0]?:=h0
 replace h1:DataW.trod enc Tryz.prog W 0 (fun _=>true) true k 25 [c1]=xs[1]?:=h1
 replace h2:DataW.trod enc Tryz.prog W 0 (fun _=>true) true k 3 [c2]=xs[2]?:=h2
 match xs,hxl with
 | [x0,x1,x2],_ =>
   obtain ⟨ng,e0,rfl⟩:=DataW.trod_bool Tryz.underlying4 h0;obtain ⟨e,e2,rfl,hw⟩:=DataW.trod_int Tryz.underlying3 h2
   cases e0
   cases e2
   have hs:∃ a n c,c1=.slice a n c:=by
    rcases DataW.trod_slice Tryz.underlying25 h1 with ⟨q,_⟩|⟨a,len,cap,_,_,_,_,q,_⟩
    · cases q;exact ⟨_,_,_,rfl⟩
    · cases q;exact ⟨_,_,_,rfl⟩
   obtain ⟨a,n,c,rfl⟩:=hs;obtain ⟨ys,hy,hd⟩:=cameR_of (a:=a) (n:=n) (c:=c) (d:=x1.1) (p:=x1.2) ⟨k,h1⟩
   have hw':-9223372036854775808≤e∧e≤9223372036854775807:=by
    simp [Lit.wf,IntKind.min,IntKind.max,IntKind.signed,IntKind.bits] at hw;omega
   refine ⟨ng,a,n,c,e,ys,x1.1,⟨rfl,rfl,rfl⟩,⟨hy,hw'.1,hw'.2⟩,?_,hd⟩;have:=(Prod.mk.inj hx).1;simpa using this
structure CameR (w:World) (a:Option Addr) (l c:Nat) (e:Int) (xs:List Nat) (b:Option Addr) (k d:Nat) (f:Int) (ys:List Nat):Prop where
 num:CameD w a l c xs e
 den:CameD w b k d ys f
theorem CameR.rv {w:World}{n m:Bool}{a:Option Addr}{l c:Nat}{e:Int}{xs:List Nat}{b:Option Addr}{k d:Nat}{f:Int}{ys:List Nat}(h:CameR w a l c e xs b k d f ys) (h1:l≤35184372088832) (h2:k≤35184372088832) :
 Rv w ⟨n,.slice a l c,val xs,e,m,.slice b k d,val ys,f⟩ :=
 ⟨⟨a,l,c,xs,rfl,h.num.came.arg h1,rfl⟩,⟨b,k,d,ys,rfl,h.den.came.arg h2,rfl⟩,⟨h.num.lo,h.num.hi⟩,⟨h.den.lo,h.den.hi⟩⟩
theorem ratio_of {H:Type}{enc:TypeId×Value→H}{W:World}{r:Reach}{b0:Nat}{v:Value}{d:DataW H}{p:List MemPlace}(hv:Value.okWide Tryz.prog W r b0 30 v) (h:DataW.Trod enc Tryz.prog W 0 (fun _=>true) true 30 v d p) :
 ∃ (ng:Bool) (a:Option Addr) (n c:Nat) (e:Int) (xs:List Nat) (mg:Bool) (b:Option Addr) (k cb:Nat) (f:Int) (ys:List Nat) (d1 d2:DataW H),
   v=.agg #[.bool ng,.slice a n c,.int .i64 e,.bool mg,.slice b k cb,.int .i64 f]∧CameR W a n c e xs b k cb f ys ∧
   d=.agg [.agg [.lit (.bool ng),d1,.lit (.int .i64 e)],.agg [.lit (.bool mg),d2,.lit (.int .i64 f)]]∧RoomD c d1∧RoomD cb d2:=by
 obtain ⟨cs,rfl,hsz⟩:=okWide_struct Tryz.underlying30 hv;obtain ⟨fuel,hf⟩:=h;have hC:Tryz.prog.cellsOf 30=6:=by kernel_rfl
 have hD:Tryz.prog.cellsOf 27=3:=by kernel_rfl
 obtain ⟨xs,k,rfl,hx,hl,hxl,hfs⟩:=DataW.trod_struct Tryz.underlying30 hf;rw [hC] at hsz
 obtain ⟨c0,c1,c2,c3,c4,c5,rfl⟩:∃ c0 c1 c2 c3 c4 c5,cs=#[c0,c1,c2,c3,c4,c5]:=by
  obtain ⟨l⟩:=cs
  match l,hsz with
  | [a,b,c,d,e,f],_=>exact ⟨a,b,c,d,e,f,rfl⟩
 have h0:DataW.trod enc Tryz.prog W 0 (fun _=>true) true k 27 (List.take (Tryz.prog.cellsOf 27) (List.drop 0 [c0,c1,c2,c3,c4,c5]))=xs[0]?:=hfs 0 _ rfl
 have h1:DataW.trod enc Tryz.prog W 0 (fun _=>true) true k 27 (List.take (Tryz.prog.cellsOf 27) (List.drop 3 [c0,c1,c2,c3,c4,c5]))=xs[1]?:=hfs 1 _ rfl
 rw [hD] at h0 h1;replace h0:DataW.trod enc Tryz.prog W 0 (fun _=>true) true k 27 [c0,c1,c2]=xs[0]?:=h0
 replace h1:DataW.trod enc Tryz.prog W 0 (fun _=>true) true k 27 [c3,c4,c5]=xs[1]?:=h1
 match xs,hxl with
 | [x0,x1],_ =>
   obtain ⟨ng,a,n,c,e,zs,d1,⟨rfl,rfl,rfl⟩,w1,g1,r1⟩:=dyad_cells (d:=x0.1) (p:=x0.2) h0;obtain ⟨mg,b,m,cb,f,ys,d2,⟨rfl,rfl,rfl⟩,w2,g2,r2⟩:=dyad_cells (d:=x1.1) (p:=x1.2) h1;refine ⟨ng,a,n,c,e,zs,mg,b,m,cb,f,ys,d1,d2,rfl,⟨w1,w2⟩,?_,r1,r2⟩;have:=(Prod.mk.inj hx).1;rw [←g1,←g2];simpa using this
end
end Go.Proofs.YtdimlelcgapobaaGreatDoor
