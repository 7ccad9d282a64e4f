import Derived.Test.YtblkpkgebigojaaGreatDoorFR8cx
import Derived.Test.YtblkpkgebigojaaGreatDoorM1x
import Derived.ProofKit
import Derived.OpenShut
import Derived.ChangeOld
import Derived.ChangeArms
import Derived.SizedLaws
import Derived.Laws.Cover2
import Derived.Test.YtblkpkgebigojaaGreatDoorFI8x
set_option linter.unusedVariables false
set_option linter.unusedSimpArgs false
set_option maxHeartbeats 16000000
set_option maxRecDepth 20000
namespace Go.Proofs.YtblkpkgebigojaaGreatDoor
namespace J
end J
section
open Go Go.RowKit J
open Go.Proofs.YtblkpkgebigojaaGreatDoor.B (bO aJ)
attribute [local go_sem] Ps.eD bO aJ
theorem j4 (x:Nat) (w:World):Calls Tryz.prog 20 #[.float .f64 x,.float .f64 x] w fun r w'=>r=.returned (.bool true)/\w'=w:=by
 have:=R4 x x w;rw [decide_eq_true rfl] at this;exact this
theorem VT (N:Int) (s k t l:Nat) (w:World):Calls Tryz.prog 17 #[.agg #[.int .i64 N,.float .f64 s,.float .f64 k,.float .f64 t,.float .f64 l],.agg #[.int .i64 N,.float .f64 s,.float .f64 k,.float .f64 t,.float .f64 l]] w fun r w'=>r=.returned (.bool true)/\Below w.heap.size w w':=by
 obtain ⟨V,hV⟩:=ah ((w.alloc (Obj.cells #[.int .i64 N,.float .f64 s,.float .f64 k,.float .f64 t,.float .f64 l] 36)).alloc (Obj.cells #[.int .i64 N,.float .f64 s,.float .f64 k,.float .f64 t,.float .f64 l] 36));obtain ⟨g,hg⟩:=ah (w.heap.size);obtain ⟨g2,hg2⟩:=ah (w.heap.size+1)
 have B1:Aside (Bl V g 36 [.int .i64 N,.float .f64 s,.float .f64 k,.float .f64 t,.float .f64 l]/\Bl V g2 36 [.int .i64 N,.float .f64 s,.float .f64 k,.float .f64 t,.float .f64 l]/\Below w.heap.size w V):=by
  have z2:=Bl.new (w.alloc (Obj.cells #[.int .i64 N,.float .f64 s,.float .f64 k,.float .f64 t,.float .f64 l] 36)) 36 [.int .i64 N,.float .f64 s,.float .f64 k,.float .f64 t,.float .f64 l];rw [iH] at z2;rw [hV,hg,hg2];exact ⟨(Bl.new _ 36 [.int .i64 N,.float .f64 s,.float .f64 k,.float .f64 t,.float .f64 l]).alloc _,z2,(au _ _).trans ((au _ _).mono aW)⟩
 have HV:=(fB hV hg hg2);have C1:=hid (j4 s V);have C2:=hid (j4 k V);have C3:=hid (j4 t V);have C4:=hid (j4 l V);clear hV hg hg2;go_enter Tryz.func17,Tryz.ntmps17
 go_upto_region 1 with fail
 rw [<-HV.o.1]
 try rw [<-HV.o.r2]
 try rw [<-HV.o.2.1]
 clear HV;have z0:=B1.o.1.cell 0 _ rfl;have y0:=B1.o.2.1.cell 0 _ rfl;have z1:=B1.o.1.cell 1 _ rfl;have y1:=B1.o.2.1.cell 1 _ rfl;have z2:=B1.o.1.cell 2 _ rfl;have y2:=B1.o.2.1.cell 2 _ rfl;have z3:=B1.o.1.cell 3 _ rfl;have y3:=B1.o.2.1.cell 3 _ rfl;have z4:=B1.o.1.cell 4 _ rfl;have y4:=B1.o.2.1.cell 4 _ rfl;go_wp2_with fail;refine C1.o.mono ?_;rintro r u ⟨rfl,hu⟩;rw [hu];clear hu u C1;go_wp2_with fail;refine C2.o.mono ?_;rintro r u ⟨rfl,hu⟩;rw [hu];clear hu u C2;go_wp2_with fail;refine C3.o.mono ?_;rintro r u ⟨rfl,hu⟩;rw [hu];clear hu u C3;go_wp2_with fail;refine C4.o.mono ?_;rintro r u ⟨rfl,hu⟩;rw [hu];clear hu u C4;go_wp2;exact aI (v:=.bool true) (by simp [results,Tryz.results17,go_sem]) rfl ⟨rfl,B1.o.r2⟩
end
section
open Go.ChangeShapes Go.WideShapes Go.ChangeAt Go.RowKit
theorem Zb {H:Type}{enc:TypeId×Value->H}{P:Program}{w:World}{base:Nat}{spare:Nat->Bool}{held:Bool}{fuel:Nat}{t:TypeId}{cs:List Value}{x:DataW H×List MemPlace}{k:FloatKind}(ht:P.underlying t=some (.float k)) (h:DataW.trod enc P w base spare held fuel t cs=some x):∃ n,cs=[.float k n]/\x=(.lit (.float k n),[])/\(Lit.float k n).wf=true:=by
 cases fuel with
 | zero=>simp [DataW.trod] at h
 | succ m =>
   simp only [DataW.trod,ht] at h
   split at h <;> simp_all
structure Pn (w:World) (a:Option Addr) (n c:Nat) (xs:List Nat):Prop where
 len:n=xs.length
 cap:n<=c
 wf:iZ xs
 rd:Fs w.heap.size w a xs
 nil:a=none->c=0
theorem Lg (b off i:Nat):(⟨b,off,none⟩:Addr).add i=⟨b,off+i,none⟩:=by unfold Addr.add;split <;> simp_all
def Sv {H:Type} (y:DataW H×List MemPlace):Nat:=match y.1 with | .lit (.float _ n)=>n | _=>0
theorem Tryz.VU:Tryz.prog.cellsOf 26=1:=by kernel_rfl
theorem Tryz.VV:Tryz.prog.bytesOf 26=8:=by kernel_rfl
theorem Dl {H:Type}{enc:TypeId×Value->H}{W:World}{a:Option Addr}{n c:Nat}{d:DataW H}{p:List MemPlace}(h:DataW.Trod enc Tryz.prog W 0 (fun _=>true) true 22 (.slice a n c) d p) :
 ∃ xs,Pn W a n c xs/\((d=.nil/\c=0)\/∃ elems spare:List (DataW H),d=.slice elems spare/\elems.length+spare.length=c):=by
 obtain ⟨fuel,hf⟩:=h;rcases DataW.trod_slice Tryz.underlying22 hf with ⟨hcs,hx⟩|⟨x,l,cp,elems,rest,m,_,hcs,hx,hb,hl,hm,hlen,hel,hsp,hns⟩
 · simp [Value.cells] at hcs;obtain ⟨rfl,rfl,rfl⟩:=hcs;exact ⟨[],⟨rfl,aH _,(fun x hx=>by cases hx),(fun h=>absurd rfl h),fun _=>rfl⟩,.inl ⟨(Prod.mk.inj hx).1,rfl⟩⟩
 · simp [Value.cells] at hcs;obtain ⟨rfl,rfl,rfl⟩:=hcs
   have each:∀ i y,i<n->elems[i]?=some y->y=(.lit (.float .f64 (Sv y)),[])/\(Lit.float .f64 (Sv y)).wf=true/\W.cell? (x.add i)=some (.float .f64 (Sv y)):=by
    intro i y hi hy;have hb':=hel i hi;rw [hy,Tryz.VU,dU,Option.bind_eq_some_iff] at hb';obtain ⟨cs',hcs,hy'⟩:=hb';obtain ⟨k,rfl,rfl,hw⟩:=Zb Tryz.underlying26 hy';exact ⟨rfl,hw,cell_of_cells?_one hcs⟩
   refine ⟨elems.map Sv,⟨by simp [hlen],hl,?_,?_,fun e=>by cases e⟩,.inr ⟨_,_,(Prod.mk.inj hx).1,?_⟩⟩
   · intro y hy;obtain ⟨z,hz,rfl⟩:=uE.1 hy;obtain ⟨i,hi⟩:=List.getElem?_of_mem hz;have hil:=(uD.1 hi).1;have:=(each i z ae hi).2.1;exact of_decide_eq_true this
   · intro hne;obtain ⟨b,off,spot⟩:=x
     have hn0:0<n:=by
      rcases jO n with h0|h0
      · rw [h0] at hlen;have:=Ao hlen;subst this;simp at hne
      · exact h0
     have hc0:=(each 0 (elems[0]'(by omega)) hn0 (fF _)).2.2;have hspot:spot=none:=by simpa [Addr.add] using World.cell?_spot hc0
     subst hspot;refine ⟨b,off,mM W _ (by simpa [Addr.add] using hc0),rfl,fun i hi=>?_⟩;rw [xm] at hi;have hadd:=Lg b off i;have:=(each i (elems[i]'hi) ae (fF _)).2.2;rw [hadd] at this;rw [this];simp [eQ,hi]
   · have hr:=(hsp rfl).1;simp only [xm];omega
theorem tL {H:Type}{ts:List TypeId}{ds:List (DataW H)}(h:(DataW.weightsEach Tryz.prog ts ds).all (·<=reachBytes)=true) {j:Nat}{d:DataW H}{c n:Nat}(ht:ts[j]?=some 22) (hd:ds[j]?=some d) (hn:n<=c)
 (hc:(d=.nil/\c=0)\/∃ elems spare:List (DataW H),d=.slice elems spare/\elems.length+spare.length=c):n<=17592186043904:=by
 rcases hc with ⟨_,rfl⟩|⟨elems,spare,rfl,hl⟩
 · omega
 · have:=sized_slice h ht hd Tryz.underlying22;rw [Tryz.VV,hl] at this;simp only [reachBytes] at this;omega
end
section
open Go.RowKit J
attribute [local go_sem] Ps.eD
theorem ib.Sw {w w':World}{g:Nat}{L:List Nat}(h:ib w g L) (hb:Below w.heap.size w w'):ib w' g L:=by
 have hl:=h.lt;unfold ib at *;rw [hb.block g hl];exact h
theorem Ik {w:World}{g:Nat}{xs:List Nat}(h:ib w g (xs++List.replicate 8 jh)):Fs w.heap.size w (some ⟨g,0,none⟩) xs:=by
 have:=h.fs (B:=w.heap.size) h.lt xs.length;rw [List.take_left'] at this
 · exact this
 · rfl
theorem wY (a b:Option Addr) (n m c d:Nat) (xs ys:List Nat) (mode:Int) (w:World) (hT:il w) (hC:Pn w a n c xs) (hm:n<=17592186043904) (hC2:Pn w b m d ys) (hm2:m<=17592186043904) :
 Calls Tryz.prog 5 #[.slice a n c,.slice b m d,.int .i64 mode] w fun r w'=>r=.returned (.bool true)/\Below w.heap.size w w':=by
 obtain ⟨hl1,hcap,hW1,hF1,_⟩:=hC;obtain ⟨hl2,hcap2,hW2,hF2,_⟩:=hC2;have HL:=hid (VL w hT);obtain ⟨⟨N,s,k,t,l,E⟩,hz⟩:∃ z,zT xs ys mode=z:=⟨_,rfl⟩;have K1:Hid (∀ u:World,Below w.heap.size w u->Calls Tryz.prog 13 #[.slice a n c] u fun r w'=>r=.returned (.slice (some ⟨u.heap.size,0,none⟩) n (n+8))/\ib w' u.heap.size (xs++List.replicate 8 jh)/\Below u.heap.size u w'):=fun u hb=>Ih xs a n c u.heap.size u hl1 hm ((hF1.below hb).mono hb.size) (aH _);have K2:Hid (∀ u:World,Below w.heap.size w u->Calls Tryz.prog 13 #[.slice b m d] u fun r w'=>r=.returned (.slice (some ⟨u.heap.size,0,none⟩) m (m+8))/\ib w' u.heap.size (ys++List.replicate 8 jh)/\Below u.heap.size u w'):=fun u hb=>Ih ys b m d u.heap.size u hl2 hm2 ((hF2.below hb).mono hb.size) (aH _);have K3:Hid (∀ (u:World) (g1 g2:Nat),Below w.heap.size w u->ib u g1 (xs++List.replicate 8 jh)->ib u g2 (ys++List.replicate 8 jh)->Calls Tryz.prog 14 #[.slice (some ⟨g1,0,none⟩) n (n+8),.slice (some ⟨g2,0,none⟩) m (m+8),.int .i64 mode] u fun r w'=>r=.returned (.tuple #[.agg #[.int .i64 N,.float .f64 s,.float .f64 k,.float .f64 t,.float .f64 l],.int .i64 E])/\Below u.heap.size u w'):=fun u g1 g2 hb o1 o2=>Ig xs ys (some ⟨g1,0,none⟩) (some ⟨g2,0,none⟩) n m (n+8) (m+8) mode u hl1 hl2 (Ik o1) (Ik o2) hW1 hW2 (hT.belows hb) hz;have K4:Hid (∀ (u:World) (g1:Nat),Below w.heap.size w u->ib u g1 (xs++List.replicate 8 jh)->Calls Tryz.prog 15 #[.slice (some ⟨g1,0,none⟩) n (n+8),.slice a n c] u fun r w'=>r=.returned (.bool true)/\Below u.heap.size u w'):=fun u g1 hb o1=>yB xs a n c u.heap.size g1 u hl1 hm ((hF1.below hb).mono hb.size) (aH _) o1;have K5:Hid (∀ (u:World) (g1:Nat),Below w.heap.size w u->ib u g1 (ys++List.replicate 8 jh)->Calls Tryz.prog 15 #[.slice (some ⟨g1,0,none⟩) m (m+8),.slice b m d] u fun r w'=>r=.returned (.bool true)/\Below u.heap.size u w'):=fun u g1 hb o1=>yB ys b m d u.heap.size g1 u hl2 hm2 ((hF2.below hb).mono hb.size) (aH _) o1
 have K6:Hid (∀ u:World,Below w.heap.size w u->Calls Tryz.prog 16 #[.slice a n c,.slice b m d,.int .i64 mode] u fun r w'=>r=.returned (.tuple #[.agg #[.int .i64 N,.float .f64 s,.float .f64 k,.float .f64 t,.float .f64 l],.int .i64 E])/\Below u.heap.size u w'):=fun u hb=>by
  have:=Su xs ys a b n m c d mode u hl1 hl2 ((hF1.below hb).mono hb.size) ((hF2.below hb).mono hb.size) hW1 hW2;rw [hz] at this;exact this
 clear hl1 hcap hW1 hF1 hl2 hcap2 hW2 hF2 hT hz hm hm2;go_enter Tryz.func5,Tryz.ntmps5;go_wp2_with fail;refine HL.o.mono ?_;rintro r u1 ⟨rfl,hb⟩;have B1:=ay hb;have C:=hid (K1.o u1 hb);clear hb HL K1;obtain ⟨g1,hg1⟩:=ah (u1.heap.size);rw [<-hg1] at C;go_wp2_with fail;refine C.o.mono ?_;clear C;rintro r u2 ⟨rfl,ho,hb⟩;rw [hg1] at hb;have B2:=bB (B1.o.trans (hb.mono B1.o.size)) ho;clear hb ho B1 hg1;have C:=hid (K2.o u2 B2.o.1);clear K2;obtain ⟨g2,hg2⟩:=ah (u2.heap.size);rw [<-hg2] at C;go_wp2_with fail;refine C.o.mono ?_;clear C;rintro r u3 ⟨rfl,ho,hb⟩;rw [hg2] at hb;have B3:=fB (B2.o.1.trans (hb.mono B2.o.1.size)) (B2.o.2.Sw hb) ho;clear hb ho B2 hg2;have C:=hid (K3.o u3 g1 g2 B3.o.1 B3.o.2.1 B3.o.r2);clear K3;go_wp2_with fail;refine C.o.mono ?_;clear C;rintro r u4 ⟨rfl,hb⟩;obtain ⟨U4,ZJ⟩:=ah (u4.alloc (Obj.cells #[.int .i64 N,.float .f64 s,.float .f64 k,.float .f64 t,.float .f64 l] 36));obtain ⟨f1,hf1⟩:=ah (u4.heap.size)
 have B4:Aside (Below w.heap.size w U4/\ib U4 g1 (xs++List.replicate 8 jh)/\ib U4 g2 (ys++List.replicate 8 jh)/\Bl U4 f1 36 [.int .i64 N,.float .f64 s,.float .f64 k,.float .f64 t,.float .f64 l]):=by
  have hb2:Below u3.heap.size u3 U4:=by rw [ZJ];exact hb.trans ((au _ _).mono hb.size)
  refine ⟨B3.o.1.trans (hb2.mono B3.o.1.size),B3.o.2.1.Sw hb2,B3.o.r2.Sw hb2,?_⟩;rw [ZJ,hf1];exact Bl.new _ 36 [.int .i64 N,.float .f64 s,.float .f64 k,.float .f64 t,.float .f64 l]
 have HU4:=(bB ZJ hf1);clear ZJ hf1 hb B3;have C:=hid (K4.o U4 g1 B4.o.1 B4.o.2.1);clear K4
 go_upto_region 5 with fail
 rw [<-HU4.o.1,<-HU4.o.2];clear HU4;go_wp2_with fail;refine C.o.mono ?_;clear C;rintro r u5 ⟨rfl,hb⟩;have B5:=fB (B4.o.1.trans (hb.mono B4.o.1.size)) (B4.o.r2.1.Sw hb) (B4.o.r3.below hb B4.o.r3.lt);clear hb B4;have C:=hid (K5.o u5 g2 B5.o.1 B5.o.2.1);clear K5;go_wp2_with fail;refine C.o.mono ?_;clear C;rintro r u6 ⟨rfl,hb⟩;have B6:=bB (B5.o.1.trans (hb.mono B5.o.1.size)) (B5.o.r2.below hb B5.o.r2.lt);clear hb B5;have C:=hid (K6.o u6 B6.o.1);clear K6;go_wp2_with fail;refine C.o.mono ?_;clear C;rintro r u7 ⟨rfl,hb⟩;obtain ⟨U7,ZK⟩:=ah (u7.alloc (Obj.cells #[.int .i64 N,.float .f64 s,.float .f64 k,.float .f64 t,.float .f64 l] 36));obtain ⟨f2,hf2⟩:=ah (u7.heap.size)
 have B7:Aside (Below w.heap.size w U7/\Bl U7 f1 36 [.int .i64 N,.float .f64 s,.float .f64 k,.float .f64 t,.float .f64 l]/\Bl U7 f2 36 [.int .i64 N,.float .f64 s,.float .f64 k,.float .f64 t,.float .f64 l]):=by
  have hb2:Below u6.heap.size u6 U7:=by rw [ZK];exact hb.trans ((au _ _).mono hb.size)
  refine ⟨B6.o.1.trans (hb2.mono B6.o.1.size),B6.o.2.below hb2 B6.o.2.lt,?_⟩;rw [ZK,hf2];exact Bl.new _ 36 [.int .i64 N,.float .f64 s,.float .f64 k,.float .f64 t,.float .f64 l]
 have HU7:=(bB ZK hf2);clear ZK hf2 hb B6;have C:=hid (VT N s k t l U7)
 go_upto_region 8 with fail
 rw [<-HU7.o.1,<-HU7.o.2];clear HU7;have o1:(E==E)=true:=by simp
 have y0:=B7.o.2.1.cell 0 _ rfl;have z0:=B7.o.r2.cell 0 _ rfl;have y1:=B7.o.2.1.cell 1 _ rfl;have z1:=B7.o.r2.cell 1 _ rfl;have y2:=B7.o.2.1.cell 2 _ rfl;have z2:=B7.o.r2.cell 2 _ rfl;have y3:=B7.o.2.1.cell 3 _ rfl;have z3:=B7.o.r2.cell 3 _ rfl;have y4:=B7.o.2.1.cell 4 _ rfl;have z4:=B7.o.r2.cell 4 _ rfl;go_wp2_with fail;refine C.o.mono ?_;clear C;rintro r u8 ⟨rfl,hb⟩;have B8:=ay (B7.o.1.trans (hb.mono B7.o.1.size));clear hb B7 y0 z0 y1 z1 y2 z2 y3 z3 y4 z4;go_wp2;exact aI (v:=.bool true) (by simp [results,Tryz.results5,go_sem]) rfl ⟨rfl,B8.o⟩
end
end Go.Proofs.YtblkpkgebigojaaGreatDoor
