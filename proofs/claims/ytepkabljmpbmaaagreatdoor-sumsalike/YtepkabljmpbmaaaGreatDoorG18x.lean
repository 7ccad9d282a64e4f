import Derived.Test.YtepkabljmpbmaaaGreatDoorG7x
import Derived.Test.YtepkabljmpbmaaaGreatDoorJ13x
import Derived.Test.YtepkabljmpbmaaaGreatDoorD21x
import Derived.Test.YtepkabljmpbmaaaGreatDoorD16x
import Derived.Test.YtepkabljmpbmaaaGreatDoorD32x
import Derived.Deep.Cut
import Derived.ProofKit
import Derived.OpenShut
import Derived.ChangeOld
import Derived.ChangeArms
import Derived.SizedLaws
import Derived.Laws.Cover2
import Derived.Test.YtepkabljmpbmaaaGreatDoorW53x
import Derived.Test.YtepkabljmpbmaaaGreatDoorW33x
import Derived.Test.YtepkabljmpbmaaaGreatDoorBIeeex
import Derived.Test.YtepkabljmpbmaaaGreatDoorW13x
import Derived.BigQuiet
import Derived.OwnWalk
import Derived.ArgAppend
import Derived.Maps.AppendAt
import Derived.Deep.RegionLaw
import Derived.Deep.RegionHeld3
set_option linter.unusedVariables false
set_option linter.unusedSimpArgs false
set_option maxHeartbeats 16000000
set_option maxRecDepth 20000
namespace Go.Proofs.YtepkabljmpbmaaaGreatDoor
namespace J
end J
section
open Go Go.RowKit
theorem Round9 (g f:Nat) (L:List Nat) (mode:Int) (w:World) (hB:Bz w g f L) (hF:Fin9 L) (hl:L.length≤1099511627776) (hT:Tab w) :
 Calls Tryz.prog 17 #[.pointer (some ⟨g,0,none⟩),.int .i64 mode] w fun r w'=>r=.returned (.tuple #[.float .f64 (rndS (fo8 (kvz f L)) mode).1,.int .i64 (rndS (fo8 (kvz f L)) mode).2])∧Below w.heap.size w w':=by
 have e5:EB≤200000:=Nat.le_trans EB5 (by decide);have HK:=hid (Kept9 g f L w hB hF hl hT);obtain ⟨l1,l2,l3,_⟩:=fo8_len (kvz f L) EB e5 (kvz_EB f L hF hl);have hself:=fo8_self (kvz f L) EB e5 (kvz_EB f L hF hl)
 have HR:Hid (∀ u a c,Below w.heap.size w u→Arg u a (ws (dX (fo8 (kvz f L)))).length c (ws (dX (fo8 (kvz f L))))→Calls Tryz.prog 39 #[.agg #[.bool (dN (fo8 (kvz f L))),.slice a (ws (dX (fo8 (kvz f L)))).length c,.int .i64 (dE (fo8 (kvz f L)))],.int .i64 mode] u fun r w'=>r=.returned (.tuple #[.float .f64 (rndS (fo8 (kvz f L)) mode).1,.int .i64 (rndS (fo8 (kvz f L)) mode).2])∧Below u.heap.size u w'):=hid (fun u a c hu A=>by
  have:=Round_any A (hT.belows hu) (dN (fo8 (kvz f L))) (dE (fo8 (kvz f L))) mode l2 l3;rw [val_ws,hself] at this
  exact this)
 obtain ⟨x,hx⟩:∃ x,x=(rndS (fo8 (kvz f L)) mode).1:=⟨_,rfl⟩;obtain ⟨er,her⟩:∃ x,x=(rndS (fo8 (kvz f L)) mode).2:=⟨_,rfl⟩;obtain ⟨n1,hn1⟩:∃ b,b=dN (fo8 (kvz f L)):=⟨_,rfl⟩;obtain ⟨e1,he1⟩:∃ b,b=dE (fo8 (kvz f L)):=⟨_,rfl⟩;obtain ⟨X1,hX1⟩:∃ b,b=dX (fo8 (kvz f L)):=⟨_,rfl⟩;rw [←hx,←her] at HR ⊢;rw [←hn1,←he1,←hX1] at HR HK;rw [←hX1] at l1;clear hx her hn1 he1 hX1 hself hB hF hT l2 l3;go_enter Tryz.func17,Tryz.ntmps17;go_wp2_with fail
 with_reducible refine HK.out.mono ?_
 rintro r u ⟨⟨v1,rfl,hN1⟩,hb1⟩;obtain ⟨a1,c1,rfl,A1⟩:=hN1.arg (Nat.le_trans l1 (by decide));have HA:=qsd (ai A1 hb1);clear A1 hN1 hb1;go_wp2_with fail
 with_reducible refine (HR.out u a1 c1 HA.out.2 HA.out.1).mono ?_
 rintro r u2 ⟨rfl,hb2⟩;have HB:=qsd (HA.out.2.trans (hb2.mono HA.out.2.size));clear hb2;go_wp2
 go_ret2
 exact ⟨rfl,HB.out⟩
end
section
open Go.RowKit
theorem vK_fo8 (k:Nat) (hk:k<9218868437227405312):mkS false (num64 k).1 (num64 k).2=fo8 ((vK k:Nat):Int):=by
 have h1:=magW_wd false k (by omega);have hw:wd64 false k=k:=by unfold wd64;simp
 rw [hw] at h1;have h:=of_fo8 (x:=k) (by unfold Wd;omega) (by unfold finW;rw [h1.1];exact hk);rw [h1.1,h1.2.1] at h;have hv:fvW k=((vK k:Nat):Int):=by unfold fvW B.sg;rw [h1.1,h1.2.1];simp
 rw [hv] at h;rw [←h];unfold ofK ofR;rw [if_neg (by omega)];have e:=num64_bits (k/4503599627370496) (k%4503599627370496) (Nat.mod_lt _ (by decide));rw [show k/4503599627370496*4503599627370496+k%4503599627370496=k by omega] at e;rw [e]
theorem vK_top9 (k:Nat) (hk:k<9218868437227405312):((vK k:Nat):Int).natAbs<2^2098:=by
 have h1:=magW_wd false k (by omega);have hw:wd64 false k=k:=by unfold wd64;simp
 rw [hw] at h1;have h:=top_fv (x:=k) (by unfold Wd;omega) (by unfold finW;rw [h1.1];exact hk) 2098 rfl;have hv:fvW k=((vK k:Nat):Int):=by unfold fvW B.sg;rw [h1.1,h1.2.1];simp
 rw [hv] at h;exact h
theorem rbits9 (k:Nat) (hk:k<9218868437227405312) (w:World) :
 Calls Tryz.prog 88 #[.agg #[.int .i64 53,.int .i64 (-1074),.int .u64 9218868437227405312],.bool false,.int .u64 (k:Nat)] w fun r w'=>FAns w.heap.size w' r (fo8 ((vK k:Nat):Int))∧Below w.heap.size w w':=by
 rw [←vK_fo8 k hk];exact rBits_any false k w hk
theorem fo8_nat (A m:Nat) (hm:m≤200000) (hA:((A:Nat):Int).natAbs<2^m):-1074≤dE (fo8 (A:Nat))∧dE (fo8 (A:Nat))≤200000∧dX (fo8 (A:Nat))*2^(dE (fo8 (A:Nat))+1074).toNat=A∧(ws (dX (fo8 (A:Nat)))).length≤8192∧(fo8 (A:Nat)).isSome=true:=by
 obtain ⟨l1,l2,l3,l4,l5⟩:=fo8_len (A:Nat) m hm hA;obtain ⟨n,X,e,h1,F,h2,h3,h4,h5⟩:=fo8_frm (A:Nat) m hm hA;have hm':mkS (decide (((A:Nat):Int)<0)) ((A:Nat):Int).natAbs (-1074)=some (n,X,e):=h1;have hz:=zv_mkS hm' (-1074) (.inr (by omega));unfold zv at hz;simp only at hz;rw [show ((-1074:Int) - -1074).toNat=0 by decide,Nat.pow_zero,Nat.mul_one,decide_eq_false (by omega),Int.natAbs_natCast] at hz;rw [h1] at l1 l4 l5 ⊢;refine ⟨l4,l5,?_,l1,rfl⟩;show X*2^(e+1074).toNat=A;rw [show (e - -1074).toNat=(e+1074).toNat by congr 1] at hz;have h0:(0:Int)≤((A:Nat):Int):=Int.natCast_nonneg A;generalize X*2^(e+1074).toNat=Y at hz ⊢
 cases n <;> simp [sg1] at hz <;> omega
theorem sl_shl (b:Nat) (hb:b<18446744073709551616):IntKind.u64.wrap ((b:Int)*2)/2=((magW b:Nat):Int):=by
 unfold magW;simp [IntKind.wrap,IntKind.bits,IntKind.signed];omega
theorem moved9 {w:World}{v:Value}{X lo:Nat}(hN:Nt lo w v X) (by':Int) (hb0:-64000000≤by') (hb1:by'≤64000000) (hl:(ws X).length≤2000000) :
 Calls Tryz.prog 126 #[v,.int .i64 by'] w fun r w'=>∃ v,r=.returned v∧Nt w.heap.size w' v (if by'<0 then X/2^(-by').toNat else X*2^by'.toNat)∧Below w.heap.size w w':=by
 by_cases hX:X=0
 · obtain ⟨a,c,rfl,A⟩:=hN.arg (by omega)
   by_cases h:by'<0
   · rw [if_pos h];obtain ⟨k,hk⟩:∃ k:Nat,by'=-(k:Int):=⟨(-by').toNat,by omega⟩
     subst hk;rw [hX,Nat.zero_div,ws_zero];exact (moved_far _ _ _ k w (by simp) (by omega) (by omega) (by simp)).mono fun r w' ⟨h1,h2⟩=>⟨_,h1,Nt.nil _ _,by rw [h2];exact Below.refl _ _⟩
   · rw [if_neg h];obtain ⟨k,hk⟩:∃ k:Nat,by'=(k:Int):=⟨by'.toNat,by omega⟩
     subst hk;exact moved_up k A hl (by omega)
 · exact moved_any hN by' (by omega) hb1 hX hl
def sB (k:Nat) (j:Int):Nat:=if j+34<0 then 0 else sl (vK k*16384) (j+34).toNat
theorem sB_eq {k X:Nat}{e j:Int}(he:-1074≤e) (hX:X*2^(e+1074).toNat=vK k):(if e-32*j<0 then X/2^(-(e-32*j)).toNat else X*2^(e-32*j).toNat)%4294967296=sB k j:=by
 unfold sB sl;have e14:vK k*16384=X*2^((e+1074).toNat+14):=by rw [←hX,Nat.pow_add,Nat.mul_assoc]
 by_cases h:j+34<0
 · rw [if_pos h,if_neg (by omega)];obtain ⟨q,hq⟩:∃ q,(e-32*j).toNat=32+q:=⟨(e-32*j).toNat-32,by omega⟩;rw [hq,Nat.pow_add,show (2:Nat)^32=4294967296 by decide,Nat.mul_left_comm];exact Nat.mul_mod_right _ _
 · rw [if_neg h,e14];congr 1
   by_cases h2:e-32*j<0
   · rw [if_pos h2];have e2:32*(j+34).toNat=(-(e-32*j)).toNat+((e+1074).toNat+14):=by omega
     have e3:2^(32*(j+34).toNat)=2^(-(e-32*j)).toNat*2^((e+1074).toNat+14):=by rw [e2,Nat.pow_add 2 (-(e-32*j)).toNat]
     rw [e3];exact (Nat.mul_div_mul_right _ _ (Nat.two_pow_pos _)).symm
   · rw [if_neg h2];have e2:(e+1074).toNat+14=(e-32*j).toNat+32*(j+34).toNat:=by omega
     have e3:2^((e+1074).toNat+14)=2^(e-32*j).toNat*2^(32*(j+34).toNat):=by rw [e2,Nat.pow_add 2 (e-32*j).toNat]
     rw [e3,←Nat.mul_assoc];exact (Nat.mul_div_cancel _ (Nat.two_pow_pos _)).symm
theorem rslice9 (b:Nat) (hb:b<18446744073709551616) (hk:magW b<9218868437227405312) (j:Int) (hj:-100≤j∧j≤100) (w:World) :
 Calls Tryz.prog 92 #[.int .u64 (b:Nat),.int .i64 j] w fun r w'=>r=.returned (.int .u32 (sB (magW b) j:Nat))∧Below w.heap.size w w':=by
 have HF:=hid (fun u=>of64_any u);have HBt:=hid (fun u=>rbits9 (magW b) hk u);have esh:=sl_shl b hb;obtain ⟨f1,f2,f3,f4,f5⟩:=fo8_nat (vK (magW b)) 2098 (by decide) (vK_top9 _ hk);have HS:=qsd (sB_eq (j:=j) f1 f3);obtain ⟨O,hO⟩:∃ o,o=fo8 ((vK (magW b):Nat):Int):=⟨_,rfl⟩;rw [←hO] at f1 f2 f4 f5 HS HBt;have HFx:=(qsd (ai f1 (ai f2 (ai f4 f5))));clear hO f1 f2 f3 f4 f5 hb hk;go_enter Tryz.func92,Tryz.ntmps92;go_wp2_with fail;refine (HF.out w).mono ?_;rintro r u ⟨rfl,hbl⟩;have BD:=qsd hbl;clear hbl HF;go_wp2_with fail;refine (HBt.out u).mono ?_;rintro r u2 ⟨⟨v,rfl,hN⟩,hb2⟩;obtain ⟨va,vc,rfl,hRd⟩:=hN.arg (by have:=HFx.out.2.2.1;omega);obtain ⟨W,hW⟩:∃ W,W=u2.alloc (Obj.cells #[.bool (dN O),.slice va (ws (dX O)).length vc,.int .i64 (dE O)] 70):=⟨_,rfl⟩;obtain ⟨g,hg⟩:∃ g,g=u2.heap.size:=⟨_,rfl⟩;have DD:Dk W g (dN O) (.slice va (ws (dX O)).length vc) (dE O):=by rw [hW,hg];exact Dk.new _ _ _ _
 have hba:Below u2.heap.size u2 W:=by rw [hW];exact below_alloc _ _
 have BD:=qsd (ai ((BD.out.trans (hb2.mono BD.out.size)).trans (hba.mono (BD.out.trans (hb2.mono BD.out.size)).size)) (hN.below hba));have HW:=(qsd (ai hW hg));obtain ⟨k0,k1,k2,kf0,kf1,kf2⟩:=DD.facts;clear hW hg hba hb2 hN hRd HBt DD
 go_upto_region 2 with fail
 rw [←HW.out.1,←HW.out.2];clear HW
 have ew:RowKit.wrap64 (dE O-32*j)=dE O-32*j:=by
  have:=HFx.out;unfold RowKit.wrap64;omega
 have C:=hid (moved9 BD.out.2 (dE O-32*j) (by have:=HFx.out;omega) (by have:=HFx.out;omega) (by have:=HFx.out;omega));obtain ⟨M,hM⟩:∃ M,M=(if dE O-32*j<0 then dX O/2^(-(dE O-32*j)).toNat else dX O*2^(dE O-32*j).toNat):=⟨_,rfl⟩;rw [←hM] at C HS;clear hM;go_wp2_with fail;rw [ew];refine C.out.mono ?_;rintro r u3 ⟨v2,rfl,hN,hb⟩;have BD:=qsd (BD.out.1.trans (hb.mono BD.out.1.size));clear hb C ew k0 k1 k2 kf0 kf1 kf2
 by_cases hM0:M=0
 · obtain ⟨a3,c3,rfl,-,-,-⟩:=hN.shape;have hS:sB (magW b) j=0:=by rw [←HS.out,hM0]
   rw [hM0,ws_zero];have HS0:=qsd hS;clear hN HS hM0 hS esh;go_wp2;go_ret;exact ⟨by rw [HS0.out];rfl,BD.out⟩
 · have hpos:0<(ws M).length:=by rw [ws_pos M hM0];simp
   obtain ⟨a3,c3,rfl,hcap,-,hRd⟩:=hN.shape;obtain ⟨q,hq⟩:∃ q,q=(ws M).length:=⟨_,rfl⟩;rw [←hq] at hpos hcap ⊢;obtain ⟨bb,off,hlt,rfl,hc⟩:=hRd (by intro e;rw [e] at hq;simp at hq;omega);have hc0:=hc 0 (by omega);rw [ws_getD,show pw 0=1 from rfl,Nat.div_one,HS.out,Nat.add_zero] at hc0;have hne:((q:Int)==0)=false:=by rw [beq_eq_false_iff_ne];omega
   clear hN HS hM0 hRd hc hlt hq esh;go_wp2;go_ret;exact ⟨rfl,BD.out⟩
end
section
open Go.RowKit J
def nrm (z:Nat):Nat:=if nanW z then oddW else z
theorem nan_odd:nanW oddW=true:=by decide
theorem nrm_idem (z:Nat):nrm (nrm z)=nrm z:=by
 unfold nrm
 cases h:nanW z
 · simp [h]
 · simp [nan_odd]
theorem nrm_lt {z:Nat}(h:z<18446744073709551616):nrm z<18446744073709551616:=by
 unfold nrm
 split
 · decide
 · exact h
theorem nan_nrm (z:Nat):nanW (nrm z)=nanW z:=by
 unfold nrm
 cases h:nanW z
 · simp [h]
 · simp [nan_odd]
theorem nan_mag {x:Nat}(h:nanW x=true):9218868437227405312<magW x:=of_decide_eq_true h
theorem nan_turn (y:Nat) (hy:y<18446744073709551616):nanW (turnW y)=nanW y:=by
 unfold nanW turnW;rw [decide_eq_decide]
 split <;> omega
theorem add_nan_l {x:Nat}(y:Nat) (h:nanW x=true):arW .add x y=oddW:=by
 obtain ⟨s,t,hr⟩:=read_nanW x (nan_mag h);rw [arW_add,hr];rfl
theorem add_nan_r {x y:Nat}(hx:x<18446744073709551616) (h:nanW y=true):arW .add x y=oddW:=by
 obtain ⟨s,t,hr2⟩:=read_nanW y (nan_mag h);rcases kinds x hx with ⟨a1,a2,a3,a4⟩|⟨a1,a2,a3,a4⟩|⟨a1,a2,a4⟩
 · exact add_nan_l y a1
 · rw [arW_add,read_infW x hx a4,hr2];rfl
 · obtain ⟨m,k,hr,_⟩:=read_finW x hx a4;rw [arW_add,hr,hr2];rfl
theorem sub_nan_l {x y:Nat}(hy:y<18446744073709551616) (h:nanW x=true):arW .sub x y=oddW:=by rw [sub_turn x y hy];exact add_nan_l _ h
theorem sub_nan_r {x y:Nat}(hx:x<18446744073709551616) (hy:y<18446744073709551616) (h:nanW y=true):arW .sub x y=oddW:=by
 rw [sub_turn x y hy];exact add_nan_r hx (by rw [nan_turn y hy];exact h)
theorem add_nrm {x y:Nat}(hx:x<18446744073709551616) (hy:y<18446744073709551616):arW .add (nrm x) (nrm y)=arW .add x y:=by
 cases h1:nanW x
 · have e1:nrm x=x:=by unfold nrm;rw [h1];rfl
   rw [e1]
   cases h2:nanW y
   · have e2:nrm y=y:=by unfold nrm;rw [h2];rfl
     rw [e2]
   · rw [add_nan_r hx h2,add_nan_r hx (by rw [nan_nrm];exact h2)]
 · rw [add_nan_l _ h1,add_nan_l _ (by rw [nan_nrm];exact h1)]
theorem sub_nrm {x y:Nat}(hx:x<18446744073709551616) (hy:y<18446744073709551616):arW .sub (nrm x) (nrm y)=arW .sub x y:=by
 cases h1:nanW x
 · have e1:nrm x=x:=by unfold nrm;rw [h1];rfl
   rw [e1]
   cases h2:nanW y
   · have e2:nrm y=y:=by unfold nrm;rw [h2];rfl
     rw [e2]
   · rw [sub_nan_r hx hy h2,sub_nan_r hx (nrm_lt hy) (by rw [nan_nrm];exact h2)]
 · rw [sub_nan_l hy h1,sub_nan_l (nrm_lt hy) (by rw [nan_nrm];exact h1)]
theorem gives_nrm {op:BinOp}{x y z:Nat}(ho:op=.add∨op=.sub∨op=.mul) (h:Gives op x y z):nrm z=arW op x y∧z<18446744073709551616:=by
 rcases h with h|⟨h,h2,h3⟩
 · have hb:=bits_fin ho h;refine ⟨?_,hb.2⟩;unfold nrm nanW arW;rw [h,if_neg (by simp;omega)];rfl
 · refine ⟨?_,h3⟩;unfold nrm nanW arW;rw [h,if_pos (by simpa using h2)];rfl
theorem arW_nrm {op:BinOp}(ho:op=.add∨op=.sub∨op=.mul) (x y:Nat):nrm (arW op x y)=arW op x y∧arW op x y<18446744073709551616:=by
 unfold arW
 cases h:floatBits op .f64 x y with
 | none=>exact ⟨by decide,by decide⟩
 | some z =>
   have hb:=bits_fin ho h;refine ⟨?_,hb.2⟩;show nrm z=z;unfold nrm nanW;rw [if_neg (by simp;omega)]
abbrev plF (x y:Nat):Nat:=arW .add x y
abbrev miF (x y:Nat):Nat:=arW .sub x y
theorem plF_lt (x y:Nat):plF x y<18446744073709551616:=(arW_nrm (.inl rfl) x y).2
theorem miF_lt (x y:Nat):miF x y<18446744073709551616:=(arW_nrm (.inr (.inl rfl)) x y).2
theorem plF_nrm (x y:Nat):nrm (plF x y)=plF x y:=(arW_nrm (.inl rfl) x y).1
theorem miF_nrm (x y:Nat):nrm (miF x y)=miF x y:=(arW_nrm (.inr (.inl rfl)) x y).1
def runF:List Nat→Nat
 | []=>0
 | x::l=>l.foldl plF (nrm x)
theorem runF_snoc (l:List Nat) (y:Nat) (h:l≠[]):runF (l++[y])=plF (runF l) y:=by
 cases l with
 | nil=>exact absurd rfl h
 | cons x l=>simp [runF,List.foldl_append]
theorem runF_take (l:List Nat) (k:Nat) (h0:0<k) (h:k<l.length):runF (l.take (k+1))=plF (runF (l.take k)) (l.getD k 0):=by
 have e:l.take (k+1)=l.take k++[l.getD k 0]:=by
  rw [List.take_succ_eq_append_getElem h,List.getD_eq_getElem?_getD,List.getElem?_eq_getElem h];rfl
 rw [e,runF_snoc];intro h2;have:=congrArg List.length h2;rw [List.length_take,List.length_nil] at this;omega
theorem runF_one (l:List Nat) (h:0<l.length):runF (l.take 1)=nrm (l.getD 0 0):=by
 cases l with
 | nil=>simp at h
 | cons x l=>simp [runF]
theorem foldl_lt (l:List Nat) (s:Nat) (hs:s<18446744073709551616∧nrm s=s):l.foldl plF s<18446744073709551616∧nrm (l.foldl plF s)=l.foldl plF s:=by
 induction l generalizing s with
 | nil=>exact hs
 | cons x l ih=>exact ih _ ⟨plF_lt _ _,plF_nrm _ _⟩
theorem runF_ok (l:List Nat) (h:∀ x ∈ l,x<18446744073709551616):runF l<18446744073709551616∧nrm (runF l)=runF l:=by
 cases l with
 | nil=>exact ⟨by decide,by decide⟩
 | cons x l=>exact foldl_lt l _ ⟨nrm_lt (h x (List.mem_cons_self ..)),nrm_idem x⟩
def nbW (s x:Nat):Bool:=!nanW s&&!nanW x&&decide (magW x≤magW s)
def neV (s x:Nat):Nat:=if nbW s x then plF (miF s (plF s x)) x else plF (miF x (plF s x)) s
def neS (q:Nat×Nat) (x:Nat):Nat×Nat:=(plF q.1 x,plF q.2 (neV q.1 x))
def neF (l:List Nat):Nat×Nat:=l.foldl neS (0,0)
theorem foldl_take {α:Type}(f:α→Nat→α) (a:α) (l:List Nat) (k:Nat) (h:k<l.length):(l.take (k+1)).foldl f a=f ((l.take k).foldl f a) (l.getD k 0):=by
 have e:l.take (k+1)=l.take k++[l.getD k 0]:=by
  rw [List.take_succ_eq_append_getElem h,List.getD_eq_getElem?_getD,List.getElem?_eq_getElem h];rfl
 rw [e,List.foldl_append];rfl
theorem nbW_nrm (s x:Nat):nbW (nrm s) (nrm x)=nbW s x:=by
 unfold nbW;rw [nan_nrm,nan_nrm]
 cases h1:nanW s <;> cases h2:nanW x <;> simp [nrm,h1,h2]
theorem neS_ok (q:Nat×Nat) (x:Nat):(neS q x).1<18446744073709551616∧(neS q x).2<18446744073709551616∧nrm (neS q x).1=(neS q x).1∧nrm (neS q x).2=(neS q x).2:=⟨plF_lt _ _,plF_lt _ _,plF_nrm _ _,plF_nrm _ _⟩
theorem fold_ok (f:Nat×Nat→Nat→Nat×Nat) (hf:∀ q x,(f q x).1<18446744073709551616∧(f q x).2<18446744073709551616∧nrm (f q x).1=(f q x).1∧nrm (f q x).2=(f q x).2) (l:List Nat):(l.foldl f (0,0)).1<18446744073709551616∧(l.foldl f (0,0)).2<18446744073709551616∧nrm (l.foldl f (0,0)).1=(l.foldl f (0,0)).1∧nrm (l.foldl f (0,0)).2=(l.foldl f (0,0)).2:=by
 have h:∀ (l:List Nat) (q:Nat×Nat),(q.1<18446744073709551616∧q.2<18446744073709551616∧nrm q.1=q.1∧nrm q.2=q.2)→((l.foldl f q).1<18446744073709551616∧(l.foldl f q).2<18446744073709551616∧nrm (l.foldl f q).1=(l.foldl f q).1∧nrm (l.foldl f q).2=(l.foldl f q).2):=by
  intro l
  induction l with
  | nil=>intro q h;exact h
  | cons x l ih=>intro q _;exact ih _ (hf q x)
 exact h l (0,0) ⟨by decide,by decide,by decide,by decide⟩
end
section
open Go.RowKit J
attribute [local go_sem] B.f64bits B.f64frombits st_float
theorem rOf10 (b:Nat) (w:World):Calls Tryz.prog 14 #[.int .u64 (b:Nat)] w fun r w'=>r=.returned (.float .f64 b)∧w'=w:=by
 go_enter Tryz.func14,Tryz.ntmps14;go_wp2;exact bodyPost_ret (v:=.float .f64 b) (by simp [results,Tryz.results14,go_sem]) rfl ⟨rfl,rfl⟩
theorem rraw10 (x:Nat) (w:World):Calls Tryz.prog 18 #[.float .f64 x] w fun r w'=>r=.returned (.int .u64 (x:Nat))∧w'=w:=by
 go_enter Tryz.func18,Tryz.ntmps18;go_wp2;exact bodyPost_ret (v:=.int .u64 (x:Nat)) (by simp [results,Tryz.results18,go_sem]) rfl ⟨rfl,rfl⟩
theorem exact10 (x y:Nat) (w:World):Calls Tryz.prog 9 #[.float .f64 x,.float .f64 y] w fun r w'=>r=.returned (.bool (x==y))∧w'=w:=by
 have e2:((x:Int)==(y:Int))=(x==y):=by rw [Bool.eq_iff_iff,beq_iff_eq,beq_iff_eq];omega
 go_enter Tryz.func9,Tryz.ntmps9;go_wp2;exact bodyPost_ret (v:=.bool (x==y)) (by simp [results,Tryz.results9,go_sem,e2]) rfl ⟨rfl,rfl⟩
end
section
open Go.RowKit J
attribute [local go_sem] st_float
def Fw10 (n:Nat):Value:=.float .f64 n
theorem Tryz.und_floats:Tryz.prog.underlying 22=some (.slice 25):=by kernel_rfl
theorem Tryz.info_f64:(Tryz.prog.info? 25).map (fun i=>(i.zero,i.size,i.bytes))=some (some (.float .f64 0),1,8):=by kernel_rfl
def OwnF (w:World) (g:Nat) (L:List Nat):Prop:=w.heap[g]?=some (.cells (L.map Fw10).toArray 25 (0,0))
theorem OwnF.lt {w:World}{g:Nat}{L:List Nat}(h:OwnF w g L):g<w.heap.size:=(Array.getElem?_eq_some_iff.1 h).1
theorem OwnF.cell {w:World}{g:Nat}{L:List Nat}(h:OwnF w g L) (i:Nat) (hi:i<L.length):w.cell? ⟨g,i,none⟩=some (.float .f64 (L.getD i 0)):=by
 unfold OwnF at h;simp [World.cell?,h,Fw10,hi]
theorem OwnF.frozen {w:World}{g:Nat}{L:List Nat}(h:OwnF w g L) (i:Nat):w.frozen? ⟨g,i,none⟩=false:=by
 unfold OwnF at h;simp [World.frozen?,h]
theorem OwnF.set {w:World}{g:Nat}{L:List Nat}(h:OwnF w g L) (i x:Nat):OwnF (w.setCell ⟨g,i,none⟩ (.float .f64 x)) g (L.set i x):=by
 unfold OwnF at h ⊢;simp only [World.setCell,Array.getElem?_modify,h];simp [Fw10,List.map_set]
theorem OwnF.below {w w':World}{g B:Nat}{L:List Nat}(h:OwnF w g L) (hb:Below B w w') (hg:g<B):OwnF w' g L:=by
 unfold OwnF at h ⊢;rw [hb.block g hg];exact h
theorem make_floats (z:Int) (n:Nat) (hz:z=(n:Int)) (hn:n≤17592186044416) (w:World) :
 (Instr.makeSlice 22 (.int .i64 z) (.int .i64 z)).run Tryz.prog w=.ok (.slice (some ⟨w.heap.size,0,none⟩) n n) (w.alloc (.cells (madeCells #[.float .f64 0] n) 25)):=by
 subst hz;exact run_make_row' 22 25 (.float .f64 0) 8 Tryz.und_floats Tryz.info_f64 rfl .i64 .i64 n (by omega) (by omega) w
theorem OwnF.made (w:World) (n:Nat):OwnF (w.alloc (.cells (madeCells #[.float .f64 0] n) 25)) w.heap.size (List.replicate n 0):=by
 unfold OwnF;have h1:=heap_alloc_new w (.cells (madeCells #[.float .f64 0] n) 25);rw [h1];congr 2;apply Array.toList_inj.1;rw [toList_madeCells_one];simp [Fw10]
theorem copy_floats (w:World) (g dLen dCap:Nat) (ao:Option Addr) (sLen sCap B:Nat) (ty:TypeId)
 (L xs:List Nat) (hO:OwnF w g L) (hL:dLen≤L.length) (hx:sLen=xs.length) (hR:Fs B w ao xs) (hle:sLen≤dLen) :
 ∃ w',(Builtin.copy_ #[22,22] ty #[.slice (some ⟨g,0,none⟩) dLen dCap,.slice ao sLen sCap]).run Tryz.prog w=.ok (.int .i64 (sLen:Int)) w'∧OwnF w' g (xs++L.drop sLen)∧But g w w':=by
 subst hx;have hmin:Nat.min xs.length dLen=xs.length:=Nat.min_eq_left hle
 by_cases h0:xs=[]
 · subst h0;exact ⟨w,run_copy_none (P:=Tryz.prog) w 22 22 ty 25 _ _ _ _ _ _ Tryz.und_floats (by kernel_rfl) (by simp at hmin ⊢),by simpa using hO,But.refl _ _⟩
 · obtain ⟨b,off,hlt,rfl,hc⟩:=hR h0;have hadd:∀ j,(⟨b,off,none⟩:Addr).add j=⟨b,off+j,none⟩:=by intro j;unfold Addr.add;split <;> simp_all
   have hrun:=run_copy_row (P:=Tryz.prog) w 22 22 ty 25 g 0 dLen dCap ⟨b,off,none⟩ xs.length sCap (L.map Fw10).toArray 25 (xs.map Fw10) Tryz.und_floats (by kernel_rfl) hO (by rw [hmin];simp) (by
    intro j v hv;rw [hadd]
    have hj:j<xs.length:=by
     have:=(List.getElem?_eq_some_iff.1 hv).1;simpa using this
    rw [hc j hj];simp [hj,Fw10] at hv
    simp [hj,←hv]) (by simp;omega) (by
    intro v hv;obtain ⟨n,_,rfl⟩:=List.mem_map.1 hv
    rfl)
   refine ⟨w.setRow g (((xs++L.drop xs.length).map Fw10)).toArray,?_,setRow_heap w g _ _ 25 _ hO,⟨rfl,rfl,rfl,by simp [World.setRow],fun k _ hk=>setRow_other w g k _ hk⟩⟩;simpa [List.map_append,List.map_drop,goInt] using hrun
def mrk5:Nat:=4693671547643874799
theorem lent8_zeros (xs:List Nat) (n:Nat) (hn:n=xs.length):xs++(List.replicate (n+8) 0).drop n=xs++List.replicate 8 0:=by
 rw [List.drop_replicate,show n+8-n=8 by omega]
theorem lent8_set (xs:List Nat) (n k:Nat) (hn:n=xs.length) (hk:k<8):(xs++(List.replicate k mrk5++List.replicate (8-k) 0)).set (n+k) mrk5=xs++(List.replicate (k+1) mrk5++List.replicate (8-(k+1)) 0):=by
 subst hn;have hc:k=0∨k=1∨k=2∨k=3∨k=4∨k=5∨k=6∨k=7:=by omega
 rw [List.set_append_right _ _ (by omega),Nat.add_sub_cancel_left];rcases hc with rfl|rfl|rfl|rfl|rfl|rfl|rfl|rfl <;> rfl
theorem rLent10 (xs:List Nat) (ao:Option Addr) (n cap B:Nat) (w:World) (hn:n=xs.length) (hm:n≤17592186043904) (hR:Fs B w ao xs) (hB:B≤w.heap.size) :
 Calls Tryz.prog 5 #[.slice ao n cap] w fun r w'=>r=.returned (.slice (some ⟨w.heap.size,0,none⟩) n (n+8))∧OwnF w' w.heap.size (xs++List.replicate 8 mrk5)∧Below w.heap.size w w':=by
 have hmk:=make_floats ((n+8:Nat):Int) (n+8) rfl (by omega);have hmk2:=make_floats ((n:Int)+8) (n+8) (by omega) (by omega);have HO2:Hid (OwnF (w.alloc (.cells (madeCells #[.float .f64 0] (n+8)) 25)) w.heap.size (List.replicate (n+8) 0)):=OwnF.made w (n+8);obtain ⟨w2,hcp,hO2,hbut⟩:=copy_floats _ w.heap.size (n+8) (n+8) ao n cap B 3 (List.replicate (n+8) 0) xs HO2.out (by simp) hn (hR.below ((Below.refl _ _).alloc hB _)) (by omega);rw [lent8_zeros xs n hn] at hO2;have HX:=(qsd (ai hO2 (ai hbut hn)));have HM:=hid (fun u:World=>rOf10 mrk5 u);clear hO2 hbut HO2 hn hR;go_enter Tryz.func5,Tryz.ntmps5;go_wp2
 go_loopg [4] 8 (fun gk i wr=>∃ k:Nat,gk+k=8∧i=.int .i64 ((n+k:Nat):Int)∧Aside (OwnF wr w.heap.size (xs++(List.replicate k mrk5++List.replicate (8-k) 0))∧But w.heap.size w2 wr))
 case atStart=>exact ⟨0,by omega,by simp,HX.out.1,But.refl _ _⟩
 case round =>
  obtain ⟨k,hgk,rfl,HA⟩:=hrel
  by_cases hk:k<8
  · have hd:decide (((n+k:Nat):Int)<(n:Int)+8)=true:=by simp;omega
    have hfz:=HA.out.1.frozen (n+k);have hcl:=HA.out.1.cell (n+k) (by rw [HX.out.2.2];simp;omega);go_wp2_with fail;refine (HM.out _).mono ?_;rintro r w3 ⟨rfl,rfl⟩;go_wp2;go_roundg (gk-1)
    case measure=>omega
    case rel =>
     refine ⟨k+1,by omega,by go_num,?_,HA.out.2.set _ _⟩;rw [←lent8_set xs n k HX.out.2.2 hk];exact HA.out.1.set (n+k) mrk5
  · obtain rfl:k=8:=by omega
    have hd:decide (((n+8:Nat):Int)<(n:Int)+8)=false:=by simp
    go_wp2;go_ret;refine ⟨rfl,?_,?_⟩
    · simpa using HA.out.1
    · exact But.below ((Below.refl _ _).alloc (Nat.le_refl _) _) (HX.out.2.1.trans HA.out.2) (by simp) (Nat.le_refl _)
theorem rAsLent10 (xs:List Nat) (ao:Option Addr) (n cap B g:Nat) (w:World) (hn:n=xs.length) (hm:n≤17592186043904) (hR:Fs B w ao xs) (hB:B≤w.heap.size) (hO:OwnF w g (xs++List.replicate 8 mrk5)) :
 Calls Tryz.prog 7 #[.slice (some ⟨g,0,none⟩) n (n+8),.slice ao n cap] w fun r w'=>r=.returned (.bool true)∧Below w.heap.size w w':=by
 have hgl:=hO.lt;have HX:=(qsd (ai hR (ai hO (ai hn (ai hB hgl)))));have HR:=hid (fun (x:Nat) (u:World)=>rraw10 x u);clear hR hO hn hB hgl;go_enter Tryz.func7,Tryz.ntmps7;go_wp2
 go_loopg [6] (n+8) (fun gk i wr=>∃ k:Nat,gk+k=n+8∧i=.int .i64 (k:Nat)∧wr=w)
 case atStart=>exact ⟨0,by omega,by simp,rfl⟩
 case round =>
  obtain ⟨k,hgk,rfl,rfl⟩:=hrel
  by_cases hk:k<n
  · have hcg:=HX.out.2.1.cell k (by simp;rw [←HX.out.2.2.1];omega)
    have e1:(xs++List.replicate 8 mrk5).getD k 0=xs.getD k 0:=by
     rw [List.getD_eq_getElem?_getD,List.getElem?_append_left (by rw [←HX.out.2.2.1];exact hk),List.getD_eq_getElem?_getD]
    rw [e1] at hcg;obtain ⟨b,off,rfl,hcl⟩:=HX.out.1.at (Below.refl _ _) k (by rw [←HX.out.2.2.1];exact hk);obtain ⟨x,hx⟩:∃ x,x=xs.getD k 0:=⟨_,rfl⟩;rw [←hx] at hcg hcl;have hd:decide ((k:Int)<(n:Int)+8)=true:=by simp;omega
    have hne:(((x:Nat):Int) != ((x:Nat):Int))=false:=by simp
    clear hx e1;go_wp2_with fail;refine (HR.out _ _).mono ?_;rintro r w3 ⟨rfl,rfl⟩;go_wp2_with fail;refine (HR.out _ _).mono ?_;rintro r w3 ⟨rfl,rfl⟩;go_wp2;go_roundg (gk-1)
    case measure=>omega
    case rel=>exact ⟨k+1,by omega,by go_num,rfl⟩
  · by_cases hk8:k<n+8
    · have hcg:=HX.out.2.1.cell k (by simp;rw [←HX.out.2.2.1];omega)
      have e1:(xs++List.replicate 8 mrk5).getD k 0=4693671547643874799:=by
       rw [List.getD_eq_getElem?_getD,List.getElem?_append_right (by rw [←HX.out.2.2.1];omega),List.getElem?_replicate,if_pos (by rw [←HX.out.2.2.1];omega)];rfl
      rw [e1] at hcg;have hd:decide ((k:Int)<(n:Int)+8)=true:=by simp;omega
      have hd2:decide ((k:Int)<(n:Int))=false:=by simp;omega
      clear e1;go_wp2_with fail;refine (HR.out _ _).mono ?_;rintro r w3 ⟨rfl,rfl⟩;go_wp2;go_roundg (gk-1)
      case measure=>omega
      case rel=>exact ⟨k+1,by omega,by go_num,rfl⟩
    · have hd:decide ((k:Int)<(n:Int)+8)=false:=by simp;omega
      go_wp2;go_ret;exact ⟨rfl,Below.refl _ _⟩
end
section
open Go.RowKit Go.Maps
theorem Tryz.und_oftens:Tryz.prog.underlying 107=some (.slice 112):=by kernel_rfl
theorem Tryz.info_often:(Tryz.prog.info? 112).map (fun i=>(i.zero,i.size,i.bytes))=some (some (.agg #[.int .u64 0,.int .i64 0]),2,16):=by kernel_rfl
def flatR (E:List (Nat×Nat)):List Value:=E.flatMap (fun p=>[Value.int .u64 (p.1:Nat),Value.int .i64 (p.2:Nat)])
theorem flatR_append (E F:List (Nat×Nat)):flatR (E++F)=flatR E++flatR F:=by simp [flatR]
theorem flatR_len (E:List (Nat×Nat)):(flatR E).length=E.length*2:=by
 unfold flatR
 induction E with
 | nil=>rfl
 | cons p E ih=>simp only [List.flatMap_cons,List.length_append,List.length_cons,List.length_nil,ih];omega
theorem flatR_get (E:List (Nat×Nat)) (i:Nat) (hi:i<E.length):(flatR E)[i*2]?=some (.int .u64 ((E.getD i (0,0)).1:Nat))∧(flatR E)[i*2+1]?=some (.int .i64 ((E.getD i (0,0)).2:Nat)):=by
 unfold flatR
 induction E generalizing i with
 | nil=>simp at hi
 | cons p E ih =>
   cases i with
   | zero=>simp
   | succ i =>
     have h:=ih i (by simpa using hi);simp only [List.flatMap_cons,List.getD_cons_succ];rw [show (i+1)*2=i*2+2 by omega];exact h
theorem flatR_one' (E:List (Nat×Nat)) (u:Value) (hu:u ∈ flatR E):u.oneCell'=true:=by
 unfold flatR at hu;obtain ⟨p,_,hp⟩:=List.mem_flatMap.1 hu;simp at hp;rcases hp with rfl|rfl <;> rfl
theorem flatR_cell (E:List (Nat×Nat)) (k:Nat) (u:Value) (hk:(flatR E)[k]?=some u):∃ i,i<E.length∧((k=i*2∧u=.int .u64 ((E.getD i (0,0)).1:Nat))∨(k=i*2+1∧u=.int .i64 ((E.getD i (0,0)).2:Nat))):=by
 have hl:k<(flatR E).length:=by
  rcases Nat.lt_or_ge k (flatR E).length with h|h
  · exact h
  · rw [List.getElem?_eq_none h] at hk;cases hk
 rw [flatR_len] at hl;have hi:k/2<E.length:=by omega
 obtain ⟨h0,h1⟩:=flatR_get E (k/2) hi;refine ⟨k/2,hi,?_⟩;rcases Nat.mod_two_eq_zero_or_one k with h|h
 · left;refine ⟨by omega,?_⟩
   rw [show k/2*2=k by omega,hk] at h0;exact Option.some.inj h0
 · right;refine ⟨by omega,?_⟩
   rw [show k/2*2+1=k by omega,hk] at h1;exact Option.some.inj h1
abbrev Rn (lo:Nat) (w:World) (v:Value) (E:List (Nat×Nat)):Prop:=w.ownsRow lo 112 2 v E.length (flatR E)
def Rx (w:World) (g o:Nat) (N:List (Nat×Nat)):Prop:=∀ i,i<N.length→w.cell? ⟨g,o+i*2,none⟩=some (.int .u64 ((N.getD i (0,0)).1:Nat))∧w.cell? ⟨g,o+i*2+1,none⟩=some (.int .i64 ((N.getD i (0,0)).2:Nat))
theorem add_k18 (g o k:Nat):(⟨g,o,none⟩:Addr).add k=⟨g,o+k,none⟩:=by
 unfold Addr.add
 split <;> simp_all
theorem append_e18 {w:World}{lo:Nat}{v:Value}{K N:List (Nat×Nat)}{g o c:Nat}(h:Rn lo w v K) (hx:Rx w g o N) (hl:K.length+N.length≤1099511627777) (hlo:lo≤w.heap.size) :
 ∃ v' w',(Builtin.append_ #[107,107] 107 #[v,.slice (some ⟨g,o,none⟩) N.length c]).run Tryz.prog w=.ok v' w'∧Rn lo w' v' (K++N)∧w.grownBy w' v.ownBlock∧(v'=.slice none 0 0↔v=.slice none 0 0∧N.length=0)∧(v'.ownBlock=v.ownBlock∨v'.ownBlock=some w.heap.size):=by
 obtain ⟨i0,hi,hz0,hz1,hz2⟩:=info_parts Tryz.info_often
 obtain ⟨v',w',h1,h2,h3,h4,h5⟩:=run_append_own_at (P:=Tryz.prog) w lo 107 107 112 i0 _ 2 16 Tryz.und_oftens hi hz0 hz1 hz2 rfl (by decide) v K.length (flatR K) h ⟨g,o,none⟩ N.length c (flatR N) (flatR_len N) (fun k u hk=>by
  obtain ⟨i,hi,h⟩:=flatR_cell N k u hk;rcases h with ⟨rfl,rfl⟩|⟨rfl,rfl⟩
  · rw [add_k18];exact (hx i hi).1
  · have:=(hx i hi).2;rw [Nat.add_assoc] at this;rw [add_k18];exact this) (flatR_one' N) (by unfold maxLen;omega) (by omega) hlo
 exact ⟨v',w',h1,by unfold Rn;rw [List.length_append,flatR_append];exact h2,h3,h4,h5⟩
def Rb9 (w:World) (g f:Nat) (E:List (Nat×Nat)) (n:Nat):Prop:=∃ v,Bl w g 109 [.int .i64 (f:Nat),v,.int .i64 (n:Nat)]∧Rn (g+1) w v E
theorem Rb9.lt {w:World}{g f n:Nat}{E:List (Nat×Nat)}(h:Rb9 w g f E n):g<w.heap.size:=by obtain ⟨v,h,_⟩:=h;exact Bl.lt h
theorem Rn.below {lo:Nat}{w w':World}{v:Value}{E:List (Nat×Nat)}(h:Rn lo w v E) (hb:Below w.heap.size w w'):Rn lo w' v E:=by
 refine ⟨h.1,?_⟩;rcases h.2 with hn|⟨g,cap,cur,rfl,hlo,hgc,rest⟩
 · exact .inl hn
 · refine .inr ⟨g,cap,cur,rfl,hlo,?_,rest⟩;rw [hb.block g (Array.getElem?_eq_some_iff.1 hgc).1];exact hgc
theorem Rn.rd {lo:Nat}{w:World}{v:Value}{E:List (Nat×Nat)}(h:Rn lo w v E):∃ ao cp,v=.slice ao E.length cp∧(E≠[]→∃ g,g<w.heap.size∧ao=some ⟨g,0,none⟩∧∀ i,i<E.length→w.cell? ⟨g,i*2,none⟩=some (.int .u64 ((E.getD i (0,0)).1:Nat))∧w.cell? ⟨g,i*2+1,none⟩=some (.int .i64 ((E.getD i (0,0)).2:Nat))):=by
 have h':=h;rcases h.2 with ⟨rfl,hn⟩|⟨g,cap,cur,rfl,hlo,hg,_,_,_,_⟩
 · have:E=[]:=List.eq_nil_of_length_eq_zero hn;subst this;exact ⟨none,0,rfl,fun q=>absurd rfl q⟩
 · refine ⟨_,_,rfl,fun _=>⟨g,(Array.getElem?_eq_some_iff.1 hg).1,rfl,fun i hi=>?_⟩⟩;obtain ⟨k1,k2⟩:=flatR_get E i hi;exact ⟨(World.ownsRow.cellAt h' (i*2) (by omega)).trans k1,(World.ownsRow.cellAt h' (i*2+1) (by omega)).trans k2⟩
theorem rNew9 (f:Nat) (h1:1≤f) (h8:f≤8) (w:World) :
 Calls Tryz.prog 42 #[.int .i64 (f:Nat)] w fun r w'=>r=.returned (.pointer (some ⟨w.heap.size,0,none⟩))∧Rb9 w' w.heap.size f [] 0∧Below w.heap.size w w':=by
 have d1:decide ((f:Int)<1)=false:=decide_eq_false (by omega);have d2:decide ((8:Int)<(f:Int))=false:=decide_eq_false (by omega);clear h1 h8;go_enter Tryz.func42,Tryz.ntmps42;go_wp2;go_ret;exact ⟨rfl,⟨.slice none 0 0,heap_alloc_new _ _,World.ownsRow_nil _ _ _ _⟩,below_alloc _ _⟩
end
section
open Go.RowKit Go.Maps
attribute [local go_sem] B.f64bits B.f64frombits
theorem step_append9 {ops:Array Oper}{o:Oper}{a:Act}{w:World}{K:Act→World→Prop}{Q:Exit→Act→World→Prop}{E:Prop}
 (hg:o.guard=none) (s x:Operand) (t:TypeId) (ho:o.op=.call { callee:=.builtin .append,args:=#[s,x],argTypes:=#[t,t] }) (v u:Value) (hs:a.eval s=v) (hx:a.eval x=u) (v':Value) (w':World)
 (hrun:(Builtin.append_ #[t,t] o.type #[v,u]).run Tryz.prog w=.ok v' w') (h:K (a.put o.dst v') w'):if Region.wanted o (yielded ops a.tmps)=true then Oper.wp Tryz.prog o a w K Q else E:=by
 have hw:Region.wanted o (yielded ops a.tmps)=true:=by simp [Region.wanted,hg]
 rw [if_pos hw];unfold Oper.wp;simp [execOp,ho,resolve,invoke,builtin,hs,hx,hrun,Result.andThen];exact h
theorem Rn.set9 {lo:Nat}{w:World}{v:Value}{L:List (Nat×Nat)}(h:Rn lo w v L) {g:Nat}(hne:v.ownBlock≠some g) (i:Nat) (u:Value):Rn lo (w.setCell ⟨g,i,none⟩ u) v L:=by
 refine ⟨h.1,?_⟩;rcases h.2 with hn|⟨g',cap,cur,rfl,hlo,hgc,rest⟩
 · exact .inl hn
 · refine .inr ⟨g',cap,cur,rfl,hlo,?_,rest⟩;rw [Below.heap_setCell _ _ _ _ (fun e=>hne (by rw [e];rfl))];exact hgc
theorem rAdd9d (x:Nat) (hx:Wd x∧finW x) (g f n:Nat) (E:List (Nat×Nat)) (w:World) (hB:Rb9 w g f E n) (hn:n<1000000) (hE:E.length≤1000000) :
 Calls Tryz.prog 43 #[.pointer (some ⟨g,0,none⟩),.float .f64 x] w fun r w'=>r=.returned (.int .i64 0)∧Rb9 w' g f (E++[(x,1)]) (n+1)∧Below g w w':=by
 have hgl:=hB.lt;obtain ⟨v,hb,hr⟩:=hB;have c1:=Bl.cell hb 1 _ rfl;have c2:=Bl.cell hb 2 _ rfl;have d0:decide ((1099511627776:Int)≤(n:Int))=false:=decide_eq_false (by omega);have HO:=hid (fun u=>rof8 x hx u);have BD:=qsd (ai hb (ai hr (Below.refl w.heap.size w)));clear hb hr;go_enter Tryz.func43,Tryz.ntmps43;go_wp2_with fail;refine (HO.out w).mono ?_;rintro r u1 ⟨⟨dv,rfl,hN⟩,hb⟩;obtain ⟨va,vc,rfl,-,-,-⟩:=hN.shape;clear hN;obtain ⟨W,hW⟩:∃ W,W=u1.alloc (Obj.cells #[.bool (dN (fo8 (fvW x))),.slice va (ws (dX (fo8 (fvW x)))).length vc,.int .i64 (dE (fo8 (fvW x)))] 70):=⟨_,rfl⟩;have hb2:Below u1.heap.size u1 W:=by rw [hW];exact below_alloc _ _
 have hBW:=hb.trans (hb2.mono hb.size);have BD:=qsd (ai (Bl.below BD.out.1 hBW (Bl.lt BD.out.1)) (ai (BD.out.2.1.below hBW) hBW));clear hb hb2 hBW HO c1 c2;have HW:=qsd hW;clear hW
 go_upto_region 6 with fail
 rw [←HW.out];clear HW;have c1:=Bl.cell BD.out.1 1 _ rfl;obtain ⟨A1,hA1⟩:∃ A,A=(W.alloc (Obj.cells #[.int .u64 (x:Nat),.int .i64 1] 112)).drew:=⟨_,rfl⟩;have hd:Below W.heap.size W A1:=by rw [hA1];exact (below_alloc W _).drew
 have hx1:Rx A1 W.heap.size 0 [(x,1)]:=by
  intro i hi;obtain rfl:i=0:=by simpa using hi
  have h0:A1.heap[W.heap.size]?=some (Obj.cells #[.int .u64 (x:Nat),.int .i64 1] 112):=by rw [hA1];exact heap_alloc_new W _
  constructor
  · unfold World.cell?;rw [h0];rfl
  · unfold World.cell?;rw [h0];rfl
 obtain ⟨v',w4,r1,r2,r3,-,r5⟩:=append_e18 (BD.out.2.1.below hd) hx1 (c:=1) (by simp;omega) (by have:=Nat.lt_of_lt_of_le hgl (BD.out.2.2.size);have:=hd.size;omega);obtain ⟨qa,qc,rfl,-⟩:=r2.rd;obtain ⟨m,hm⟩:∃ m,m=(E++[(x,1)]).length:=⟨_,rfl⟩;rw [←hm] at r1 r2 r5;clear hm
 have hlo:∀ q,v.ownBlock=some q→g<q:=fun q hq=>by
  rcases BD.out.2.1.2 with ⟨e,_⟩|⟨g',cap,cur,e,h1,_⟩
  · rw [e] at hq;simp [Value.ownBlock] at hq
  · rw [e] at hq;simp [Value.ownBlock] at hq;omega
 have hgA:g<A1.heap.size:=Nat.lt_of_lt_of_le hgl (Nat.le_trans BD.out.2.2.size hd.size);have hbl:w4.heap[g]?=A1.heap[g]?:=r3.block g hgA (fun e=>by have:=hlo g e.symm;omega)
 have B4:Bl w4 g 109 [.int .i64 (f:Nat),v,.int .i64 (n:Nat)]:=by
  have:=Bl.below BD.out.1 hd (Bl.lt BD.out.1);unfold Bl at this ⊢;rw [hbl];exact this
 have HR:=qsd r1;have c41:=Bl.cell B4 1 _ rfl;have c42:=Bl.cell B4 2 _ rfl;have f41:=Bl.frozen B4 1;have f42:=Bl.frozen B4 2;have HN:=qsd (ai B4 (ai r2 (ai r3 (ai r5 (ai hlo (ai hd hgA))))));clear r1 r2 r3 r5 hbl B4 hd hlo hx1 hgA
 go_cut [4] from 20 to 31 (fun q wx=>q=.int .i64 0∧wx=w4.setCell ⟨g,1,none⟩ (Value.slice qa m qc))
 case first =>
  have cA:=Bl.cell (Bl.below BD.out.1 (below_alloc W (Obj.cells #[.int .u64 (x:Nat),.int .i64 1] 112)) (Bl.lt BD.out.1)) 1 _ rfl
  go_region_law (refine step_append9 rfl (.tmp 24) (.tmp 28) 107 rfl _ _ rfl rfl _ w4 (by rw [←hA1];exact HR.out) ?_)
  all_goals
   go_wp2_with fail
   go_meet
   case rel=>first | exact ⟨rfl,rfl⟩ | exact ⟨rfl,by simp⟩
 obtain ⟨rfl,rfl⟩:=hcut;have c52:=Bl.cell ((HN.out.1).set 1 (Value.slice qa m qc)) 2 (.int .i64 (n:Nat)) rfl;have f52:=Bl.frozen ((HN.out.1).set 1 (Value.slice qa m qc)) 2;go_wp2;go_ret;obtain ⟨B4,r2,r3,r5,hlo,hd,hgA⟩:=HN.out
 have hne:(Value.slice qa m qc).ownBlock≠some g:=by
  rcases r5 with q|q
  · rw [q];intro e;have:=hlo g e;omega
  · rw [q];intro e;injection e with e;omega
 have hB:Below g w w4:=((BD.out.2.2.mono (Nat.le_of_lt hgl)).trans (hd.mono (Nat.le_of_lt (Nat.lt_of_lt_of_le hgl BD.out.2.2.size)))).grown r3 (Nat.le_of_lt hgA) (fun q hq=>Nat.le_of_lt (hlo q hq));refine ⟨rfl,⟨_,(by simpa using (B4.set 1 (Value.slice qa m qc)).set 2 (.int .i64 ((n+1:Nat):Int))),?_⟩,But.below hB (((But.refl g w4).set 1 _).set 2 _) (Nat.le_of_lt (Nat.lt_of_lt_of_le hgl hB.size)) (Nat.le_refl _)⟩;have:=(Rn.set9 r2 hne 1 (Value.slice qa m qc));have:=(Rn.set9 this hne 2 (.int .i64 ((n+1:Nat):Int)));simpa using this
end
section
open Go.RowKit Go.Maps
theorem top_cond9 {k X:Nat}{e:Int}(he:-1074≤e) (hX:X*2^(e+1074).toNat=vK k) (hX0:X≠0) (T:Int) (hT:-1≤T):32*(T-34+1)≤(bl X:Int)-1+e↔T<tp (vK k*16384):=by
 have e14:vK k*16384=X*2^((e+1074).toNat+14):=by rw [←hX,Nat.pow_add,Nat.mul_assoc]
 have h1:=bl_lt X;have h2:=bl_ge X hX0;have hp:=bl_pos X hX0;obtain ⟨q,hq⟩:∃ q,q=(e+1074).toNat+14:=⟨_,rfl⟩;have hqe:(q:Int)=e+1088:=by omega
 have h3:vK k*16384<2^(bl X+q):=by rw [e14,←hq,Nat.pow_add];exact (Nat.mul_lt_mul_right (Nat.two_pow_pos q)).2 h1
 have h4:2^(bl X-1+q)≤vK k*16384:=by rw [e14,←hq,Nat.pow_add];exact Nat.mul_le_mul_right _ h2
 have h5:=tp_lt (vK k*16384) (T+1).toNat;have h6:((T+1).toNat:Int)=T+1:=by omega
 rw [h6] at h5;constructor
 · intro h;rcases Int.lt_or_le T (tp (vK k*16384)) with w|w
   · exact w
   · have h7:=h5.1 (by omega);have h8:2^(32*(T+1).toNat)≤2^(bl X-1+q):=Nat.pow_le_pow_right (by decide) (by omega);omega
 · intro h;rcases Int.lt_or_le ((bl X:Int)-1+e) (32*(T-34+1)) with w|w
   · have h7:2^(bl X+q)≤2^(32*(T+1).toNat):=Nat.pow_le_pow_right (by decide) (by omega);have h8:=h5.2 (by omega);omega
   · exact w
end
section
open Go.RowKit Go.Maps
theorem sB_lt (k:Nat) (j:Int):sB k j<4294967296:=by
 unfold sB
 split
 · decide
 · exact sl_lt _ _
theorem zW_abs (x:Nat):(zW x).natAbs=vK (magW x)*16384∧(zW x<0→negW x=true)∧(negW x=true→zW x≤0):=by
 unfold zW fvW B.sg
 cases negW x <;> simp <;> omega
theorem ss_slice9 (x:Nat) (t:Int):ss (zW x) t=sgv (negW x) (sB (magW x) (t-34)):=by
 obtain ⟨h1,h2,h3⟩:=zW_abs x;unfold ss sB;rw [show t-34+34=t by omega,h1]
 by_cases ht:t<0
 · rw [if_pos ht,if_pos ht];unfold sgv;cases negW x <;> rfl
 · rw [if_neg ht,if_neg ht]
   by_cases hz:zW x<0
   · rw [if_pos hz,h2 hz];unfold sgv;simp
   · rw [if_neg hz]
     cases hn:negW x with
     | false=>unfold sgv;simp
     | true =>
       have h0:zW x=0:=by have:=h3 hn;omega
       have:vK (magW x)*16384=0:=by rw [←h1,h0];rfl
       rw [this];unfold sgv sl;simp
theorem ss_div9 (x:Nat):(16384:Int) ∣ ss (zW x) 0:=by
 have:=SL_div [zW x] (fun z hz=>by rw [List.mem_singleton.1 hz];exact ⟨fvW x,by unfold zW;rw [Int.mul_comm]⟩);simpa [SL] using this
theorem vb_add9 (t a b:Int) (ha:t=0→(16384:Int) ∣ a) (hb:t=0→(16384:Int) ∣ b):vb t (a+b)=vb t a+vb t b:=by
 unfold vb
 by_cases h:t<0
 · rw [if_pos h,if_pos h,if_pos h];rfl
 · rw [if_neg h,if_neg h,if_neg h]
   by_cases h0:t=0
   · rw [if_pos h0,if_pos h0,if_pos h0];have:=ha h0;have:=hb h0;omega
   · rw [if_neg h0,if_neg h0,if_neg h0,Int.add_mul]
def vS9:List Nat→Int→Int
 | [],_=>0
 | x::L,t=>vb t (ss (zW x) t)+vS9 L t
theorem vS9_SL (L:List Nat) (t:Int):vS9 L t=vb t (SL (ZL L) t):=by
 induction L with
 | nil=>unfold vS9 ZL SL;exact (vb_zero t).symm
 | cons x L ih =>
   have e:SL (ZL (x::L)) t=ss (zW x) t+SL (ZL L) t:=rfl;rw [e,vb_add9 t _ _ (fun h=>by rw [h];exact ss_div9 x) (fun h=>by rw [h];exact SL_div _ (ZL_div L)),←ih];rfl
theorem vS9_append (L M:List Nat) (t:Int):vS9 (L++M) t=vS9 L t+vS9 M t:=by
 induction L with
 | nil=>simp [vS9]
 | cons x L ih=>simp only [List.cons_append,vS9,ih];omega
theorem mk_slice9 (neg:Bool) (s:Nat) (hs:s<4294967296) (t:Int) (ht:-8≤t∧t≤68) (h0:t<0→s=0) (h1:t=0→(16384:Int) ∣ sgv neg s):mkS neg s (32*(t-34))=fo8 (vb t (sgv neg s)):=by
 by_cases hz:s=0
 · subst hz;have e:sgv neg 0=0:=by unfold sgv;cases neg <;> rfl
   rw [e,vb_zero];unfold fo8;rw [mkS_zero];exact (mkS_zero _ _).symm
 · obtain ⟨n,hn⟩:∃ n,n=sgv neg s:=⟨_,rfl⟩;have e1:n.natAbs=s:=by rw [hn];unfold sgv;cases neg <;> simp
   have e2:decide (n<0)=neg:=by rw [hn];unfold sgv;cases neg <;> simp <;> omega
   have ht0:0≤t:=by rcases Int.lt_or_le t 0 with q | q;exact absurd (h0 q) hz;exact q
   obtain ⟨u,hu⟩:∃ u:Nat,t=u:=⟨t.toNat,by omega⟩;have hm:=vb_mul u n (fun q=>by have:=h1 (by omega);rw [hn];exact this)
   have hb:=vb_EB t n (by omega) (by
    rw [e1];have:(4294967296:Nat)≤2^75:=by decide
    omega)
   rw [←hn];have:=ib_fo8 n (t-34) (vb t n) (by omega) (by omega) (by omega) u (by omega) (by rw [hu];exact hm) EB (by have:=EB5;omega) hb;rw [←this];unfold ib;rw [e1,e2]
end
section
open Go.RowKit Go.Maps
theorem addW9 (W:World) (o:Obj):Below W.heap.size W (W.alloc o).drew:=(below_alloc W o).drew
theorem st3_but9 (u:World) (g:Nat) (x y z:Value):But g u (st3 u g x y z):=(((But.refl g u).set 0 x).set 1 y).set 2 z
theorem st3_bel9 {w u:World}{g:Nat}(h:Below w.heap.size w u) (hg:w.heap.size≤g) (x y z:Value):Below w.heap.size w (st3 u g x y z):=But.below h ((((But.refl g u).set 0 x).set 1 y).set 2 z) h.size hg
structure Ra9 (w:World) (g f:Nat) (L:List Nat) (v:Value) (gr cap:Nat):Prop where
 bl:Bl w g 109 [.int .i64 (f:Nat),v,.int .i64 (L.length:Nat)]
 v:∃ ao,v=.slice ao L.length cap∧(0<L.length→ao=some ⟨gr,0,none⟩)
 lt:gr<w.heap.size
 cell:∀ i,i<L.length→w.cell? ⟨gr,i*2,none⟩=some (.int .u64 ((L.getD i 0:Nat):Int))∧w.cell? ⟨gr,i*2+1,none⟩=some (.int .i64 1)
 fin:Fin9 L
theorem rtop9d (g f gr cap:Nat) (L:List Nat) (v:Value) (w:World) (h:Ra9 w g f L v gr cap) (hl:L.length≤65536) :
 Calls Tryz.prog 91 #[.pointer (some ⟨g,0,none⟩)] w fun r w'=>r=.returned (.tuple #[.int .i64 (tL (ZL L)-34),.bool (decide (0≤tL (ZL L)))])∧Below w.heap.size w w':=by
 obtain ⟨hbl,⟨ao,rfl,hao⟩,hlt,hcell,hfin⟩:=h;have hgl:=Bl.lt hbl;have HC1:=hid (fun (u:World) (hb:Below w.heap.size w u)=>(hb.cell (p:=⟨g,1,none⟩) hgl).trans (Bl.cell hbl 1 _ rfl));have HCx:=hid (fun (u:World) (hb:Below w.heap.size w u) (i:Nat) (hi:i<L.length)=>(hb.cell (p:=⟨gr,i*2,none⟩) hlt).trans (hcell i hi).1);obtain ⟨m,hm⟩:∃ m,m=L.length:=⟨_,rfl⟩;rw [←hm] at HC1 hao;have HM:=qsd (ai hm (ai hfin hl));have hm6:m≤65536:=by omega
 clear hbl hcell hfin hm hl;go_enter Tryz.func91,Tryz.ntmps91;go_wp2_with fail
 go_loopg [4,5] m (fun gk tv iv wr=>∃ (i:Nat) (T:Int),gk+i=m∧iv=.int .i64 (i:Nat)∧tv=.int .i64 (T-34)∧Aside (T=tL (ZL (L.take i))∧Below w.heap.size w wr))
 case atStart=>exact ⟨0,-1,by omega,rfl,rfl,rfl,Below.refl _ _⟩
 case round =>
  obtain ⟨i,T,hk,rfl,rfl,HA⟩:=hrel;have c1:=HC1.out wr HA.out.2
  by_cases him:i<m
  case neg =>
   obtain rfl:i=m:=by omega
   have d1:decide ((i:Int)<(i:Int))=false:=decide_eq_false (by omega)
   have e:T=tL (ZL L):=by
    have:=HA.out.1;rw [List.take_of_length_le (by have:=HM.out.1;omega)] at this;exact this
   subst e;have HD:Aside (decide (-34≤tL (ZL L)-34)=decide (0≤tL (ZL L))):=qsd (by rw [decide_eq_decide];omega);go_wp2;exact bodyPost_ret (v:=.tuple #[.int .i64 (tL (ZL L)-34),.bool (decide (-34≤tL (ZL L)-34))]) (by simp [results,Tryz.results91,go_sem]) rfl ⟨by rw [HD.out],HA.out.2⟩
  case pos =>
  obtain rfl:=hao (by omega);have d1:decide ((i:Int)<(m:Int))=true:=decide_eq_true (by omega);obtain ⟨x,hx⟩:∃ x,x=L.getD i 0:=⟨_,rfl⟩;have hiL:i<L.length:=by have:=HM.out.1;omega
  have hfx:Wd x∧finW x:=by
   rw [hx,List.getD_eq_getElem?_getD,List.getElem?_eq_getElem hiL];exact HM.out.2.1 _ (List.getElem_mem hiL)
  have esh:=sl_shl x hfx.1;have HF:=hid (fun u=>of64_any u);have HBt:=hid (fun u=>rbits9 (magW x) hfx.2 u);obtain ⟨f1,f2,f3,f4,f5⟩:=fo8_nat (vK (magW x)) 2098 (by decide) (vK_top9 _ hfx.2);have HS:Hid (∀ u,Below w.heap.size w u→u.cell? ⟨g,1,none⟩=some (.slice (some ⟨gr,0,none⟩) m cap)∧u.cell? ⟨gr,i*2,none⟩=some (.int .u64 (x:Nat))):=fun u hb=>⟨HC1.out u hb,by rw [hx];exact HCx.out u hb i hiL⟩;obtain ⟨O,hO⟩:∃ o,o=fo8 ((vK (magW x):Nat):Int):=⟨_,rfl⟩;rw [←hO] at f1 f2 f3 f4 f5 HBt
  replace HBt:Hid (∀ u:World,Calls Tryz.prog 88 #[.agg #[.int .i64 53,.int .i64 (-1074),.int .u64 9218868437227405312],.bool false,.int .u64 (magW x:Nat)] u fun r w'=>(∃ a4 c4,r=.returned (.tuple #[.agg #[.bool (dN O),.slice a4 (ws (dX O)).length c4,.int .i64 (dE O)],.bool true])∧Nt u.heap.size w' (.slice a4 (ws (dX O)).length c4) (dX O))∧Below u.heap.size u w'):=fun u=>(HBt.out u).mono fun r w' h=>by
   obtain ⟨⟨v,e,hN⟩,hb⟩:=h;obtain ⟨a4,c4,rfl,-,-,-⟩:=hN.shape;rw [f5] at e;exact ⟨⟨a4,c4,e,hN⟩,hb⟩
  have HFx:=(qsd (ai f1 (ai f2 (ai f3 (ai f4 (ai hiL hx))))));clear hO f1 f2 f3 f4 f5 hfx hx hiL
  go_upto_region 5 with fail
  clear c1
  go_cut [6,7] from 18 to 32 (fun q e wx=>∃ (gq:Nat) (va:Option Addr) (vc:Nat),q=.pointer (some ⟨gq,0,none⟩)∧e=.bool true∧Aside (Dk wx gq (dN O) (.slice va (ws (dX O)).length vc) (dE O)∧Nt 0 wx (.slice va (ws (dX O)).length vc) (dX O)∧Below w.heap.size w wx))
  case first =>
   have BB:=qsd (HA.out.2.trans ((Below.refl wr.heap.size wr).drew.mono HA.out.2.size));have BZ:=qsd (ai (HA.out.2.trans ((addW9 wr (Obj.cells #[.bool false,.slice none 0 0,.int .i64 0] 70)).mono HA.out.2.size)) (show Dk (wr.alloc (Obj.cells #[.bool false,.slice none 0 0,.int .i64 0] 70)).drew wr.heap.size false (.slice none 0 0) 0 from Dk.new _ _ _ _));have kS:=qsd (HS.out _ BB.out);have kZ:=qsd (HS.out _ BZ.out.1);have h0:=Nat.le_refl wr.heap.size
   go_region_held3 (fun w'=>w'.cell? ⟨g,1,none⟩=some (.slice (some ⟨gr,0,none⟩) m cap)∧w'.cell? ⟨gr,i*2,none⟩=some (.int .u64 (x:Nat))) (first | with_reducible exact kS.out | with_reducible exact kZ.out | with_reducible exact kT.out | with_reducible exact kM.out | with_reducible exact kN.out) (first
    | (go_at_call 87
       with_reducible refine (HF.out _).mono ?_
       rintro r u1 ⟨rfl,hb⟩
       first
        | (have BC:=qsd (BB.out.trans (hb.mono BB.out.size))
           have kS:=qsd (HS.out u1 BC.out);have kZ:=qsd (HS.out _ (BC.out.trans ((below_alloc u1 (Obj.cells #[.bool false,.slice none 0 0,.int .i64 0] 70)).mono BC.out.size)));have h1l:=hb.size
           clear hb)
        | (have BC:=qsd (BZ.out.1.trans (hb.mono BZ.out.1.size))
           have ZB:=qsd (BZ.out.2.below hb);have kS:=qsd (HS.out u1 BC.out);have h1l:=hb.size
           clear hb))
    | (go_at_call 88
       with_reducible refine (HBt.out _).mono ?_
       rintro r u2 ⟨⟨a4,c4,rfl,hN⟩,hb⟩
       first
        | (have BE:=qsd (ai (BC.out.trans (hb.mono BC.out.size)) (ai hN h1l))
           try have ZB:=qsd (ZB.out.below hb)
           have kS:=qsd (HS.out u2 BE.out.1);have kZ:=qsd (HS.out _ (BE.out.1.trans ((below_alloc u2 (Obj.cells #[.bool false,.slice none 0 0,.int .i64 0] 70)).mono BE.out.1.size)));have kM:=qsd (HS.out _ (BE.out.1.trans ((below_alloc u2 (Obj.cells #[.bool (dN O),.slice a4 (ws (dX O)).length c4,.int .i64 (dE O)] 70)).mono BE.out.1.size)))
           try have kT:=qsd (HS.out (st3 u2 wr.heap.size (.bool (dN O)) (.slice a4 (ws (dX O)).length c4) (.int .i64 (dE O))) (st3_bel9 BE.out.1 HA.out.2.size _ _ _))
           try (obtain ⟨z0,z1,z2,zf0,zf1,zf2⟩:=ZB.out.facts)
           clear hb hN)
        | (have BCz:=qsd (BC.out.trans ((below_alloc u1 (Obj.cells #[.bool false,.slice none 0 0,.int .i64 0] 70)).mono BC.out.size))
           have BE:=qsd (ai (BCz.out.trans (hb.mono BCz.out.size)) hN);have ZC:=qsd ((show Dk (u1.alloc (Obj.cells #[.bool false,.slice none 0 0,.int .i64 0] 70)) u1.heap.size false (.slice none 0 0) 0 from Dk.new _ _ _ _).below hb);have kS:=qsd (HS.out u2 BE.out.1);have kT:=qsd (HS.out (st3 u2 u1.heap.size (.bool (dN O)) (.slice a4 (ws (dX O)).length c4) (.int .i64 (dE O))) (st3_bel9 BE.out.1 BC.out.size _ _ _));obtain ⟨z0,z1,z2,zf0,zf1,zf2⟩:=ZC.out.facts
           clear hb hN)))
   all_goals
    go_wp2_with fail
    go_meet
    case rel =>
     first
      | exact ⟨u2.heap.size,a4,c4,rfl,rfl,Dk.new _ _ _ _,(BE.out.2.1.below (below_alloc _ _)).mono (Nat.zero_le _),BE.out.1.trans ((below_alloc _ _).mono BE.out.1.size)⟩
      | exact ⟨wr.heap.size,a4,c4,rfl,rfl,ZB.out.set _ _ _,(BE.out.2.1.but (st3_but9 u2 wr.heap.size _ _ _) (by have:=BE.out.2.2;simp at this;omega)).mono (Nat.zero_le _),st3_bel9 BE.out.1 HA.out.2.size _ _ _⟩
      | exact ⟨u1.heap.size,a4,c4,rfl,rfl,ZC.out.set _ _ _,(BE.out.2.but (st3_but9 u2 u1.heap.size _ _ _) (by simp)).mono (Nat.zero_le _),st3_bel9 BE.out.1 BC.out.size _ _ _⟩
  obtain ⟨gq,va,vc,rfl,rfl,K1⟩:=hcut;obtain ⟨U,hU⟩:∃ U,U=wc:=⟨_,rfl⟩;rw [←hU] at K1 ⊢;clear hU HBt HF HS esh;obtain ⟨x0,x1,x2,xf0,xf1,xf2⟩:=K1.out.1.facts
  have HLn:Hid (Calls Tryz.prog 125 #[.slice va (ws (dX O)).length vc] U fun r w'=>r=.returned (.int .i64 (bl (dX O):Nat))∧w'=U):=by
   obtain ⟨_,_,e,A⟩:=K1.out.2.1.arg (by have:=HFx.out.2.2.2.1;omega)
   cases e
   have:=rLen_any (ws (dX O)) va (ws (dX O)).length vc U.heap.size U rfl (by have:=HFx.out.2.2.2.1;omega) A.wf A.rd;rw [val_ws] at this;exact this
  obtain ⟨b,hb⟩:∃ b,b=bl (dX O):=⟨_,rfl⟩;rw [←hb] at HLn;obtain ⟨e,he⟩:∃ e,e=dE O:=⟨_,rfl⟩;rw [←he] at x2;obtain ⟨P,hP⟩:∃ P,P=tp (vK (magW x)*16384):=⟨_,rfl⟩
  have hTn:tL (ZL (L.take (i+1)))=max T P:=by
   have hi:=HFx.out.2.2.2.2.1
   have e1:L.take (i+1)=L.take i++[x]:=by
    rw [List.take_succ_eq_append_getElem hi,HFx.out.2.2.2.2.2,List.getD_eq_getElem?_getD,List.getElem?_eq_getElem hi];rfl
   rw [e1];unfold ZL;rw [List.map_append,tL_append,HA.out.1,hP];congr 1;show max (tp (zW x).natAbs) (-1)=_;rw [(zW_abs x).1];have:=tp_ge (vK (magW x)*16384);omega
  have hT1:-1≤T:=by rw [HA.out.1];exact tL_ge _
  have hT2:max T P≤66:=by
   rw [←hTn];exact tL_hi _ (fun z hz=>HM.out.2.1 z (List.mem_of_mem_take hz))
  have hb6:b≤300000:=by
   rw [hb];have h1:=HFx.out.2.2.2.1;have h2:=ws_len_lt (dX O);unfold pw at h2;rw [show (4294967296:Nat)=2^32 by decide,←Nat.pow_mul] at h2;have:=blLe h2;omega
  have hcond:∀ T':Int,-1≤T'→(0<b∧32*(T'-34+1)≤(b:Int)-1+e↔T'<P):=fun T' hT'=>by
   by_cases hX0:dX O=0
   · have hb0:b=0:=by rw [hb,hX0];rfl
     have hA0:vK (magW x)=0:=by rw [←HFx.out.2.2.1,hX0,Nat.zero_mul]
     have hP1:P=-1:=by rw [hP,hA0];rfl
     omega
   · have hbp:0<b:=by rw [hb];exact bl_pos _ hX0
     have:=top_cond9 HFx.out.1 HFx.out.2.2.1 hX0 T' hT';rw [←hb,←he,←hP] at this;exact ⟨fun q=>this.1 q.2,fun q=>⟨hbp,this.2 q⟩⟩
  have he1:-1074≤e∧e≤200000:=by rw [he];exact ⟨HFx.out.1,HFx.out.2.1⟩
  have HN:=qsd (ai hTn K1.out.2.2);have HCd:=qsd hcond;clear hb he hP hTn hcond K1 HFx HA;go_wp2_with fail;refine HLn.out.mono ?_;rintro r uu ⟨rfl,hq⟩;rw [hq];clear hq uu HLn;go_wp2
  go_loopg [4] (max T P-T).toNat (fun gk' tv wr2=>∃ T':Int,(gk':Int)+T'=max T P∧T≤T'∧tv=.int .i64 (T'-34)∧wr2=U)
  case atStart=>exact ⟨T,by omega,by omega,rfl,rfl⟩
  case round =>
   obtain ⟨T',h1,h2,rfl,rfl⟩:=hrel;have hT3:-1≤T'∧T'≤66:=by omega
   have hc:=HCd.out T' hT3.1
   by_cases hlt2:T'<P
   · have hc2:=hc.2 hlt2;have d2:decide ((0:Int)<(b:Int))=true:=decide_eq_true (by omega);have d2n:decide (0<b)=true:=decide_eq_true (by omega);have d3:decide (32*(T'-34+1)≤(b:Int)-1+e)=true:=decide_eq_true hc2.2;clear hc hc2;go_wp2;go_roundg (max T P-(T'+1)).toNat
     case measure=>omega
     case rel=>exact ⟨T'+1,by omega,by omega,by first | rfl | (congr 1;omega),rfl⟩
   · have hTm:T'=max T P:=by omega
     have HEq:=qsd hTm
     by_cases hb0:0<b
     · have d2:decide ((0:Int)<(b:Int))=true:=decide_eq_true (by omega);have d2n:decide (0<b)=true:=decide_eq_true (by omega);have d3:decide (32*(T'-34+1)≤(b:Int)-1+e)=false:=decide_eq_false (fun q=>hlt2 (hc.1 ⟨hb0,q⟩));clear hc hTm;go_wp2;go_roundg (m-i-1)
       case measure=>omega
       case rel=>exact ⟨i+1,T',by omega,by first | rfl | go_num,rfl,by rw [HN.out.1];exact HEq.out,HN.out.2⟩
     · have d2:decide ((0:Int)<(b:Int))=false:=decide_eq_false (by omega);have d2n:decide (0<b)=false:=decide_eq_false (by omega);clear hc hTm;go_wp2;go_roundg (m-i-1)
       case measure=>omega
       case rel=>exact ⟨i+1,T',by omega,by first | rfl | go_num,rfl,by rw [HN.out.1];exact HEq.out,HN.out.2⟩
end
section
open Go.RowKit Go.Maps
structure Kp9 (w u:World) (O:Option (Bool×Nat×Int)):Prop where
 b:Below w.heap.size w u
 z:Dk u w.heap.size false (.slice none 0 0) 0
 s:∃ a c,Dk u (w.heap.size+1) (dN O) (.slice a (ws (dX O)).length c) (dE O)∧Nt (w.heap.size+2) u (.slice a (ws (dX O)).length c) (dX O)
theorem Kp9.below {w u v:World}{O:Option (Bool×Nat×Int)}(h:Kp9 w u O) (hb:Below u.heap.size u v):Kp9 w v O:=by
 obtain ⟨h1,h2,a,c,h3,h4⟩:=h;exact ⟨h1.trans (hb.mono h1.size),h2.below hb,a,c,h3.below hb,h4.below hb⟩
theorem Kp9.set {w u:World}{O P:Option (Bool×Nat×Int)}(h:Kp9 w u O) {a:Option Addr}{c lo:Nat}(hN:Nt lo u (.slice a (ws (dX P)).length c) (dX P)) (hlo:w.heap.size+2≤lo):Kp9 w (st3 u (w.heap.size+1) (.bool (dN P)) (.slice a (ws (dX P)).length c) (.int .i64 (dE P))) P:=by
 obtain ⟨h1,h2,a1,c1,h3,h4⟩:=h;exact ⟨st3_bel9 h1 (by omega) _ _ _,h2.other _ (by omega) _ _ _,a,c,h3.set _ _ _,(hN.but (st3_but9 u _ _ _ _) (by omega)).mono hlo⟩
def kq9 (L:List Nat) (T:Int) (q:Nat):Int:=kv T (fun i=>SL (ZL L) (T-i)) q
theorem kq9_step (L:List Nat) (T:Int) (q:Nat):kq9 L T (q+1)=kq9 L T q+vS9 L (T-q):=by rw [vS9_SL];rfl
theorem kq9_kvz (L:List Nat) (f:Nat) (hf:f≤8):kvz f L=kq9 L (tL (ZL L)) f:=by
 unfold kvz kq9
 have key:∀ n,kv (tL (ZL L)) (kf f (tL (ZL L)) (SL (ZL L))) n=kv (tL (ZL L)) (fun i=>SL (ZL L) (tL (ZL L)-i)) (min n f):=by
  intro n
  induction n with
  | zero=>simp [kv]
  | succ n ih =>
    by_cases h:n<f
    · rw [show min (n+1) f=n+1 by omega,show kv (tL (ZL L)) (kf f (tL (ZL L)) (SL (ZL L))) (n+1)=kv (tL (ZL L)) (kf f (tL (ZL L)) (SL (ZL L))) n+vb (tL (ZL L)-n) (kf f (tL (ZL L)) (SL (ZL L)) n) from rfl,ih,show min n f=n by omega];unfold kf;rw [if_pos h];rfl
    · rw [show kv (tL (ZL L)) (kf f (tL (ZL L)) (SL (ZL L))) (n+1)=kv (tL (ZL L)) (kf f (tL (ZL L)) (SL (ZL L))) n+vb (tL (ZL L)-n) (kf f (tL (ZL L)) (SL (ZL L)) n) from rfl,ih,show min (n+1) f=min n f by omega];unfold kf;rw [if_neg h,vb_zero];omega
 rw [key 8,show min 8 f=f by omega]
theorem kq9_low (L:List Nat) (T:Int) (hT:T<0) (q:Nat):kq9 L T q=0:=by
 unfold kq9
 induction q with
 | zero=>rfl
 | succ q ih =>
   rw [show kv T (fun i=>SL (ZL L) (T-i)) (q+1)=kv T (fun i=>SL (ZL L) (T-i)) q+vb (T-q) (SL (ZL L) (T-q)) from rfl,ih];unfold vb;rw [if_pos (by omega)];rfl
theorem vS9_EB (L:List Nat) (t:Int) (hl:L.length≤65536) (ht:t≤68):(vS9 L t).natAbs<2^EB:=by
 rw [vS9_SL];refine vb_EB t _ ht ?_;have:=SL_abs (ZL L) t;unfold ZL at this;rw [List.length_map] at this;have h2:L.length*4294967296≤65536*4294967296:=Nat.mul_le_mul_right _ hl;have h3:(65536*4294967296:Nat)≤2^75:=by decide
 exact Nat.le_trans this (Nat.le_trans h2 h3)
theorem kq9_EB (L:List Nat) (T:Int) (q:Nat) (hq:q≤8) (hT:T≤68) (hl:L.length≤65536):(kq9 L T q).natAbs<2^EB:=by
 refine kv_EB T _ q hq hT fun i=>?_;have:=SL_abs (ZL L) (T-i);unfold ZL at this;rw [List.length_map] at this;have h2:L.length*4294967296≤65536*4294967296:=Nat.mul_le_mul_right _ hl;have h3:(65536*4294967296:Nat)≤2^75:=by decide
 exact Nat.le_trans this (Nat.le_trans h2 h3)
end
section
open Go.RowKit Go.Maps
theorem Ra9.below {w u:World}{g f gr cap:Nat}{L:List Nat}{v:Value}(h:Ra9 w g f L v gr cap) (hb:Below w.heap.size w u):Ra9 u g f L v gr cap :=
 ⟨Bl.below h.bl hb (Bl.lt h.bl),h.v,Nat.lt_of_lt_of_le h.lt hb.size,fun i hi=>⟨(hb.cell (p:=⟨gr,i*2,none⟩) h.lt).trans (h.cell i hi).1,(hb.cell (p:=⟨gr,i*2+1,none⟩) h.lt).trans (h.cell i hi).2⟩,h.fin⟩
theorem fo8_nil9:fo8 0=some (false,0,0):=by unfold fo8;exact mkS_zero _ _
theorem tim9 {w:World}{v1 v2:Value}{lo1 lo2 s:Nat}(h1:Nt lo1 w v1 s) (h2:Nt lo2 w v2 1) (hs:s<4294967296) :
 Calls Tryz.prog 93 #[v1,v2] w fun r w'=>∃ a c,r=.returned (.slice a (ws s).length c)∧Nt 0 w' (.slice a (ws s).length c) s∧Below w.heap.size w w':=by
 have l1:(ws s).length≤1:=(ws_len_le s 1).2 (by unfold pw;omega);have l2:(ws 1).length≤1:=(ws_len_le 1 1).2 (by unfold pw;omega);obtain ⟨a1,c1,rfl,A1⟩:=h1.arg (by omega);obtain ⟨a2,c2,rfl,A2⟩:=h2.arg (by omega);refine (rTimes_arg A1 A2 (by omega) (V:=s) (by rw [val_ws,val_ws,Nat.mul_one])).mono fun r w' h=>?_;obtain ⟨v,rfl,hN,hb⟩:=h;obtain ⟨a,c,rfl,-,-,-⟩:=hN.shape;exact ⟨a,c,rfl,hN.mono (Nat.zero_le _),hb⟩
theorem rKept9d (g f gr cap:Nat) (L:List Nat) (v:Value) (w:World) (h:Ra9 w g f L v gr cap) (hl:L.length≤65536) (hf1:1≤f) (hf8:f≤8) (O:Option (Bool×Nat×Int)) (hO:O=fo8 (kvz f L)) :
 Calls Tryz.prog 69 #[.pointer (some ⟨g,0,none⟩)] w fun r w'=>(∃ a c,r=.returned (.agg #[.bool (dN O),.slice a (ws (dX O)).length c,.int .i64 (dE O)])∧Nt 0 w' (.slice a (ws (dX O)).length c) (dX O))∧Below w.heap.size w w':=by
 have HT:=hid (fun (u:World) (hb:Below w.heap.size w u)=>rtop9d g f gr cap L v u (h.below hb) hl);have HR:=qsd h;obtain ⟨hbl,⟨ao,rfl,hao⟩,hlt,hcell,hfin⟩:=h;have hgl:=Bl.lt hbl;have HC0:=hid (fun (u:World) (hb:Below w.heap.size w u)=>(hb.cell (p:=⟨g,0,none⟩) hgl).trans (Bl.cell hbl 0 _ rfl));have HC1:=hid (fun (u:World) (hb:Below w.heap.size w u)=>(hb.cell (p:=⟨g,1,none⟩) hgl).trans (Bl.cell hbl 1 _ rfl));have HCb:=hid (fun (u:World) (hb:Below w.heap.size w u) (i:Nat) (hi:i<L.length)=>(hb.cell (p:=⟨gr,i*2,none⟩) hlt).trans (hcell i hi).1);have HCt:=hid (fun (u:World) (hb:Below w.heap.size w u) (i:Nat) (hi:i<L.length)=>(hb.cell (p:=⟨gr,i*2+1,none⟩) hlt).trans (hcell i hi).2);obtain ⟨T,hT⟩:∃ T,T=tL (ZL L):=⟨_,rfl⟩;rw [←hT] at HT;have hTb:-1≤T∧T≤66:=by rw [hT];exact ⟨tL_ge _,tL_hi L hfin⟩
 have HO:Aside (O=fo8 (kq9 L T f)):=qsd (by rw [hO,kq9_kvz L f hf8,hT]);obtain ⟨m,hm⟩:∃ m,m=L.length:=⟨_,rfl⟩;rw [←hm] at HC1 hao;have HM:=qsd (ai hm (ai hfin hl));have hm6:m≤65536:=by omega
 obtain ⟨W,hW⟩:∃ W,W=(w.alloc (Obj.cells #[.bool false,.slice none 0 0,.int .i64 0] 70)).alloc (Obj.cells #[.bool false,.slice none 0 0,.int .i64 0] 70):=⟨_,rfl⟩
 have K0:Aside (Kp9 w W (fo8 0)):=qsd (by
  have z1:=Dk.new (w.alloc (Obj.cells #[.bool false,.slice none 0 0,.int .i64 0] 70)) false (.slice none 0 0) 0;rw [World.size_alloc] at z1;rw [hW,fo8_nil9]
  exact ⟨(below_alloc _ _).trans ((below_alloc _ _).mono (by simp)),(Dk.new _ _ _ _).below (below_alloc _ _),none,0,by show Dk _ _ _ (.slice none (ws 0).length 0) _;rw [ws_zero];exact z1,by show Nt _ _ (.slice none (ws 0).length 0) 0;rw [ws_zero];exact Nt.nil _ _⟩)
 have HW:=qsd hW;clear hW hbl hcell hfin hm hl hO hT;go_enter Tryz.func69,Tryz.ntmps69
 go_upto_region 2 with fail
 rw [←HW.out];clear HW;go_wp2_with fail;refine (HT.out W K0.out.b).mono ?_;rintro r u1 ⟨rfl,hb⟩;have K0:=qsd (K0.out.below hb);clear hb HT
 by_cases h0:0≤T
 case neg =>
  have d0:decide (0≤T)=false:=decide_eq_false h0;rw [d0];have KX0:Aside (Kp9 w u1 O):=qsd (by rw [HO.out,kq9_low L T (by omega)];exact K0.out);clear d0;go_wp2
  go_loopg [6] 0 (fun gk jv wr=>jv=.int .i64 (T-34)∧wr=u1)
  case atStart=>exact ⟨rfl,rfl⟩
  case round =>
   obtain ⟨rfl,rfl⟩:=hrel;have hexit:=trivial;have KX:=KX0;obtain ⟨b,z,sa,sc,sD,sN⟩:=KX.out;obtain ⟨x0,x1,x2,xf0,xf1,xf2⟩:=sD.facts;obtain ⟨y0,y1,y2,yf0,yf1,yf2⟩:=z.facts;have HE:=qsd (ai (z.set (dN O) (.slice sa (ws (dX O)).length sc) (dE O)) (ai ((sN.but (st3_but9 wr w.heap.size (.bool (dN O)) (.slice sa (ws (dX O)).length sc) (.int .i64 (dE O))) (by omega)).mono (Nat.zero_le _)) (st3_bel9 b (Nat.le_refl _) (.bool (dN O)) (.slice sa (ws (dX O)).length sc) (.int .i64 (dE O)))));unfold st3 at HE;clear sD sN z b KX hexit;go_wp2;obtain ⟨f0,f1,f2,_,_,_⟩:=HE.out.1.facts;exact bodyPost_ret (v:=.agg #[.bool (dN O),.slice sa (ws (dX O)).length sc,.int .i64 (dE O)]) (by simp [results,Tryz.results69,go_sem,f0,f1,f2]) rfl ⟨⟨_,_,rfl,HE.out.2.1⟩,HE.out.2.2⟩
 case pos =>
 have d0:decide (0≤T)=true:=decide_eq_true h0;rw [d0];clear d0;go_wp2
 go_loopg [6] f (fun gk jv wr=>∃ q:Nat,gk+q=f∧jv=.int .i64 (T-(q:Nat)-34)∧Aside (Kp9 w wr (fo8 (kq9 L T q))))
 case atStart=>exact ⟨0,by omega,by first | rfl | (congr 1;omega),K0.out⟩
 case round =>
  obtain ⟨q,hk,rfl,HA⟩:=hrel;have c0:=HC0.out wr HA.out.b
  by_cases hqf:q<f
  case neg =>
   have d3:decide (T-34-(f:Int)<T-(q:Int)-34)=false:=decide_eq_false (by omega);have hexit:=trivial
   have KX:Aside (Kp9 w wr O):=qsd (by
    obtain rfl:q=f:=by omega
    rw [HO.out];exact HA.out)
   obtain ⟨b,z,sa,sc,sD,sN⟩:=KX.out;obtain ⟨x0,x1,x2,xf0,xf1,xf2⟩:=sD.facts;obtain ⟨y0,y1,y2,yf0,yf1,yf2⟩:=z.facts;have HE:=qsd (ai (z.set (dN O) (.slice sa (ws (dX O)).length sc) (dE O)) (ai ((sN.but (st3_but9 wr w.heap.size (.bool (dN O)) (.slice sa (ws (dX O)).length sc) (.int .i64 (dE O))) (by omega)).mono (Nat.zero_le _)) (st3_bel9 b (Nat.le_refl _) (.bool (dN O)) (.slice sa (ws (dX O)).length sc) (.int .i64 (dE O)))));unfold st3 at HE;clear sD sN z b KX hexit;go_wp2;obtain ⟨f0,f1,f2,_,_,_⟩:=HE.out.1.facts;exact bodyPost_ret (v:=.agg #[.bool (dN O),.slice sa (ws (dX O)).length sc,.int .i64 (dE O)]) (by simp [results,Tryz.results69,go_sem,f0,f1,f2]) rfl ⟨⟨_,_,rfl,HE.out.2.1⟩,HE.out.2.2⟩
  case pos =>
  have d3:decide (T-34-(f:Int)<T-(q:Int)-34)=true:=decide_eq_true (by omega);go_wp2
  go_loopg [7] m (fun gk' iv wr=>∃ i:Nat,gk'+i=m∧iv=.int .i64 (i:Nat)∧Aside (Kp9 w wr (fo8 (kq9 L T q+vS9 (L.take i) (T-q)))))
  case atStart=>exact ⟨0,by omega,rfl,qsd (by rw [List.take_zero];show Kp9 w wr (fo8 (kq9 L T q+0));rw [Int.add_zero];exact HA.out)⟩
  case round =>
   obtain ⟨i,hk2,rfl,HB⟩:=hrel;have c1:=HC1.out wr HB.out.b
   by_cases him:i<m
   case neg =>
    obtain rfl:i=m:=by omega
    have d5:decide ((i:Int)<(i:Int))=false:=decide_eq_false (by omega)
    have HN:Aside (Kp9 w wr (fo8 (kq9 L T (q+1)))):=qsd (by
     have:=HB.out;rw [List.take_of_length_le (by have:=HM.out.1;omega),←kq9_step] at this
     exact this)
    clear HB;go_wp2;go_roundg (f-q-1)
    case measure=>omega
    case rel=>exact ⟨q+1,by omega,by first | rfl | (show Value.int .i64 (T-(q:Int)-34-1)=Value.int .i64 (T-((q+1:Nat):Int)-34);congr 1;omega),HN.out⟩
   case pos =>
   obtain rfl:=hao (by omega);have d5:decide ((i:Int)<(m:Int))=true:=decide_eq_true (by omega);have hiL:i<L.length:=by have:=HM.out.1;omega
   obtain ⟨x,hx⟩:∃ x,x=L.getD i 0:=⟨_,rfl⟩
   have hfx:Wd x∧finW x:=by
    rw [hx,List.getD_eq_getElem?_getD,List.getElem?_eq_getElem hiL];exact HM.out.2.1 _ (List.getElem_mem hiL)
   have hs:=sB_lt (magW x) (T-q-34);have HSl:=hid (fun u=>rslice9 x hfx.1 hfx.2 (T-q-34) (by omega) u);obtain ⟨s,hsE⟩:∃ s,s=sB (magW x) (T-q-34):=⟨_,rfl⟩;rw [←hsE] at hs HSl;have HS:Hid (∀ u,Below w.heap.size w u→u.cell? ⟨g,1,none⟩=some (.slice (some ⟨gr,0,none⟩) m cap)∧u.cell? ⟨gr,i*2,none⟩=some (.int .u64 (x:Nat))∧u.cell? ⟨gr,i*2+1,none⟩=some (.int .i64 1)):=fun u hb=>⟨HC1.out u hb,by rw [hx];exact HCb.out u hb i hiL,HCt.out u hb i hiL⟩;have HXs:=(qsd (ai hiL (ai hx (ai hfx hsE))));clear hiL hx hfx hsE;have cb:=(HS.out wr HB.out.b).2.1;go_wp2_with fail;refine (HSl.out wr).mono ?_;rintro r u2 ⟨rfl,hb⟩;have HB:=qsd (HB.out.below hb);clear hb HSl c1 cb
   go_upto_region 10 with fail
   have HOs:=hid (fun u=>rOf_any s u (by omega));have ew1:IntKind.u64.wrap 1=1:=by decide
   have ews:IntKind.u64.wrap (s:Int)=(s:Int):=B.wraps_u64 _ (by omega) (by omega);have HO1:Hid (∀ u:World,Calls Tryz.prog 94 #[.int .u64 1] u fun r w'=>∃ v,r=.returned v∧Nt u.heap.size w' v 1∧Below u.heap.size u w'):=fun u=>rOf_any 1 u (by decide)
   go_cut [9] from 50 to 63 (fun vq wx=>∃ (va:Option Addr) (vc:Nat),vq=.slice va (ws s).length vc∧Aside (Nt 0 wx (.slice va (ws s).length vc) s∧Below u2.heap.size u2 wx))
   case first =>
    have BB:=qsd (Below.refl u2.heap.size u2).drew;have kS:=qsd (ai (HS.out _ (HB.out.b.trans (BB.out.mono HB.out.b.size))).1 (HS.out _ (HB.out.b.trans (BB.out.mono HB.out.b.size))).2.2)
    go_region_held3 (fun w'=>w'.cell? ⟨g,1,none⟩=some (.slice (some ⟨gr,0,none⟩) m cap)∧w'.cell? ⟨gr,i*2+1,none⟩=some (.int .i64 1)) (with_reducible exact kS.out) (first
     | (go_at_call 94
        with_reducible refine (HOs.out _).mono ?_
        rintro r u3 ⟨v1,rfl,n1,hb⟩;obtain ⟨a1,e1,rfl,-,-,-⟩:=n1.shape;have BC:=qsd (ai (BB.out.trans (hb.mono BB.out.size)) n1);have kS:=qsd (ai (HS.out u3 (HB.out.b.trans (BC.out.1.mono HB.out.b.size))).1 (HS.out u3 (HB.out.b.trans (BC.out.1.mono HB.out.b.size))).2.2)
        clear hb n1)
     | (go_at_call 94
        with_reducible refine (HO1.out _).mono ?_
        rintro r u4 ⟨v2,rfl,n2,hb⟩;obtain ⟨a2,e2,rfl,-,-,-⟩:=n2.shape;have BD:=qsd (ai (BC.out.1.trans (hb.mono BC.out.1.size)) (ai (BC.out.2.below hb) n2));have kS:=qsd (ai (HS.out u4 (HB.out.b.trans (BD.out.1.mono HB.out.b.size))).1 (HS.out u4 (HB.out.b.trans (BD.out.1.mono HB.out.b.size))).2.2)
        clear hb n2)
     | (go_at_call 93
        with_reducible refine (tim9 BD.out.2.1 BD.out.2.2 hs).mono ?_
        rintro r u5 ⟨a3,c3,rfl,n3,hb⟩;have BE:=qsd (ai (BD.out.1.trans (hb.mono BD.out.1.size)) n3);have kS:=qsd (ai (HS.out u5 (HB.out.b.trans (BE.out.1.mono HB.out.b.size))).1 (HS.out u5 (HB.out.b.trans (BE.out.1.mono HB.out.b.size))).2.2)
        clear hb n3))
    all_goals
     go_wp2_with fail
     go_meet
     case rel=>exact ⟨a3,c3,rfl,BE.out.2,BE.out.1⟩
   obtain ⟨na,nc,rfl,K1⟩:=hcut;obtain ⟨U,hU⟩:∃ U,U=wc:=⟨_,rfl⟩;rw [←hU] at K1 ⊢;have HB:=qsd (HB.out.below K1.out.2);have K1:=qsd K1.out.1;clear hU HOs HO1;obtain ⟨V,hV⟩:∃ V,V=kq9 L T q+vS9 (L.take i) (T-q):=⟨_,rfl⟩;obtain ⟨Y,hY⟩:∃ Y,Y=vb (T-q) (ss (zW x) (T-q)):=⟨_,rfl⟩;obtain ⟨P,hP⟩:∃ P,P=fo8 Y:=⟨_,rfl⟩;obtain ⟨P2,hP2⟩:∃ P,P=fo8 (V+Y):=⟨_,rfl⟩;obtain ⟨P1,hP1⟩:∃ P,P=fo8 V:=⟨_,rfl⟩
   have hVb:V.natAbs<2^(EB+1):=by
    have h1:=kq9_EB L T q (by omega) (by omega) HM.out.2.2;have h2:=vS9_EB (L.take i) (T-q) (by rw [List.length_take];have:=HM.out.2.2;omega) (by omega);rw [hV,Nat.pow_succ];omega
   have hYb:Y.natAbs<2^(EB+1):=by
    have h2:=vS9_EB [x] (T-q) (by simp) (by omega);have e:vS9 [x] (T-q)=Y:=by rw [hY];show vb (T-q) (ss (zW x) (T-q))+0=_;omega
    rw [e] at h2;rw [Nat.pow_succ];omega
   have hnext:V+Y=kq9 L T q+vS9 (L.take (i+1)) (T-q):=by
    have e1:L.take (i+1)=L.take i++[x]:=by
     have hi:=HXs.out.1;have hx:=HXs.out.2.1;rw [List.take_succ_eq_append_getElem hi,hx,List.getD_eq_getElem?_getD,List.getElem?_eq_getElem hi];rfl
    rw [e1,vS9_append,hV,hY];show _=kq9 L T q+(vS9 (L.take i) (T-q)+(vb (T-q) (ss (zW x) (T-q))+0));omega
   have hmk:mkS (negW x) s (32*(T-q-34))=P:=by
    rw [hP,hY,ss_slice9,←HXs.out.2.2.2];refine mk_slice9 (negW x) s hs (T-q) (by omega) (fun h=>?_) (fun h=>?_)
    · rw [HXs.out.2.2.2];unfold sB;rw [if_pos (by omega)]
    · have:=ss_div9 x;rw [←h,ss_slice9,←HXs.out.2.2.2] at this;exact this
   have HMk:Hid (Calls Tryz.prog 95 #[.bool (negW x),.slice na (ws s).length nc,.int .i64 (32*(T-q-34))] U fun r w'=>(∃ a c,r=.returned (.tuple #[.agg #[.bool (dN P),.slice a (ws (dX P)).length c,.int .i64 (dE P)],.int .i64 (erS P)])∧Nt U.heap.size w' (.slice a (ws (dX P)).length c) (dX P))∧Below U.heap.size U w'):=by
    have l1:(ws s).length≤1:=(ws_len_le s 1).2 (by unfold pw;omega);obtain ⟨_,_,e,A⟩:=K1.out.arg (by omega)
    cases e
    have:=rMake_any A (by omega) (negW x) (32*(T-q-34)) (by omega) (by omega);rw [val_ws,hmk] at this
    exact this.mono fun r w' h=>by
     obtain ⟨⟨v,e,hN⟩,hb⟩:=h;obtain ⟨a4,c4,rfl,-,-,-⟩:=hN.shape;exact ⟨⟨a4,c4,e,hN⟩,hb⟩
   rw [←hV,←hP1] at HB
   have HAd:Hid (∀ (u:World) (a b:Option Addr) (c d lo1 lo2:Nat),Nt lo1 u (.slice a (ws (dX P1)).length c) (dX P1)→Nt lo2 u (.slice b (ws (dX P)).length d) (dX P)→Calls Tryz.prog 96 #[.agg #[.bool (dN P1),.slice a (ws (dX P1)).length c,.int .i64 (dE P1)],.agg #[.bool (dN P),.slice b (ws (dX P)).length d,.int .i64 (dE P)]] u fun r w'=>(∃ a c,r=.returned (.tuple #[.agg #[.bool (dN P2),.slice a (ws (dX P2)).length c,.int .i64 (dE P2)],.int .i64 0])∧Nt u.heap.size w' (.slice a (ws (dX P2)).length c) (dX P2))∧Below u.heap.size u w'):=fun u a b c d lo1 lo2 n1 n2=>by
    have k1:=(fo8_len V (EB+1) (by unfold EB;decide) hVb).1;have k2:=(fo8_len Y (EB+1) (by unfold EB;decide) hYb).1;rw [hP1] at n1 ⊢;rw [hP] at n2 ⊢;rw [hP2];obtain ⟨_,_,e,A⟩:=n1.arg (by omega)
    cases e
    obtain ⟨_,_,e,B⟩:=n2.arg (by omega)
    cases e
    exact (radd8 V Y (EB+1) (by unfold EB;decide) hVb hYb u a b c d A B).mono fun r w' h=>by
     obtain ⟨⟨v,e,hN⟩,hb⟩:=h;obtain ⟨a4,c4,rfl,-,-,-⟩:=hN.shape;exact ⟨⟨a4,c4,e,hN⟩,hb⟩
   have HNx:Aside (P2=fo8 (kq9 L T q+vS9 (L.take (i+1)) (T-q))):=qsd (by rw [hP2,hnext])
   have e63:(((x:Int)/9223372036854775808)==1)=negW x:=by
    have hx:=HXs.out.2.2.1.1;unfold Wd at hx;unfold negW;rw [Bool.eq_iff_iff,beq_iff_eq,decide_eq_true_eq];omega
   have cb:=HS.out U HB.out.b;obtain ⟨c1,c2,c3⟩:=cb;clear hV hY hP hP2 hP1 hVb hYb hnext hmk hs HXs K1;go_wp2_with fail;refine HMk.out.mono ?_;rintro r u3 ⟨⟨da,dc,rfl,hN⟩,hb⟩;obtain ⟨W2,hW2⟩:∃ W,W=u3.alloc (Obj.cells #[.bool (dN P),.slice da (ws (dX P)).length dc,.int .i64 (dE P)] 70):=⟨_,rfl⟩;obtain ⟨gd,hgd⟩:∃ g,g=u3.heap.size:=⟨_,rfl⟩;have hba:Below u3.heap.size u3 W2:=by rw [hW2];exact below_alloc _ _
   have DD:Dk W2 gd (dN P) (.slice da (ws (dX P)).length dc) (dE P):=by rw [hW2,hgd];exact Dk.new _ _ _ _
   have HB:=qsd (ai ((HB.out.below hb).below hba) (hN.below hba));have HWW:=(qsd (ai hW2 hgd));obtain ⟨y0,y1,y2,yf0,yf1,yf2⟩:=DD.facts;obtain ⟨-,-,sa,sc,sD,sN⟩:=HB.out.1;obtain ⟨x0,x1,x2,xf0,xf1,xf2⟩:=sD.facts;have C:=hid (HAd.out W2 sa da sc dc _ _ sN HB.out.2);clear hW2 hgd hba hb hN HMk HAd DD sD sN c1 c2 c3
   go_upto_region 12 with fail
   rw [←HWW.out.1,←HWW.out.2];clear HWW;go_wp2_with fail;refine C.out.mono ?_;rintro r u4 ⟨⟨pa,pc,rfl,hN⟩,hb⟩
   have HB:=qsd (ai (HB.out.1.below hb) (ai hN (Nat.le_trans (show w.heap.size+2≤W2.heap.size from by
    obtain ⟨b,z,a,c,D,N⟩:=HB.out.1
    exact D.lt) (Nat.le_refl _))))
   clear hb hN C x0 x1 x2 xf0 xf1 xf2 y0 y1 y2 yf0 yf1 yf2;have HE:=qsd (HB.out.1.set HB.out.2.1 HB.out.2.2);obtain ⟨-,-,sa,sc,sD,sN⟩:=HB.out.1;obtain ⟨x0,x1,x2,xf0,xf1,xf2⟩:=sD.facts;clear sD sN;go_wp2;go_roundg (m-i-1)
   case measure=>omega
   case rel=>exact ⟨i+1,by omega,by first | rfl | go_num,by rw [←HNx.out];exact HE.out⟩
end
section
open Go.RowKit
theorem fin9_take {xs:List Nat}{k:Nat}(hW:W64 xs) (h:Fin9 (xs.take k)) (hk:k<xs.length) (hf:finW (xs.getD k 0)):Fin9 (xs.take (k+1))∧xs.take (k+1)=xs.take k++[xs.getD k 0]:=by
 have e:xs.take (k+1)=xs.take k++[xs.getD k 0]:=by
  rw [List.take_succ_eq_append_getElem hk,List.getD_eq_getElem?_getD,List.getElem?_eq_getElem hk];rfl
 refine ⟨fun x hx=>?_,e⟩;rw [e] at hx;rcases List.mem_append.1 hx with h1|h1
 · exact h x h1
 · have:x=xs.getD k 0:=by simpa using h1
   rw [this];exact ⟨hW.get k,hf⟩
noncomputable def alA (f:Nat) (xs:List Nat):Nat×Int:=by
 classical
 exact if Fin9 xs then rndS (fo8 (kvz f xs)) 0 else (0,30)
theorem Alike10 (xs:List Nat) (a:Option Addr) (n c f:Nat) (w:World) (hn:n=xs.length) (hF:Fs w.heap.size w a xs) (hW:W64 xs) (hT:Tab w) (h1:1≤f) (h8:f≤8) (hl:n≤65536) :
 Calls Tryz.prog 6 #[.slice a n c,.int .i64 (f:Nat)] w fun r w'=>r=.returned (.tuple #[.float .f64 (alA f xs).1,.int .i64 (alA f xs).2])∧Below w.heap.size w w':=by
 obtain ⟨X,hX⟩:∃ X,X=alA f xs:=⟨_,rfl⟩;rw [←hX];obtain ⟨X1,X2⟩:=X;simp only
 have HX:Aside ((Fin9 xs→(X1,X2)=rndS (fo8 (kvz f xs)) 0)∧(¬ Fin9 xs→(X1,X2)=(0,30))):=by
  refine ⟨fun h=>?_,fun h=>?_⟩
  · rw [hX];unfold alA;rw [if_pos h]
  · rw [hX];unfold alA;rw [if_neg h]
 have HN:=hid (New9 f w h1 h8);have HA:=qsd (ai hn (ai hF (ai hW (ai hT (ai h8 hl)))));have b2:decide ((65536:Int)<(n:Int))=false:=by simp;omega
 have hnb:n<4611686018427387904:=by omega
 clear hn hF hW hT h1 h8 hl hX;go_enter Tryz.func6,Tryz.ntmps6;go_wp2_with fail;refine HN.out.mono ?_;rintro r w1 ⟨rfl,hB,hb⟩;obtain ⟨g,hg⟩:∃ g,g=w.heap.size:=⟨_,rfl⟩;have B1:Aside (Bz w1 g f []∧Below w.heap.size w w1∧w.heap.size≤g):=by rw [hg];exact ⟨hB,hb,Nat.le_refl _⟩
 rw [←hg];clear hB hb HN hg;go_wp2
 go_loopg [21] n (fun gk i wr=>∃ k:Nat,gk+k=n∧i=.int .i64 (k:Nat)∧Aside (Bz wr g f (xs.take k)∧Fin9 (xs.take k)∧Below w.heap.size w wr))
 case atStart=>exact ⟨0,by omega,by simp,B1.out.1,fun x hx=>by simp at hx,B1.out.2.1⟩
 case round =>
  obtain ⟨k,hgk,rfl,HR⟩:=hrel
  by_cases hk:k<n
  · obtain ⟨b,off,rfl,hc⟩:=HA.out.2.1.at HR.out.2.2 k (by rw [←HA.out.1];exact hk);obtain ⟨x,hx⟩:∃ x,x=xs.getD k 0:=⟨_,rfl⟩;rw [←hx] at hc;have hx64:x<18446744073709551616:=by rw [hx];exact HA.out.2.2.1.get k
    have hlen:(xs.take k).length<1099511627776:=by rw [List.length_take];have:=HA.out.2.2.2.2.2;omega
    by_cases hf:finW x
    · have HE:=qsd (fin9_take HA.out.2.2.1 HR.out.2.1 (by rw [←HA.out.1];exact hk) (by rw [←hx];exact hf));have C:=hid (Add9 x ⟨hx64,hf⟩ g f (xs.take k) wr HR.out.1 HR.out.2.1 hlen HA.out.2.2.2.2.1);rw [hx,←HE.out.2,←hx] at C;clear hx hx64 hlen hf;go_wp2_with fail;refine C.out.mono ?_;rintro r w2 ⟨rfl,hB2,hbut⟩;have K2:=qsd (ai hB2 (But.below HR.out.2.2 hbut HR.out.2.2.size B1.out.2.2));clear hB2 hbut C;go_wp2;go_roundg (gk-1)
      case measure=>omega
      case rel=>exact ⟨k+1,by omega,by first | rfl | simp,K2.out.1,HE.out.1,K2.out.2⟩
    · have hno:¬ Fin9 xs:=fun h=>hf (by
       rw [hx];have hk2:k<xs.length:=by rw [←HA.out.1];exact hk
       rw [List.getD_eq_getElem?_getD,List.getElem?_eq_getElem hk2]
       exact (h _ (List.getElem_mem hk2)).2)
      have HY:=qsd (HX.out.2 hno);have C:=hid (Add9_odd x ⟨hx64,hf⟩ g f (xs.take k) wr HR.out.1 hlen);clear hx hx64 hlen hf hno;go_wp2_with fail;refine C.out.mono ?_;rintro r w2 ⟨rfl,hb2⟩;have K2:=qsd (HR.out.2.2.trans (hb2.mono HR.out.2.2.size));clear hb2 C;go_wp2
      go_ret2
      have e:=HY.out
      cases e
      exact ⟨rfl,K2.out⟩
  · have hd:n≤k:=by omega
    have etk:xs.take k=xs:=by rw [List.take_of_length_le];rw [←HA.out.1];omega
    have hB:=HR.out.1;have hFi:=HR.out.2.1;rw [etk] at hB hFi;have C:=hid (Round9 g f xs 0 wr hB hFi (by rw [←HA.out.1];have:=HA.out.2.2.2.2.2;omega) (HA.out.2.2.2.1.belows HR.out.2.2));rw [←HX.out.1 hFi] at C;simp only at C;clear etk hB hFi;go_wp2_with fail;refine C.out.mono ?_;rintro r w2 ⟨rfl,hb2⟩;have K2:=qsd (HR.out.2.2.trans (hb2.mono HR.out.2.2.size));clear hb2 C;go_wp2
    go_ret2
    exact ⟨rfl,K2.out⟩
theorem Alike10_long (a:Option Addr) (n c f:Nat) (w:World) (h1:1≤f) (h8:f≤8) (hl:65536<n) :
 Calls Tryz.prog 6 #[.slice a n c,.int .i64 (f:Nat)] w fun r w'=>r=.returned (.tuple #[.float .f64 0,.int .i64 2])∧Below w.heap.size w w':=by
 have HN:=hid (New9 f w h1 h8);have b2:decide ((65536:Int)<(n:Int))=true:=by simp;omega
 clear h1 h8 hl;go_enter Tryz.func6,Tryz.ntmps6;go_wp2_with fail;refine HN.out.mono ?_;rintro r w1 ⟨rfl,_,hb⟩;have B1:=qsd hb;clear hb HN;go_wp2
 go_ret2
 exact ⟨rfl,B1.out⟩
end
end Go.Proofs.YtepkabljmpbmaaaGreatDoor
