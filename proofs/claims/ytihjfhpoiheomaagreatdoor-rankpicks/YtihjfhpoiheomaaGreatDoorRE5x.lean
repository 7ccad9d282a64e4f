import Derived.Test.YtihjfhpoiheomaaGreatDoorRB7x
import Derived.Test.YtihjfhpoiheomaaGreatDoorW50x
import Derived.Test.YtihjfhpoiheomaaGreatDoorM4x
import Derived.Test.YtihjfhpoiheomaaGreatDoorW25x
import Derived.Deep.MidRow
import Derived.ChangeKeysEq
import Derived.Laws.OwnMore
import Derived.Lib.SliceRun
import Derived.Deep.RegionHeld
import Derived.Test.YtihjfhpoiheomaaGreatDoorBIeeex
import Derived.Test.YtihjfhpoiheomaaGreatDoorBW6x
import Derived.Deep.RegionWith
import Derived.Test.YtihjfhpoiheomaaGreatDoorD21x
import Derived.Test.YtihjfhpoiheomaaGreatDoorD16x
import Derived.Test.YtihjfhpoiheomaaGreatDoorO6x
import Derived.Deep.RegionHeld3
import Derived.Test.YtihjfhpoiheomaaGreatDoorRB1x
import Derived.Laws.IdiomStrings
import Derived.BigQuiet
import Derived.Deep.Cut
import Derived.Deep.CutRange
import Derived.Test.YtihjfhpoiheomaaGreatDoorD30x
import Derived.Test.YtihjfhpoiheomaaGreatDoorD36x
import Derived.Deep.OwnRows
import Derived.Deep.LoopGhost
import Derived.Laws.FloatArith
set_option linter.unusedVariables false
set_option linter.unusedSimpArgs false
set_option maxHeartbeats 16000000
set_option maxRecDepth 20000
namespace Go.Proofs.YtihjfhpoiheomaaGreatDoor
namespace J
end J
section
open Go Go.RowKit J
attribute [local go_sem] st_float
theorem dE_rng {V:Int}(bV:Bd 2099 V):-1074≤dE (gV 1074 V)∧dE (gV 1074 V)≤1048576:=by
 obtain ⟨n,X,e,h,F,hb⟩:=g_iv (u:=1074) (by omega) (by omega) bV
 rw [h]
 show -1074≤e∧e≤1048576
 refine ⟨?_,F.up⟩
 rcases hb with q|q
 · rcases F.odd with o | ⟨_,_,o⟩
   · omega
   · omega
 · exact q.1
theorem rMid_sp (x y:Nat) (mode:Int) (w:World) (cx cy:Int) (sm ix iy:Bool) (z:Nat×Int) (kx:(cx==3)=ix) (ky:(cy==3)=iy)
 (h1:sm=true→z=(x,0)) (h2:sm=false→ix=true→iy=true→z=(0,30)) (h3:sm=false→ix=true→iy=false→z=(x,0)) (h4:sm=false→ix=false→iy=true→z=(y,0)) (h5:sm=false→ix=false→iy=false→False)
 (P1:Hid (∀ u:World,∃ (b:Bool) (p q:Int),Calls Tryz.prog 60 #[.float .f64 x] u fun r w'=>r=.returned (.agg #[.bool b,.int .i64 cx,.int .i64 p,.int .u64 q])∧Below u.heap.size u w'))
 (P2:Hid (∀ u:World,∃ (b:Bool) (p q:Int),Calls Tryz.prog 60 #[.float .f64 y] u fun r w'=>r=.returned (.agg #[.bool b,.int .i64 cy,.int .i64 p,.int .u64 q])∧Below u.heap.size u w'))
 (CS:Hid (∀ u:World,Calls Tryz.prog 28 #[.float .f64 x,.float .f64 y] u fun r w'=>r=.returned (.bool sm)∧w'=u))
 (CT:Hid (∀ u:World,Calls Tryz.prog 35 #[.float .f64 x] u fun r w'=>r=.returned (.float .f64 x)∧Below u.heap.size u w')) :
 Calls Tryz.prog 44 #[.float .f64 x,.float .f64 y,.int .i64 mode] w fun r w'=>r=.returned (.tuple #[.float .f64 z.1,.int .i64 z.2])∧Below w.heap.size w w':=by
 have HZ:=(qsd (ai h1 (ai h2 (ai h3 (ai h4 h5)))));clear h1 h2 h3 h4 h5;go_enter Tryz.func44,Tryz.ntmps44;obtain ⟨b1,p1,q1,C⟩:=P1.out w;have C:=hid C
 go_wp2_with fail
 refine C.out.mono ?_;rintro r v1 ⟨rfl,hb⟩;obtain ⟨V1,hV⟩:∃ V,V=v1.alloc (Obj.cells #[.bool b1,.int .i64 cx,.int .i64 p1,.int .u64 q1] 80):=⟨_,rfl⟩;obtain ⟨g1,hgd⟩:∃ g,g=v1.heap.size:=⟨_,rfl⟩
 have H:Aside (Below w.heap.size w V1∧Pb V1 g1 cx):=by
  have hbl:Below v1.heap.size v1 V1:=by rw [hV];exact below_alloc _ _
  exact ⟨hb.trans (hbl.mono hb.size),by rw [hV,hgd];exact Pb.new _ _ _ _ _⟩
 have HV:=(qsd (ai hV hgd));clear C hb hV hgd P1
 go_upto_region 2 with fail
 rw [←HV.out.1,←HV.out.2];clear HV;obtain ⟨b2,p2,q2,C⟩:=P2.out V1;have C:=hid C
 go_wp2_with fail
 refine C.out.mono ?_;rintro r v2 ⟨rfl,hb⟩;obtain ⟨V2,hV⟩:∃ V,V=v2.alloc (Obj.cells #[.bool b2,.int .i64 cy,.int .i64 p2,.int .u64 q2] 80):=⟨_,rfl⟩;obtain ⟨g2,hgd⟩:∃ g,g=v2.heap.size:=⟨_,rfl⟩
 replace H:Aside (Below w.heap.size w V2∧Pb V2 g1 cx∧Pb V2 g2 cy):=by
  have hbl:Below v2.heap.size v2 V2:=by rw [hV];exact below_alloc _ _
  exact ⟨(H.out.1.trans (hb.mono H.out.1.size)).trans (hbl.mono (Nat.le_trans H.out.1.size hb.size)),(H.out.2.bel hb).bel hbl,by rw [hV,hgd];exact Pb.new _ _ _ _ _⟩
 have HV:=(qsd (ai hV hgd));clear C hb hV hgd P2
 go_upto_region 3 with fail
 rw [←HV.out.1,←HV.out.2];clear HV;have c1:=H.out.2.1.2;have c2:=H.out.2.2.2;have HB:=qsd H.out.1
 go_wp2_with fail
 refine (CS.out _).mono ?_;rintro r u ⟨rfl,hu⟩;rw [hu];clear hu u CS H
 cases sm
 · clear CT
   cases ix
   · cases iy
     · exact (HZ.out.2.2.2.2 rfl rfl rfl).elim
     · have hz:=qsd (HZ.out.2.2.2.1 rfl rfl rfl)
       clear HZ;go_wp2
       go_ret2
       exact ⟨by rw [hz.out];rfl,HB.out⟩
   · cases iy
     · have hz:=qsd (HZ.out.2.2.1 rfl rfl rfl)
       clear HZ;go_wp2
       go_ret2
       exact ⟨by rw [hz.out];rfl,HB.out⟩
     · have hz:=qsd (HZ.out.2.1 rfl rfl rfl)
       clear HZ;go_wp2
       go_ret2
       exact ⟨by rw [hz.out];rfl,HB.out⟩
 · have hz:=qsd (HZ.out.1 rfl)
   clear HZ c1 c2
   go_wp2_with fail
   refine (CT.out _).mono ?_;rintro r u ⟨rfl,hb⟩;replace HB:=qsd (HB.out.trans (hb.mono HB.out.size));clear hb CT;go_wp2
   go_ret2
   exact ⟨by rw [hz.out];rfl,HB.out⟩
theorem rMiddle15 (x y:Nat) (hx:x<18446744073709551616) (hy:y<18446744073709551616) (nx:nanW x=false) (ny:nanW y=false) (mode:Int) (w:World) (hT:Tab w) :
 Calls Tryz.prog 44 #[.float .f64 x,.float .f64 y,.int .i64 mode] w fun r w'=>r=.returned (.tuple #[.float .f64 (midW x y mode).1,.int .i64 (midW x y mode).2])∧Below w.heap.size w w':=by
 have ex:nrm x=x:=by unfold nrm;rw [if_neg (by rw [nx];decide)]
 have ey:nrm y=y:=by unfold nrm;rw [if_neg (by rw [ny];decide)]
 have P1:=hid (fun u:World=>rSplit15 hx u)
 have P2:=hid (fun u:World=>rSplit15 hy u)
 have CS:=hid (fun u:World=>rSame15 hx hy u)
 rw [ex,ey] at CS;have kx:=clx_inf nx;have ky:=clx_inf ny;have CT:=hid (fun u:World=>rtold15 hx u)
 rw [ex] at CT
 by_cases fin:x≠y∧magW x≠9218868437227405312∧magW y≠9218868437227405312
 · obtain ⟨h,ix,iy⟩:=fin
   rw [decide_eq_false h] at CS;rw [decide_eq_false ix] at kx;rw [decide_eq_false iy] at ky;have e:midW x y mode=rndS (gV 1075 (fvW x+fvW y)) mode:=by unfold midW;rw [if_neg h,if_neg (fun q=>ix q.1),if_neg ix,if_neg iy]
   rw [e];have fx:finW x:=by have:=nnan nx;unfold finW;omega
   have fy:finW y:=by have:=nnan ny;unfold finW;omega
   have b1:=fv_bd hx fx;have b2:=fv_bd hy fy;have bs:=b1.add b2;have F1:=g_fm (u:=1074) (by omega) (by omega) b1
   have F2:=g_fm (u:=1074) (by omega) (by omega) b2
   have F3:=g_fm (u:=1074) (by omega) (by omega) bs
   have F4:=g_fm (u:=1075) (by omega) (by omega) bs
   have ea:addD (gV 1074 (fvW x)) (gV 1074 (fvW y))=gV 1074 (fvW x+fvW y):=g_add (u:=1074) (by omega) (by omega) b1 b2
   obtain ⟨d1,d2⟩:=dE_rng bs;have hf:=half_form bs
   refine rMid_fin x y mode w hT (clx x) (clx y) _ _ _ _ (rndS (gV 1075 (fvW x+fvW y)) mode) F1 F2 F3 F4 kx ky P1 P2 CS (fun u=>rof12 x hx fx u) (fun u=>rof12 y hy fy u)
    (fun u a b c d N1 N2=>radd12 F1 F2 N1 N2 ea F3) (dE (gV 1074 (fvW x+fvW y))-1) (by rw [IntKind.wrap_i64];omega) (fun u a c N=>?_) (fun u a c N=>?_)
   · have:=rMake_any (F3.a12 N) (Nat.le_trans F3.len (by decide)) (dN (gV 1074 (fvW x+fvW y))) (dE (gV 1074 (fvW x+fvW y))-1) (by omega) (by omega)
     rw [val_ws,hf] at this;unfold DAns at this;rw [F4.er] at this;exact this
   · have:=rRound_any (F4.a12 N) (Nat.le_trans F4.len (by decide)) (dN (gV 1075 (fvW x+fvW y))) (dE (gV 1075 (fvW x+fvW y))) mode F4.rng.1 F4.rng.2
     rw [val_ws,F4.re] at this;exact this
 · refine rMid_sp x y mode w (clx x) (clx y) (decide (x=y)) (decide (magW x=9218868437227405312)) (decide (magW y=9218868437227405312)) (midW x y mode) kx ky (fun a=>?_) (fun a b c=>?_) (fun a b c=>?_) (fun a b c=>?_) (fun a b c=>?_) P1 P2 CS CT
   · exact if_pos (of_decide_eq_true a)
   · unfold midW;rw [if_neg (of_decide_eq_false a),if_pos ⟨of_decide_eq_true b,of_decide_eq_true c⟩]
   · unfold midW;rw [if_neg (of_decide_eq_false a),if_neg (fun q=>of_decide_eq_false c q.2),if_pos (of_decide_eq_true b)]
   · unfold midW;rw [if_neg (of_decide_eq_false a),if_neg (fun q=>of_decide_eq_false b q.1),if_neg (of_decide_eq_false b),if_pos (of_decide_eq_true c)]
   · exact fin ⟨of_decide_eq_false a,of_decide_eq_false b,of_decide_eq_false c⟩
end
section
open Go Go.RowKit J
attribute [local go_sem] st_float
theorem rMedian_no (ao:Option Addr) (n cap:Nat) (mode:Int) (w:World) (hn:n≤4611686018427387904) (h:mode<0∨4<mode∨65536<n) :
 Calls Tryz.prog 25 #[.slice ao n cap,.int .i64 mode] w fun r w'=>r=.returned (.tuple #[.float .f64 0,.int .i64 (if mode<0∨4<mode then 1 else 2)])∧Below w.heap.size w w':=by
 by_cases h1:mode<0
 · have d1:decide (mode<0)=true:=by simp [h1]
   rw [if_pos (Or.inl h1)];go_enter Tryz.func25,Tryz.ntmps25;go_wp2
   go_ret2
   exact ⟨rfl,Below.refl _ _⟩
 · have d1:decide (mode<0)=false:=by simp;omega
   by_cases h2:4<mode
   · have d2:decide (4<mode)=true:=by simp [h2]
     rw [if_pos (Or.inr h2)];clear h h1 h2;go_enter Tryz.func25,Tryz.ntmps25;go_wp2
     go_ret2
     exact ⟨rfl,Below.refl _ _⟩
   · have d2:decide (4<mode)=false:=by simp;omega
     have d3:decide ((65536:Int)<(n:Int))=true:=by simp;omega
     rw [if_neg (by omega)]
     clear h h1 h2;go_enter Tryz.func25,Tryz.ntmps25;go_wp2
     go_ret2
     exact ⟨rfl,Below.refl _ _⟩
theorem midW_refl (x:Nat) (mode:Int):midW x x mode=(x,0):=if_pos rfl
theorem medR_cases (xs:List Nat) (mode:Int) (h1:¬ (mode<0∨4<mode)) (h2:¬ 65536<xs.length) :
 (xs.any nanW=true→medR xs mode=(0,30))∧(xs.any nanW=false→xs.length=0→medR xs mode=(0,3))∧(xs.any nanW=false→xs.length%2=1→medR xs mode=((sortL xs).getD (xs.length/2) 0,0)) ∧
 (xs.any nanW=false→xs.length≠0→xs.length%2=0→medR xs mode=midW ((sortL xs).getD (xs.length/2-1) 0) ((sortL xs).getD (xs.length/2) 0) mode):=by
 unfold medR;rw [if_neg h1,if_neg h2];refine ⟨fun a=>if_pos a,fun a b=>?_,fun a b=>?_,fun a b c=>?_⟩
 · rw [if_neg (by rw [a];decide),if_pos b]
 · rw [if_neg (by rw [a];decide),if_neg (by omega),show (xs.length-1)/2=xs.length/2 by omega,midW_refl]
 · rw [if_neg (by rw [a];decide),if_neg b,show (xs.length-1)/2=xs.length/2-1 by omega]
theorem rMedian_go (xs:List Nat) (ao:Option Addr) (n cap:Nat) (mode:Int) (w:World) (hT:Tab w) (hF:Fs w.heap.size w ao xs) (hn:n=xs.length) (hW:W64 xs) (hb:n≤65536) (hm0:0≤mode) (hm4:mode≤4) (z:Nat×Int)
 (h1:xs.any nanW=true→z=(0,30)) (h2:xs.any nanW=false→n=0→z=(0,3)) (h3:xs.any nanW=false→n%2=1→z=((sortL xs).getD (n/2) 0,0)) (h4:xs.any nanW=false→n≠0→n%2=0→z=midW ((sortL xs).getD (n/2-1) 0) ((sortL xs).getD (n/2) 0) mode) :
 Calls Tryz.prog 25 #[.slice ao n cap,.int .i64 mode] w fun r w'=>r=.returned (.tuple #[.float .f64 z.1,.int .i64 z.2])∧Below w.heap.size w w':=by
 have d1:decide (mode<0)=false:=decide_eq_false (by omega)
 have d2:decide (4<mode)=false:=decide_eq_false (by omega)
 have d3:decide ((65536:Int)<(n:Int))=false:=by simp;omega
 have C2:=hid (fun (u:World) (hu:Below w.heap.size w u)=>rSort15 xs ao n cap u ((hF.below hu).mono hu.size) hn (by omega) hW)
 have HN:=(qsd (ai hF (ai hn (ai hW (ai hb hT)))));have HZ:=(qsd (ai h1 (ai h2 (ai h3 h4))));clear hF hn hW hT hm0 hm4 h1 h2 h3 h4;go_enter Tryz.func25,Tryz.ntmps25;go_wp2
 go_loopg [6] n (fun gk iv wr=>∃ k:Nat,gk+k=n∧iv=.int .i64 (k:Nat)∧Aside ((xs.take k).any nanW=false∧Below w.heap.size w wr))
 case atStart=>exact ⟨0,by omega,by first | rfl | simp,by simp,Below.refl _ _⟩
 case round =>
  obtain ⟨k,hgk,rfl,HA⟩:=hrel
  by_cases hk:k<n
  · have hdk:decide ((k:Int)<(n:Int))=true:=by simp;omega
    have bk:(k:Int)<(n:Int):=by omega
    obtain ⟨k1,hk1⟩:∃ x,x=k+1:=⟨_,rfl⟩;have wk:IntKind.i64.wrap ((k:Int)+1)=(k1:Int):=wrapZ (by omega) (by omega)
    obtain ⟨hF,hn,hW,_,_⟩:=HN.out;have hkx:k<xs.length:=by omega
    obtain ⟨b,o,rfl,c1⟩:=hF.at HA.out.2 k hkx;have hx:xs.getD k 0<18446744073709551616:=hW _ (getD_mem15 hkx);have hc:=clx_nan hx;have D:=hid (rClass15 hx wr);have hat:=any_take15n hkx;have hmem:xs.getD k 0 ∈ xs:=getD_mem15 hkx;obtain ⟨x,hxx⟩:∃ x,x=xs.getD k 0:=⟨_,rfl⟩;rw [←hxx] at c1 hc D hat hmem;rw [HA.out.1,Bool.false_or,←hk1] at hat;obtain ⟨cx,hcx⟩:∃ c,c=clx x:=⟨_,rfl⟩;rw [←hcx] at D hc;have HK:=(qsd (ai hgk (ai hk1 (ai hat hmem))));clear hF hn hW hkx hx hxx hat hmem hk1 hcx
    by_cases hq:nanW x=true
    · have e4:(cx==4)=true:=by rw [hc.2 hq];rfl
      have hz:=qsd (HZ.out.1 (List.any_eq_true.2 ⟨x,HK.out.2.2.2,hq⟩));clear hc hq
      go_wp2_with fail
      refine D.out.mono ?_;rintro r u ⟨rfl,hu⟩;have HB:=qsd (HA.out.2.trans (hu.mono HA.out.2.size));clear hu D;go_wp2
      go_ret2
      exact ⟨by rw [hz.out];rfl,HB.out⟩
    · have e4:(cx==4)=false:=by
       rw [Bool.eq_false_iff];intro q;exact hq (hc.1 (by simpa using q))
      have hq':nanW x=false:=by simpa using hq
      have hB:=qsd hq';clear hc hq hq'
      go_wp2_with fail
      refine D.out.mono ?_;rintro r u ⟨rfl,hu⟩;have HB:=qsd (HA.out.2.trans (hu.mono HA.out.2.size));clear hu D;go_wp2
      go_roundg (n-k1)
      case measure=>have:=HK.out.2.1;omega
      case rel=>exact ⟨k1,by have:=HK.out.1;have:=HK.out.2.1;omega,by first | rfl | simp,by rw [HK.out.2.2.1];exact hB.out,HB.out⟩
  · obtain rfl:k=n:=by omega
    have hdk:decide ((k:Int)<(k:Int))=false:=by simp
    have ha:Aside (xs.any nanW=false):=by
     have:=HA.out.1;rw [HN.out.2.1,List.take_length] at this;exact this
    by_cases h0:k=0
    · have e0:((k:Int)==0)=true:=by rw [h0];rfl
      have hz:=qsd (HZ.out.2.1 ha.out h0);clear h0;go_wp2
      go_ret2
      exact ⟨by rw [hz.out];rfl,HA.out.2⟩
    · have e0:((k:Int)==0)=false:=by simp;omega
      obtain ⟨j,hj⟩:∃ j,j=k/2:=⟨_,rfl⟩;have w3:Int.tdiv (k:Int) 2=(j:Int):=by rw [hj];rfl
      have w5:IntKind.i64.wrap (j:Int)=(j:Int):=wrapZ rfl (by omega)
      have bj:(j:Int)<(k:Int):=by omega
      have hjx:j<xs.length:=by have:=HN.out.2.1;omega
      have C:=hid (C2.out _ HA.out.2)
      by_cases hp:k%2=1
      · have w6:Int.tmod (k:Int) 2=1:=(show Int.tmod (k:Int) 2=((k%2:Nat):Int) from rfl).trans (by rw [hp];rfl)
        have hz:=HZ.out.2.2.1 ha.out hp;rw [←hj] at hz;obtain ⟨y,hy⟩:∃ y,y=(sortL xs).getD j 0:=⟨_,rfl⟩;rw [←hy] at hz;have hz:=qsd hz;have HY:=(qsd (ai hy hjx));clear h0 hp hj hy hjx C2
        go_wp2_with fail
        refine C.out.mono ?_;rintro r u ⟨⟨a,c,rfl,_,hf⟩,hu⟩;obtain ⟨b,o,rfl,c1⟩:=hf.at (Below.refl _ _) j (by rw [sortL_len];exact HY.out.2)
        rw [←HY.out.1] at c1;have HB:=qsd (HA.out.2.trans (hu.mono HA.out.2.size));clear hu C hf;go_wp2
        go_ret2
        exact ⟨by rw [hz.out];rfl,HB.out⟩
      · have w6:Int.tmod (k:Int) 2=0:=(show Int.tmod (k:Int) 2=((k%2:Nat):Int) from rfl).trans (by rw [show k%2=0 by omega];rfl)
        obtain ⟨i,hi⟩:∃ i,i=j-1:=⟨_,rfl⟩;have w7:IntKind.i64.wrap ((j:Int)-1)=(i:Int):=wrapZ (by omega) (by omega)
        have bi:(i:Int)<(k:Int):=by omega
        have hix:i<xs.length:=by omega
        have hz:=HZ.out.2.2.2 ha.out h0 (by omega)
        rw [←hj,←hi] at hz;have hW:=HN.out.2.2.1;have l1:=(sort_ky hW hix).2;have l2:=(sort_ky hW hjx).2;have m1:=(sort_nn ha.out hix).1;have m2:=(sort_nn ha.out hjx).1;obtain ⟨x,hx⟩:∃ x,x=(sortL xs).getD i 0:=⟨_,rfl⟩;obtain ⟨y,hy⟩:∃ y,y=(sortL xs).getD j 0:=⟨_,rfl⟩;rw [←hx] at hz l1 m1;rw [←hy] at hz l2 m2;have HT:=qsd HN.out.2.2.2.2;have C3:=hid (fun (u:World) (hu:Below w.heap.size w u)=>rMiddle15 x y l1 l2 m1 m2 mode u (HT.out.belows hu))
        rw [←hz] at C3;have HY:=(qsd (ai hy (ai hjx (ai hx hix))));have hi0:(0:Int)≤(i:Int):=by omega
        have hj0:(0:Int)≤(j:Int):=by omega
        clear h0 hp hj hy hjx C2 hi hx hix l1 l2 m1 m2 hz hW HT
        go_wp2_with fail
        refine C.out.mono ?_;rintro r u ⟨⟨a,c,rfl,_,hf⟩,hu⟩;obtain ⟨b,o,rfl,c2⟩:=hf.at (Below.refl _ _) j (by rw [sortL_len];exact HY.out.2.1)
        have c1:u.cell? ⟨b,o+i,none⟩=some (.float .f64 x):=by
         have c1:=hf.cell (Below.refl _ _) i (by rw [sortL_len];exact HY.out.2.2.2)
         rw [c1,HY.out.2.2.1]
        rw [←HY.out.1] at c2;have HB:=qsd (HA.out.2.trans (hu.mono HA.out.2.size));have hlt:Aside (b<u.heap.size):=qsd (World.block_lt_of_cell? u _ c2);have HD:Aside (Below w.heap.size w u.drew):=⟨HB.out.os,HB.out.tape,HB.out.output,HB.out.size,HB.out.block⟩;have kS:Aside (u.drew.cell? ⟨b,o+i,none⟩=some (.float .f64 x)∧u.drew.cell? ⟨b,o+j,none⟩=some (.float .f64 y)):=⟨c1,c2⟩;clear hu C hf
        go_upto_region 17 with fail
        go_region_held3 (fun w'=>w'.cell? ⟨b,o+i,none⟩=some (.float .f64 x)∧w'.cell? ⟨b,o+j,none⟩=some (.float .f64 y)) (with_reducible exact kS.out) (first
         | (go_at_call 44
            with_reducible refine (C3.out _ HD.out).mono ?_
            rintro r v ⟨rfl,hb⟩;have HX:=qsd (HD.out.trans (hb.mono HD.out.size))
            have kS:Aside (v.cell? ⟨b,o+i,none⟩=some (.float .f64 x)∧v.cell? ⟨b,o+j,none⟩=some (.float .f64 y)):=by
             have e:=hb.block b hlt.out;exact ⟨(World.cell?_of_block (a:=⟨b,o+i,none⟩) e).trans kS.out.1,(World.cell?_of_block (a:=⟨b,o+j,none⟩) e).trans kS.out.2⟩
            clear hb))
        all_goals
         go_wp2_with fail
         go_ret2
         exact ⟨rfl,HX.out⟩
theorem rMedian15 (xs:List Nat) (ao:Option Addr) (n cap:Nat) (mode:Int) (w:World) (hT:Tab w) (hF:Fs w.heap.size w ao xs) (hn:n=xs.length) (hb:n≤4611686018427387904) (hW:W64 xs) :
 Calls Tryz.prog 25 #[.slice ao n cap,.int .i64 mode] w fun r w'=>r=.returned (.tuple #[.float .f64 (medR xs mode).1,.int .i64 (medR xs mode).2])∧Below w.heap.size w w':=by
 by_cases h1:mode<0∨4<mode
 · have e:medR xs mode=(0,1):=by unfold medR;exact if_pos h1
   have:=rMedian_no ao n cap mode w hb (h1.elim Or.inl (fun q=>Or.inr (Or.inl q)))
   rw [if_pos h1] at this;rw [e];exact this
 · by_cases h2:65536<xs.length
   · have e:medR xs mode=(0,2):=by unfold medR;rw [if_neg h1];exact if_pos h2
     have:=rMedian_no ao n cap mode w hb (Or.inr (Or.inr (by omega)))
     rw [if_neg h1] at this;rw [e];exact this
   · obtain ⟨q1,q2,q3,q4⟩:=medR_cases xs mode h1 h2
     rw [←hn] at q2 q3 q4;exact rMedian_go xs ao n cap mode w hT hF hn hW (by omega) (by omega) (by omega) _ q1 q2 q3 q4
end
section
open Go.RowKit J
attribute [local go_sem] st_float
attribute [local go_sem] B.f64bits in
theorem alike12 (x:Nat) (w:World):Calls Tryz.prog 26 #[.float .f64 x,.float .f64 x] w fun r w'=>r=.returned (.bool true)∧w'=w:=by
 go_enter Tryz.func26,Tryz.ntmps26;go_wp2;go_ret;exact ⟨by first | rfl | simp,rfl⟩
end
section
open Go.RowKit J
attribute [local go_sem] st_float
theorem ord71:(FloatKind.f64.format.order 4634696597773484032 4634696597773484032==some .eq)=true:=by decide +kernel
theorem ord72:(FloatKind.f64.format.order 4634766966517661696 4634766966517661696==some .eq)=true:=by decide +kernel
attribute [local go_sem] ord71 ord72
theorem butN12 {g:Nat}{a w:World}(h:But g a w) (n:Nat):But g a (w.drewN n):=⟨h.os,h.tape,h.output,h.size,h.block⟩
theorem lent2_zeros (xs:List Nat) (n:Nat) (hn:n=xs.length):xs++(List.replicate (n+2) 0).drop n=xs++[0,0]:=by
 rw [List.drop_replicate,show n+2-n=2 by omega];rfl
def lnt (xs:List Nat):List Nat:=xs++[4634696597773484032,4634766966517661696]
theorem lnt_len (xs:List Nat):(lnt xs).length=xs.length+2:=by simp [lnt]
theorem lent2_marks (xs:List Nat) (n:Nat) (hn:n=xs.length):((xs++[0,0]).set n 4634696597773484032).set (n+1) 4634766966517661696=lnt xs:=by
 subst hn;simp [lnt]
theorem rLent12 (xs:List Nat) (ao:Option Addr) (n cap B:Nat) (w:World) (hn:n=xs.length) (hm:n≤17592186043904) (hR:Fs B w ao xs) (hB:B≤w.heap.size) :
 Calls Tryz.prog 8 #[.slice ao n cap] w fun r w'=>r=.returned (.slice (some ⟨w.heap.size,0,none⟩) n (n+2))∧OwnF w' w.heap.size (lnt xs)∧Below w.heap.size w w':=by
 have hmk:=make_floats ((n+2:Nat):Int) (n+2) rfl (by omega)
 have hmk2:=make_floats ((n:Int)+2) (n+2) (by omega) (by omega)
 have HO2:Hid (OwnF (w.alloc (.cells (madeCells #[.float .f64 0] (n+2)) 40)) w.heap.size (List.replicate (n+2) 0)):=OwnF.made w (n+2);obtain ⟨w2,hcp,hO2,hbut⟩:=copy_floats _ w.heap.size (n+2) (n+2) ao n cap B 3 (List.replicate (n+2) 0) xs HO2.out (by simp) hn (hR.below ((Below.refl _ _).alloc hB _)) (by omega)
 rw [lent2_zeros xs n hn] at hO2;have hg1:=hO2.frozen n;have hg2:=hO2.frozen (n+1);have hc1:=hO2.cell n (by simp;omega)
 have hc2:=hO2.cell (n+1) (by simp;omega)
 have HX:=(qsd (ai hO2 (ai hbut hn)));clear hO2 hbut HO2 hn hR;go_enter Tryz.func8,Tryz.ntmps8;go_wp2;go_ret;obtain ⟨hO2,hbut,hn⟩:=HX.out;refine ⟨rfl,?_,?_⟩
 · have h1:=(hO2.set n 4634696597773484032).set (n+1) 4634766966517661696
   rw [lent2_marks xs n hn] at h1;exact h1
 · exact But.below ((Below.refl _ _).alloc (Nat.le_refl _) _) ((hbut.set _ _).set _ _) (by simp) (Nat.le_refl _)
theorem rAsLent12 (xs:List Nat) (ao:Option Addr) (n cap B g:Nat) (w:World) (hn:n=xs.length) (hm:n≤17592186043904) (hR:Fs B w ao xs) (hB:B≤g) (hO:OwnF w g (lnt xs)) :
 Calls Tryz.prog 11 #[.slice (some ⟨g,0,none⟩) n (n+2),.slice ao n cap] w fun r w'=>r=.returned (.bool true)∧But g w w':=by
 have hgl:=hO.lt;have hc1:=hO.cell n (by rw [lnt_len];omega)
 have hc2:=hO.cell (n+1) (by rw [lnt_len];omega)
 have e1:(lnt xs).getD n 0=4634696597773484032:=by subst hn;simp [lnt]
 have e2:(lnt xs).getD (n+1) 0=4634766966517661696:=by subst hn;simp [lnt]
 rw [e1] at hc1;rw [e2] at hc2;have HX:=(qsd (ai hR (ai hO (ai hn (ai hB hgl)))));clear hR hO hn hB e1 e2 hgl;go_enter Tryz.func11,Tryz.ntmps11;go_wp2
 go_loopg [6,7] (n+2) (fun gk gv iv wr=>∃ (k:Nat) (M:List Nat),gk+k=n+2∧gv=.bool true∧iv=.int .i64 (k:Nat)∧Hid (OwnF wr g M) ∧
  Aside (M.length=n+2∧(∀ j,k≤j→M.getD j 0=(lnt xs).getD j 0)∧But g w wr))
 case atStart =>
  obtain ⟨hR,hO,hn,hB,hgl⟩:=HX.out;exact ⟨0,lnt xs,by omega,rfl,rfl,hO,by rw [lnt_len];omega,fun _ _=>rfl,But.refl _ _⟩
 case round =>
  obtain ⟨k,M,hk,rfl,rfl,HM,HA⟩:=hrel
  by_cases hk2:k=n+2
  · obtain rfl:gk=0:=by omega
    subst hk2;go_wp2;go_ret;exact ⟨rfl,HA.out.2.2⟩
  · obtain ⟨hl,hM,hbut⟩:=HA.out
    have hgc:=HM.out.cell k (by omega)
    have hgf:=HM.out.frozen k;have hklt:k<n+2:=by omega
    by_cases hkn:k<n
    · obtain ⟨hR,hO,hn,hB,hgl⟩:=HX.out
      obtain ⟨b,off,hlt,rfl,hcell⟩:=(hR.but hbut (by omega) hB) (by intro e;subst e;simp at hn;omega)
      have hxc:=hcell k (by omega)
      have e3:M.getD k 0=xs.getD k 0:=by
       rw [hM k (Nat.le_refl _)];simp [lnt,List.getD_eq_getElem?_getD,List.getElem?_append_left (show k<xs.length by omega)]
      rw [e3] at hgc;obtain ⟨x,hx1⟩:∃ x,xs.getD k 0=x:=⟨_,rfl⟩;rw [hx1] at hgc hxc;have hd:decide ((n:Int)≤(k:Int))=false:=decide_eq_false (by omega)
      clear hl hM hbut hR hO hn hB hgl hcell e3 hx1;go_wp2
      go_quiet (first | (go_at_call 26;exact Calls.quiet_of_same (alike12 x _)))
      go_wp2
      go_roundg (gk-1)
      case measure=>omega
      case rel =>
       obtain ⟨hl,hM,hbut⟩:=HA.out;refine ⟨k+1,M.set k 4635541022703616000,by omega,by first | rfl | simp,by first | go_num | (congr 1;omega),(HM.out.set k 4635541022703616000).drew,by simp [hl],fun j hj=>?_,((butN12 hbut _).set k _)⟩
       rw [getD_set_ne _ _ _ _ (by omega)]
       exact hM j (by omega)
    · have hd:decide ((n:Int)≤(k:Int))=true:=decide_eq_true (by omega)
      clear hl hM hbut;go_wp2
      go_quiet (fail)
      go_wp2
      go_roundg (gk-1)
      case measure=>omega
      case rel =>
       obtain ⟨hl,hM,hbut⟩:=HA.out;refine ⟨k+1,M.set k 4635541022703616000,by omega,by first | rfl | simp,by first | go_num | (congr 1;omega),(HM.out.set k 4635541022703616000).drew,by simp [hl],fun j hj=>?_,((butN12 hbut _).set k _)⟩
       rw [getD_set_ne _ _ _ _ (by omega)]
       exact hM j (by omega)
end
section
open Go Go.RowKit J
attribute [local go_sem] st_float
theorem lent_fs {w:World}{g:Nat}{xs:List Nat}(h:OwnF w g (lnt xs)):Fs w.heap.size w (some ⟨g,0,none⟩) xs:=by
 have:=h.fs h.lt xs.length;rw [show (lnt xs).take xs.length=xs by simp [lnt]] at this
 exact this
theorem picks15 (xs:List Nat) (n:Nat) (place:Int) (hn:n=xs.length) (hm:n≤17592186043904) (hW:W64 xs):∃ (X:Nat) (E:Int),(∀ (ao:Option Addr) (cap:Nat) (u:World),Fs u.heap.size u ao xs→Calls Tryz.prog 22 #[.slice ao n cap,.int .i64 place] u fun r w'=>r=.returned (.tuple #[.float .f64 X,.int .i64 E])∧Below u.heap.size u w') ∧
 (∀ (ao:Option Addr) (cap:Nat) (u:World),Fs u.heap.size u ao xs→Calls Tryz.prog 24 #[.slice ao n cap,.int .i64 place] u fun r w'=>r=.returned (.tuple #[.float .f64 X,.int .i64 E])∧Below u.heap.size u w'):=by
 by_cases h:place<0∨65536<n∨(n:Int)≤place
 · exact ⟨_,_,fun ao cap u _=>Pick_no ao n cap place u (by omega) h,fun ao cap u _=>rPick_no ao n cap place u (by omega) h⟩
 · obtain ⟨p,rfl⟩:∃ p:Nat,place=(p:Nat):=⟨place.toNat,by omega⟩
   exact ⟨_,_,fun ao cap u hF=>Pick15 xs ao n cap p u hF hn (by omega) hW (by omega),fun ao cap u hF=>rPick15 xs ao n cap p u hF hn (by omega) hW (by omega)⟩
set_option maxRecDepth 100000 in
theorem walk2_RankPicks (a:Option Addr) (n c:Nat) (xs:List Nat) (place mode:Int) (w:World) (hT:Tab w) (hC:CameF w a n c xs) (hm:n≤17592186043904) :
 Calls Tryz.prog 5 #[.slice a n c,.int .i64 place,.int .i64 mode] w fun r w'=>r=.returned (.bool true)∧Below w.heap.size w w':=by
 obtain ⟨hl1,_,hW1,hF1,_⟩:=hC;have up:∀ u:World,Below w.heap.size w u→Fs u.heap.size u a xs∧Tab u∧Fs w.heap.size u a xs:=fun u hb=>⟨(hF1.below hb).mono hb.size,hT.belows hb,hF1.below hb⟩
 obtain ⟨⟨X2,E2⟩,h2⟩:∃ r,medR xs mode=r:=⟨_,rfl⟩;obtain ⟨X1,E1,p1,p2⟩:=picks15 xs n place hl1 hm hW1;have HA:=hid (fun (u:World) (hb:Below w.heap.size w u)=>awake15 u (up u hb).2.1)
 have HL:=hid (fun (u:World) (hb:Below w.heap.size w u)=>rLent12 xs a n c u.heap.size u hl1 hm (up u hb).1 (Nat.le_refl _))
 have HN:Hid (∀ (u:World) (g:Nat),Below w.heap.size w u→OwnF u g (lnt xs)→Calls Tryz.prog 22 #[.slice (some ⟨g,0,none⟩) n (n+2),.int .i64 place] u fun r w'=>r=.returned (.tuple #[.float .f64 X1,.int .i64 E1])∧Below u.heap.size u w'):=fun u g hb ho=>p1 _ _ u (lent_fs ho)
 have HD1:Hid (∀ (u:World) (g:Nat),Below w.heap.size w u→OwnF u g (lnt xs)→Calls Tryz.prog 23 #[.slice (some ⟨g,0,none⟩) n (n+2),.int .i64 mode] u fun r w'=>r=.returned (.tuple #[.float .f64 X2,.int .i64 E2])∧Below u.heap.size u w'):=fun u g hb ho=>by
  have:=Median15 xs (some ⟨g,0,none⟩) n (n+2) mode u (up u hb).2.1 (lent_fs ho) hl1 hW1;rw [h2] at this;exact this
 have HK:=hid (fun (u:World) (g:Nat) (hb:Below w.heap.size w u) (hg:w.heap.size≤g) (ho:OwnF u g (lnt xs))=>rAsLent12 xs a n c w.heap.size g u hl1 hm (up u hb).2.2 hg ho)
 have HQ:Hid (∀ u:World,Below w.heap.size w u→Calls Tryz.prog 24 #[.slice a n c,.int .i64 place] u fun r w'=>r=.returned (.tuple #[.float .f64 X1,.int .i64 E1])∧Below u.heap.size u w'):=fun u hb=>p2 _ _ u (up u hb).1
 have HQ':Hid (∀ u:World,Below w.heap.size w u→Calls Tryz.prog 25 #[.slice a n c,.int .i64 mode] u fun r w'=>r=.returned (.tuple #[.float .f64 X2,.int .i64 E2])∧Below u.heap.size u w'):=fun u hb=>by
  have:=rMedian15 xs a n c mode u (up u hb).2.1 (up u hb).1 hl1 (by omega) hW1
  rw [h2] at this;exact this
 clear hl1 hW1 hF1 up h2 p1 p2 hT hm;go_enter Tryz.func5,Tryz.ntmps5
 go_wp2_with fail
 refine (HA.out _ (Below.refl _ _)).mono ?_;rintro r u1 ⟨rfl,hb⟩;have B1:=qsd hb;clear hb HA
 go_wp2_with fail
 refine (HL.out _ B1.out).mono ?_;rintro r u2 ⟨rfl,ho,hb⟩;obtain ⟨g,hg⟩:∃ g,g=u1.heap.size:=⟨_,rfl⟩;rw [←hg] at ho ⊢;have B2:Aside (Below w.heap.size w u2∧OwnF u2 g (lnt xs)∧w.heap.size≤g):=⟨B1.out.trans (hb.mono B1.out.size),ho,by rw [hg];exact B1.out.size⟩
 clear hb ho hg B1 HL
 go_wp2_with fail
 refine (HN.out _ g B2.out.1 B2.out.2.1).mono ?_;rintro r u4 ⟨rfl,hb⟩;have B4:Aside (Below w.heap.size w u4∧OwnF u4 g (lnt xs)∧w.heap.size≤g):=⟨B2.out.1.trans (hb.mono B2.out.1.size),B2.out.2.1.below hb B2.out.2.1.lt,B2.out.2.2⟩;clear hb B2 HN
 go_wp2_with fail
 refine (HD1.out _ g B4.out.1 B4.out.2.1).mono ?_;rintro r u5 ⟨rfl,hb⟩;have B5:Aside (Below w.heap.size w u5∧OwnF u5 g (lnt xs)∧w.heap.size≤g):=⟨B4.out.1.trans (hb.mono B4.out.1.size),B4.out.2.1.below hb B4.out.2.1.lt,B4.out.2.2⟩;clear hb B4 HD1
 go_wp2_with fail
 refine (HK.out _ g B5.out.1 B5.out.2.2 B5.out.2.1).mono ?_;rintro r u7 ⟨rfl,hb⟩;have B8:Aside (Below w.heap.size w u7):=But.below B5.out.1 hb B5.out.1.size B5.out.2.2;clear hb B5 HK
 go_wp2_with fail
 refine (HQ.out _ B8.out).mono ?_;rintro r u9 ⟨rfl,hb⟩;have B9:=qsd (B8.out.trans (hb.mono B8.out.size));clear hb B8 HQ
 go_wp2_with fail
 refine (HQ'.out _ B9.out).mono ?_;rintro r u10 ⟨rfl,hb⟩;have B10:=qsd (B9.out.trans (hb.mono B9.out.size));clear hb B9 HQ';have e1:(E1==E1)=true:=by simp
 have e2:(E2==E2)=true:=by simp
 go_wp2_with fail
 refine (alike15 X1 _).mono ?_;rintro r u11 ⟨rfl,rfl⟩
 go_wp2_with fail
 refine (alike15 X2 _).mono ?_;rintro r u12 ⟨rfl,rfl⟩;go_wp2;go_ret;exact ⟨rfl,B10.out⟩
end
end Go.Proofs.YtihjfhpoiheomaaGreatDoor
