import Derived.Test.YtihjfhpoiheomaaGreatDoorRB6x
import Derived.Test.YtihjfhpoiheomaaGreatDoorJ19x
import Derived.Deep.RegionHeld3
import Derived.Test.YtihjfhpoiheomaaGreatDoorM1x
import Derived.WalkKit
import Derived.Deep.LoopGhost
import Derived.OwnWalk
import Derived.Below
import Derived.Laws.OwnMore
import Derived.Laws.CopyOwn
import Derived.Deep.OwnRows
import Derived.Laws.MakeOwn
import Derived.ArgAppend
import Derived.Maps.AppendAt
import Derived.WalkMore
import Derived.Laws.Cover2
import Derived.BigQuiet
set_option linter.unusedVariables false
set_option linter.unusedSimpArgs false
set_option maxHeartbeats 16000000
set_option maxRecDepth 20000
namespace Go.Proofs.YtihjfhpoiheomaaGreatDoor
namespace J
end J
section
open Go Go.RowKit J
attribute [local go_sem] st_float
theorem OwnF.notI {w:World}{g o:Nat}{L:List Nat}{z:Int}(h:OwnF w g L) (c:w.cell? ⟨g,o,none⟩=some (.int .i64 z)):False:=by
 by_cases ho:o<L.length
 · rw [h.cell o ho] at c;cases c
 · unfold OwnF at h
   unfold World.cell? at c;simp only [h] at c;rw [List.getElem?_toArray,List.getElem?_eq_none (by rw [List.length_map];omega)] at c
   cases c
def twN (tie:Int) (b a u p:Nat):Nat:=if tie=0 then 2*(b+1) else if tie=1 then 2*(b+a) else if tie=2 then 2*b+a+1 else if tie=3 then 2*(u+1) else 2*(p+1)
theorem rk_tw (tie:Int) (b a u p:Nat) (ha:1≤a) (hb:b≤65536) (ha2:a≤65536) (hu:u≤65536) (hp:p≤65536):rkW tie b a u p=hvW ((twN tie b a u p:Nat):Int):=by
 have e:∀ k:Nat,1≤k→k≤200000→floatOfInt .f64 ((k:Nat):Int)=hvW ((2*k:Nat):Int):=fun k h1 h2=>by
  rw [←hv_even (k:Int) (by omega) (by omega)];rfl
 unfold rkW twN
 by_cases h0:tie=0
 · rw [if_pos h0,if_pos h0];exact e (b+1) (by omega) (by omega)
 · rw [if_neg h0,if_neg h0]
   by_cases h1:tie=1
   · rw [if_pos h1,if_pos h1];exact e (b+a) (by omega) (by omega)
   · rw [if_neg h1,if_neg h1]
     by_cases h2:tie=2
     · rw [if_pos h2,if_pos h2]
     · rw [if_neg h2,if_neg h2]
       by_cases h3:tie=3
       · rw [if_pos h3,if_pos h3];exact e (u+1) (by omega) (by omega)
       · rw [if_neg h3,if_neg h3];exact e (p+1) (by omega) (by omega)
def rkP (xs:List Nat) (tie:Int) (p:Nat):Nat:=rkW tie (rnR xs p).1 (rnR xs p).2.1 (rnR xs p).2.2 p
theorem rkP_run {xs:List Nat}{a b u p:Nat}(tie:Int) (hB:Bh xs a b) (hs:stR xs a=(a,u)) (h1:a≤p) (h2:p<b) (hb:xs.length≤65536):rkP xs tie p=hvW ((twN tie a (b-a) u p:Nat):Int):=by
 have hl:=hB.le;have hu:=(stR_le xs a).2;rw [hs] at hu;unfold rkP rnR;rw [hB.st p h1 h2,hs,hB.en h1 h2];exact rk_tw tie a (b-a) u p (by omega) (by omega) (by omega) (by have:u≤a:=hu;omega) (by omega)
theorem rRanks_go (xs:List Nat) (ao:Option Addr) (n cap:Nat) (tie:Int) (w:World) (hF:Fs w.heap.size w ao xs) (hn:n=xs.length) (hb:n≤65536) (hW:W64 xs) (h0:0≤tie) (h4:tie≤4) :
 Calls Tryz.prog 21 #[.slice ao n cap,.int .i64 tie] w fun r w'=>r=.returned (.tuple #[.slice (some ⟨w.heap.size,0,none⟩) n n,.int .i64 0])∧OwnF w' w.heap.size (rkL xs tie)∧Below w.heap.size w w':=by
 have d1:decide (tie<0)=false:=by simp;omega
 have d2:decide (4<tie)=false:=by simp;omega
 have d3:decide ((65536:Int)<(n:Int))=false:=by simp;omega
 have mk:=make_floats n n rfl (by omega)
 obtain ⟨W1,hW1⟩:∃ W,W=w.alloc (Obj.cells (madeCells #[Value.float FloatKind.f64 0] n) 40):=⟨_,rfl⟩
 have o1:OwnF W1 w.heap.size (eachTo xs (rkP xs tie) 0 0):=by
  rw [hW1,eachTo_zero,←hn];exact OwnF.made w n
 have o2:Below w.heap.size w W1:=by
  rw [hW1];exact (Below.refl w.heap.size w).alloc (Nat.le_refl _) _
 have C:=hid (rRow15 xs ao n cap W1 ((hF.below o2).mono o2.size) hn (by omega) hW)
 obtain ⟨g,hg⟩:∃ G,G=w.heap.size:=⟨_,rfl⟩;rw [←hg] at o1 ⊢;have hgl:g<W1.heap.size:=o1.lt;have HG:=qsd hg;have HW1:=qsd hW1;have HN:=(qsd (ai hn (ai hb (ai hW (ai hF (ai o1 (ai o2 hgl)))))));have HT:=(qsd (ai h0 h4));clear hF hn hb hW h0 h4 o1 o2 hgl hW1 hg;go_enter Tryz.func21,Tryz.ntmps21
 go_upto_region 6 with fail
 rw [←HW1.out,←HG.out];clear mk d1 d2 d3
 go_wp2_with fail
 refine C.out.mono ?_;rintro r V ⟨⟨ar,cr,rfl,hI⟩,hv⟩;have HV:Aside (OwnF V g (eachTo xs (rkP xs tie) 0 0)∧Below w.heap.size w V):=⟨HN.out.2.2.2.2.1.below hv HN.out.2.2.2.2.2.2,HN.out.2.2.2.2.2.1.trans (hv.mono HN.out.2.2.2.2.2.1.size)⟩
 have HX:Aside (∀ u:World,But g V u→Below w.heap.size w u∧Fs w.heap.size u ao xs∧(0<n→∃ b o,ar=some ⟨b,o,none⟩∧∀ i,i<n→u.cell? ⟨b,o+i,none⟩=some (.int .i64 (((rowL xs).getD i 0:Nat):Int)))):=fun u hu=>by
  have hgw:=HG.out;have hB:=But.below HV.out.2 hu HV.out.2.size (by omega)
  refine ⟨hB,HN.out.2.2.2.1.below hB,fun hp=>?_⟩
  obtain ⟨b,o,hbl,e,hc⟩:=hI (by intro e;have:=rowL_len xs;rw [e] at this;simp at this;have:=HN.out.1;omega)
  have hne:b≠g:=by
   rintro rfl;exact HV.out.1.notI (hc 0 (by rw [rowL_len];have:=HN.out.1;omega))
  exact ⟨b,o,e,fun i hi=>(World.cell?_of_block (a:=⟨b,o+i,none⟩) (hu.block b hbl hne)).trans (hc i (by rw [rowL_len];have:=HN.out.1;omega))⟩
 have HA:Aside (OwnF V g (eachTo xs (rkP xs tie) 0 0)∧But g V V):=⟨HV.out.1,But.refl _ _⟩;clear C hI hv HV;go_wp2
 go_loopg [8,9] n (fun gk i8 i9 wr=>∃ a u:Nat,gk+a=n∧i9=.int .i64 (a:Nat)∧i8=.int .i64 (u:Nat)∧u≤a∧Aside ((a<n→stR xs a=(a,u))∧OwnF wr g (eachTo xs (rkP xs tie) 0 a)∧But g V wr))
 case atStart=>exact ⟨0,0,by omega,by first | rfl | simp,by first | rfl | simp,by omega,fun _=>rfl,HA.out⟩
 case round =>
  clear HA;obtain ⟨a,u,hgk,rfl,rfl,hua,HA⟩:=hrel
  by_cases hk:a<n
  · have hdk:decide ((a:Int)<(n:Int))=true:=by simp;omega
    obtain ⟨u1,hu1⟩:∃ d,d=u+1:=⟨_,rfl⟩;have hn6:=HN.out.2.1;have wu:IntKind.i64.wrap ((u:Int)+1)=(u1:Int):=wrapZ (by omega) (by omega)
    have HS:=qsd (HA.out.1 hk);have HQ:Aside (OwnF wr g (eachTo xs (rkP xs tie) 0 a)∧But g V wr):=HA.out.2;have HK:=(qsd (ai hgk (ai hk (ai hu1 hua))));have han:(a:Int)<(n:Int):=by omega
    clear hgk hu1 HA hn6 hk;go_wp2
    go_loopg [10] (n-a) (fun gq i10 wr=>∃ k:Nat,gq+k=n∧i10=.int .i64 (k:Nat)∧Aside (a≤k∧(∀ j,a≤j→j<k→kyR xs j=kyR xs a)∧OwnF wr g (eachTo xs (rkP xs tie) 0 a)∧But g V wr))
    case atStart=>exact ⟨a,by have:=HK.out.2.1;omega,by first | rfl | simp,Nat.le_refl _,fun j h1 h2=>by omega,HQ.out⟩
    case round =>
     clear HQ;obtain ⟨k,hgq,rfl,HR⟩:=hrel;have HDr:Aside (∀ m,OwnF (wr.drewN m) g (eachTo xs (rkP xs tie) 0 a)∧But g V (wr.drewN m)):=fun m=>⟨HR.out.2.2.1,butN12 HR.out.2.2.2 m⟩
     by_cases hk:k<n
     · have hdq:decide (k<n)=true:=by simp;omega
       have bk:(k:Int)<(n:Int):=by omega
       obtain ⟨k1,hk1⟩:∃ x,x=k+1:=⟨_,rfl⟩;have hn6:=HN.out.2.1;have wk:IntKind.i64.wrap ((k:Int)+1)=(k1:Int):=wrapZ (by omega) (by omega)
       obtain ⟨hB,hFx,hat⟩:=HX.out _ HR.out.2.2.2;obtain ⟨b,o,rfl,hc⟩:=hat (by omega)
       have hnx:=HN.out.1;have hax:=HK.out.2.1;obtain ⟨i,hi⟩:∃ i,i=(rowL xs).getD k 0:=⟨_,rfl⟩;obtain ⟨j,hj⟩:∃ i,i=(rowL xs).getD a 0:=⟨_,rfl⟩;have c1:=hc k hk;have c2:=hc a hax;rw [←hi] at c1;rw [←hj] at c2;have hin:i<n:=by rw [hi,hnx];exact rowL_lt (by omega)
       have hjn:j<n:=by rw [hj,hnx];exact rowL_lt (by omega)
       have bi:(i:Int)<(n:Int):=by omega
       have bj:(j:Int)<(n:Int):=by omega
       obtain ⟨b3,o3,rfl,e1⟩:=hFx.at (Below.refl _ _) i (by omega)
       obtain ⟨b4,o4,e,e2⟩:=hFx.at (Below.refl _ _) j (by omega)
       obtain ⟨rfl,rfl⟩:b3=b4∧o3=o4:=by simpa using e
       have hx:xs.getD i 0<18446744073709551616:=HN.out.2.2.1 _ (getD_mem15 (by omega))
       have hy:xs.getD j 0<18446744073709551616:=HN.out.2.2.1 _ (getD_mem15 (by omega))
       have kx:kyR xs k=tk (xs.getD i 0):=by unfold kyR;rw [hi]
       have ka:kyR xs a=tk (xs.getD j 0):=by unfold kyR;rw [hj]
       obtain ⟨x,hxx⟩:∃ x,x=xs.getD i 0:=⟨_,rfl⟩;obtain ⟨y,hyy⟩:∃ x,x=xs.getD j 0:=⟨_,rfl⟩;rw [←hxx] at e1 hx kx;rw [←hyy] at e2 hy ka;have CO:=hid (fun u:World=>rOrder15 hy hx u)
       have ho:=oc0 (tk y) (tk x);obtain ⟨z,hz⟩:∃ z,z=B.oc (tk y) (tk x):=⟨_,rfl⟩;rw [←hz] at CO ho
       by_cases he:tk y=tk x
       · rw [decide_eq_true he] at ho
         have HE:Aside (a≤k1∧(∀ j,a≤j→j<k1→kyR xs j=kyR xs a)∧k1=k+1):=by
          refine ⟨by have:=HR.out.1;omega,fun j' p1 p2=>?_,hk1⟩
          by_cases q:j'<k
          · exact HR.out.2.1 j' p1 q
          · rw [show j'=k by omega,kx,ka,he]
         have hgq':k<n:=hk;clear HR hB hFx hat hc hnx hax hi hj hin hjn e hx hy kx ka hxx hyy hz he hk1 hn6
         go_wp2_with fail
         go_quiet (first | (go_at_call 27;exact Calls.quiet_of_same (CO.out _)))
         go_wp2
         go_roundg (n-k1)
         case measure=>have:=HE.out.2.2;omega
         case rel=>exact ⟨k1,by have:=HE.out.2.2;omega,by first | rfl | simp,HE.out.1,HE.out.2.1,HDr.out _⟩
       · rw [decide_eq_false he] at ho
         have HE:Aside (Bh xs a k):=by
          have hlt:a<k:=by
           rcases Nat.lt_or_ge a k with q|q
           · exact q
           · have e9:a=k:=by have:=HR.out.1;omega
             exact absurd (by rw [←ka,←kx,e9]) he
          exact ⟨hlt,by omega,HR.out.2.1,fun _ q=>he (by rw [←ka,←kx];exact q.symm)⟩
         clear HR hB hFx hat hc hnx hax hi hj hin hjn e hx hy kx ka hxx hyy hz he hk1 hn6 hdk
         go_wp2_with fail
         go_quiet (first | (go_at_call 27;exact Calls.quiet_of_same (CO.out _)))
         have HQ2:Aside (OwnF (wr.drewN nq) g (eachTo xs (rkP xs tie) 0 a)∧But g V (wr.drewN nq)):=HDr.out nq;clear HDr;obtain ⟨wo,hwo⟩:∃ W,W=wr.drewN nq:=⟨_,rfl⟩;rw [←hwo] at HQ2 ⊢;clear hwo;go_wp2
         go_loopg [11] (k-a) (fun gs i11 wr=>∃ p:Nat,gs+p=k∧i11=.int .i64 (p:Nat)∧Aside (a≤p∧OwnF wr g (eachTo xs (rkP xs tie) 0 p)∧But g V wr))
         case atStart=>exact ⟨a,by have:=HE.out.lt;omega,by first | rfl | simp,Nat.le_refl _,HQ2.out⟩
         case round =>
          clear HQ2;obtain ⟨p,hgs,rfl,HP⟩:=hrel
          by_cases hp:p<k
          · have hdp:decide ((p:Int)<(k:Int))=true:=by simp;omega
            obtain ⟨p1,hp1⟩:∃ x,x=p+1:=⟨_,rfl⟩;have hn6:=HN.out.2.1;have hkn:=HE.out.le;have hnx:=HN.out.1;have hakk:=HP.out.1;have hua:=HK.out.2.2.2;have hu1:=HK.out.2.2.1;have wp:IntKind.i64.wrap ((p:Int)+1)=(p1:Int):=wrapZ (by omega) (by omega)
            have bp:(p:Int)<(n:Int):=by omega
            obtain ⟨hB,hFx,hat⟩:=HX.out _ HP.out.2.2;obtain ⟨b',o',e',hc⟩:=hat (by omega)
            obtain ⟨rfl,rfl⟩:b=b'∧o=o':=by simpa using e'
            obtain ⟨j,hj⟩:∃ i,i=(rowL xs).getD p 0:=⟨_,rfl⟩;have c1:=hc p (by omega)
            rw [←hj] at c1;have hjn:j<n:=by rw [hj,hnx];exact rowL_lt (by omega)
            have bj:(j:Int)<(n:Int):=by omega
            obtain ⟨y,hy⟩:∃ y,y=(eachTo xs (rkP xs tie) 0 p).getD j 0:=⟨_,rfl⟩;have c2:=HP.out.2.1.cell j (by rw [eachTo_len,←hnx];exact hjn)
            rw [←hy] at c2;have c3:=HP.out.2.1.frozen j;obtain ⟨t,ht⟩:∃ t,t=twN tie a (k-a) u p:=⟨_,rfl⟩;have hz0:=rkP_run tie HE.out HS.out HP.out.1 hp (by omega)
            rw [←ht] at hz0
            have ht2:t≤400000:=by
             rw [ht];unfold twN
             split
             · omega
             · split
               · omega
               · split
                 · omega
                 · split <;> omega
            have r1:=(hv_run ((t:Nat):Int) (by omega) (by omega)).1
            obtain ⟨zq,hzq⟩:∃ z,z=hvW ((t:Nat):Int):=⟨_,rfl⟩;rw [←hzq] at r1 hz0;have dv:=fun W:World=>run_float_arith (P:=Tryz.prog) W .quo 40 .f64 (floatOfInt .f64 (t:Int)) 4611686018427387904 zq r1
            have HY:Aside (OwnF (wr.setCell ⟨g,j,none⟩ (.float .f64 zq)) g (eachTo xs (rkP xs tie) 0 p1)∧But g V (wr.setCell ⟨g,j,none⟩ (.float .f64 zq))):=by
             refine ⟨?_,HP.out.2.2.set _ _⟩;have:=HP.out.2.1.set j zq;rw [hj,←hz0,eachTo_succ xs (rkP xs tie) 0 (by omega),←hp1] at this
             rw [hj,←hz0];exact this
            have HZ:=(qsd (ai hp1 hakk));have h04:=HT.out;clear hB hFx hat hc hj hy hz0 hzq r1 HP hnx;obtain rfl|rfl|rfl|rfl|rfl:tie=0∨tie=1∨tie=2∨tie=3∨tie=4:=by omega
            · have ht':t=2*(a+1):=ht.trans (if_pos rfl)
              obtain ⟨a1,ha1⟩:∃ x,x=a+1:=⟨_,rfl⟩;have v1:IntKind.i64.wrap ((a:Int)+1)=(a1:Int):=wrapZ (by omega) (by omega)
              have v2:IntKind.i64.wrap (2*(a1:Int))=(t:Int):=wrapZ (by omega) (by omega)
              clear ht ht' ha1 h04 hn6 hkn hua hu1 hakk hjn hp1 ht2;go_wp2
              go_roundg (k-p1)
              case measure=>have:=HZ.out;omega
              case rel=>exact ⟨p1,by have:=HZ.out;omega,by first | rfl | simp,by have:=HZ.out;omega,HY.out⟩
            · have ht':t=2*(a+(k-a)):=ht.trans ((if_neg (by decide)).trans (if_pos rfl))
              have v2:IntKind.i64.wrap (2*(k:Int))=(t:Int):=wrapZ (by omega) (by omega)
              clear ht ht' h04 hn6 hkn hua hu1 hakk hjn hp1 ht2;go_wp2
              go_roundg (k-p1)
              case measure=>have:=HZ.out;omega
              case rel=>exact ⟨p1,by have:=HZ.out;omega,by first | rfl | simp,by have:=HZ.out;omega,HY.out⟩
            · have ht':t=2*a+(k-a)+1:=ht.trans ((if_neg (by decide)).trans ((if_neg (by decide)).trans (if_pos rfl)))
              obtain ⟨x1,hx1⟩:∃ x,x=2*a:=⟨_,rfl⟩;obtain ⟨x2,hx2⟩:∃ x,x=x1+k:=⟨_,rfl⟩;obtain ⟨x3,hx3⟩:∃ x,x=x2-a:=⟨_,rfl⟩;have v1:IntKind.i64.wrap (2*(a:Int))=(x1:Int):=wrapZ (by omega) (by omega)
              have v2:IntKind.i64.wrap ((x1:Int)+(k:Int))=(x2:Int):=wrapZ (by omega) (by omega)
              have v3:IntKind.i64.wrap ((x2:Int)-(a:Int))=(x3:Int):=wrapZ (by omega) (by omega)
              have v4:IntKind.i64.wrap ((x3:Int)+1)=(t:Int):=wrapZ (by omega) (by omega)
              clear ht ht' hx1 hx2 hx3 h04 hn6 hkn hua hu1 hakk hjn hp1 ht2;go_wp2
              go_roundg (k-p1)
              case measure=>have:=HZ.out;omega
              case rel=>exact ⟨p1,by have:=HZ.out;omega,by first | rfl | simp,by have:=HZ.out;omega,HY.out⟩
            · have ht':t=2*(u+1):=ht.trans ((if_neg (by decide)).trans ((if_neg (by decide)).trans ((if_neg (by decide)).trans (if_pos rfl))))
              have v2:IntKind.i64.wrap (2*(u1:Int))=(t:Int):=wrapZ (by omega) (by omega)
              clear ht ht' h04 hn6 hkn hua hu1 hakk hjn hp1 ht2;go_wp2
              go_roundg (k-p1)
              case measure=>have:=HZ.out;omega
              case rel=>exact ⟨p1,by have:=HZ.out;omega,by first | rfl | simp,by have:=HZ.out;omega,HY.out⟩
            · have ht':t=2*(p+1):=ht.trans ((if_neg (by decide)).trans ((if_neg (by decide)).trans ((if_neg (by decide)).trans (if_neg (by decide)))))
              have v2:IntKind.i64.wrap (2*(p1:Int))=(t:Int):=wrapZ (by omega) (by omega)
              clear ht ht' h04 hn6 hkn hua hu1 hakk hjn hp1 ht2;go_wp2
              go_roundg (k-p1)
              case measure=>have:=HZ.out;omega
              case rel=>exact ⟨p1,by have:=HZ.out;omega,by first | rfl | simp,by have:=HZ.out;omega,HY.out⟩
          · obtain rfl:p=k:=by omega
            have hdp:decide ((p:Int)<(p:Int))=false:=by simp
            have HP2:=qsd HP.out.2;clear HP;go_wp2
            go_roundg (n-p)
            case measure=>have:=HE.out.lt;have:=HE.out.le;have:=HN.out.1;have:=HK.out.1;omega
            case rel =>
             have hle:=HE.out.le;have hlt:=HE.out.lt;have hnx:=HN.out.1;obtain ⟨_,_,hu1,hua⟩:=HK.out;refine ⟨p,u1,by omega,by first | rfl | simp,by first | rfl | simp,by omega,fun q=>?_,HP2.out⟩
             rw [HE.out.next (by omega),HS.out,hu1]
     · have hdq:decide (k<n)=false:=by simp;omega
       have HE:Aside (Bh xs a k):=by
        have hnx:=HN.out.1;have hax:=HK.out.2.1;exact ⟨by omega,by omega,HR.out.2.1,fun q=>by omega⟩
       clear HR hdk
       go_wp2_with fail
       go_quiet (fail)
       have HQ2:Aside (OwnF (wr.drewN nq) g (eachTo xs (rkP xs tie) 0 a)∧But g V (wr.drewN nq)):=HDr.out nq;clear HDr;obtain ⟨wo,hwo⟩:∃ W,W=wr.drewN nq:=⟨_,rfl⟩;rw [←hwo] at HQ2 ⊢;clear hwo;go_wp2
       go_loopg [11] (k-a) (fun gs i11 wr=>∃ p:Nat,gs+p=k∧i11=.int .i64 (p:Nat)∧Aside (a≤p∧OwnF wr g (eachTo xs (rkP xs tie) 0 p)∧But g V wr))
       case atStart=>exact ⟨a,by have:=HE.out.lt;omega,by first | rfl | simp,Nat.le_refl _,HQ2.out⟩
       case round =>
        clear HQ2;obtain ⟨p,hgs,rfl,HP⟩:=hrel
        by_cases hp:p<k
        · have hdp:decide ((p:Int)<(k:Int))=true:=by simp;omega
          obtain ⟨p1,hp1⟩:∃ x,x=p+1:=⟨_,rfl⟩;have hn6:=HN.out.2.1;have hkn:=HE.out.le;have hnx:=HN.out.1;have hakk:=HP.out.1;have hua:=HK.out.2.2.2;have hu1:=HK.out.2.2.1;have wp:IntKind.i64.wrap ((p:Int)+1)=(p1:Int):=wrapZ (by omega) (by omega)
          have bp:(p:Int)<(n:Int):=by omega
          obtain ⟨hB,hFx,hat⟩:=HX.out _ HP.out.2.2;obtain ⟨b,o,rfl,hc⟩:=hat (by omega)
          obtain ⟨j,hj⟩:∃ i,i=(rowL xs).getD p 0:=⟨_,rfl⟩;have c1:=hc p (by omega)
          rw [←hj] at c1;have hjn:j<n:=by rw [hj,hnx];exact rowL_lt (by omega)
          have bj:(j:Int)<(n:Int):=by omega
          obtain ⟨y,hy⟩:∃ y,y=(eachTo xs (rkP xs tie) 0 p).getD j 0:=⟨_,rfl⟩;have c2:=HP.out.2.1.cell j (by rw [eachTo_len,←hnx];exact hjn)
          rw [←hy] at c2;have c3:=HP.out.2.1.frozen j;obtain ⟨t,ht⟩:∃ t,t=twN tie a (k-a) u p:=⟨_,rfl⟩;have hz0:=rkP_run tie HE.out HS.out HP.out.1 hp (by omega)
          rw [←ht] at hz0
          have ht2:t≤400000:=by
           rw [ht];unfold twN
           split
           · omega
           · split
             · omega
             · split
               · omega
               · split <;> omega
          have r1:=(hv_run ((t:Nat):Int) (by omega) (by omega)).1
          obtain ⟨zq,hzq⟩:∃ z,z=hvW ((t:Nat):Int):=⟨_,rfl⟩;rw [←hzq] at r1 hz0;have dv:=fun W:World=>run_float_arith (P:=Tryz.prog) W .quo 40 .f64 (floatOfInt .f64 (t:Int)) 4611686018427387904 zq r1
          have HY:Aside (OwnF (wr.setCell ⟨g,j,none⟩ (.float .f64 zq)) g (eachTo xs (rkP xs tie) 0 p1)∧But g V (wr.setCell ⟨g,j,none⟩ (.float .f64 zq))):=by
           refine ⟨?_,HP.out.2.2.set _ _⟩;have:=HP.out.2.1.set j zq;rw [hj,←hz0,eachTo_succ xs (rkP xs tie) 0 (by omega),←hp1] at this
           rw [hj,←hz0];exact this
          have HZ:=(qsd (ai hp1 hakk));have h04:=HT.out;clear hB hFx hat hc hj hy hz0 hzq r1 HP hnx;obtain rfl|rfl|rfl|rfl|rfl:tie=0∨tie=1∨tie=2∨tie=3∨tie=4:=by omega
          · have ht':t=2*(a+1):=ht.trans (if_pos rfl)
            obtain ⟨a1,ha1⟩:∃ x,x=a+1:=⟨_,rfl⟩;have v1:IntKind.i64.wrap ((a:Int)+1)=(a1:Int):=wrapZ (by omega) (by omega)
            have v2:IntKind.i64.wrap (2*(a1:Int))=(t:Int):=wrapZ (by omega) (by omega)
            clear ht ht' ha1 h04 hn6 hkn hua hu1 hakk hjn hp1 ht2;go_wp2
            go_roundg (k-p1)
            case measure=>have:=HZ.out;omega
            case rel=>exact ⟨p1,by have:=HZ.out;omega,by first | rfl | simp,by have:=HZ.out;omega,HY.out⟩
          · have ht':t=2*(a+(k-a)):=ht.trans ((if_neg (by decide)).trans (if_pos rfl))
            have v2:IntKind.i64.wrap (2*(k:Int))=(t:Int):=wrapZ (by omega) (by omega)
            clear ht ht' h04 hn6 hkn hua hu1 hakk hjn hp1 ht2;go_wp2
            go_roundg (k-p1)
            case measure=>have:=HZ.out;omega
            case rel=>exact ⟨p1,by have:=HZ.out;omega,by first | rfl | simp,by have:=HZ.out;omega,HY.out⟩
          · have ht':t=2*a+(k-a)+1:=ht.trans ((if_neg (by decide)).trans ((if_neg (by decide)).trans (if_pos rfl)))
            obtain ⟨x1,hx1⟩:∃ x,x=2*a:=⟨_,rfl⟩;obtain ⟨x2,hx2⟩:∃ x,x=x1+k:=⟨_,rfl⟩;obtain ⟨x3,hx3⟩:∃ x,x=x2-a:=⟨_,rfl⟩;have v1:IntKind.i64.wrap (2*(a:Int))=(x1:Int):=wrapZ (by omega) (by omega)
            have v2:IntKind.i64.wrap ((x1:Int)+(k:Int))=(x2:Int):=wrapZ (by omega) (by omega)
            have v3:IntKind.i64.wrap ((x2:Int)-(a:Int))=(x3:Int):=wrapZ (by omega) (by omega)
            have v4:IntKind.i64.wrap ((x3:Int)+1)=(t:Int):=wrapZ (by omega) (by omega)
            clear ht ht' hx1 hx2 hx3 h04 hn6 hkn hua hu1 hakk hjn hp1 ht2;go_wp2
            go_roundg (k-p1)
            case measure=>have:=HZ.out;omega
            case rel=>exact ⟨p1,by have:=HZ.out;omega,by first | rfl | simp,by have:=HZ.out;omega,HY.out⟩
          · have ht':t=2*(u+1):=ht.trans ((if_neg (by decide)).trans ((if_neg (by decide)).trans ((if_neg (by decide)).trans (if_pos rfl))))
            have v2:IntKind.i64.wrap (2*(u1:Int))=(t:Int):=wrapZ (by omega) (by omega)
            clear ht ht' h04 hn6 hkn hua hu1 hakk hjn hp1 ht2;go_wp2
            go_roundg (k-p1)
            case measure=>have:=HZ.out;omega
            case rel=>exact ⟨p1,by have:=HZ.out;omega,by first | rfl | simp,by have:=HZ.out;omega,HY.out⟩
          · have ht':t=2*(p+1):=ht.trans ((if_neg (by decide)).trans ((if_neg (by decide)).trans ((if_neg (by decide)).trans (if_neg (by decide)))))
            have v2:IntKind.i64.wrap (2*(p1:Int))=(t:Int):=wrapZ (by omega) (by omega)
            clear ht ht' h04 hn6 hkn hua hu1 hakk hjn hp1 ht2;go_wp2
            go_roundg (k-p1)
            case measure=>have:=HZ.out;omega
            case rel=>exact ⟨p1,by have:=HZ.out;omega,by first | rfl | simp,by have:=HZ.out;omega,HY.out⟩
        · obtain rfl:p=k:=by omega
          have hdp:decide ((p:Int)<(p:Int))=false:=by simp
          have HP2:=qsd HP.out.2;clear HP;go_wp2
          go_roundg (n-p)
          case measure=>have:=HE.out.lt;have:=HE.out.le;have:=HN.out.1;have:=HK.out.1;omega
          case rel =>
           have hle:=HE.out.le;have hlt:=HE.out.lt;have hnx:=HN.out.1;obtain ⟨_,_,hu1,hua⟩:=HK.out;refine ⟨p,u1,by omega,by first | rfl | simp,by first | rfl | simp,by omega,fun q=>?_,HP2.out⟩
           rw [HE.out.next (by omega),HS.out,hu1]
  · obtain rfl:a=n:=by omega
    have hdk:decide ((a:Int)<(a:Int))=false:=by simp
    have HF:Aside (OwnF wr g (rkL xs tie)∧Below w.heap.size w wr):=by
     have h1:=HA.out.2.1;rw [HN.out.1,eachTo_all] at h1;exact ⟨h1,(HX.out _ HA.out.2.2).1⟩
    clear HA;go_wp2
    go_ret2
    exact ⟨rfl,HF.out.1,by rw [HG.out];exact HF.out.2⟩
end
namespace PB
open Go.RowKit Go.Proofs.YtihjfhpoiheomaaGreatDoor
def U (n:Nat):Value:=.float .f64 n
def Rd (B:Nat) (w:World) (ao:Option Addr) (xs:List Nat):Prop :=
 xs≠[]→∃ b off,b<B∧ao=some ⟨b,off,none⟩∧∀ i,i<xs.length→w.cell? ⟨b,off+i,none⟩=some (.float .f64 (xs.getD i 0))
theorem Rd.nil (B:Nat) (w:World) (ao:Option Addr):Rd B w ao []:=fun h=>absurd rfl h
def Lt (lo:Nat) (w:World) (v:Value) (xs:List Nat):Prop:=w.ownsRow lo 40 1 v xs.length (xs.map U)
theorem Lt.nil (lo:Nat) (w:World):Lt lo w (.slice none 0 0) []:=World.ownsRow_nil _ _ _ _
theorem Lt.shape {lo:Nat}{w:World}{v:Value}{xs:List Nat}(h:Lt lo w v xs):∃ ao cap,v=.slice ao xs.length cap∧xs.length≤cap∧cap≤maxLen∧Rd w.heap.size w ao xs:=by
 rcases h.2 with ⟨rfl,h0⟩|⟨g,cap,cur,rfl,hlo,hg,hn,hm,hs,ht⟩
 · refine ⟨none,0,by rw [h0],by omega,by unfold maxLen;omega,?_⟩
   have:xs=[]:=List.length_eq_zero_iff.1 h0;rw [this];exact Rd.nil _ _ _
 · refine ⟨_,cap,rfl,hn,hm,fun _=>⟨g,0,(Array.getElem?_eq_some_iff.1 hg).1,rfl,fun i hi=>?_⟩⟩
   have:=h.cells (g:=g) (by simp [Value.ownBlock]) i (U (xs.getD i 0)) (by simp [hi])
   have e:(⟨g,0,none⟩:Addr).add i=⟨g,0+i,none⟩:=by unfold Addr.add;split <;> simp_all
   rw [e] at this;simpa [U] using this
theorem Lt.below {lo:Nat}{w w':World}{v:Value}{xs:List Nat}(h:Lt lo w v xs) (hb:Below w.heap.size w w'):Lt lo w' v xs:=by
 refine ⟨h.1,?_⟩
 rcases h.2 with hn|⟨g,cap,cur,rfl,hlo,hg,rest⟩
 · exact .inl hn
 · refine .inr ⟨g,cap,cur,rfl,hlo,?_,rest⟩
   rw [hb.block g (Array.getElem?_eq_some_iff.1 hg).1];exact hg
theorem Lt.mono {lo lo':Nat}{w:World}{v:Value}{xs:List Nat}(h:Lt lo w v xs) (hl:lo'≤lo):Lt lo' w v xs:=by
 refine ⟨h.1,?_⟩
 rcases h.2 with hn|⟨g,cap,cur,rfl,hlo,rest⟩
 · exact .inl hn
 · exact .inr ⟨g,cap,cur,rfl,by omega,rest⟩
theorem Tryz.info40:(Tryz.prog.info? 40).map (fun i=>(i.zero,i.size,i.bytes))=some (some (.float .f64 0),1,8):=by kernel_rfl
end PB
namespace PB
open Go.RowKit
abbrev Rw (lo:Nat) (w:World) (v:Value) (n:Nat) (ys:List Value):Prop:=w.ownsRow lo 40 1 v n ys
def Keep (w w':World):Prop:=∀ (g:Nat) (cur:Array Value) (e:TypeId),e≠22→e≠32→w.heap[g]?=some (.cells cur e (0,0))→w'.heap[g]?=some (.cells cur e (0,0))
theorem Keep.trans {a b c:World}(h:Keep a b) (k:Keep b c):Keep a c:=fun g cur t h1 h2 e=>k g cur t h1 h2 (h g cur t h1 h2 e)
theorem Keep.row {w w':World}{lo:Nat}{v:Value}{n:Nat}{ys:List Value}(h:Rw lo w v n ys) (k:Keep w w'):Rw lo w' v n ys:=by
 refine ⟨h.1,?_⟩
 rcases h.2 with hn|⟨g,cap,cur,rfl,hlo,hg,rest⟩
 · exact .inl hn
 · exact .inr ⟨g,cap,cur,rfl,hlo,k _ _ _ (by decide) (by decide) hg,rest⟩
theorem Tryz.info22:(Tryz.prog.info? 22).map (fun i=>(i.zero,i.size,i.bytes))=some (some (.slice none 0 0),1,24):=by kernel_rfl
theorem row_other {w w':World}{lo e s:Nat}{v:Value}{n:Nat}{ys:List Value}(h:w.ownsRow lo e s v n ys) (hb:∀ g,v.ownBlock=some g→w'.heap[g]?=w.heap[g]?):w'.ownsRow lo e s v n ys:=by
 refine ⟨h.1,?_⟩
 rcases h.2 with hn|⟨g,cap,cur,rfl,hlo,hg,rest⟩
 · exact .inl hn
 · refine .inr ⟨g,cap,cur,rfl,hlo,?_,rest⟩
   rw [hb g rfl];exact hg
theorem row_set {w:World}{lo g n cap:Nat}{ys:List Value}(h:Rw lo w (.slice (some ⟨g,0,none⟩) n cap) n ys) (k:Nat) (hk:k<n) (u:Value) :
 Rw lo (w.setCell ⟨g,k,none⟩ u) (.slice (some ⟨g,0,none⟩) n cap) n (ys.set k u):=by
 refine ⟨by simpa using h.1,?_⟩
 rcases h.2 with ⟨e,hn⟩|⟨g',cap',cur,e,hlo,hg,hnc,hm,hs,ht⟩
 · omega
 · cases e
   refine .inr ⟨g,cap,cur.set! k u,rfl,hlo,?_,hnc,hm,by simpa using hs,?_⟩
   · simp only [World.setCell,Array.getElem?_modify,hg]
     simp
   · rw [←ht]
     simp [List.take_set]
theorem row_setOther {w:World}{lo e s:Nat}{v:Value}{n:Nat}{ys:List Value}(h:w.ownsRow lo e s v n ys) (a:Addr) (u:Value) (ha:v.ownBlock≠some a.block):(w.setCell a u).ownsRow lo e s v n ys :=
 row_other h fun g hg=>Below.heap_setCell _ _ _ _ (fun e=>ha (by rw [hg,e]))
theorem append_word (w:World) (lo:Nat) (v:Value) (n:Nat) (ys:List Value) (x:Value) (s:Nat) (ty:TypeId) (hown:Rw lo w v n ys) (hx:w.cell? ⟨s,0,none⟩=some x) (h1:x.oneCell'=true)
 (hbig:n+1≤17592186044416) (hlo:lo≤w.heap.size) :
 ∃ v' w',(Builtin.append_ #[22,22] ty #[v,.slice (some ⟨s,0,none⟩) 1 1]).run Tryz.prog w=.ok v' w'∧Rw lo w' v' (n+1) (ys++[x])∧w.grownBy w' v.ownBlock ∧
   (v'.ownBlock=v.ownBlock∨∃ g,v'.ownBlock=some g∧w.heap.size≤g)∧(∀ (u:Value) (k:Nat) (zs:List Value),Rw lo w u k zs→(u.ownBlock=v.ownBlock→k≤n)→Rw lo w' u k zs):=by
 obtain ⟨i0,hi,hz0,hz1,hz2⟩:=info_parts Tryz.info40
 have hnews:∀ j u,[x][j]?=some u→w.cell? ((⟨s,0,none⟩:Addr).add j)=some u:=by
  intro j u hj
  match j,hj with
  | 0,hj=>simp at hj;subst hj;simpa [Addr.add] using hx
 have h1':∀ u ∈ [x],u.oneCell'=true:=by intro u hu;simp at hu;subst hu;exact h1
 have keep:∀ w',w.grownBy w' none→∀ (u:Value) (k:Nat) (zs:List Value),Rw lo w u k zs→Rw lo w' u k zs:=by
  intro w' hg u k zs hr
  rcases hr.2 with hn|⟨g,cap,cur,rfl,hl,hgb,rest⟩
  · exact ⟨hr.1,.inl hn⟩
  · refine ⟨hr.1,.inr ⟨g,cap,cur,rfl,hl,?_,rest⟩⟩
    rw [hg.block g (Array.getElem?_eq_some_iff.1 hgb).1 (by simp)];exact hgb
 have newb:∀ (v':Value) (w':World) (m:Nat) (zs:List Value),w'.ownsRow w.heap.size 40 1 v' (m+1) zs→∃ g,v'.ownBlock=some g∧w.heap.size≤g:=by
  intro v' w' m zs h
  rcases h.2 with ⟨_,h0⟩|⟨g,cap,cur,rfl,hl,_⟩
  · omega
  · exact ⟨g,rfl,hl⟩
 have mono:∀ (v':Value) (w':World) (m:Nat) (zs:List Value),w'.ownsRow w.heap.size 40 1 v' m zs→Rw lo w' v' m zs:=by
  intro v' w' m zs h;refine ⟨h.1,?_⟩
  rcases h.2 with hn|⟨g,cap,cur,rfl,hl,rest⟩
  · exact .inl hn
  · exact .inr ⟨g,cap,cur,rfl,by omega,rest⟩
 rcases hown.2 with ⟨rfl,rfl⟩|⟨g,cap,cur,rfl,hlg,hg,hnc,hm,hs,ht⟩
 · obtain ⟨v',w',r1,r2,r3,_,_⟩:=run_append_own_at (P:=Tryz.prog) w w.heap.size 22 ty 40 i0 (.float .f64 0) 1 8 Tryz.underlying22 hi hz0 hz1 hz2 rfl (by decide) (.slice none 0 0) 0 [] (World.ownsRow_nil _ _ _ _) ⟨s,0,none⟩ 1 1 [x] rfl hnews h1' (by unfold maxLen;omega) (by omega) (Nat.le_refl _)
   have hy:ys=[]:=List.eq_nil_of_length_eq_zero (by simpa using hown.1)
   subst hy;exact ⟨v',w',r1,mono _ _ _ _ (by simpa using r2),r3,.inr (newb _ _ 0 _ (by simpa using r2)),fun u k zs hr _=>keep _ r3 u k zs hr⟩
 · by_cases hroom:n+1≤cap
   · have hr:=run_append_room (P:=Tryz.prog) w 22 ty 40 i0 Tryz.underlying22 hi g n cap cur hg ⟨s,0,none⟩ 1 1 [x] (by rw [hz1];rfl) hnews h1' hroom (by rw [hz1,hs];simp;omega)
     rw [hz1] at hr;refine ⟨_,_,hr,⟨by simpa using hown.1,.inr ⟨g,cap,_,rfl,hlg,setRow_heap w g cur _ 40 _ hg,hroom,hm,?_,?_⟩⟩,⟨rfl,rfl,rfl,by simp,fun k _ hk=>setRow_other w g k _ (fun e=>hk (by simp [Value.ownBlock,e]))⟩,.inl rfl,?_⟩
     · simp only [List.size_toArray,List.length_append,List.length_take,List.length_drop,Array.length_toList,List.length_cons,List.length_nil]
       omega
     · rw [ht]
       have hyl:ys.length=n:=by simpa using hown.1
       simp only [Nat.mul_one,List.append_assoc];rw [←List.append_assoc];rw [List.take_append_of_le_length (by simp [hyl])]
       rw [List.take_of_length_le (by simp [hyl])]
     · intro u k zs hr2 hle
       rcases hr2.2 with hn|⟨g2,cap2,cur2,rfl,hl2,hg2,hnc2,hm2,hs2,ht2⟩
       · exact ⟨hr2.1,.inl hn⟩
       · by_cases he:g2=g
         · subst he
           rw [hg] at hg2
           cases hg2
           have hk:=hle rfl;refine ⟨hr2.1,.inr ⟨g2,cap2,_,rfl,hl2,setRow_heap w g2 cur _ 40 _ hg,hnc2,hm2,?_,?_⟩⟩
           · simp only [List.size_toArray,List.length_append,List.length_take,List.length_drop,Array.length_toList,List.length_cons,List.length_nil]
             omega
           · have hcl:cur.toList.length=cap2:=by simpa using hs2
             rw [←ht2];simp only [Nat.mul_one,List.append_assoc];rw [List.take_append_of_le_length (by rw [List.length_take];omega),List.take_take,Nat.min_eq_left hk]
         · refine ⟨hr2.1,.inr ⟨g2,cap2,cur2,rfl,hl2,?_,hnc2,hm2,hs2,ht2⟩⟩
           rw [setRow_other w g g2 _ he];exact hg2
   · obtain ⟨v',w',r1,r2,r3⟩:=run_append_arg_grows (P:=Tryz.prog) w 22 ty 40 i0 (.float .f64 0) 1 8 Tryz.underlying22 hi hz0 hz1 hz2 rfl (by decide) ⟨g,0,none⟩ n cap ys (by simpa using hown.1) (fun j u hj=>hown.cells (g:=g) (by simp [Value.ownBlock]) j u hj) ⟨s,0,none⟩ 1 1 [x] rfl hnews (by omega) (by unfold maxLen;omega) (by omega)
     exact ⟨v',w',r1,mono _ _ _ _ r2,⟨r3.os,r3.tape,r3.output,r3.size,fun k hk _=>r3.block k hk (by simp)⟩,.inr (newb _ _ n _ r2),fun u k zs hr _=>keep _ r3 u k zs hr⟩
theorem append_nat (w:World) (lo:Nat) (v:Value) (n:Nat) (vs:List Value) (x:Value) (s:Nat) (ty:TypeId) (hown:w.ownsRow lo 22 1 v n vs) (hx:w.cell? ⟨s,0,none⟩=some x) (h1:x.oneCell'=true)
 (hbig:n+1≤1000000) (hlo:lo≤w.heap.size) :
 ∃ g cap w',(Builtin.append_ #[30,30] ty #[v,.slice (some ⟨s,0,none⟩) 1 1]).run Tryz.prog w=.ok (.slice (some ⟨g,0,none⟩) (n+1) cap) w'∧w'.ownsRow lo 22 1 (.slice (some ⟨g,0,none⟩) (n+1) cap) (n+1) (vs++[x])∧w.grownBy w' v.ownBlock∧Keep w w':=by
 obtain ⟨i0,hi,hz0,hz1,hz2⟩:=info_parts Tryz.info22
 have hnews:∀ j u,[x][j]?=some u→w.cell? ((⟨s,0,none⟩:Addr).add j)=some u:=by
  intro j u hj
  match j,hj with
  | 0,hj=>simp at hj;subst hj;simpa [Addr.add] using hx
 have h1':∀ u ∈ [x],u.oneCell'=true:=by intro u hu;simp at hu;subst hu;exact h1
 obtain ⟨v',w',r1,r2,r3,_,_⟩:=run_append_own_at (P:=Tryz.prog) w lo 30 ty 22 i0 (.slice none 0 0) 1 24 Tryz.underlying30 hi hz0 hz1 hz2 rfl (by decide) v n vs hown ⟨s,0,none⟩ 1 1 [x] rfl hnews h1' (by unfold maxLen;omega) (by omega) hlo
 have hk:Keep w w':=by
  intro g cur te ht1 ht2 hg;rw [r3.block g (Array.getElem?_eq_some_iff.1 hg).1]
  · exact hg
  · intro e
    rcases hown.2 with ⟨rfl,_⟩|⟨g2,cap2,cur2,rfl,_,hg2,_⟩
    · simp [Value.ownBlock] at e
    · simp [Value.ownBlock] at e
      subst e;rw [hg] at hg2
      cases hg2
      exact ht1 rfl
 rcases r2.2 with ⟨_,h0⟩|⟨g,cap,cur,rfl,rest⟩
 · omega
 · exact ⟨g,cap,w',r1,r2,r3,hk⟩
theorem wpList_append_run2 {w:World}{ops:Array Oper}{rest:List Oper}{o:Oper}{a:Act}{Q:Exit→Act→World→Prop}(hgd:o.guard=none) (s x:Operand) (t:TypeId)
 (ho:o.op=.call { callee:=.builtin .append,args:=#[s,x],argTypes:=#[t,t] }) (v u:Value) (hs:a.eval s=v) (hx:a.eval x=u) (v':Value) (w':World)
 (hrun:(Builtin.append_ #[t,t] o.type #[v,u]).run Tryz.prog w=.ok v' w') (h:wpList Tryz.prog ops Q rest (a.put o.dst v') w'):wpList Tryz.prog ops Q (o::rest) a w:=by
 refine wpList_plain hgd fun K hK=>?_
 unfold Oper.wp;simp [execOp,ho,resolve,invoke,builtin,hs,hx,hrun,Result.andThen];exact hK _ _ h
def Bk (lo:Nat) (w:World) (h:Nat) (vs:List Value):Prop:=lo≤h∧∃ v,w.heap[h]?=some (.cells #[v] 32 (0,0))∧w.ownsRow lo 22 1 v vs.length vs
theorem Bk.made (lo:Nat) (w:World) (hlo:lo≤w.heap.size):Bk lo (w.alloc (.cells #[.slice none 0 0] 32)) w.heap.size [] :=
 ⟨hlo,_,heap_alloc_new w _,World.ownsRow_nil _ _ _ _⟩
theorem take_any (lo h:Nat) (vs:List Value) (ao:Option Addr) (n cap:Nat) (w:World) (hB:Bk lo w h vs) (hlen:vs.length≤1000) (hlo:lo≤w.heap.size) :
 Calls Tryz.prog 16 #[.pointer (some ⟨h,0,none⟩),.slice ao n cap] w fun r w'=>r=.returned (.tuple #[])∧Bk lo w' h (vs++[.slice ao n cap])∧Keep w w'∧Below lo w w'∧w.heap.size≤w'.heap.size:=by
 obtain ⟨hlh,v,hv,hrow⟩:=hB;have hhl:=(Array.getElem?_eq_some_iff.1 hv).1;have hc:w.cell? ⟨h,0,none⟩=some v:=by simp [World.cell?,hv]
 have hrow1:(w.alloc (.cells #[.slice ao n cap] 22)).ownsRow lo 22 1 v vs.length vs:=hrow.alloc _;obtain ⟨g,cap',w',hap,hown,hgrow,hkeep⟩:=append_nat (w.alloc (.cells #[.slice ao n cap] 22)) lo v vs.length vs (.slice ao n cap) w.heap.size 30 hrow1 (by unfold World.cell?;simp only [heap_alloc_new];rfl) rfl (by omega) (by simp;omega)
 have hvh:v.ownBlock≠some h:=by
  intro e
  rcases hrow.2 with ⟨rfl,_⟩|⟨g2,cap2,cur2,rfl,_,hg2,_⟩
  · simp [Value.ownBlock] at e
  · simp [Value.ownBlock] at e
    subst e;rw [hv] at hg2
    cases hg2
 have hh':w'.heap[h]?=some (.cells #[v] 32 (0,0)):=by
  rw [hgrow.block h (by simp;omega) (fun e=>hvh e.symm),Below.heap_alloc _ _ _ hhl];exact hv
 have hf':w'.frozen? ⟨h,0,none⟩=false:=by simp [World.frozen?,hh']
 have hc':w'.cell? ⟨h,0,none⟩=some v:=by simp [World.cell?,hh']
 have hgh:g≠h:=by
  intro e;subst e
  rcases hown.2 with ⟨e,_⟩|⟨g2,cap2,cur2,e,_,hg2,_⟩
  · cases e
  · cases e
    rw [hh'] at hg2
    cases hg2
 have hbel:Below lo w w':=((Below.refl lo w).alloc hlo _).grown hgrow (by simp;omega) (fun k hk=>by
  rcases hrow.2 with ⟨rfl,_⟩|⟨g2,cap2,cur2,rfl,hl2,_⟩
  · simp [Value.ownBlock] at hk
  · simp [Value.ownBlock] at hk;omega)
 have hsz:w.heap.size≤w'.heap.size:=by have:=hgrow.size;simp at this;omega
 have HX:=(qsd (ai hown (ai hkeep (ai hh' (ai hgh (ai hbel (ai hlh hsz)))))));clear hown hkeep hh' hgh hbel hlh hsz hgrow hvh hrow1 hrow hv hhl;have HAP:=hid hap;clear hap;go_enter Tryz.func16,Tryz.ntmps16
 go_wp2_with (at_builtin;refine wpList_append_run2 rfl (.tmp 8) (.tmp 10) 30 rfl _ _ rfl rfl _ _ HAP.out ?_)
 go_end0
 obtain ⟨hown,hkeep,hh',hgh,hbel,hlh,hsz⟩:=HX.out;refine ⟨rfl,⟨hlh,.slice (some ⟨g,0,none⟩) (vs.length+1) cap',?_,?_⟩,?_,?_,by simpa [World.setCell] using hsz⟩
 · simp only [World.setCell,Array.getElem?_modify,hh']
   simp
 · have h1:=row_setOther hown ⟨h,0,none⟩ (.slice (some ⟨g,0,none⟩) (vs.length+1) cap') (by simp [Value.ownBlock];exact hgh)
   simpa using h1
 · intro b cur te ht1 ht2 hb
   have h1:(w.alloc (.cells #[.slice ao n cap] 22)).heap[b]?=some (.cells cur te (0,0)):=by rw [Below.heap_alloc _ _ _ (Array.getElem?_eq_some_iff.1 hb).1];exact hb
   have h2:=hkeep b cur te ht1 ht2 h1
   rw [Below.heap_setCell _ _ _ _ (fun e=>by
    subst e;rw [hh'] at h2
    cases h2
    exact ht2 rfl)]
   exact h2
 · exact hbel.trans ⟨rfl,rfl,rfl,by simp [World.setCell],fun k hk=>Below.heap_setCell _ _ _ _ (by simp;omega)⟩
end PB
namespace PB
open Go.RowKit
def slen:Value→Nat
 | .slice _ n _=>n
 | _=>0
def nth (vs:List Value) (i:Nat):Value:=vs.getD i (.slice none 0 0)
theorem Rw.len {lo:Nat}{w:World}{v:Value}{n:Nat}{ys:List Value}(h:Rw lo w v n ys):slen v=n:=by
 rcases h.2 with ⟨rfl,h0⟩|⟨g,cap,cur,rfl,_⟩
 · exact h0.symm
 · rfl
theorem Rw.lt {lo:Nat}{w:World}{v:Value}{n:Nat}{ys:List Value}(h:Rw lo w v n ys) (b:Nat) (hb:v.ownBlock=some b):lo≤b∧b<w.heap.size∧∃ cur,w.heap[b]?=some (.cells cur 40 (0,0)):=by
 rcases h.2 with ⟨rfl,h0⟩|⟨g,cap,cur,rfl,hlo,hg,_⟩
 · cases hb
 · cases hb
   exact ⟨hlo,(Array.getElem?_eq_some_iff.1 hg).1,cur,hg⟩
theorem Rw.noneLen {lo:Nat}{w:World}{v:Value}{n:Nat}{ys:List Value}(h:Rw lo w v n ys) (hb:v.ownBlock=none):n=0:=by
 rcases h.2 with ⟨rfl,h0⟩|⟨g,cap,cur,rfl,_⟩
 · exact h0
 · cases hb
structure Nice (lo:Nat) (w:World) (vs:List Value):Prop where
 rows:∀ i,i<vs.length→∃ ys,Rw lo w (nth vs i) (slen (nth vs i)) ys
 small:∀ i,i<vs.length→slen (nth vs i)≤17592186043904
 apart:∀ i j,i<vs.length→j<vs.length→i≠j→∀ b,(nth vs i).ownBlock=some b→(nth vs j).ownBlock≠some b
def mrk (i:Nat):Value:=.float .f64 (floatOfInt .f64 (1000+(i:Int)))
theorem mrk_ord (q:Nat) (h:q≤100):FloatKind.f64.format.order (floatOfInt .f64 (1000+(q:Int))) (floatOfInt .f64 (1000+(q:Int)))=some .eq:=by
 have h1:∀ j:_root_.Fin 101,FloatKind.f64.format.order (floatOfInt .f64 (1000+(j.val:Int))) (floatOfInt .f64 (1000+(j.val:Int)))=some .eq:=by decide +kernel
 exact h1 ⟨q,by omega⟩
structure P1 (lo h:Nat) (v:Value) (vs:List Value) (w:World) (i k:Nat) (wr:World):Prop where
 book:wr.heap[h]?=some (.cells #[v] 32 (0,0))
 list:wr.ownsRow lo 22 1 v vs.length vs
 below:Below lo w wr
 size:wr.heap.size=w.heap.size
 rows:∀ j,j<vs.length→∃ ys,Rw lo wr (nth vs j) (slen (nth vs j)) ys∧(j<i→ys=List.replicate (slen (nth vs j)) (mrk j))∧(j=i→ys.take k=List.replicate k (mrk i))
theorem P1.start {lo h:Nat}{v:Value}{vs:List Value}{w:World}(hv:w.heap[h]?=some (.cells #[v] 32 (0,0))) (hl:w.ownsRow lo 22 1 v vs.length vs) (hN:Nice lo w vs):P1 lo h v vs w 0 0 w :=
 ⟨hv,hl,Below.refl _ _,rfl,fun j hj=>by
  obtain ⟨ys,hy⟩:=hN.rows j hj;exact ⟨ys,hy,fun h=>absurd h (by omega),fun _=>by simp⟩⟩
theorem P1.next {lo h:Nat}{v:Value}{vs:List Value}{w wr:World}{i:Nat}(H:P1 lo h v vs w i (slen (nth vs i)) wr):P1 lo h v vs w (i+1) 0 wr :=
 ⟨H.book,H.list,H.below,H.size,fun j hj=>by
  obtain ⟨ys,hy,a,b⟩:=H.rows j hj;refine ⟨ys,hy,fun h=>?_,fun _=>by simp⟩
  by_cases e:j=i
  · subst e
    have h1:=b rfl;have hl:ys.length=slen (nth vs j):=by simpa using hy.1
    rwa [←hl,List.take_length,hl] at h1
  · exact a (by omega)⟩
theorem P1.step {lo h:Nat}{v:Value}{vs:List Value}{w wr:World}{i k g n cap:Nat}(H:P1 lo h v vs w i k wr) (hN:Nice lo w vs) (hi:i<vs.length) (hV:nth vs i=.slice (some ⟨g,0,none⟩) n cap) (hk:k<n) :
 P1 lo h v vs w i (k+1) (wr.setCell ⟨g,k,none⟩ (mrk i)):=by
 obtain ⟨ys0,hy0,_,_⟩:=H.rows i hi;obtain ⟨hlg,_,cur,hcur⟩:=hy0.lt g (by rw [hV];rfl)
 have hgh:h≠g:=by intro e;subst e;rw [H.book] at hcur;cases hcur
 have hvg:v.ownBlock≠some g:=by
  intro e
  rcases H.list.2 with ⟨rfl,_⟩|⟨g2,cap2,cur2,rfl,_,hg2,_⟩
  · cases e
  · cases e;rw [hcur] at hg2;cases hg2
 refine ⟨?_,row_setOther H.list _ _ hvg,H.below.trans ⟨rfl,rfl,rfl,by simp [World.setCell],fun b hb=>Below.heap_setCell _ _ _ _ (by simp;omega)⟩,by simpa [World.setCell] using H.size,fun j hj=>?_⟩
 · rw [Below.heap_setCell _ _ _ _ hgh];exact H.book
 · obtain ⟨ys,hy,a,b⟩:=H.rows j hj
   by_cases e:j=i
   · subst e
     rw [hV] at hy ⊢;have h1:=row_set hy k hk (mrk j);have hl:ys.length=n:=by simpa [slen] using hy.1
     refine ⟨ys.set k (mrk j),h1,fun h=>absurd h (by omega),fun _=>?_⟩
     rw [List.take_succ_eq_append_getElem (by simp;omega),List.take_set_of_le (Nat.le_refl _),b rfl,List.replicate_succ']
     simp
   · refine ⟨ys,row_setOther hy _ _ (fun e2=>hN.apart i j hi hj (fun e3=>e e3.symm) g (by rw [hV];rfl) e2),a,fun h=>absurd h e⟩
structure P2 (lo h:Nat) (v:Value) (vs:List Value) (w:World) (i c d:Nat) (av:Value) (es:List Value) (x:Value) (wr:World):Prop where
 book:wr.heap[h]?=some (.cells #[v] 32 (0,0))
 list:wr.ownsRow lo 22 1 v vs.length vs
 below:Below lo w wr
 size:w.heap.size≤wr.heap.size
 all:wr.ownsRow w.heap.size 22 1 av es.length es
 len:es.length=5*i+d
 come:∀ j,i<j→j<vs.length→Rw lo wr (nth vs j) (slen (nth vs j)) (List.replicate (slen (nth vs j)) (mrk j))
 old:∀ j,j<es.length→Rw lo wr (nth es j) (slen (nth es j)) (List.replicate (slen (nth es j)) (mrk (j/5)))
 row:Rw lo wr x (slen x) (List.replicate (slen x) (mrk i))
 more:slen x=slen (nth vs i)+c
 less:∀ j,j<es.length→(nth es j).ownBlock=x.ownBlock→slen (nth es j)≤slen x
 off:∀ j,i<j→j<vs.length→∀ b,(nth vs j).ownBlock=some b→x.ownBlock≠some b∧∀ k,k<es.length→(nth es k).ownBlock≠some b
structure P2o (lo h:Nat) (v:Value) (vs:List Value) (w:World) (i:Nat) (av:Value) (es:List Value) (wr:World):Prop where
 book:wr.heap[h]?=some (.cells #[v] 32 (0,0))
 list:wr.ownsRow lo 22 1 v vs.length vs
 below:Below lo w wr
 size:w.heap.size≤wr.heap.size
 all:wr.ownsRow w.heap.size 22 1 av es.length es
 len:es.length=5*i
 come:∀ j,i≤j→j<vs.length→Rw lo wr (nth vs j) (slen (nth vs j)) (List.replicate (slen (nth vs j)) (mrk j))
 old:∀ j,j<es.length→Rw lo wr (nth es j) (slen (nth es j)) (List.replicate (slen (nth es j)) (mrk (j/5)))
 off:∀ j,i≤j→j<vs.length→∀ b,(nth vs j).ownBlock=some b→∀ k,k<es.length→(nth es k).ownBlock≠some b
theorem P2o.start {lo h:Nat}{v:Value}{vs:List Value}{w wr:World}(H:P1 lo h v vs w vs.length 0 wr):P2o lo h v vs w 0 (.slice none 0 0) [] wr :=
 ⟨H.book,H.list,H.below,by rw [H.size];exact Nat.le_refl _,World.ownsRow_nil _ _ _ _,rfl,fun j _ hj=>by
  obtain ⟨ys,hy,a,_⟩:=H.rows j hj;rw [←a hj];exact hy,fun j hj=>absurd hj (by simp),fun _ _ _ _ _ k hk=>absurd hk (by simp)⟩
theorem P2o.enter {lo h:Nat}{v:Value}{vs:List Value}{w wr:World}{i:Nat}{av:Value}{es:List Value}(H:P2o lo h v vs w i av es wr) (hN:Nice lo w vs) (hi:i<vs.length) :
 P2 lo h v vs w i 0 0 av es (nth vs i) wr :=
 ⟨H.book,H.list,H.below,H.size,H.all,H.len,fun j h1 h2=>H.come j (by omega) h2,H.old,H.come i (Nat.le_refl _) hi,rfl,fun j hj e=>by
  rcases hb:(nth vs i).ownBlock with _|b
  · rw [hb] at e
    have:=(H.old j hj).noneLen e;omega
  · rw [hb] at e
    exact absurd e (H.off i (Nat.le_refl _) hi b hb j hj),fun j h1 h2 b hb=>⟨fun e=>hN.apart i j hi h2 (by omega) b e hb,H.off j (by omega) h2 b hb⟩⟩
theorem P2.leave {lo h:Nat}{v:Value}{vs:List Value}{w wr:World}{i:Nat}{av x:Value}{es:List Value}{c:Nat}(H:P2 lo h v vs w i c 5 av es x wr):P2o lo h v vs w (i+1) av es wr :=
 ⟨H.book,H.list,H.below,H.size,H.all,by rw [H.len];omega,fun j h1 h2=>H.come j (by omega) h2,H.old,fun j h1 h2 b hb=>(H.off j (by omega) h2 b hb).2⟩
theorem nth_append_lt (es:List Value) (x:Value) (j:Nat) (h:j<es.length):nth (es++[x]) j=nth es j:=by
 simp [nth,List.getD_eq_getElem?_getD,List.getElem?_append_left h]
theorem nth_append_eq (es:List Value) (x:Value):nth (es++[x]) es.length=x:=by
 simp [nth,List.getD_eq_getElem?_getD]
theorem P2.take {lo h:Nat}{v:Value}{vs:List Value}{w wr w':World}{i c d:Nat}{av av' x:Value}{es:List Value}(H:P2 lo h v vs w i c d av es x wr) (hd:d<5) (hlo:lo≤w.heap.size) (hh:h<w.heap.size) (hvl:∀ b,v.ownBlock=some b→b<w.heap.size) (o:Obj)
 (hown:w'.ownsRow w.heap.size 22 1 av' (es.length+1) (es++[x])) (hgrow:(wr.alloc o).grownBy w' av.ownBlock) (hkeep:Keep (wr.alloc o) w') :
 P2 lo h v vs w i c (d+1) av' (es++[x]) x w':=by
 have hs:=H.size
 have hav:∀ b,av.ownBlock=some b→w.heap.size≤b:=by
  intro b hb
  rcases H.all.2 with ⟨rfl,_⟩|⟨g,cap,cur,rfl,hl,_⟩
  · cases hb
  · cases hb;exact hl
 have hblk:∀ b,b<w.heap.size→w'.heap[b]?=wr.heap[b]?:=by
  intro b hb;rw [hgrow.block b (by simp;omega) (fun e=>by have:=hav b e.symm;omega),Below.heap_alloc _ _ _ (by omega)]
 have hk:Keep wr w':=Keep.trans (fun g cur _ _ _ e=>by rw [Below.heap_alloc _ _ _ (Array.getElem?_eq_some_iff.1 e).1];exact e) hkeep
 refine ⟨by rw [hblk h hh];exact H.book,row_other H.list (fun g hg=>hblk g (hvl g hg)),?_,by have:=hgrow.size;simp at this;omega,by simpa using hown,by simp [H.len];omega,fun j h1 h2=>Keep.row (H.come j h1 h2) hk,?_,Keep.row H.row hk,H.more,?_,?_⟩
 · exact ((H.below.alloc (by omega) o).grown hgrow (by simp;omega) (fun k hk=>by have:=hav k hk;omega))
 · intro j hj
   by_cases e:j=es.length
   · subst e
     rw [nth_append_eq,show es.length/5=i by rw [H.len];omega]
     exact Keep.row H.row hk
   · simp at hj
     rw [nth_append_lt _ _ _ (by omega)]
     exact Keep.row (H.old j (by omega)) hk
 · intro j hj e2
   by_cases e:j=es.length
   · subst e
     rw [nth_append_eq];exact Nat.le_refl _
   · simp at hj
     rw [nth_append_lt _ _ _ (by omega)] at e2 ⊢
     exact H.less j (by omega) e2
 · intro j h1 h2 b hb
   obtain ⟨a1,a2⟩:=H.off j h1 h2 b hb;refine ⟨a1,fun k hk2=>?_⟩
   by_cases e:k=es.length
   · subst e
     rw [nth_append_eq];exact a1
   · simp at hk2
     rw [nth_append_lt _ _ _ (by omega)]
     exact a2 k (by omega)
theorem P2.grow {lo h:Nat}{v:Value}{vs:List Value}{w wr w':World}{i c d:Nat}{av x x':Value}{es:List Value}(H:P2 lo h v vs w i c d av es x wr) (hlo:lo≤w.heap.size) (o:Obj)
 (hown:Rw lo w' x' (slen x+1) (List.replicate (slen x) (mrk i)++[mrk i])) (hgrow:(wr.alloc o).grownBy w' x.ownBlock) (hpl:x'.ownBlock=x.ownBlock∨∃ g,x'.ownBlock=some g∧(wr.alloc o).heap.size≤g)
 (hkeep:∀ (u:Value) (k:Nat) (zs:List Value),Rw lo (wr.alloc o) u k zs→(u.ownBlock=x.ownBlock→k≤slen x)→Rw lo w' u k zs) :
 P2 lo h v vs w i (c+1) d av es x' w':=by
 have hs:=H.size;have hl':=hown.len;have hxb:∀ b,x.ownBlock=some b→∃ cur,wr.heap[b]?=some (.cells cur 40 (0,0)):=fun b hb=>(H.row.lt b hb).2.2
 have hblk:∀ b,b<wr.heap.size→x.ownBlock≠some b→w'.heap[b]?=wr.heap[b]?:=by
  intro b hb hx;rw [hgrow.block b (by simp;omega) (fun e=>hx e.symm),Below.heap_alloc _ _ _ hb]
 have hnb:∀ b,wr.heap[b]?=some (.cells #[v] 32 (0,0))→x.ownBlock≠some b:=by
  intro b hb e;obtain ⟨cur,hc⟩:=hxb b e;rw [hb] at hc;cases hc
 have hrow24:∀ (l:Nat) (u:Value) (n:Nat) (zs:List Value),wr.ownsRow l 22 1 u n zs→w'.ownsRow l 22 1 u n zs:=by
  intro l u n zs hr;refine row_other hr fun g hg=>?_
  rcases hr.2 with ⟨rfl,_⟩|⟨g2,cap,cur,rfl,_,hg2,_⟩
  · cases hg
  · cases hg
    refine hblk g2 (Array.getElem?_eq_some_iff.1 hg2).1 (fun e=>?_)
    obtain ⟨cur',hc⟩:=hxb g2 e;rw [hg2] at hc;cases hc
 have hlow:∀ b,x.ownBlock=some b→lo≤b:=fun b hb=>(H.row.lt b hb).1
 refine ⟨by rw [hblk h (Array.getElem?_eq_some_iff.1 H.book).1 (hnb h H.book)];exact H.book,hrow24 _ _ _ _ H.list,?_,by have:=hgrow.size;simp at this;omega,hrow24 _ _ _ _ H.all,H.len,?_,?_,?_,by rw [hl',H.more];omega,?_,?_⟩
 · exact ((H.below.alloc (by omega) o).grown hgrow (by simp;omega) hlow)
 · intro j h1 h2
   refine hkeep _ _ _ ((H.come j h1 h2).alloc o) (fun e=>?_)
   rcases hb:(nth vs j).ownBlock with _|b
   · have:=(H.come j h1 h2).noneLen hb
     omega
   · exact absurd (by rw [←e,hb]) (H.off j h1 h2 b hb).1
 · intro j hj
   exact hkeep _ _ _ ((H.old j hj).alloc o) (fun e=>H.less j hj e)
 · rw [hl',List.replicate_succ']
   exact hown
 · intro j hj e
   rw [hl']
   rcases hpl with h1|⟨g,h1,h2⟩
   · have:=H.less j hj (e.trans h1);omega
   · have:=(H.old j hj).lt g (e.trans h1)
     simp at h2;omega
 · intro j h1 h2 b hb
   obtain ⟨a1,a2⟩:=H.off j h1 h2 b hb;refine ⟨?_,a2⟩
   rcases hpl with h3|⟨g,h3,h4⟩
   · rw [h3];exact a1
   · rw [h3]
     intro e
     cases e
     have:=(H.come j h1 h2).lt _ hb;simp at h4;omega
end PB
namespace PB
open Go.RowKit
theorem list_shape {lo:Nat}{w:World}{v:Value}{vs:List Value}(h:w.ownsRow lo 22 1 v vs.length vs) (hm:0<vs.length) :
 ∃ g cap,v=.slice (some ⟨g,0,none⟩) vs.length cap∧vs.length≤cap:=by
 rcases h.2 with ⟨_,h0⟩|⟨g,cap,cur,rfl,_,_,hn,_⟩
 · omega
 · exact ⟨g,cap,rfl,hn⟩
theorem list_cell {lo:Nat}{w:World}{g n cap:Nat}{vs:List Value}(h:w.ownsRow lo 22 1 (.slice (some ⟨g,0,none⟩) n cap) vs.length vs) (i:Nat) (hi:i<vs.length):w.cell? ⟨g,i,none⟩=some (nth vs i):=by
 have h1:=h.cells (g:=g) (by simp [Value.ownBlock]) i (nth vs i) (by simp [nth,hi])
 have e:(⟨g,0,none⟩:Addr).add i=⟨g,i,none⟩:=by unfold Addr.add;split <;> simp_all
 rw [e] at h1;exact h1
theorem Rw.cell {lo:Nat}{w:World}{g n cap:Nat}{ys:List Value}(h:Rw lo w (.slice (some ⟨g,0,none⟩) n cap) n ys) (k:Nat) (u:Value) (hk:ys[k]?=some u):w.cell? ⟨g,k,none⟩=some u:=by
 have h1:=h.cells (g:=g) (by simp [Value.ownBlock]) k u hk
 have e:(⟨g,0,none⟩:Addr).add k=⟨g,k,none⟩:=by unfold Addr.add;split <;> simp_all
 rw [e] at h1;exact h1
theorem Rw.frozen {lo:Nat}{w:World}{g n cap:Nat}{ys:List Value}(h:Rw lo w (.slice (some ⟨g,0,none⟩) n cap) n ys) (k:Nat):w.frozen? ⟨g,k,none⟩=false:=by
 rcases h.2 with ⟨e,_⟩|⟨g2,cap2,cur2,e,_,hg2,_⟩
 · cases e
 · cases e
   simp [World.frozen?,hg2]
theorem Rw.shape {lo:Nat}{w:World}{v:Value}{n:Nat}{ys:List Value}(h:Rw lo w v n ys):∃ ao cap,v=.slice ao n cap∧n≤cap∧cap≤maxLen∧(0<n→∃ g,ao=some ⟨g,0,none⟩):=by
 rcases h.2 with ⟨rfl,h0⟩|⟨g,cap,cur,rfl,_,_,hn,hm,_⟩
 · exact ⟨none,0,by rw [h0],by omega,by unfold maxLen;omega,fun h=>absurd h (by omega)⟩
 · exact ⟨_,cap,rfl,hn,hm,fun _=>⟨g,rfl⟩⟩
theorem st_float5 {P:Program}{w:World}(a:Addr) (k:FloatKind) (n:Nat) (m:Mode):(store a (.float k n) m).run P w=stored P w a (.float k n) m:=run_store P w a _ m rfl
attribute [local go_sem] st_float5
set_option maxRecDepth 100000 in
theorem owned_any (lo h:Nat) (vs:List Value) (w:World) (hB:Bk lo w h vs) (hN:Nice lo w vs) (hm:0<vs.length) (hm2:vs.length≤100) (hlo:lo≤w.heap.size) :
 Calls Tryz.prog 17 #[.pointer (some ⟨h,0,none⟩)] w fun r w'=>r=.returned (.bool true)∧Below lo w w':=by
 obtain ⟨hlh,v,hv,hrow⟩:=hB;have hhl:=(Array.getElem?_eq_some_iff.1 hv).1;obtain ⟨gv,capv,rfl,hcapv⟩:=list_shape hrow hm
 have hvl:∀ b,(Value.slice (some ⟨gv,0,none⟩) vs.length capv).ownBlock=some b→b<w.heap.size:=by
  intro b hb
  rcases hrow.2 with ⟨e,_⟩|⟨g2,cap2,cur2,e,_,hg2,_⟩
  · cases e
  · cases e;cases hb;exact (Array.getElem?_eq_some_iff.1 hg2).1
 have H0:=P1.start hv hrow hN;obtain ⟨m,hmm⟩:∃ m,vs.length=m:=⟨_,rfl⟩;have HX:=(qsd (ai hlh (ai hlo (ai hhl (ai hvl (ai hN (ai hmm H0)))))));rw [hmm] at hm hm2 hcapv;clear hlh hlo hhl hvl hN hv hrow H0;go_enter Tryz.func17,Tryz.ntmps17;go_wp2
 go_loopg [3] m (fun gk iv wr=>∃ (i:Nat),gk+i=m∧iv=.int .i64 (i:Nat)∧Aside (P1 lo h (.slice (some ⟨gv,0,none⟩) vs.length capv) vs w i 0 wr))
 case atStart=>exact ⟨0,by omega,rfl,HX.out.2.2.2.2.2.2⟩
 case round =>
  obtain ⟨i,hi,rfl,HA⟩:=hrel;have hcb:wr.cell? ⟨h,0,none⟩=some (.slice (some ⟨gv,0,none⟩) vs.length capv):=by simp [World.cell?,HA.out.book]
  rw [hmm] at hcb
  by_cases him:i=m
  · obtain rfl:gk=0:=by omega
    have him2:m=i:=him.symm
    have H2:Aside (P2o lo h (.slice (some ⟨gv,0,none⟩) vs.length capv) vs w 0 (.slice none 0 0) [] wr):=by
     have h1:=HA.out;rw [him,←hmm] at h1;exact P2o.start h1
    clear HA hi him;subst him2;go_wp2;clear hcb
    go_loopg [5,6] m (fun gk av iv w2=>∃ (i:Nat) (es:List Value),gk+i=m∧iv=.int .i64 (i:Nat)∧Aside (P2o lo h (.slice (some ⟨gv,0,none⟩) vs.length capv) vs w i av es w2))
    case atStart=>exact ⟨0,[],by omega,rfl,H2⟩
    case round =>
     obtain ⟨i,es,hi,rfl,HA⟩:=hrel;clear H2;have hcb:wr.cell? ⟨h,0,none⟩=some (.slice (some ⟨gv,0,none⟩) vs.length capv):=by simp [World.cell?,HA.out.book]
     rw [hmm] at hcb
     by_cases him:i=m
     · obtain rfl:gk=0:=by omega
       have hel:es.length=5*m:=by rw [HA.out.len,him]
       obtain ⟨ga,capa,hav,hcapa⟩:=list_shape HA.out.all (by omega)
       rw [hel] at hav hcapa;subst hav;have HA2:=HA;have him2:m=i:=him.symm;clear HA him hi;subst him2;obtain ⟨W3,hW3⟩:∃ W,W=wr:=⟨_,rfl⟩;go_wp2
       go_loopg [9] (5*m) (fun gk jv w3=>∃ (j:Nat),gk+j=5*m∧jv=.int .i64 (j:Nat)∧w3=W3)
       case atStart=>exact ⟨0,by omega,rfl,hW3.symm⟩
       case round =>
        obtain ⟨j,hj,rfl,rfl⟩:=hrel;subst hW3
        by_cases hjm:j=5*m
        · obtain rfl:gk=0:=by omega
          have hjm2:(j:Int)=5*(m:Int):=by omega
          go_wp2;go_ret;exact ⟨rfl,HA2.out.below⟩
        · have hjl:j<5*m:=by omega
          have hcj:=list_cell HA2.out.all j (by omega)
          have hold:=HA2.out.old j (by omega)
          obtain ⟨ao,cap,hsh,hnc,hcm,hg⟩:=hold.shape;obtain ⟨n,hn⟩:∃ n,slen (nth es j)=n:=⟨_,rfl⟩;obtain ⟨q,hq⟩:∃ q,j/5=q:=⟨_,rfl⟩;have hq2:(j:Int)/5=(q:Int):=by omega
          have hq3:q≤100:=by omega
          rw [hn] at hsh hnc hg hold;rw [hq] at hold;rw [hsh] at hcj hold;have HO:=hid hold;clear hold hsh hn hq;unfold maxLen at hcm;go_wp2
          go_loopg [10] n (fun gk kv w3=>∃ (k:Nat),gk+k=n∧kv=.int .i64 (k:Nat)∧w3=wr)
          case atStart=>exact ⟨0,by omega,rfl,rfl⟩
          case round =>
           obtain ⟨k,hk,rfl,rfl⟩:=hrel
           by_cases hkn:k=n
           · obtain rfl:gk=0:=by omega
             subst hkn;go_wp2
             go_roundg (5*m-(j+1))
             case measure=>omega
             case rel=>exact ⟨j+1,by omega,by first | go_num | (congr 1;omega),rfl⟩
           · have hkl:k<n:=by omega
             obtain ⟨g,rfl⟩:=hg (by omega)
             have hck:=Rw.cell HO.out k (mrk q) (by simp [hkl])
             unfold mrk at hck;have hord:=mrk_ord q hq3;obtain ⟨mq,hmq⟩:∃ mq,floatOfInt .f64 (1000+(q:Int))=mq:=⟨_,rfl⟩;rw [hmq] at hck hord;go_wp2
             go_roundg (gk-1)
             case measure=>omega
             case rel=>exact ⟨k+1,by omega,by first | go_num | (congr 1;omega),rfl⟩
     · have hil:i<m:=by omega
       have hil2:i<vs.length:=by omega
       have hcv:=list_cell HA.out.list i hil2;obtain ⟨hlh,hlo,hhl,hvl,hN,_,_⟩:=HX.out;obtain ⟨ao,cap,hsh,hnc,hcm,hg⟩:=(HA.out.come i (Nat.le_refl _) hil2).shape;obtain ⟨n,hn⟩:∃ n,slen (nth vs i)=n:=⟨_,rfl⟩;have HS:Aside (slen (nth vs i)≤17592186043904):=hN.small i hil2;have HE:Aside (P2 lo h (.slice (some ⟨gv,0,none⟩) vs.length capv) vs w i 0 0 u5 es (nth vs i) wr):=P2o.enter HA.out hN hil2;rw [hn] at hsh hnc;rw [hsh] at hcv;have hsh2:=qsd hsh;clear hlh hlo hhl hvl hN hsh hn HA hg;unfold maxLen at hcm;go_wp2
       go_loopg [5,7,8] 5 (fun gk av xv kv w2=>∃ (c:Nat) (es:List Value),gk+c=5∧kv=.int .i64 (c:Nat)∧Aside (P2 lo h (.slice (some ⟨gv,0,none⟩) vs.length capv) vs w i c c av es xv w2))
       case atStart=>exact ⟨0,es,by omega,rfl,by rw [←hsh2.out];exact HE⟩
       case round =>
        obtain ⟨c,es,hc,rfl,HA⟩:=hrel;clear hcb hcv HE
        by_cases hc5:c=5
        · obtain rfl:gk=0:=by omega
          subst hc5;have HL:=qsd (P2.leave HA.out);clear HA;go_wp2
          go_roundg (m-(i+1))
          case measure=>omega
          case rel=>exact ⟨i+1,_,by omega,by first | go_num | (congr 1;omega),HL⟩
        · have hcl:c<5:=by omega
          obtain ⟨hlh,hlo,hhl,hvl,hN,_,_⟩:=HX.out;obtain ⟨ao,cap,hsh,_,_,_⟩:=HA.out.row.shape;obtain ⟨n,hn⟩:∃ n,slen u7=n:=⟨_,rfl⟩;have hns:n≤17592186043909:=by have h1:=HA.out.more;have h2:=HS.out;omega
          rw [hn] at hsh;have H1:=HA.out;subst hsh;obtain ⟨ga,capa,w1,hap1,hown1,hgrow1,hkeep1⟩:=append_nat (wr.alloc (.cells #[.slice ao n cap] 22)) w.heap.size u5 es.length es (.slice ao n cap) wr.heap.size 30 (H1.all.alloc _) (by unfold World.cell?;simp only [heap_alloc_new];rfl) rfl (by have:=H1.len;omega) (by have:=H1.size;simp;omega)
          have H3:=P2.take H1 hcl hlo hhl hvl _ hown1 hgrow1 hkeep1;obtain ⟨x',w2,hap2,hown2,hgrow2,hpl2,hkeep2⟩:=append_word (w1.alloc (.cells #[mrk i] 40)) lo (.slice ao n cap) n (List.replicate n (mrk i)) (mrk i) w1.heap.size 22 (H3.row.alloc _) (by unfold World.cell?;simp only [heap_alloc_new];rfl) rfl (by omega) (by have:=H3.size;simp;omega)
          have H4:=qsd (P2.grow H3 hlo _ hown2 hgrow2 hpl2 hkeep2);unfold mrk at hap2;have HAP1:=hid hap1;have HAP2:=hid hap2;clear hap1 hap2 hown1 hgrow1 hkeep1 H3 hown2 hgrow2 hpl2 hkeep2 H1 HA hlh hlo hhl hvl hN hc5
          go_wp2_with (first | (at_builtin;refine wpList_append_run2 rfl (.tmp 64) (.tmp 66) 30 rfl _ _ rfl rfl _ _ HAP1.out ?_) | (at_builtin;refine wpList_append_run2 rfl (.tmp 68) (.tmp 72) 22 rfl _ _ rfl rfl _ _ HAP2.out ?_))
          go_roundg (gk-1)
          case measure=>omega
          case rel=>exact ⟨c+1,_,by omega,by first | go_num | (congr 1;omega),H4⟩
  · have hil:i<m:=by omega
    have hil2:i<vs.length:=by omega
    obtain ⟨ys,hy,_,_⟩:=HA.out.rows i hil2;obtain ⟨ao,cap,hsh,hnc,hcm,hg⟩:=hy.shape;obtain ⟨n,hn⟩:∃ n,slen (nth vs i)=n:=⟨_,rfl⟩;have hns:n≤17592186043904:=hn ▸ HX.out.2.2.2.2.1.small i hil2;rw [hn] at hsh hnc hg;clear hy;go_wp2
    go_loopg [4] n (fun gk2 kv w2=>∃ (k:Nat),gk2+k=n∧kv=.int .i64 (k:Nat)∧Aside (P1 lo h (.slice (some ⟨gv,0,none⟩) vs.length capv) vs w i k w2))
    case atStart=>exact ⟨0,by omega,rfl,HA.out⟩
    case round =>
     obtain ⟨k,hk,rfl,HB⟩:=hrel;have hcb2:wr.cell? ⟨h,0,none⟩=some (.slice (some ⟨gv,0,none⟩) vs.length capv):=by simp [World.cell?,HB.out.book]
     have hcv:=list_cell HB.out.list i hil2;rw [hsh] at hcv;rw [hmm] at hcb2
     by_cases hkn:k=n
     · obtain rfl:gk=0:=by omega
       have HC:Aside (P1 lo h (.slice (some ⟨gv,0,none⟩) vs.length capv) vs w (i+1) 0 wr):=by
        have h1:=HB.out;rw [hkn,←hn] at h1;exact P1.next h1
       clear hn hsh hmm hcb;subst hkn;go_wp2
       go_roundg (m-(i+1))
       case measure=>omega
       case rel=>exact ⟨i+1,by omega,by first | go_num | (congr 1;omega),HC⟩
     · have hkl:k<n:=by omega
       obtain ⟨g,rfl⟩:=hg (by omega)
       obtain ⟨ys2,hy2,_,_⟩:=HB.out.rows i hil2;rw [hsh] at hy2;have hl2:ys2.length=n:=by simpa [slen] using hy2.1
       obtain ⟨yk,hyk⟩:∃ y,ys2[k]?=some y:=⟨ys2[k]'(by omega),by simp⟩
       have hgc:=Rw.cell hy2 k yk hyk;have hgf:=Rw.frozen hy2 k;have HC:Aside (P1 lo h (.slice (some ⟨gv,0,none⟩) vs.length capv) vs w i (k+1) (wr.setCell ⟨g,k,none⟩ (mrk i))):=P1.step HB.out HX.out.2.2.2.2.1 hil2 hsh hkl;clear hy2 hyk hn hsh hmm hcb hkn him;go_wp2
       go_roundg (gk-1)
       case measure=>omega
       case rel =>
        refine ⟨k+1,by omega,by first | go_num | (congr 1;omega),?_⟩
        exact HC
end PB
section
open Go Go.RowKit J
attribute [local go_sem] st_float
theorem alikeLists15 (xs:List Nat) (ao bo:Option Addr) (n cap cap':Nat) (w:World) (hn:n=xs.length) (hm:n≤35184372088832) (hR:Fs w.heap.size w ao xs) (hR':Fs w.heap.size w bo xs) :
 Calls Tryz.prog 14 #[.slice ao n cap,.slice bo n cap'] w fun r w'=>r=.returned (.bool true)∧Below w.heap.size w w':=by
 have HX:=(qsd (ai hn (ai hR hR')));clear hn hR hR';go_enter Tryz.func14,Tryz.ntmps14;go_wp2
 go_loopg [5] n (fun gk iv wr=>∃ (i:Nat),gk+i=n∧iv=.int .i64 (i:Nat)∧Aside (Below w.heap.size w wr∧wr.heap=w.heap))
 case atStart=>exact ⟨0,by omega,rfl,Below.refl _ _,rfl⟩
 case round =>
  obtain ⟨i,hi,rfl,HA⟩:=hrel
  by_cases hin:i=n
  · obtain rfl:gk=0:=by omega
    subst hin;go_wp2;go_ret;exact ⟨rfl,HA.out.1⟩
  · have hil:i<n:=by omega
    obtain ⟨hn,hR,hR'⟩:=HX.out;have hne:xs≠[]:=by intro e;rw [e] at hn;simp at hn;omega
    obtain ⟨b1,o1,_,rfl,hc1⟩:=hR hne;obtain ⟨b2,o2,_,rfl,hc2⟩:=hR' hne;have hcw:∀ a,wr.cell? a=w.cell? a:=fun a=>by simp only [World.cell?,HA.out.2]
    have h1:wr.cell? ⟨b1,o1+i,none⟩=_:=(hcw _).trans (hc1 i (by omega))
    have h2:wr.cell? ⟨b2,o2+i,none⟩=_:=(hcw _).trans (hc2 i (by omega))
    obtain ⟨x,hx⟩:∃ x,xs.getD i 0=x:=⟨_,rfl⟩;rw [hx] at h1 h2;clear hn hR hR' hne hc1 hc2 hcw hx;go_wp2
    go_quiet (first | (go_at_call 26;exact Calls.quiet_of_same (alike15 x _)))
    go_wp2
    go_roundg (gk-1)
    case measure=>omega
    case rel=>exact ⟨i+1,by omega,by first | go_num | (congr 1;omega),⟨HA.out.1.os,HA.out.1.tape,HA.out.1.output,HA.out.1.size,HA.out.1.block⟩,HA.out.2⟩
theorem OwnF.row15 {w:World}{lo g n:Nat}{L:List Nat}(h:OwnF w g L) (hn:n=L.length) (hl:lo≤g) (hm:n≤17592186043904):w.ownsRow lo 40 1 (.slice (some ⟨g,0,none⟩) n n) n (L.map Fw10):=by
 unfold OwnF at h;refine ⟨by simp [hn],.inr ⟨g,n,(L.map Fw10).toArray,rfl,hl,h,Nat.le_refl _,by unfold maxLen;omega,by simp [hn],?_⟩⟩
 simp [hn];exact List.take_of_length_le (by simp)
end
namespace PB
open Go.RowKit Go.Proofs.YtihjfhpoiheomaaGreatDoor
theorem nice3 {lo:Nat}{w:World}{v1 v2 v3:Value}{x1 x2 x3:List Nat}(h1:Lt lo w v1 x1) (h2:Lt lo w v2 x2) (h3:Lt lo w v3 x3) (s1:x1.length≤65536) (s2:x2.length≤65536) (s3:x3.length≤65536) (m1 m2:Nat) (hmm:m1≤m2)
 (r1:∀ b,v1.ownBlock=some b→b<m1) (r2:∀ b,v2.ownBlock=some b→m1≤b∧b<m2) (r3:∀ b,v3.ownBlock=some b→m2≤b):Nice lo w [v1,v2,v3]:=by
 have l1:slen v1=x1.length:=Rw.len h1;have l2:slen v2=x2.length:=Rw.len h2;have l3:slen v3=x3.length:=Rw.len h3;have n0:nth [v1,v2,v3] 0=v1:=rfl;have n1:nth [v1,v2,v3] 1=v2:=rfl;have n2:nth [v1,v2,v3] 2=v3:=rfl;refine ⟨fun i hi=>?_,fun i hi=>?_,fun i j hi hj hij b hb=>?_⟩
 · simp at hi
   obtain rfl|rfl|rfl:i=0∨i=1∨i=2:=by omega
   · rw [n0,l1];exact ⟨_,h1⟩
   · rw [n1,l2];exact ⟨_,h2⟩
   · rw [n2,l3];exact ⟨_,h3⟩
 · simp at hi
   obtain rfl|rfl|rfl:i=0∨i=1∨i=2:=by omega
   · rw [n0,l1];omega
   · rw [n1,l2];omega
   · rw [n2,l3];omega
 · simp at hi hj
   intro hb2;have q1:=r1 b;have q2:=r2 b;have q3:=r3 b;obtain rfl|rfl|rfl:i=0∨i=1∨i=2:=by omega
   all_goals obtain rfl | rfl | rfl:j=0∨j=1∨j=2:=by omega
   all_goals first | exact absurd rfl hij | skip
   all_goals simp only [n0,n1,n2] at hb hb2
   all_goals first | (have:=q1 hb;have:=q2 hb2;omega) | (have:=q1 hb;have:=q3 hb2;omega) | (have:=q2 hb;have:=q1 hb2;omega) | (have:=q2 hb;have:=q3 hb2;omega) | (have:=q3 hb;have:=q1 hb2;omega) | (have:=q3 hb;have:=q2 hb2;omega)
end PB
section
open Go Go.RowKit J
attribute [local go_sem] st_float
theorem rRanks_tie (ao:Option Addr) (n cap:Nat) (tie:Int) (w:World) (h:tie<0∨4<tie) :
 Calls Tryz.prog 21 #[.slice ao n cap,.int .i64 tie] w fun r w'=>r=.returned (.tuple #[.slice none 0 0,.int .i64 1])∧Below w.heap.size w w':=by
 by_cases h1:tie<0
 · have d1:decide (tie<0)=true:=by simp [h1]
   go_enter Tryz.func21,Tryz.ntmps21;go_wp2
   go_ret2
   exact ⟨rfl,Below.refl _ _⟩
 · have d1:decide (tie<0)=false:=by simp;omega
   have d2:decide (4<tie)=true:=by simp;omega
   go_enter Tryz.func21,Tryz.ntmps21;go_wp2
   go_ret2
   exact ⟨rfl,Below.refl _ _⟩
theorem rRanks_long (ao:Option Addr) (n cap:Nat) (tie:Int) (w:World) (h0:0≤tie) (h4:tie≤4) (h:65536<n) :
 Calls Tryz.prog 21 #[.slice ao n cap,.int .i64 tie] w fun r w'=>r=.returned (.tuple #[.slice none 0 0,.int .i64 2])∧Below w.heap.size w w':=by
 have d1:decide (tie<0)=false:=by simp;omega
 have d2:decide (4<tie)=false:=by simp;omega
 have d3:decide ((65536:Int)<(n:Int))=true:=by simp;omega
 clear h;go_enter Tryz.func21,Tryz.ntmps21;go_wp2
 go_ret2
 exact ⟨rfl,Below.refl _ _⟩
theorem lt15 {w:World}{lo g n:Nat}{L:List Nat}(h:OwnF w g L) (hn:n=L.length) (hl:lo≤g) (hm:n≤17592186043904):PB.Lt lo w (.slice (some ⟨g,0,none⟩) n n) L:=by
 have:=h.row15 hn hl hm;rw [hn] at this ⊢;exact this
theorem rk_both (xs:List Nat) (n:Nat) (tie:Int) (hn:n=xs.length) (hm:n≤17592186043904) (hW:W64 xs):∃ (E:Int) (L:List Nat),L.length≤65536 ∧
 (∀ (ao:Option Addr) (cap:Nat) (u:World),Fs u.heap.size u ao xs→Calls Tryz.prog 20 #[.slice ao n cap,.int .i64 tie] u fun r w'=>(∃ v,r=.returned (.tuple #[v,.int .i64 E])∧PB.Lt u.heap.size w' v L)∧Below u.heap.size u w') ∧
 (∀ (ao:Option Addr) (cap:Nat) (u:World),Fs u.heap.size u ao xs→Calls Tryz.prog 21 #[.slice ao n cap,.int .i64 tie] u fun r w'=>(∃ v,r=.returned (.tuple #[v,.int .i64 E])∧PB.Lt u.heap.size w' v L)∧Below u.heap.size u w'):=by
 by_cases h:tie<0∨4<tie
 · exact ⟨1,[],by simp,fun ao cap u _=>(Ranks_tie ao n cap tie u h).mono fun r w' q=>⟨⟨_,q.1,PB.Lt.nil _ _⟩,q.2⟩,fun ao cap u _=>(rRanks_tie ao n cap tie u h).mono fun r w' q=>⟨⟨_,q.1,PB.Lt.nil _ _⟩,q.2⟩⟩
 · have h0:0≤tie:=by omega
   have h4:tie≤4:=by omega
   by_cases hb:65536<n
   · exact ⟨2,[],by simp,fun ao cap u _=>(Ranks_long ao n cap tie u h0 h4 hb).mono fun r w' q=>⟨⟨_,q.1,PB.Lt.nil _ _⟩,q.2⟩,fun ao cap u _=>(rRanks_long ao n cap tie u h0 h4 hb).mono fun r w' q=>⟨⟨_,q.1,PB.Lt.nil _ _⟩,q.2⟩⟩
   · have hl:(rkL xs tie).length=xs.length:=by unfold rkL;rw [eachL_len]
     refine ⟨0,rkL xs tie,by rw [hl];omega,fun ao cap u hF=>(Ranks15 xs ao n cap tie u hF hn (by omega) hW h0 h4).mono fun r w' q=>?_,fun ao cap u hF=>(rRanks_go xs ao n cap tie u hF hn (by omega) hW h0 h4).mono fun r w' q=>?_⟩
     · obtain ⟨g,q1,q2,q3,q4⟩:=q
       exact ⟨⟨_,q1,lt15 q2 (by rw [hl];exact hn) q4 hm⟩,q3⟩
     · obtain ⟨q1,q2,q3⟩:=q
       exact ⟨⟨_,q1,lt15 q2 (by rw [hl];exact hn) (Nat.le_refl _) hm⟩,q3⟩
structure T15 (s2 s3 s4:Nat) (w u:World) (va vb vc:Value) (A B C:List Nat):Prop where
 bel:Below w.heap.size w u
 ra:PB.Lt s2 u va A
 rb:PB.Lt s3 u vb B
 rc:PB.Lt s4 u vc C
theorem T15.below {s2 s3 s4:Nat}{w u u':World}{va vb vc:Value}{A B C:List Nat}(h:T15 s2 s3 s4 w u va vb vc A B C) (hb:Below u.heap.size u u'):T15 s2 s3 s4 w u' va vb vc A B C :=
 ⟨h.bel.trans (hb.mono h.bel.size),h.ra.below hb,h.rb.below hb,h.rc.below hb⟩
theorem T15.but {s2 s3 s4 g:Nat}{w u u':World}{va vb vc:Value}{A B C:List Nat}(h:T15 s2 s3 s4 w u va vb vc A B C) (hb:But g u u') (h0:w.heap.size≤g) (h1:g<s2) (h2:g<s3) (h3:g<s4):T15 s2 s3 s4 w u' va vb vc A B C :=
 ⟨But.below h.bel hb h.bel.size h0,PB.row_other h.ra fun b e=>by have:=PB.Rw.lt h.ra b e;exact hb.block b this.2.1 (by omega),PB.row_other h.rb fun b e=>by have:=PB.Rw.lt h.rb b e;exact hb.block b this.2.1 (by omega),PB.row_other h.rc fun b e=>by have:=PB.Rw.lt h.rc b e;exact hb.block b this.2.1 (by omega)⟩
theorem T15.keep {s2 s3 s4:Nat}{w u u':World}{va vb vc:Value}{A B C:List Nat}(h:T15 s2 s3 s4 w u va vb vc A B C) (hk:PB.Keep u u') (hb:Below w.heap.size u u'):T15 s2 s3 s4 w u' va vb vc A B C :=
 ⟨h.bel.trans hb,PB.Keep.row h.ra hk,PB.Keep.row h.rb hk,PB.Keep.row h.rc hk⟩
theorem T15.alloc {s2 s3 s4:Nat}{w u:World}{va vb vc:Value}{A B C:List Nat}(h:T15 s2 s3 s4 w u va vb vc A B C) (o:Obj):T15 s2 s3 s4 w (u.alloc o) va vb vc A B C:=h.below (below_alloc _ _)
theorem lt_fs15 {w:World}{lo n c:Nat}{a:Option Addr}{L:List Nat}(h:PB.Lt lo w (.slice a n c) L):n=L.length∧Fs w.heap.size w a L:=by
 obtain ⟨ao,cap,e,_,_,hr⟩:=PB.Lt.shape h
 cases e
 exact ⟨rfl,hr⟩
theorem lt_shape15 {w:World}{lo:Nat}{v:Value}{L:List Nat}(h:PB.Lt lo w v L):∃ a c,v=.slice a L.length c:=by
 obtain ⟨ao,cap,e,_⟩:=PB.Lt.shape h;exact ⟨ao,cap,e⟩
end
section
open Go Go.RowKit J
attribute [local go_sem] st_float
theorem lent_fs {w:World}{g:Nat}{xs:List Nat}(h:OwnF w g (lnt xs)):Fs w.heap.size w (some ⟨g,0,none⟩) xs:=by
 have:=h.fs h.lt xs.length;rw [show (lnt xs).take xs.length=xs by simp [lnt]] at this
 exact this
set_option maxRecDepth 100000 in
theorem walk2_RankRanks (a:Option Addr) (n c:Nat) (xs:List Nat) (tie other:Int) (w:World) (hT:Tab w) (hC:CameF w a n c xs) (hm:n≤17592186043904) :
 Calls Tryz.prog 4 #[.slice a n c,.int .i64 tie,.int .i64 other] w fun r w'=>r=.returned (.bool true)∧Below w.heap.size w w':=by
 obtain ⟨hl1,_,hW1,hF1,_⟩:=hC;have up:∀ u:World,Below w.heap.size w u→Fs u.heap.size u a xs∧Tab u∧Fs w.heap.size u a xs:=fun u hb=>⟨(hF1.below hb).mono hb.size,hT.belows hb,hF1.below hb⟩
 obtain ⟨E1,L1,q1,p1,r1⟩:=rk_both xs n tie hl1 hm hW1;obtain ⟨E2,L2,q2,p2,r2⟩:=rk_both xs n other hl1 hm hW1;have HA:=hid (fun (u:World) (hb:Below w.heap.size w u)=>awake15 u (up u hb).2.1)
 have HL:=hid (fun (u:World) (hb:Below w.heap.size w u)=>rLent12 xs a n c u.heap.size u hl1 hm (up u hb).1 (Nat.le_refl _))
 have HP1:=hid (fun (u:World) (g cap:Nat) (ho:OwnF u g (lnt xs))=>p1 (some ⟨g,0,none⟩) cap u (lent_fs ho))
 have HP2:=hid (fun (u:World) (g cap:Nat) (ho:OwnF u g (lnt xs))=>p2 (some ⟨g,0,none⟩) cap u (lent_fs ho))
 have HK:=hid (fun (u:World) (g:Nat) (hb:Below w.heap.size w u) (hg:w.heap.size≤g) (ho:OwnF u g (lnt xs))=>rAsLent12 xs a n c w.heap.size g u hl1 hm (up u hb).2.2 hg ho)
 have HR1:=hid (fun (u:World) (hb:Below w.heap.size w u)=>r1 a c u (up u hb).1)
 have HR2:=hid (fun (u:World) (hb:Below w.heap.size w u)=>r2 a c u (up u hb).1)
 have HQ:=(qsd (ai q1 q2));have n1:((E1:Int) != E1)=false:=by simp
 have n2:((E2:Int) != E2)=false:=by simp
 clear hl1 hW1 hF1 up hT hm p1 p2 r1 r2 q1 q2;go_enter Tryz.func4,Tryz.ntmps4
 go_wp2_with fail
 refine (HA.out _ (Below.refl _ _)).mono ?_;rintro r u1 ⟨rfl,hb⟩;have B1:=qsd hb;clear hb HA
 go_wp2_with fail
 refine (HL.out _ B1.out).mono ?_;rintro r u2 ⟨rfl,ho,hb⟩;obtain ⟨g,hg⟩:∃ g,g=u1.heap.size:=⟨_,rfl⟩;rw [←hg] at ho ⊢;have B2:Aside (T15 u2.heap.size u2.heap.size u2.heap.size w u2 (.slice none 0 0) (.slice none 0 0) (.slice none 0 0) [] [] []∧OwnF u2 g (lnt xs)∧w.heap.size≤g∧g<u2.heap.size):=⟨⟨B1.out.trans (hb.mono B1.out.size),PB.Lt.nil _ _,PB.Lt.nil _ _,PB.Lt.nil _ _⟩,ho,by rw [hg];exact B1.out.size,ho.lt⟩
 clear hb ho hg B1 HL
 go_wp2_with fail
 refine (HP1.out _ g (n+2) B2.out.2.1).mono ?_;rintro r u3 ⟨⟨va,rfl,ha⟩,hb⟩;obtain ⟨aa,ca,rfl⟩:=lt_shape15 ha;have B3:Aside (T15 u2.heap.size u3.heap.size u3.heap.size w u3 (.slice aa L1.length ca) (.slice none 0 0) (.slice none 0 0) L1 [] []∧OwnF u3 g (lnt xs)∧w.heap.size≤g∧g<u2.heap.size∧u2.heap.size≤u3.heap.size):=⟨⟨(B2.out.1.below hb).bel,ha,PB.Lt.nil _ _,PB.Lt.nil _ _⟩,B2.out.2.1.below hb B2.out.2.1.lt,B2.out.2.2.1,B2.out.2.2.2,hb.size⟩;have MA:Aside (∀ b,(Value.slice aa L1.length ca).ownBlock=some b→b<u3.heap.size):=fun b e=>(PB.Rw.lt ha b e).2.1
 clear hb ha B2
 go_wp2_with fail
 refine (HP2.out _ g (n+2) B3.out.2.1).mono ?_;rintro r u4 ⟨⟨vb,rfl,ha⟩,hb⟩;obtain ⟨ab,cb,rfl⟩:=lt_shape15 ha;have B4:Aside (T15 u2.heap.size u3.heap.size u4.heap.size w u4 (.slice aa L1.length ca) (.slice ab L2.length cb) (.slice none 0 0) L1 L2 []∧OwnF u4 g (lnt xs)∧w.heap.size≤g∧g<u2.heap.size∧u2.heap.size≤u3.heap.size∧u3.heap.size≤u4.heap.size):=⟨⟨(B3.out.1.below hb).bel,(B3.out.1.below hb).ra,ha,PB.Lt.nil _ _⟩,B3.out.2.1.below hb B3.out.2.1.lt,B3.out.2.2.1,B3.out.2.2.2.1,B3.out.2.2.2.2,hb.size⟩;have MB:Aside (∀ b,(Value.slice ab L2.length cb).ownBlock=some b→u3.heap.size≤b∧b<u4.heap.size):=fun b e=>⟨(PB.Rw.lt ha b e).1,(PB.Rw.lt ha b e).2.1⟩
 clear hb ha B3
 go_wp2_with fail
 refine (HP1.out _ g (n+2) B4.out.2.1).mono ?_;rintro r u5 ⟨⟨vc,rfl,ha⟩,hb⟩;obtain ⟨ac,cc,rfl⟩:=lt_shape15 ha;have B5:Aside (T15 u2.heap.size u3.heap.size u4.heap.size w u5 (.slice aa L1.length ca) (.slice ab L2.length cb) (.slice ac L1.length cc) L1 L2 L1∧OwnF u5 g (lnt xs)∧w.heap.size≤g∧g<u2.heap.size∧u2.heap.size≤u3.heap.size∧u3.heap.size≤u4.heap.size):=⟨⟨(B4.out.1.below hb).bel,(B4.out.1.below hb).ra,(B4.out.1.below hb).rb,ha⟩,B4.out.2.1.below hb B4.out.2.1.lt,B4.out.2.2⟩;have MC:Aside (∀ b,(Value.slice ac L1.length cc).ownBlock=some b→u4.heap.size≤b):=fun b e=>(PB.Rw.lt ha b e).1
 clear hb ha B4 HP1 HP2
 go_wp2_with fail
 refine (HK.out _ g B5.out.1.bel B5.out.2.2.1 B5.out.2.1).mono ?_;rintro r u6 ⟨rfl,hb⟩;have SZ:Aside (w.heap.size≤u2.heap.size∧u2.heap.size≤u3.heap.size∧u3.heap.size≤u4.heap.size):=⟨by have:=B5.out.2.2;omega,B5.out.2.2.2.2⟩
 have B6:Aside (T15 u2.heap.size u3.heap.size u4.heap.size w u6 (.slice aa L1.length ca) (.slice ab L2.length cb) (.slice ac L1.length cc) L1 L2 L1):=B5.out.1.but hb B5.out.2.2.1 B5.out.2.2.2.1 (by have:=B5.out.2.2.2;omega) (by have:=B5.out.2.2.2;omega)
 clear hb B5 HK
 go_wp2_with fail
 refine (HR1.out _ B6.out.bel).mono ?_;rintro r u7 ⟨⟨vs,rfl,hs⟩,hb⟩;obtain ⟨sa,cs,rfl⟩:=lt_shape15 hs;have B7:Aside (T15 u2.heap.size u3.heap.size u4.heap.size w u7 (.slice aa L1.length ca) (.slice ab L2.length cb) (.slice ac L1.length cc) L1 L2 L1):=B6.out.below hb;have S7:Aside (PB.Lt 0 u7 (.slice sa L1.length cs) L1):=hs.mono (Nat.zero_le _);clear hb hs B6 HR1
 go_wp2_with fail
 refine (HR2.out _ B7.out.bel).mono ?_;rintro r u8 ⟨⟨vt,rfl,ht⟩,hb⟩;obtain ⟨ta,ct,rfl⟩:=lt_shape15 ht;have B8:Aside (T15 u2.heap.size u3.heap.size u4.heap.size w u8 (.slice aa L1.length ca) (.slice ab L2.length cb) (.slice ac L1.length cc) L1 L2 L1):=B7.out.below hb;have S8:Aside (PB.Lt 0 u8 (.slice sa L1.length cs) L1∧PB.Lt 0 u8 (.slice ta L2.length ct) L2):=⟨S7.out.below hb,ht.mono (Nat.zero_le _)⟩;clear hb ht B7 S7 HR2;have AL:=hid (alikeLists15 L1 aa sa L1.length ca cs u8 rfl (by have:=HQ.out.1;omega) (lt_fs15 B8.out.ra).2 (lt_fs15 S8.out.1).2)
 go_wp2_with fail
 refine AL.out.mono ?_;rintro r u9 ⟨rfl,hb⟩;have B9:Aside (T15 u2.heap.size u3.heap.size u4.heap.size w u9 (.slice aa L1.length ca) (.slice ab L2.length cb) (.slice ac L1.length cc) L1 L2 L1):=B8.out.below hb;have S9:Aside (PB.Lt 0 u9 (.slice sa L1.length cs) L1∧PB.Lt 0 u9 (.slice ta L2.length ct) L2):=⟨S8.out.1.below hb,S8.out.2.below hb⟩;clear hb B8 S8 AL;have AL:=hid (alikeLists15 L2 ab ta L2.length cb ct u9 rfl (by have:=HQ.out.2;omega) (lt_fs15 B9.out.rb).2 (lt_fs15 S9.out.2).2)
 go_wp2_with fail
 refine AL.out.mono ?_;rintro r u10 ⟨rfl,hb⟩;have B10:Aside (T15 u2.heap.size u3.heap.size u4.heap.size w u10 (.slice aa L1.length ca) (.slice ab L2.length cb) (.slice ac L1.length cc) L1 L2 L1):=B9.out.below hb;have S10:Aside (PB.Lt 0 u10 (.slice sa L1.length cs) L1):=S9.out.1.below hb;clear hb B9 S9 AL;have AL:=hid (alikeLists15 L1 ac sa L1.length cc cs u10 rfl (by have:=HQ.out.1;omega) (lt_fs15 B10.out.rc).2 (lt_fs15 S10.out).2)
 go_wp2_with fail
 refine AL.out.mono ?_;rintro r u11 ⟨rfl,hb⟩;have B11:Aside (T15 u2.heap.size u3.heap.size u4.heap.size w u11 (.slice aa L1.length ca) (.slice ab L2.length cb) (.slice ac L1.length cc) L1 L2 L1):=B10.out.below hb;clear hb B10 S10 AL;obtain ⟨W14,hW14⟩:∃ W,W=u11.alloc (.cells #[.slice none 0 0] 32):=⟨_,rfl⟩;obtain ⟨k,hk⟩:∃ k,k=u11.heap.size:=⟨_,rfl⟩;have hws:=B11.out.bel.size;have zz14:w.heap.size≤W14.heap.size:=by rw [hW14];simp;omega
 have BK0:Aside (PB.Bk w.heap.size W14 k []):=by rw [hW14,hk];exact PB.Bk.made _ _ hws
 have B14:Aside (T15 u2.heap.size u3.heap.size u4.heap.size w W14 (.slice aa L1.length ca) (.slice ab L2.length cb) (.slice ac L1.length cc) L1 L2 L1):=by rw [hW14];exact B11.out.alloc _
 clear B11;have TK:=hid (PB.take_any w.heap.size k [] aa L1.length ca W14 BK0.out (by simp) zz14)
 go_wp2_with fail
 rw [←hW14,←hk];clear hW14 hk hws;refine Calls.mono TK.out ?_;rintro r w15 ⟨rfl,hB15,hk15,hb15,z15⟩;have BK1:Aside (PB.Bk w.heap.size w15 k [.slice aa L1.length ca]):=hB15;have B15:=qsd (B14.out.keep hk15 hb15);have zz15:w.heap.size≤w15.heap.size:=Nat.le_trans zz14 z15;clear B14 hB15 hk15 hb15 TK BK0 zz14 z15;have TK:=hid (PB.take_any w.heap.size k [.slice aa L1.length ca] ab L2.length cb w15 BK1.out (by simp) zz15)
 go_wp2_with fail
 refine Calls.mono TK.out ?_;rintro r w16 ⟨rfl,hB16,hk16,hb16,z16⟩;have BK2:Aside (PB.Bk w.heap.size w16 k [.slice aa L1.length ca,.slice ab L2.length cb]):=hB16;have B16:=qsd (B15.out.keep hk16 hb16);have zz16:w.heap.size≤w16.heap.size:=Nat.le_trans zz15 z16;clear B15 hB16 hk16 hb16 TK BK1 zz15 z16;have TK:=hid (PB.take_any w.heap.size k [.slice aa L1.length ca,.slice ab L2.length cb] ac L1.length cc w16 BK2.out (by simp) zz16)
 go_wp2_with fail
 refine Calls.mono TK.out ?_;rintro r w17 ⟨rfl,hB17,hk17,hb17,z17⟩;have BK3:Aside (PB.Bk w.heap.size w17 k [.slice aa L1.length ca,.slice ab L2.length cb,.slice ac L1.length cc]):=hB17;have B17:=qsd (B16.out.keep hk17 hb17);have zz17:w.heap.size≤w17.heap.size:=Nat.le_trans zz16 z17;clear B16 hB17 hk17 hb17 TK BK2 zz16 z17;have NI:PB.Nice w.heap.size w17 [.slice aa L1.length ca,.slice ab L2.length cb,.slice ac L1.length cc]:=PB.nice3 (PB.Lt.mono B17.out.ra SZ.out.1) (PB.Lt.mono B17.out.rb (by have:=SZ.out;omega)) (PB.Lt.mono B17.out.rc (by have:=SZ.out;omega)) HQ.out.1 HQ.out.2 HQ.out.1 u3.heap.size u4.heap.size SZ.out.2.2 MA.out MB.out MC.out
 have OW:=hid (PB.owned_any w.heap.size k [.slice aa L1.length ca,.slice ab L2.length cb,.slice ac L1.length cc] w17 BK3.out NI (by simp) (by simp) zz17)
 clear NI
 go_wp2_with fail
 refine Calls.mono OW.out ?_;rintro r w18 ⟨rfl,hb18⟩;have FIN:=qsd (B17.out.bel.trans hb18);clear hb18;go_wp2;go_ret;exact ⟨rfl,FIN.out⟩
end
end Go.Proofs.YtihjfhpoiheomaaGreatDoor
