import Derived.Test.YtjldfhecnaiinaaGreatDoorZ43x
import Derived.Test.YtjldfhecnaiinaaGreatDoorZ14x
import Derived.RangeFuncNested
import Derived.RangeFuncBound
import Derived.RangeFuncCalls
import Derived.RangeFuncLeaves
import Derived.RangeFuncBox
import Derived.Shelf.Abstract
import Derived.Shelf.RegionOpen
import Derived.WalkKit
import Derived.OwnWalkIn
import Derived.TacticsInMore
import Derived.LoopNIn
import Derived.LoopIn
import Derived.Test.YtjldfhecnaiinaaGreatDoorS9x
import Derived.Test.YtjldfhecnaiinaaGreatDoorP2x
import Derived.Test.YtjldfhecnaiinaaGreatDoorD21x
import Derived.Test.YtjldfhecnaiinaaGreatDoorD38x
import Derived.Deep.Cut
import Derived.Deep.RegionHeld3
import Derived.Test.YtjldfhecnaiinaaGreatDoorS7x
import Derived.Test.YtjldfhecnaiinaaGreatDoorW17x
import Derived.Deep.CutRange
import Derived.ArgAppend
import Derived.Maps.AppendAt
import Derived.WalkMore
import Derived.OwnWalk
import Derived.KernelRfl
import Derived.Test.YtjldfhecnaiinaaGreatDoorF2x
import Derived.Test.YtjldfhecnaiinaaGreatDoorW13x
import Derived.BigQuiet
import Derived.Deep.LoopGhost
import Derived.Test.YtjldfhecnaiinaaGreatDoorM1x
import Derived.ProofKit
import Derived.OpenShut
import Derived.ChangeOld
import Derived.ChangeArms
import Derived.SizedLaws
import Derived.Laws.Cover2
import Derived.Deep.RegionWith
import Derived.Test.YtjldfhecnaiinaaGreatDoorW45x
set_option linter.unusedVariables false
set_option linter.unusedSimpArgs false
set_option maxHeartbeats 16000000
set_option maxRecDepth 20000
namespace Go.Proofs.YtjldfhecnaiinaaGreatDoor
namespace J
end J
section
open Go.RowKit J
attribute [local go_sem] st_float
def pI13 (xs ys:List Nat):List (Nat×Int):=List.zipWith (fun x y=>(pK x y,pT x y)) xs ys
theorem pI13_take (xs ys:List Nat) (k:Nat) (h1:k<xs.length) (h2:k<ys.length):pI13 (xs.take (k+1)) (ys.take (k+1))=pI13 (xs.take k) (ys.take k)++[(pK (xs.getD k 0) (ys.getD k 0),pT (xs.getD k 0) (ys.getD k 0))]:=by
 unfold pI13;rw [take_snoc10 xs k h1,take_snoc10 ys k h2,List.zipWith_append (by simp;omega)]
 rfl
theorem pI13_len (xs ys:List Nat):(pI13 xs ys).length=min xs.length ys.length:=by unfold pI13;simp
theorem pI13_ip:∀ {xs ys:List Nat},W64 xs→W64 ys→∀ p ∈ pI13 xs ys,Ip p
 | [],_,_,_,p,hp=>by simp [pI13] at hp
 | _::_,[],_,_,p,hp=>by simp [pI13] at hp
 | x::xs,y::ys,h1,h2,p,hp=>by
   unfold pI13 at hp;rw [List.zipWith_cons_cons,List.mem_cons] at hp
   rcases hp with rfl|hp
   · exact ip_prod (h1 x List.mem_cons_self) (h2 y List.mem_cons_self)
   · exact pI13_ip (xs:=xs) (ys:=ys) (fun z hz=>h1 z (List.mem_cons_of_mem _ hz)) (fun z hz=>h2 z (List.mem_cons_of_mem _ hz)) p hp
def wS (xs ys:List Nat):Int:=vI (pI13 xs ys)
theorem wS_bd {xs ys:List Nat}(h1:W64 xs) (h2:W64 ys) (hl:xs.length≤65536):∃ k:Nat,k=4238∧(wS xs ys).natAbs<2^k:=by
 obtain ⟨k,hk,e⟩:=HB13;refine ⟨k,hk,?_⟩;rw [←e];have a1:=vI_bd _ (pI13_ip h1 h2);have a2:=pI13_len xs ys;have a3:(pI13 xs ys).length*QB≤65536*QB:=Nat.mul_le_mul_right _ (by omega)
 have a4:=QB_HB;have a5:=QB_pos;unfold wS;omega
theorem wS_fm {xs ys:List Nat}(h1:W64 xs) (h2:W64 ys) (hl:xs.length≤65536):Fm (exV (wS xs ys)):=by
 obtain ⟨k,hk,h⟩:=wS_bd h1 h2 hl;exact ex_fm _ k (by omega) h
theorem products13 (xs ys:List Nat) (a b:Option Addr) (n c d:Nat) (w:World) (hn:n=xs.length) (hn2:n=ys.length) (hF:Fs w.heap.size w a xs) (hG:Fs w.heap.size w b ys) (hW:W64 xs) (hV:W64 ys) (hT:Tab w) (hl:n≤65536) :
 Calls Tryz.prog 42 #[.slice a n c,.slice b n d] w fun r w'=>∃ v,r=.returned (.agg #[.bool (dN (exV (wS xs ys))),v,.int .i64 (dE (exV (wS xs ys)))])∧Nt w.heap.size w' v (dX (exV (wS xs ys)))∧Below w.heap.size w w':=by
 have HX:=qsd (ai hn (ai hn2 (ai hF (ai hG (ai hW (ai hV (ai hT hl)))))));obtain ⟨o,ho⟩:∃ o,o=exV (wS xs ys):=⟨_,rfl⟩;rw [←ho];have HO:=qsd ho;clear hn hn2 hF hG hW hV hT ho;obtain ⟨W1,hW1⟩:∃ W,W=w.alloc (.cells #[.bool false,.slice none 0 0,.int .i64 0] 41):=⟨_,rfl⟩
 have H1:Aside (Below w.heap.size w W1∧Bl W1 w.heap.size 41 [.bool false,.slice none 0 0,.int .i64 0]∧W1.heap.size=w.heap.size+1):=by
  subst hW1;exact ⟨bel_alloc _ _,Bl.new _ 41 [_,_,_],by simp⟩
 go_enter Tryz.func42,Tryz.ntmps42
 go_wp2_with fail
 rw [←hW1];clear hW1;refine (New7 W1).mono ?_;rintro r w2 ⟨rfl,hA,hb2⟩;obtain ⟨g,hg⟩:∃ g,g=W1.heap.size:=⟨_,rfl⟩;rw [←hg] at hA ⊢
 have P2:Aside (Bl w2 w.heap.size 41 [.bool false,.slice none 0 0,.int .i64 0]∧Below w.heap.size w w2∧w.heap.size<g∧At12 w2 g (pI13 (xs.take 0) (ys.take 0))) :=
  ⟨H1.out.2.1.below hb2 (by have:=H1.out.2.2;omega),H1.out.1.trans (hb2.mono (by have:=H1.out.2.2;omega)),by have:=H1.out.2.2;omega,hA,fun p hp=>by simp [pI13] at hp⟩
 clear hb2 hA hg H1;go_wp2
 go_loopg [11] n (fun gk i wr=>∃ k:Nat,gk+k=n∧i=.int .i64 (k:Nat)∧Aside (At12 wr g (pI13 (xs.take k) (ys.take k))∧Bl wr w.heap.size 41 [.bool false,.slice none 0 0,.int .i64 0]∧Below w.heap.size w wr))
 case atStart=>exact ⟨0,by omega,by simp,P2.out.2.2.2,P2.out.1,P2.out.2.1⟩
 case round =>
  obtain ⟨k,hgk,rfl,HA⟩:=hrel
  by_cases hk:k<n
  · obtain ⟨b1,off1,rfl,hc⟩:=HX.out.2.2.1.at HA.out.2.2 k (by rw [←HX.out.1];exact hk)
    obtain ⟨b2,off2,rfl,hd⟩:=HX.out.2.2.2.1.at HA.out.2.2 k (by rw [←HX.out.2.1];exact hk)
    have C:Hid (Calls Tryz.prog 80 #[.pointer (some ⟨g,0,none⟩),.float .f64 (xs.getD k 0),.float .f64 (ys.getD k 0)] wr fun r w'=>r=.returned (.int .i64 0)∧At12 w' g (pI13 (xs.take (k+1)) (ys.take (k+1)))∧But g wr w'):=by
     rw [pI13_take xs ys k (by rw [←HX.out.1];exact hk) (by rw [←HX.out.2.1];exact hk)]
     exact addP12 g _ _ _ wr HA.out.1 (by rw [pI13_len,List.length_take];have:=HX.out.2.2.2.2.2.2.2;omega) (HX.out.2.2.2.2.1.get k) (HX.out.2.2.2.2.2.1.get k)
    obtain ⟨x,hx⟩:∃ x,x=xs.getD k 0:=⟨_,rfl⟩;obtain ⟨y,hy⟩:∃ y,y=ys.getD k 0:=⟨_,rfl⟩;rw [←hx] at hc C;rw [←hy] at hd C;have hkb:k<4611686018427387904:=by have:=HX.out.2.2.2.2.2.2.2;omega
    clear hx hy
    go_wp2_with fail
    refine (C.out).mono ?_;rintro r w3 ⟨rfl,hA3,hbut⟩;have H3:=qsd (ai hA3 (ai (HA.out.2.1.but hbut (by have:=P2.out.2.2.1;omega)) (But.below HA.out.2.2 hbut HA.out.2.2.size (by have:=P2.out.2.2.1;omega))))
    clear hA3 hbut C hc hd;go_wp2
    go_roundg (gk-1)
    case measure=>omega
    case rel=>exact ⟨k+1,by omega,by first | rfl | simp,H3.out⟩
  · obtain rfl:n=k:=by omega
    have hd:decide ((n:Int)<n)=false:=by simp
    have C:Hid (Calls Tryz.prog 81 #[.pointer (some ⟨g,0,none⟩)] wr fun r w'=>∃ v,r=.returned (.agg #[.bool (dN o),v,.int .i64 (dE o)])∧Nt wr.heap.size w' v (dX o)∧Below wr.heap.size wr w'):=by
     have e1:xs.take n=xs:=by rw [List.take_of_length_le];rw [←HX.out.1];omega
     have e2:ys.take n=ys:=by rw [List.take_of_length_le];rw [←HX.out.2.1];omega
     have hA:=HA.out.1;rw [e1,e2] at hA;rw [HO.out];exact Exact7 g _ _ wr hA.1 (HX.out.2.2.2.2.2.2.1.belows HA.out.2.2)
    have HL:=qsd (HA.out.2.1.lt)
    go_wp2_with fail
    refine (C.out).mono ?_;rintro r w3 ⟨v,rfl,hN,hb3⟩;obtain ⟨a9,c9,rfl,_⟩:=Lo.shape (q:=o) (by rw [HO.out];exact wS_fm HX.out.2.2.2.2.1 HX.out.2.2.2.2.2.1 (by rw [←HX.out.1];exact HX.out.2.2.2.2.2.2.2)) hN
    have B3:=qsd (ai (HA.out.2.1.below hb3 HL.out) (ai (HA.out.2.2.trans (hb3.mono HA.out.2.2.size)) hN));have z0:=B3.out.1.cell 0 _ rfl;have z1:=B3.out.1.cell 1 _ rfl;have z2:=B3.out.1.cell 2 _ rfl;have f0:=B3.out.1.frozen 0;have f1:=B3.out.1.frozen 1;have f2:=B3.out.1.frozen 2;clear hb3 C hN;go_wp2;refine close13 Tryz.results42 ?_ B3.out.1 B3.out.2.1 B3.out.2.2 (HL.out);rfl
def prE (xs ys:List Nat):Int:=if 65536<xs.length∨65536<ys.length then 2 else if xs.length≠ys.length then 4 else if plE xs≠0 then plE xs else if plE ys≠0 then plE ys else if xs=[] then 3 else 0
theorem paired13 (xs ys:List Nat) (a b:Option Addr) (n m c d:Nat) (w:World) (hn:n=xs.length) (hm:m=ys.length) (hF:Fs w.heap.size w a xs) (hG:Fs w.heap.size w b ys) (hW:W64 xs) (hV:W64 ys) (E:Int) (hE:prE xs ys=E) :
 Calls Tryz.prog 41 #[.slice a n c,.slice b m d] w fun r w'=>r=.returned (.int .i64 E)∧Below w.heap.size w w':=by
 unfold prE at hE;rw [←hn,←hm] at hE
 by_cases h1:65536<n
 · rw [if_pos (.inl h1)] at hE
   have d1:decide ((65536:Int)<(n:Nat))=true:=by simp;omega
   subst hE;clear hn hm hF hG hW hV;go_enter Tryz.func41,Tryz.ntmps41;go_wp2;go_ret;exact ⟨rfl,Below.refl _ _⟩
 · have d1:decide ((65536:Int)<(n:Nat))=false:=by simp;omega
   by_cases h2:65536<m
   · rw [if_pos (.inr h2)] at hE
     have d2:decide ((65536:Int)<(m:Nat))=true:=by simp;omega
     subst hE;clear hn hm hF hG hW hV;go_enter Tryz.func41,Tryz.ntmps41;go_wp2;go_ret;exact ⟨rfl,Below.refl _ _⟩
   · have d2:decide ((65536:Int)<(m:Nat))=false:=by simp;omega
     rw [if_neg (by omega)] at hE
     by_cases h3:n=m
     · subst h3
       rw [if_neg (by simp)] at hE
       have HPx:=hid (fun (u:World) (hb:Below w.heap.size w u)=>plain13 xs a n c u hn ((hF.below hb).mono hb.size) hW (by omega))
       have HPy:=hid (fun (u:World) (hb:Below w.heap.size w u)=>plain13 ys b n d u hm ((hG.below hb).mono hb.size) hV (by omega))
       obtain ⟨ex,hex⟩:∃ e,plE xs=e:=⟨_,rfl⟩;obtain ⟨ey,hey⟩:∃ e,plE ys=e:=⟨_,rfl⟩;obtain ⟨⟨x1,x2,x3,x4,x5,x6⟩,hsx⟩:∃ s,sS xs=s:=⟨_,rfl⟩;obtain ⟨⟨y1,y2,y3,y4,y5,y6⟩,hsy⟩:∃ s,sS ys=s:=⟨_,rfl⟩;rw [hex,hsx] at HPx;rw [hey,hsy] at HPy;rw [hex,hey] at hE;simp only [Sp.agg] at HPx HPy;have HE:=qsd hE;have HN:=qsd hn;have hn6:n≤65536:=by omega
       obtain ⟨W,hWW⟩:∃ W,W=w.alloc (Obj.cells #[.slice a n c,.slice b n d] 23):=⟨_,rfl⟩
       have B0:Aside (Bl W w.heap.size 23 [.slice a n c,.slice b n d]∧Below w.heap.size w W):=by
        rw [hWW];exact ⟨Bl.new _ 23 [_,_],bel_alloc _ _⟩
       have HWW:=qsd hWW;clear hn hm hF hG hW hV hex hey hsx hsy hE hWW h1 h2;go_enter Tryz.func41,Tryz.ntmps41;go_wp2;rw [←HWW.out];clear HWW
       go_loopg [28] 2 (fun gk i wr=>∃ k:Nat,gk+k=2∧i=.int .i64 (k:Nat)∧Aside (Bl wr w.heap.size 23 [.slice a n c,.slice b n d]∧Below w.heap.size w wr∧(1≤k→ex=0)∧(2≤k→ey=0)))
       case atStart=>exact ⟨0,by omega,by simp,B0.out.1,B0.out.2,fun h=>absurd h (by decide),fun h=>absurd h (by decide)⟩
       case round =>
        obtain ⟨k,hgk,rfl,HA⟩:=hrel;clear B0;obtain hk|hk|hk:k=0∨k=1∨k=2:=by omega
        · subst hk
          have c0:=HA.out.1.cell 0 _ rfl;have C:=hid (HPx.out wr HA.out.2.1);have HA2:=HA;clear HPy
          go_wp2_with fail
          refine C.out.mono ?_;rintro r v ⟨hr,hb⟩;have B1:Aside (Bl v w.heap.size 23 [.slice a n c,.slice b n d]∧Below w.heap.size w v):=⟨HA.out.1.below hb HA.out.1.lt,HA.out.2.1.trans (hb.mono HA.out.2.1.size)⟩;clear hb C
          rcases hr with ⟨he,rfl⟩|⟨he,rfl⟩
          · unfold agg0
            have q1:(ex==0)=false:=by simp [he]
            have HEE:Aside (ex=E):=by have:=HE.out;rw [if_pos he] at this;exact this
            clear he;go_wp2;go_ret;exact ⟨congrArg (fun z=>Ending.returned (Value.int .i64 z)) HEE.out,B1.out.2.trans ((bel_alloc _ _).mono B1.out.2.size)⟩
          · have H3:Aside (∀ (t1 t2 t3 t4 t5 t6:Int),Bl (v.alloc (Obj.cells #[.int .i64 t1,.int .i64 t2,.int .i64 t3,.int .i64 t4,.int .i64 t5,.int .i64 t6] 51)) w.heap.size 23 [.slice a n c,.slice b n d]∧Below w.heap.size w (v.alloc (Obj.cells #[.int .i64 t1,.int .i64 t2,.int .i64 t3,.int .i64 t4,.int .i64 t5,.int .i64 t6] 51))):=fun _ _ _ _ _ _=>⟨B1.out.1.alloc _,B1.out.2.trans ((bel_alloc _ _).mono B1.out.2.size)⟩
            have HK:Aside (ex=0):=he;clear he;go_wp2
            go_roundg (gk-1)
            case measure=>omega
            case rel=>exact ⟨1,by omega,by first | rfl | simp,(H3.out _ _ _ _ _ _).1,(H3.out _ _ _ _ _ _).2,fun _=>HK.out,fun h=>absurd h (by decide)⟩
        · subst hk
          have c1:=HA.out.1.cell 1 _ rfl;have C:=hid (HPy.out wr HA.out.2.1);have HA2:=HA;clear HPx
          go_wp2_with fail
          refine C.out.mono ?_;rintro r v ⟨hr,hb⟩;have B1:Aside (Bl v w.heap.size 23 [.slice a n c,.slice b n d]∧Below w.heap.size w v):=⟨HA.out.1.below hb HA.out.1.lt,HA.out.2.1.trans (hb.mono HA.out.2.1.size)⟩;clear hb C
          rcases hr with ⟨he,rfl⟩|⟨he,rfl⟩
          · unfold agg0
            have q1:(ey==0)=false:=by simp [he]
            have HEE:Aside (ey=E):=by have:=HE.out;rw [if_neg (by rw [HA.out.2.2.1 (by decide)];decide),if_pos he] at this;exact this
            clear he;go_wp2;go_ret;exact ⟨congrArg (fun z=>Ending.returned (Value.int .i64 z)) HEE.out,B1.out.2.trans ((bel_alloc _ _).mono B1.out.2.size)⟩
          · have H3:Aside (∀ (t1 t2 t3 t4 t5 t6:Int),Bl (v.alloc (Obj.cells #[.int .i64 t1,.int .i64 t2,.int .i64 t3,.int .i64 t4,.int .i64 t5,.int .i64 t6] 51)) w.heap.size 23 [.slice a n c,.slice b n d]∧Below w.heap.size w (v.alloc (Obj.cells #[.int .i64 t1,.int .i64 t2,.int .i64 t3,.int .i64 t4,.int .i64 t5,.int .i64 t6] 51))):=fun _ _ _ _ _ _=>⟨B1.out.1.alloc _,B1.out.2.trans ((bel_alloc _ _).mono B1.out.2.size)⟩
            have HK:Aside (ey=0):=he;clear he;go_wp2
            go_roundg (gk-1)
            case measure=>omega
            case rel=>exact ⟨2,by omega,by first | rfl | simp,(H3.out _ _ _ _ _ _).1,(H3.out _ _ _ _ _ _).2,HA2.out.2.2.1 ∘ (fun _=>by decide),fun _=>HK.out⟩
        · subst hk
          have z1:=HA.out.2.2.1 (by decide)
          have z2:=HA.out.2.2.2 (by decide)
          have hE:=HE.out;rw [if_neg (by simp [z1]),if_neg (by simp [z2])] at hE
          clear HPx HPy z1 z2
          by_cases hn0:n=0
          · have hx0:xs=[]:=List.eq_nil_of_length_eq_zero (by have:=HN.out;omega)
            rw [if_pos hx0] at hE;have d5:((n:Int)==0)=true:=by simp [hn0]
            have HEE:=qsd hE;clear hE HE HN hx0;go_wp2;go_ret;exact ⟨congrArg (fun z=>Ending.returned (Value.int .i64 z)) HEE.out,HA.out.2.1⟩
          · have hx0:xs≠[]:=by rintro rfl;have:=HN.out;simp at this;omega
            rw [if_neg hx0] at hE;have d5:((n:Int)==0)=false:=by simp [hn0]
            have HEE:=qsd hE;clear hE HE HN hx0;go_wp2;go_ret;exact ⟨congrArg (fun z=>Ending.returned (Value.int .i64 z)) HEE.out,HA.out.2.1⟩
     · rw [if_pos h3] at hE
       have d3:((n:Int)==(m:Int))=false:=by simp;omega
       subst hE;clear hn hm hF hG hW hV;go_enter Tryz.func41,Tryz.ntmps41;go_wp2;go_ret;exact ⟨rfl,Below.refl _ _⟩
end
section
open Go.RowKit J
attribute [local go_sem] st_float
theorem ex_neg {V:Int}(k:Nat) (hk:k≤90000) (hb:V.natAbs<2^k):mkS (!dN (exV V)) (dX (exV V)) (dE (exV V))=exV (-V):=by
 by_cases h0:V=0
 · subst h0
   rw [ex_zero,show (-0:Int)=0 by decide,ex_zero]
   exact mkS_zero _ _
 · obtain ⟨X,e,ho,hX,he0,he1,hv,hbl,F⟩:=ex_parts13 h0 k hk hb
   obtain ⟨Y,f,ho2,hY,hf0,hf1,hv2,hbl2,F2⟩:=ex_parts13 (V:=-V) (by omega) k hk (by rw [Int.natAbs_neg];exact hb)
   have m1:mkS (decide (V<0)) V.natAbs (-2148)=some (decide (V<0),X,e):=ho;have m2:mkS (decide (-V<0)) (-V).natAbs (-2148)=some (decide (-V<0),Y,f):=ho2;rw [Int.natAbs_neg] at m2;have hn:V.natAbs≠0:=by omega
   unfold mkS at m1 m2;rw [if_neg hn] at m1 m2
   split at m1
   · cases m1
   · rename_i hh
     rw [if_neg hh] at m2;simp only [Option.some.injEq,Prod.mk.injEq,true_and] at m1 m2;obtain ⟨rfl,rfl⟩:=m1;obtain ⟨rfl,rfl⟩:=m2;rw [ho,ho2]
     show mkS (!decide (V<0)) _ _=_
     have e1:(!decide (V<0))=decide (-V<0):=by
      by_cases hs:V<0
      · rw [decide_eq_true hs,decide_eq_false (by omega)];rfl
      · rw [decide_eq_false hs,decide_eq_true (by omega)];rfl
     rw [e1];exact mkS_idem F2
theorem Nt.off13 {lo g T:Nat}{w w':World}{v:Value}{X:Nat}{C:List Value}(h:Nt lo w v X) (hB:Bl w g T C) (hT:T≠122) (hb:But g w w'):Nt lo w' v X:=by
 refine h.off hb ?_
 rcases h.2 with ⟨rfl,_⟩|⟨g',cap,cur,rfl,_,hg,_⟩
 · simp [Value.ownBlock]
 · intro e'
   obtain rfl:g'=g:=by simpa [Value.ownBlock] using e'
   rw [show w.heap[g']?=_ from hB] at hg
   simp at hg;exact hT hg.2
noncomputable def wqR (V W mode:Int):Nat×Int:=if W<0 then qvR (-V) (-W) mode else qvR V W mode
noncomputable def wtR (xs ys:List Nat) (mode:Int):Nat×Int :=
 if askE mode=0 then (if prE xs ys=0 then (bsd (wqR (wS xs ys) (vS ys) mode).2 (wqR (wS xs ys) (vS ys) mode).1,(wqR (wS xs ys) (vS ys) mode).2) else (0,prE xs ys)) else (0,askE mode)
theorem prE_ok {xs ys:List Nat}(h:prE xs ys=0):xs.length≤65536∧xs.length=ys.length∧plE xs=0∧plE ys=0∧xs≠[]:=by
 unfold prE at h
 by_cases h1:65536<xs.length∨65536<ys.length
 · rw [if_pos h1] at h;exact absurd h (by decide)
 · rw [if_neg h1] at h
   by_cases h2:xs.length≠ys.length
   · rw [if_pos h2] at h;exact absurd h (by decide)
   · rw [if_neg h2] at h
     by_cases h3:plE xs≠0
     · rw [if_pos h3] at h;exact absurd h h3
     · rw [if_neg h3] at h
       by_cases h4:plE ys≠0
       · rw [if_pos h4] at h;exact absurd h h4
       · rw [if_neg h4] at h
         by_cases h5:xs=[]
         · rw [if_pos h5] at h;exact absurd h (by decide)
         · exact ⟨by omega,by omega,by omega,by omega,h5⟩
theorem Weighted13 (xs ys:List Nat) (a b:Option Addr) (n m c d:Nat) (mode:Int) (w:World) (hn:n=xs.length) (hm:m=ys.length) (hF:Fs w.heap.size w a xs) (hG:Fs w.heap.size w b ys) (hW:W64 xs) (hV:W64 ys) (hT:Tab w) (z:Nat×Int) (hz:wtR xs ys mode=z) :
 Calls Tryz.prog 15 #[.slice a n c,.slice b m d,.int .i64 mode] w fun r w'=>r=.returned (.tuple #[.float .f64 z.1,.int .i64 z.2])∧Below w.heap.size w w':=by
 obtain ⟨X,E⟩:=z;simp only;have hmf:∀ (fn:Fn) (first cap:Array Value) (w:World),(Instr.makeFunc fn first cap).run Tryz.prog w=.ok (.func fn first cap) w:=fun _ _ _ _=>rfl
 have HA:=hid (fun u:World=>asked13 mode u)
 unfold wtR at hz;obtain ⟨ea,hea⟩:∃ e,askE mode=e:=⟨_,rfl⟩;rw [hea] at HA hz;obtain ⟨W,hWW⟩:∃ W,W=(w.alloc (Obj.cells #[.float .f64 0] 24)).alloc (Obj.cells #[.int .i64 0] 25):=⟨_,rfl⟩;obtain ⟨gx,hgx⟩:∃ g,g=w.heap.size:=⟨_,rfl⟩;obtain ⟨ge,hge⟩:∃ g,g=w.heap.size+1:=⟨_,rfl⟩;have HG:Aside (gx=w.heap.size∧ge=w.heap.size+1∧w.heap.size≤gx∧w.heap.size≤ge∧ge≠gx):=⟨hgx,hge,by omega,by omega,by omega⟩
 have B0:=two13 w;rw [←hWW,←hge] at B0;have B1:=qsd (seterr13 ea (show Bl W gx 24 [.float .f64 0] by rw [hgx];exact B0.1) B0.2.1 B0.2.2 HG.out.2.2.2.1 HG.out.2.2.2.2)
 have c1:=B0.2.1.cell 0 _ rfl;have f1:=B0.2.1.frozen 0;have HWW:=qsd hWW;have HX:=(qsd (ai hn (ai hm (ai hF (ai hG (ai hW (ai hV hT)))))));clear hn hm hF hG hW hV hT hWW hea hgx hge B0;go_enter_defers Tryz.func15,Tryz.ntmps15
 go_wp2_with fail
 rw [←HWW.out]
 try rw [show w.heap.size+1=ge by have:=HG.out;omega]
 try rw [show w.heap.size=gx by have:=HG.out;omega]
 clear HWW;refine (HA.out _).mono ?_;rintro r v ⟨rfl,hv⟩;rw [hv];clear hv v
 by_cases h0:ea=0
 · subst h0
   rw [if_pos rfl] at hz;obtain ⟨V,hV⟩:∃ V,V=W.setCell ⟨ge,0,none⟩ (.int .i64 0):=⟨_,rfl⟩;rw [←hV] at B1;have r1:=B1.out.2.1.cell 0 _ rfl;have HV:=qsd hV;obtain ⟨ep,hep⟩:∃ e,prE xs ys=e:=⟨_,rfl⟩;have HP:=hid (paired13 xs ys a b n m c d V HX.out.1 HX.out.2.1 ((HX.out.2.2.1.below B1.out.2.2).mono B1.out.2.2.size) ((HX.out.2.2.2.1.below B1.out.2.2).mono B1.out.2.2.size) HX.out.2.2.2.2.1 HX.out.2.2.2.2.2.1 ep hep);rw [hep] at hz;have HEP:=qsd hep;clear hV HA hep
   go_upto_region 3 with fail
   rw [←HV.out];clear HV c1 f1
   go_wp2_with fail
   refine HP.out.mono ?_;rintro r v ⟨rfl,hb⟩;obtain ⟨V2,hV2⟩:∃ V,V=v.setCell ⟨ge,0,none⟩ (.int .i64 ep):=⟨_,rfl⟩;have b1:=B1.out.1.below hb B1.out.1.lt;have b2:=B1.out.2.1.below hb B1.out.2.1.lt;have b3:=B1.out.2.2.trans (hb.mono B1.out.2.2.size);have B2:=qsd (seterr13 ep b1 b2 b3 HG.out.2.2.2.1 HG.out.2.2.2.2);rw [←hV2] at B2;have q1:=b2.cell 0 _ rfl;have q2:=b2.frozen 0;have HV2:=qsd hV2;clear hb HP B1 b1 b2 b3 hV2 r1
   by_cases he:ep=0
   · subst he
     rw [if_pos rfl] at hz;obtain ⟨hlen,hnm,hpx,hpy,hne0⟩:=prE_ok HEP.out;obtain rfl:n=m:=by rw [HX.out.1,HX.out.2.1];exact hnm
     have hTV:Tab V2:=HX.out.2.2.2.2.2.2.belows B2.out.2.2;have HPr:=hid (products13 xs ys a b n c d V2 HX.out.1 HX.out.2.1 ((HX.out.2.2.1.below B2.out.2.2).mono B2.out.2.2.size) ((HX.out.2.2.2.1.below B2.out.2.2).mono B2.out.2.2.size) HX.out.2.2.2.2.1 HX.out.2.2.2.2.2.1 hTV (by rw [HX.out.1];exact hlen))
     have HEx:=hid (fun (u:World) (hb:Below w.heap.size w u)=>exact13 ys b n d u HX.out.2.1 ((HX.out.2.2.2.1.below hb).mono hb.size) HX.out.2.2.2.2.2.1 (HX.out.2.2.2.2.2.2.belows hb) (by rw [HX.out.1];exact hlen))
     have Fv:=qsd (wS_fm HX.out.2.2.2.2.1 HX.out.2.2.2.2.2.1 hlen);have Fw:=qsd (vS_fm HX.out.2.2.2.2.2.1 (by omega))
     obtain ⟨kw,hkw,hwb⟩:=wS_bd HX.out.2.2.2.2.1 HX.out.2.2.2.2.2.1 hlen;obtain ⟨kv,hkv,hvb⟩:=vS_bd HX.out.2.2.2.2.2.1 (by omega)
     obtain ⟨Vs,hVs⟩:∃ V,wS xs ys=V:=⟨_,rfl⟩;obtain ⟨Ws,hWs⟩:∃ V,vS ys=V:=⟨_,rfl⟩;rw [hVs] at HPr Fv hwb hz;rw [hWs] at HEx Fw hvb hz;obtain ⟨g1,g2,g3⟩:=sgn_ex kv (by omega) hvb
     have n1:=ex_neg kw (by omega) hwb
     have n2:=ex_neg kv (by omega) hvb
     have Fv':=qsd (ex_fm (-Vs) kw (by omega) (by rw [Int.natAbs_neg];exact hwb))
     have Fw':=qsd (ex_fm (-Ws) kv (by omega) (by rw [Int.natAbs_neg];exact hvb))
     obtain ⟨⟨xl,el⟩,hl⟩:∃ z,wqR Vs Ws mode=z:=⟨_,rfl⟩;rw [hl] at hz;have hz1:(bsd el xl,el)=(X,E):=hz;have HXE:=qsd (Prod.mk.inj hz1)
     have HR0:∀ (o1 o2:Option (Bool×Nat×Int)) (z:Nat×Int),Fm o1→Fm o2→quoR rndS ⟨dN o1,.bool false,dX o1,dE o1,dN o2,.bool false,dX o2,dE o2⟩ mode=z→∀ (u:World) (p q:Option Addr) (cp cq:Nat),Tab u→Nt 0 u (.slice p (ws (dX o1)).length cp) (dX o1)→Nt 0 u (.slice q (ws (dX o2)).length cq) (dX o2)→Calls Tryz.prog 46 #[.agg #[.bool (dN o1),.slice p (ws (dX o1)).length cp,.int .i64 (dE o1),.bool (dN o2),.slice q (ws (dX o2)).length cq,.int .i64 (dE o2)],.int .i64 mode] u fun r w'=>r=.returned (.tuple #[.float .f64 z.1,.int .i64 z.2])∧Below u.heap.size u w':=fun o1 o2 z F1 F2 hq u p q cp cq hT n1 n2=>by
      have:=Quot11 (w:=u) (n:=dN o1) (m:=dN o2) (X:=dX o1) (Y:=dX o2) (e:=dE o1) (f:=dE o2) mode ⟨n1.av (Nat.le_trans F1.len (by decide)),n2.av (Nat.le_trans F2.len (by decide)),F1.rng,F2.rng⟩ hT
      rw [show quoR rndS ⟨dN o1,.slice p (ws (dX o1)).length cp,dX o1,dE o1,dN o2,.slice q (ws (dX o2)).length cq,dX o2,dE o2⟩ mode=z from hq] at this
      exact this
     have HNg0:∀ (o o':Option (Bool×Nat×Int)),Fm o→mkS (!dN o) (dX o) (dE o)=o'→∀ (u:World) (p:Option Addr) (cp:Nat),Tab u→Nt 0 u (.slice p (ws (dX o)).length cp) (dX o)→Calls Tryz.prog 45 #[.agg #[.bool (dN o),.slice p (ws (dX o)).length cp,.int .i64 (dE o)]] u fun r u'=>(∃ v,r=.returned (.agg #[.bool (dN o'),v,.int .i64 (dE o')])∧Nt u.heap.size u' v (dX o'))∧Below u.heap.size u u':=fun o o' F hm u p cp hT n1=>by
      have:=Neg_any (F.a12 n1) hT (dN o) (dE o) F.rng.1 F.rng.2;rw [val_ws,hm] at this;exact this
     have HS:Hid (∀ (u:World) (p:Option Addr) (q:Nat),Nt 0 u (.slice p (ws (dX (exV Ws))).length q) (dX (exV Ws))→Calls Tryz.prog 44 #[.agg #[.bool (dN (exV Ws)),.slice p (ws (dX (exV Ws))).length q,.int .i64 (dE (exV Ws))]] u fun r u'=>r=.returned (.int .i64 (sgn (dN (exV Ws)) (val (ws (dX (exV Ws))))))∧Below u.heap.size u u'):=fun u p q hN=>Sign_any3 (Fw.out.a12 hN) _ _
     have HNv:=hid (HNg0 _ _ Fv.out n1);have HNw:=hid (HNg0 _ _ Fw.out n2);have HR1:Hid (Ws<0→_):=fun hs=>HR0 (exV (-Vs)) (exV (-Ws)) (xl,el) Fv'.out Fw'.out (by rw [←hl];unfold wqR;rw [if_pos hs];rfl)
     have HR2:Hid (¬ Ws<0→_):=fun hs=>HR0 (exV Vs) (exV Ws) (xl,el) Fv.out Fw.out (by rw [←hl];unfold wqR;rw [if_neg hs];rfl)
     obtain ⟨ov,hov⟩:∃ o,exV Vs=o:=⟨_,rfl⟩;obtain ⟨ow,how⟩:∃ o,exV Ws=o:=⟨_,rfl⟩;obtain ⟨ov',hov'⟩:∃ o,exV (-Vs)=o:=⟨_,rfl⟩;obtain ⟨ow',how'⟩:∃ o,exV (-Ws)=o:=⟨_,rfl⟩;rw [hov] at HPr Fv HNv HR2;rw [how] at HEx Fw HNw HR2 HS g3;rw [hov'] at Fv' HNv HR1;rw [how'] at Fw' HNw HR1;obtain ⟨sg,hsg⟩:∃ s,sgn (dN ow) (val (ws (dX ow)))=s:=⟨_,rfl⟩;rw [hsg] at HS g3;have HG3:=qsd g3;have HTV:=qsd hTV;simp only at HR1 HR2;clear hlen hnm hpx hpy hne0 hwb hvb hkw hkv g1 g2 g3 n1 n2 hz hz1 hl HR0 HNg0 hov how hov' how' hsg hVs hWs HEP hTV kw kv;have r1:=B2.out.2.1.cell 0 _ rfl
     go_upto_region 5 with fail
     rw [←HV2.out];clear HV2 q1 q2
     go_wp2_with fail
     refine HPr.out.mono ?_;rintro r u1 ⟨v1,rfl,hN1,hb1⟩;obtain ⟨p1,k1,rfl,hN1⟩:=Lo.shape Fv.out hN1;have B3:Aside (Bl u1 gx 24 [.float .f64 0]∧Bl u1 ge 25 [.int .i64 0]∧Below w.heap.size w u1∧Nt 0 u1 (.slice p1 (ws (dX ov)).length k1) (dX ov)):=⟨B2.out.1.below hb1 B2.out.1.lt,B2.out.2.1.below hb1 B2.out.2.1.lt,B2.out.2.2.trans (hb1.mono B2.out.2.2.size),hN1⟩;clear hb1 hN1 HPr B2 r1;have CE:=hid (HEx.out u1 B3.out.2.2.1);clear HEx
     go_wp2_with fail
     refine CE.out.mono ?_;rintro r u2 ⟨v2,rfl,hN2,hb2⟩;obtain ⟨p2,k2,rfl,hN2⟩:=Lo.shape Fw.out hN2;obtain ⟨U,hU⟩:∃ U,U=u2.alloc (Obj.cells #[.bool (dN ov),.slice p1 (ws (dX ov)).length k1,.int .i64 (dE ov),.bool (dN ow),.slice p2 (ws (dX ow)).length k2,.int .i64 (dE ow)] 71):=⟨_,rfl⟩;obtain ⟨gr,hgr⟩:∃ g,u2.heap.size=g:=⟨_,rfl⟩
     have B4:Aside (Bl U gr 71 [.bool (dN ov),.slice p1 (ws (dX ov)).length k1,.int .i64 (dE ov),.bool (dN ow),.slice p2 (ws (dX ow)).length k2,.int .i64 (dE ow)]∧Bl U gx 24 [.float .f64 0]∧Bl U ge 25 [.int .i64 0]∧Below w.heap.size w U∧Tab U∧Nt 0 U (.slice p1 (ws (dX ov)).length k1) (dX ov)∧Nt 0 U (.slice p2 (ws (dX ow)).length k2) (dX ow)):=by
      have hb3:=B3.out.2.2.1.trans (hb2.mono B3.out.2.2.1.size);have hbU:Below u2.heap.size u2 U:=by rw [hU];exact below_alloc _ _
      have hbw:Below w.heap.size w U:=hb3.trans (hbU.mono hb3.size);refine ⟨by rw [hU,←hgr];exact Bl.new _ 71 [_,_,_,_,_,_],?_,?_,hbw,HX.out.2.2.2.2.2.2.belows hbw,(B3.out.2.2.2.below hb2).below hbU,hN2.below hbU⟩
      · exact (B3.out.1.below hb2 B3.out.1.lt).below hbU (by have:=B3.out.1.lt;have:=hb2.size;omega)
      · exact (B3.out.2.1.below hb2 B3.out.2.1.lt).below hbU (by have:=B3.out.2.1.lt;have:=hb2.size;omega)
     have HU:=qsd hU;have HGR:=qsd hgr;have HGR2:Aside (w.heap.size≤gr):=by have h1:=B3.out.2.2.1.size;have h2:=hb2.size;rw [Aside,←hgr];omega
     clear hb2 hN2 CE B3 hU hgr;have s3:=B4.out.1.cell 3 _ rfl;have s4:=B4.out.1.cell 4 _ rfl;have s5:=B4.out.1.cell 5 _ rfl
     go_upto_region 7 with fail
     rw [←HU.out,HGR.out];clear HU HGR;have CS:=hid (HS.out U p2 k2 B4.out.2.2.2.2.2.2);clear HS
     go_wp2_with fail
     refine CS.out.mono ?_;rintro r u3 ⟨rfl,hb3⟩
     have B5:Aside (Bl u3 gr 71 [.bool (dN ov),.slice p1 (ws (dX ov)).length k1,.int .i64 (dE ov),.bool (dN ow),.slice p2 (ws (dX ow)).length k2,.int .i64 (dE ow)]∧Bl u3 gx 24 [.float .f64 0]∧Bl u3 ge 25 [.int .i64 0]∧Below w.heap.size w u3∧Tab u3∧Nt 0 u3 (.slice p1 (ws (dX ov)).length k1) (dX ov)∧Nt 0 u3 (.slice p2 (ws (dX ow)).length k2) (dX ow)) :=
      ⟨B4.out.1.below hb3 B4.out.1.lt,B4.out.2.1.below hb3 B4.out.2.1.lt,B4.out.2.2.1.below hb3 B4.out.2.2.1.lt,B4.out.2.2.2.1.trans (hb3.mono B4.out.2.2.2.1.size),B4.out.2.2.2.2.1.belows hb3,B4.out.2.2.2.2.2.1.below hb3,B4.out.2.2.2.2.2.2.below hb3⟩
     clear hb3 CS B4 s3 s4 s5
     by_cases hs:Ws<0
     · have HR:=hid (HR1.out hs)
       have d5:decide (sg<0)=true:=decide_eq_true (HG3.out.1 hs);clear HR1 HR2
       go_upto_region 8 with fail
       refine calm13 ?_;have hdr:=(Below.refl u3.heap.size u3).drew;have BB:=(qsd (ai B5.out.1.drew (ai B5.out.2.1.drew (ai B5.out.2.2.1.drew (ai (B5.out.2.2.2.1.trans (hdr.mono B5.out.2.2.2.1.size)) (ai (B5.out.2.2.2.2.1.belows hdr) (ai (B5.out.2.2.2.2.2.1.below hdr) (B5.out.2.2.2.2.2.2.below hdr))))))));clear hdr B5;have s0:=BB.out.1.cell 0 _ rfl;have s1:=BB.out.1.cell 1 _ rfl;have s2:=BB.out.1.cell 2 _ rfl;have s3:=BB.out.1.cell 3 _ rfl;have s4:=BB.out.1.cell 4 _ rfl;have s5:=BB.out.1.cell 5 _ rfl;have y0:=BB.out.1.frozen 0;have y1:=BB.out.1.frozen 1;have y2:=BB.out.1.frozen 2;have y3:=BB.out.1.frozen 3;have y4:=BB.out.1.frozen 4;have y5:=BB.out.1.frozen 5
       go_region_with (first
        | (go_at_call 45
           with_reducible refine (HNv.out _ p1 k1 BB.out.2.2.2.2.1 BB.out.2.2.2.2.2.1).mono ?_
           rintro r v ⟨⟨q,rfl,hN⟩,hb⟩;obtain ⟨p3,k3,rfl,hN0⟩:=Lo.shape Fv'.out hN;have BB:=qsd (ai (BB.out.1.below hb BB.out.1.lt) (ai (BB.out.2.1.below hb BB.out.2.1.lt) (ai (BB.out.2.2.1.below hb BB.out.2.2.1.lt) (ai (BB.out.2.2.2.1.trans (hb.mono BB.out.2.2.2.1.size)) (ai (BB.out.2.2.2.2.1.belows hb) (ai (BB.out.2.2.2.2.2.1.below hb) (BB.out.2.2.2.2.2.2.below hb)))))));have Q2:=qsd hN0;have s0:=BB.out.1.cell 0 _ rfl;have s1:=BB.out.1.cell 1 _ rfl;have s2:=BB.out.1.cell 2 _ rfl;have s3:=BB.out.1.cell 3 _ rfl;have s4:=BB.out.1.cell 4 _ rfl;have s5:=BB.out.1.cell 5 _ rfl;clear hb hN hN0)
        | (go_at_call 45
           with_reducible refine (HNw.out _ p2 k2 BB.out.2.2.2.2.1 BB.out.2.2.2.2.2.2).mono ?_
           rintro r v ⟨⟨q,rfl,hN⟩,hb⟩;obtain ⟨p4,k4,rfl,hN0⟩:=Lo.shape Fw'.out hN;have BB:=qsd (ai (BB.out.1.below hb BB.out.1.lt) (ai (BB.out.2.1.below hb BB.out.2.1.lt) (ai (BB.out.2.2.1.below hb BB.out.2.2.1.lt) (ai (BB.out.2.2.2.1.trans (hb.mono BB.out.2.2.2.1.size)) (ai (BB.out.2.2.2.2.1.belows hb) (ai (Q2.out.below hb) hN0))))));have s0:=BB.out.1.cell 0 _ rfl;have s1:=BB.out.1.cell 1 _ rfl;have s2:=BB.out.1.cell 2 _ rfl;have s3:=BB.out.1.cell 3 _ rfl;have s4:=BB.out.1.cell 4 _ rfl;have s5:=BB.out.1.cell 5 _ rfl;have y0:=BB.out.1.frozen 0;have y1:=BB.out.1.frozen 1;have y2:=BB.out.1.frozen 2;have y3:=BB.out.1.frozen 3;have y4:=BB.out.1.frozen 4;have y5:=BB.out.1.frozen 5;clear hb hN hN0))
       all_goals
        clear HNv HNw Q2 s0 s1 s2 s3 s4 s5 y0 y1 y2 y3 y4 y5;obtain ⟨Z,hZ⟩:∃ Z,Z=(((((v.setCell ⟨gr,0,none⟩ (.bool (dN ov'))).setCell ⟨gr,1,none⟩ (.slice p3 (ws (dX ov')).length k3)).setCell ⟨gr,2,none⟩ (.int .i64 (dE ov'))).setCell ⟨gr,3,none⟩ (.bool (dN ow'))).setCell ⟨gr,4,none⟩ (.slice p4 (ws (dX ow')).length k4)).setCell ⟨gr,5,none⟩ (.int .i64 (dE ow')):=⟨_,rfl⟩
        have B7:Aside (Bl Z gr 71 [.bool (dN ov'),.slice p3 (ws (dX ov')).length k3,.int .i64 (dE ov'),.bool (dN ow'),.slice p4 (ws (dX ow')).length k4,.int .i64 (dE ow')]∧Bl Z gx 24 [.float .f64 0]∧Bl Z ge 25 [.int .i64 0]∧Below w.heap.size w Z∧Tab Z∧Nt 0 Z (.slice p3 (ws (dX ov')).length k3) (dX ov')∧Nt 0 Z (.slice p4 (ws (dX ow')).length k4) (dX ow')):=by
         have bz:But gr v Z:=by rw [hZ];exact Ps.But.set6 (But.refl _ _) _ _ _ _ _ _
         have hgx:gx≠gr:=by rintro rfl;have:=BB.out.2.1.symm.trans BB.out.1;simp at this
         have hge:ge≠gr:=by rintro rfl;have:=BB.out.2.2.1.symm.trans BB.out.1;simp at this
         have hgl:w.heap.size≤gr:=HGR2.out;have hbz:=But.below BB.out.2.2.2.1 bz BB.out.2.2.2.1.size hgl;refine ⟨by rw [hZ];exact (((((BB.out.1.set 0 _).set 1 _).set 2 _).set 3 _).set 4 _).set 5 _,BB.out.2.1.but bz hgx,BB.out.2.2.1.but bz hge,hbz,HX.out.2.2.2.2.2.2.belows hbz,BB.out.2.2.2.2.2.1.off13 BB.out.1 (by decide) bz,BB.out.2.2.2.2.2.2.off13 BB.out.1 (by decide) bz⟩
        rw [←hZ];clear hZ BB;have s0:=B7.out.1.cell 0 _ rfl;have s1:=B7.out.1.cell 1 _ rfl;have s2:=B7.out.1.cell 2 _ rfl;have s3:=B7.out.1.cell 3 _ rfl;have s4:=B7.out.1.cell 4 _ rfl;have s5:=B7.out.1.cell 5 _ rfl;have C:=hid (HR.out _ p3 p4 k3 k4 B7.out.2.2.2.2.1 B7.out.2.2.2.2.2.1 B7.out.2.2.2.2.2.2)
        go_wp2_with fail
        refine C.out.mono ?_;rintro r v ⟨rfl,hb⟩
        have B6:Aside (Bl v gx 24 [.float .f64 0]∧Bl v ge 25 [.int .i64 0]∧Below w.heap.size w v) :=
         ⟨B7.out.2.1.below hb B7.out.2.1.lt,B7.out.2.2.1.below hb B7.out.2.2.1.lt,B7.out.2.2.2.1.trans (hb.mono B7.out.2.2.2.1.size)⟩
        have t1:=B6.out.1.cell 0 _ rfl;have t2:=B6.out.1.frozen 0;have t3:=B6.out.2.1.cell 0 _ rfl;have t4:=B6.out.2.1.frozen 0;have hne1:ge≠gx:=HG.out.2.2.2.2;have hne2:gx≠ge:=fun h=>HG.out.2.2.2.2 h.symm
        clear hb B7 C HR s0 s1 s2 s3 s4 s5;go_wp2;refine finish13 Tryz.results15 Weighted1_d B6.out.1 B6.out.2.1 B6.out.2.2 HG.out.2.2.1 HG.out.2.2.2.1 HG.out.2.2.2.2 HXE.out.1 HXE.out.2 (fun _=>by simp [go_sem]) ?_ ?_ <;> rfl
     · have HR:=hid (HR2.out (by omega))
       have d5:decide (sg<0)=false:=decide_eq_false (fun h=>hs (HG3.out.2 h))
       clear HR1 HR2 HNv HNw;have s0:=B5.out.1.cell 0 _ rfl;have s1:=B5.out.1.cell 1 _ rfl;have s2:=B5.out.1.cell 2 _ rfl;have s3:=B5.out.1.cell 3 _ rfl;have s4:=B5.out.1.cell 4 _ rfl;have s5:=B5.out.1.cell 5 _ rfl;have C:=hid (HR.out _ p1 p2 k1 k2 B5.out.2.2.2.2.1 B5.out.2.2.2.2.2.1 B5.out.2.2.2.2.2.2)
       go_wp2_with fail
       refine C.out.mono ?_;rintro r v ⟨rfl,hb⟩
       have B6:Aside (Bl v gx 24 [.float .f64 0]∧Bl v ge 25 [.int .i64 0]∧Below w.heap.size w v) :=
        ⟨B5.out.2.1.below hb B5.out.2.1.lt,B5.out.2.2.1.below hb B5.out.2.2.1.lt,B5.out.2.2.2.1.trans (hb.mono B5.out.2.2.2.1.size)⟩
       have t1:=B6.out.1.cell 0 _ rfl;have t2:=B6.out.1.frozen 0;have t3:=B6.out.2.1.cell 0 _ rfl;have t4:=B6.out.2.1.frozen 0;have hne1:ge≠gx:=HG.out.2.2.2.2;have hne2:gx≠ge:=fun h=>HG.out.2.2.2.2 h.symm
       clear hb B5 C HR s0 s1 s2 s3 s4 s5;go_wp2;refine finish13 Tryz.results15 Weighted1_d B6.out.1 B6.out.2.1 B6.out.2.2 HG.out.2.2.1 HG.out.2.2.2.1 HG.out.2.2.2.2 HXE.out.1 HXE.out.2 (fun _=>by simp [go_sem]) ?_ ?_ <;> rfl
   · rw [if_neg he] at hz
     have HXE:=qsd (Prod.mk.inj hz);have h1:(ep==0)=false:=by simp [he]
     have r1:=B2.out.2.1.cell 0 _ rfl;clear hz HEP
     go_upto_region 5 with fail
     rw [←HV2.out];clear HV2 q1 q2;go_wp2;refine early13 Tryz.results15 Weighted1_d B2.out.1 B2.out.2.1 B2.out.2.2 HG.out.2.2.1 HG.out.2.2.2.2 ((bsd_zero _).trans HXE.out.1) HXE.out.2 (by simp [go_sem]) ?_ ?_ <;> rfl
 · rw [if_neg h0] at hz
   have HXE:=qsd (Prod.mk.inj hz);have h1:(ea==0)=false:=by simp [h0]
   clear hz HA;go_wp2;refine early13 Tryz.results15 Weighted1_d B1.out.1 B1.out.2.1 B1.out.2.2 HG.out.2.2.1 HG.out.2.2.2.2 ((bsd_zero _).trans HXE.out.1) HXE.out.2 (by simp [go_sem]) ?_ ?_ <;> rfl
end
section
open Go.RowKit J
open Go.Proofs.YtjldfhecnaiinaaGreatDoor.B (f64bits f64frombits)
attribute [local go_sem] st_float f64bits f64frombits
theorem own13 {V W:Int}(hV:V≠0) (hW:0<W) (k:Nat) (hk:k≤90000) (hb:V.natAbs<2^k) (hb2:W.natAbs<2^k) (L:Nat) (hL:L<9218868437227405312) (e:∀ j,j=1074→V.natAbs*2^j=vK L*W.natAbs) (mode:Int) (hm0:0≤mode) (hm4:mode≤4) :
 qvR V W mode=(L+(if V<0 then 9223372036854775808 else 0),0):=by
 obtain ⟨K,t,m,hL1,hR⟩:=quot_lies hV hW k hk hb hb2;rw [hR mode hm0 hm4,rK_own mode _ (hL1 1074 rfl) L hL (e 1074 rfl)]
theorem lenW_bd (N:Nat) (h:N≤65536) (k:Nat) (hk:k=2148):∃ j:Nat,j=4238∧((N:Int)*((2^k:Nat):Int)).natAbs<2^j:=by
 obtain ⟨j,hj⟩:∃ j:Nat,j=4238:=⟨_,rfl⟩;refine ⟨j,hj,?_⟩;rw [←Int.natCast_mul,Int.natAbs_natCast];have h1:N*2^k<2^17*2^k:=Nat.mul_lt_mul_of_pos_right (by omega) (Nat.two_pow_pos k)
 rw [←Nat.pow_add] at h1;exact Nat.lt_of_lt_of_le h1 (Nat.pow_le_pow_right (by decide) (by omega))
theorem lev_own {xs:List Nat}{s:Sp}{mode:Int}(hW:W64 xs) (hl:xs.length≤65536) (hne:xs≠[]) (hV:vS xs≠0) (hm0:0≤mode) (hm4:mode≤4) (L:Nat) (hL:L<9218868437227405312) (e:∀ j k,j=1074→k=2148→(vS xs).natAbs*2^j=vK L*(xs.length*2^k)) :
 levR xs s mode=(L+(if vS xs<0 then 9223372036854775808 else 0),0):=by
 unfold levR;obtain ⟨k,hk⟩:∃ k:Nat,k=2148:=⟨_,rfl⟩;obtain ⟨j,hj,hb⟩:=vS_bd hW hl;obtain ⟨j2,hj2,hb2⟩:=lenW_bd xs.length hl k hk;rw [if_neg hne,if_neg hV,qn_qv _ _ _ k hk];have hp:0<xs.length:=List.length_pos_iff.2 hne;have hpk:=Nat.two_pow_pos k;refine own13 hV ?_ j (by omega) hb (by rw [hj,←hj2];exact hb2) L hL ?_ mode hm0 hm4
 · rw [←Int.natCast_mul];have:=Nat.mul_pos hp hpk;omega
 · intro i hi
   rw [←Int.natCast_mul,Int.natAbs_natCast];exact e i k hi hk
theorem mean126:meanR [4607182418800017408,4611686018427387904,4618441417868443648] 0 0 0=(4613937818241073152,0):=by
 have e1:askE 0=0:=by decide
 have e2:sfE 0 0 [4607182418800017408,4611686018427387904,4618441417868443648]=0:=by decide +kernel
 have e3:vd (snd (sS [4607182418800017408,4611686018427387904,4618441417868443648]).n (sS [4607182418800017408,4611686018427387904,4618441417868443648]).u (sS [4607182418800017408,4611686018427387904,4618441417868443648]).d (sS [4607182418800017408,4611686018427387904,4618441417868443648]).m (sS [4607182418800017408,4611686018427387904,4618441417868443648]).p (sS [4607182418800017408,4611686018427387904,4618441417868443648]).a&&may 0 0) (sS [4607182418800017408,4611686018427387904,4618441417868443648]).n (sS [4607182418800017408,4611686018427387904,4618441417868443648]).u (sS [4607182418800017408,4611686018427387904,4618441417868443648]).d 0 0=(0,false):=by decide +kernel
 have e4:Ps.fin [4607182418800017408,4611686018427387904,4618441417868443648]=[4607182418800017408,4611686018427387904,4618441417868443648]:=by decide +kernel
 have hp:decide (0<vS [4607182418800017408,4611686018427387904,4618441417868443648])=true:=by decide +kernel
 have hp:=of_decide_eq_true hp;have e5:=lev_own (xs:=[4607182418800017408,4611686018427387904,4618441417868443648]) (s:=sS [4607182418800017408,4611686018427387904,4618441417868443648]) (mode:=0) (by unfold W64;decide) (by decide) (by decide) (by omega) (by decide) (by decide) 4613937818241073152 (by decide) (fun j k hj hk=>by subst hj hk;decide +kernel)
 unfold meanR;rw [e1,if_pos rfl,e2,if_pos rfl,e3,if_neg (by decide),e4,e5,if_neg (by omega)]
 rfl
theorem mid12:midR 4607182418800017408 4611686018427387904 0=(4609434218613702656,0):=by
 have e1:askE 0=0:=by decide
 have e2:plE [4607182418800017408,4611686018427387904]=0:=by decide +kernel
 have hp:decide (0<vS [4607182418800017408,4611686018427387904])=true:=by decide +kernel
 have hp:=of_decide_eq_true hp;have e5:=lev_own (xs:=[4607182418800017408,4611686018427387904]) (s:=sS [4607182418800017408,4611686018427387904]) (mode:=0) (by unfold W64;decide) (by decide) (by decide) (by omega) (by decide) (by decide) 4609434218613702656 (by decide) (fun j k hj hk=>by subst hj hk;decide +kernel)
 unfold midR plnR;rw [e1,if_pos rfl,e2,if_pos rfl,e5,if_neg (by omega)]
 rfl
theorem wt12:wtR [4607182418800017408,4611686018427387904] [4607182418800017408,4613937818241073152] 0=(4610560118520545280,0):=by
 have e1:askE 0=0:=by decide
 have e2:prE [4607182418800017408,4611686018427387904] [4607182418800017408,4613937818241073152]=0:=by decide +kernel
 have hp:decide (0<wS [4607182418800017408,4611686018427387904] [4607182418800017408,4613937818241073152])=true:=by decide +kernel
 have hp:=of_decide_eq_true hp;have hq:decide (0<vS [4607182418800017408,4613937818241073152])=true:=by decide +kernel
 have hq:=of_decide_eq_true hq;have w1:W64 [4607182418800017408,4611686018427387904]:=by unfold W64;decide
 have w2:W64 [4607182418800017408,4613937818241073152]:=by unfold W64;decide
 obtain ⟨k1,hk1,hb1⟩:=wS_bd w1 w2 (by decide)
 obtain ⟨k2,hk2,hb2⟩:=vS_bd w2 (by decide)
 have e5:=own13 (V:=wS [4607182418800017408,4611686018427387904] [4607182418800017408,4613937818241073152]) (W:=vS [4607182418800017408,4613937818241073152]) (by omega) hq k1 (by omega) hb1 (by rw [hk1,←hk2];exact hb2) 4610560118520545280 (by decide) (fun j hj=>by subst hj;decide +kernel) 0 (by decide) (by decide)
 unfold wtR wqR;rw [e1,if_pos rfl,e2,if_pos rfl,if_neg (by omega),e5,if_neg (by omega)]
 rfl
theorem lit13 (w:World) (xs:List Nat) (g:Nat) (hg:g=w.heap.size):Fs (w.alloc (Obj.cells (xs.map fun x=>Value.float .f64 x).toArray 24)).heap.size (w.alloc (Obj.cells (xs.map fun x=>Value.float .f64 x).toArray 24)) (some ⟨g,0,none⟩) xs:=by
 intro _;refine ⟨g,0,by simp;omega,rfl,fun i hi=>?_⟩
 have hB:=Bl.new w 24 (xs.map fun x=>Value.float .f64 x)
 rw [hg];refine (hB.cell (0+i) (.float .f64 (xs.getD i 0)) ?_);rw [Nat.zero_add,List.getElem?_map,List.getD_eq_getElem?_getD,List.getElem?_eq_getElem hi]
 rfl
theorem live13 (w:World) (hT:Tab w):Calls Tryz.prog 9 #[] w fun r w'=>r=.returned (.bool true)∧Below w.heap.size w w':=by
 have o3:(FloatKind.f64.format.order 4613937818241073152 4613937818241073152==some .eq)=true:=by decide +kernel
 have o175:(FloatKind.f64.format.order 4610560118520545280 4610560118520545280==some .eq)=true:=by decide +kernel
 have o15:(FloatKind.f64.format.order 4609434218613702656 4609434218613702656==some .eq)=true:=by decide +kernel
 obtain ⟨W1,hW1⟩:∃ W,W=w.alloc (Obj.cells #[.float .f64 4607182418800017408,.float .f64 4611686018427387904,.float .f64 4618441417868443648] 24):=⟨_,rfl⟩
 have B1:Aside (Below w.heap.size w W1∧Fs W1.heap.size W1 (some ⟨w.heap.size,0,none⟩) [4607182418800017408,4611686018427387904,4618441417868443648]):=by
  rw [hW1];exact ⟨bel_alloc _ _,lit13 w [_,_,_] _ rfl⟩
 have HT:=qsd hT;have C1:=hid (Mean13 [4607182418800017408,4611686018427387904,4618441417868443648] (some ⟨w.heap.size,0,none⟩) 3 3 0 0 0 W1 rfl B1.out.2 (by unfold W64;decide) (hT.belows B1.out.1) (by decide) _ mean126)
 have HW1:=qsd hW1;clear hW1 hT;go_enter Tryz.func9,Tryz.ntmps9
 go_wp2_with fail
 rw [←HW1.out];clear HW1;refine C1.out.mono ?_;rintro r u1 ⟨rfl,hb1⟩;have B2:=qsd (B1.out.1.trans (hb1.mono B1.out.1.size));clear hb1 C1 B1;obtain ⟨W2,hW2⟩:∃ W,W=(u1.alloc (Obj.cells #[.float .f64 4607182418800017408,.float .f64 4611686018427387904] 24)).alloc (Obj.cells #[.float .f64 4607182418800017408,.float .f64 4613937818241073152] 24):=⟨_,rfl⟩
 have B3:Aside (Below w.heap.size w W2∧Fs W2.heap.size W2 (some ⟨u1.heap.size,0,none⟩) [4607182418800017408,4611686018427387904]∧Fs W2.heap.size W2 (some ⟨u1.heap.size+1,0,none⟩) [4607182418800017408,4613937818241073152]):=by
  rw [hW2];exact ⟨(B2.out.trans ((bel_alloc _ _).mono B2.out.size)).trans ((bel_alloc _ _).mono (Nat.le_trans B2.out.size (by simp))),((lit13 u1 [_,_] _ rfl).below (bel_alloc _ _)).mono (by simp),lit13 _ [_,_] _ (by simp)⟩
 have C2:=hid (Weighted13 [4607182418800017408,4611686018427387904] [4607182418800017408,4613937818241073152] (some ⟨u1.heap.size,0,none⟩) (some ⟨u1.heap.size+1,0,none⟩) 2 2 2 2 0 W2 rfl rfl B3.out.2.1 B3.out.2.2 (by unfold W64;decide) (by unfold W64;decide) (HT.out.belows B3.out.1) _ wt12)
 have HW2:=qsd hW2;clear hW2
 go_wp2_with fail
 rw [←HW2.out];clear HW2;refine C2.out.mono ?_;rintro r u2 ⟨rfl,hb2⟩;have B4:=qsd (B3.out.1.trans (hb2.mono B3.out.1.size));clear hb2 C2 B3 B2;have C3:=hid (Middle13 4607182418800017408 4611686018427387904 (by decide) (by decide) 0 u2 (HT.out.belows B4.out) _ mid12)
 go_wp2_with fail
 refine C3.out.mono ?_;rintro r u3 ⟨rfl,hb3⟩;have B5:=qsd (B4.out.trans (hb3.mono B4.out.size));clear hb3 C3 B4;simp only;go_wp2;go_ret;exact ⟨rfl,B5.out⟩
theorem exact_law13 (x y:Nat) (w:World):Calls Tryz.prog 11 #[.float .f64 x,.float .f64 y] w fun r w'=>r=.returned (.bool (decide (x=y)))∧w'=w:=by
 go_enter Tryz.func11,Tryz.ntmps11;go_wp2;go_ret;refine ⟨congrArg (fun z=>Ending.returned (Value.bool z)) ?_,rfl⟩
 first | rfl | (rw [Bool.eq_iff_iff];simp;done) | (rw [Bool.eq_iff_iff];simp;omega)
end
section
open Go.RowKit J
attribute [local go_sem] st_float
theorem ask_ok {mode:Int}(h:askE mode=0):0≤mode∧mode≤4:=by
 unfold askE at h
 by_cases h1:mode<0∨4<mode
 · rw [if_pos h1] at h;exact absurd h (by decide)
 · omega
end
section
open Go.RowKit J
attribute [local go_sem] st_float
theorem ask_no {mode:Int}(h:mode<0∨4<mode):askE mode=1:=if_pos h
theorem ask_yes {mode:Int}(h:¬ (mode<0∨4<mode)):askE mode=0:=if_neg h
end
section
open Go.RowKit J
attribute [local go_sem] st_float
theorem qo_case (ng:Bool) (Xn:Nat) (ex:Int) (N:Nat) (mode:Int) (hm:askE mode=0) (hN:0<N) (hN2:N≤1099511627776) :
 (mkS ng Xn ex=none→qoR ng Xn ex N mode=(0,2))∧(∀ n' X' e',mkS ng Xn ex=some (n',X',e')→qoR ng Xn ex N mode=quoR rndS ⟨n',.bool false,X',e',dN (mkS false N 0),.bool false,dX (mkS false N 0),dE (mkS false N 0)⟩ mode):=by
 obtain ⟨m0,m4⟩:=ask_ok hm;have FN:=int_fm N (by omega)
 have hsm:(mkS false N 0).isSome=true:=by
  obtain ⟨B,x,h⟩:=FN;obtain ⟨n,X,e,h1,_⟩:=h.ex;rw [h1];rfl
 have hre:=FN.re
 have hdn:dN (mkS false N 0)=false:=by
  unfold mkS;rw [if_neg (by omega)];split <;> rfl
 constructor
 · intro h0
   unfold qoR quoR
   have e:errL (oneI ⟨ng,.bool false,Xn,ex,dN (mkS false N 0),.bool false,dX (mkS false N 0),dE (mkS false N 0)⟩) 1=2:=by
    rw [errL_one]
    show errN Xn ng ex (dX (mkS false N 0)) (dN (mkS false N 0)) (dE (mkS false N 0))=2
    unfold errN;rw [h0,if_neg (by rw [hdn];unfold sgn;simp;split <;> omega)]
    rfl
   rw [if_neg (by omega),if_neg (by rw [e];decide),e]
 · intro n' X' e' h0
   have F:=mkS_frm h0;have hid':=mkS_idem F;unfold qoR quoR
   have e:errL (oneI ⟨ng,.bool false,Xn,ex,dN (mkS false N 0),.bool false,dX (mkS false N 0),dE (mkS false N 0)⟩) 1=errL (oneI ⟨n',.bool false,X',e',dN (mkS false N 0),.bool false,dX (mkS false N 0),dE (mkS false N 0)⟩) 1:=by
    rw [errL_one,errL_one]
    show errN Xn ng ex (dX (mkS false N 0)) (dN (mkS false N 0)) (dE (mkS false N 0))=errN X' n' e' (dX (mkS false N 0)) (dN (mkS false N 0)) (dE (mkS false N 0))
    unfold errN;rw [h0,hid']
   simp only;rw [e,h0,hid']
theorem quo_ok {n':Bool}{X':Nat}{e':Int}{N:Nat}{mode:Int}(F:Frm n' X' e') (hm:askE mode=0) (hN:0<N) (hN2:N≤1099511627776):(quoR rndS ⟨n',.bool false,X',e',dN (mkS false N 0),.bool false,dX (mkS false N 0),dE (mkS false N 0)⟩ mode).2=0:=by
 obtain ⟨m0,m4⟩:=ask_ok hm;have FN:=int_fm N (by omega)
 obtain ⟨m,Y,f,ho⟩:∃ m Y f,mkS false N 0=some (m,Y,f):=by
  obtain ⟨B,x,h⟩:=FN;obtain ⟨n,X,e,h1,_⟩:=h.ex;exact ⟨n,X,e,h1⟩
 have G:=mkS_frm ho
 have hYne:Y≠0:=by
  intro h;have hz:=zv_mkS ho 0 (.inr (by omega))
  unfold zv at hz;rw [h] at hz;simp [sg1] at hz;omega
 have hdm:m=false:=by
  have h2:=ho;unfold mkS at h2;rw [if_neg (by omega)] at h2
  split at h2
  · cases h2
  · simp only [Option.some.injEq,Prod.mk.injEq] at h2;exact h2.1.symm
 subst hdm;rw [ho]
 show (quoR rndS ⟨n',.bool false,X',e',false,.bool false,Y,f⟩ mode).2=0
 unfold quoR;rw [if_neg (by omega),if_pos (by rw [errL_one];show errN X' n' e' Y false f=0;unfold errN;rw [if_neg (by unfold sgn;simp;split <;> omega),mkS_idem F,mkS_idem G];simp [dX];omega)]
 simp only;rw [mkS_idem F,mkS_idem G]
 show (rndS (quoZ n' X' e' Y f) mode).2=0
 have hs:=quoZ_some n' X' e' Y f F.par hYne F.size G.size;obtain ⟨⟨a,b,c⟩,hq⟩:=Option.isSome_iff_exists.1 hs;rw [hq,rndS_form mode a b c m0 m4]
theorem rOf13 (ng:Bool) (a:Option Addr) (la ca:Nat) (zs:List Nat) (ex n mode:Int) (w:World) (hA:Arg w a la ca zs) (hla:la≤2000000) (he:-9223372036854775808≤ex∧ex≤9223372036854775807) (z:Nat×Int) (hz:ofR13 ng (val zs) ex n mode=z) :
 Calls Tryz.prog 22 #[.agg #[.bool ng,.slice a la ca,.int .i64 ex],.int .i64 n,.int .i64 mode] w fun r w'=>r=.returned (.tuple #[.float .f64 z.1,.int .i64 z.2])∧Below w.heap.size w w':=by
 obtain ⟨X,E⟩:=z;simp only;unfold ofR13 at hz;obtain ⟨W,hWW⟩:∃ W,W=w.alloc (Obj.cells #[.bool ng,.slice a la ca,.int .i64 ex] 41):=⟨_,rfl⟩;obtain ⟨gd,hgd⟩:∃ g,w.heap.size=g:=⟨_,rfl⟩;have B0:Aside (Below w.heap.size w W∧Bl W gd 41 [.bool ng,.slice a la ca,.int .i64 ex]):=by rw [hWW,←hgd];exact ⟨bel_alloc _ _,Bl.new w 41 [_,_,_]⟩
 have HWW:=(qsd (ai hWW hgd));have HNo1:=hid (fun u:World=>no13 1 u)
 have HM:=hid (fun (u:World) (hb:Below w.heap.size w u)=>rMade_any (hA.below hb) hla ng ex he.1 he.2)
 clear hWW hgd
 by_cases hbad:(mode<0∨4<mode)∨(n<1∨1099511627776<n)
 · have hXE:(0,1)=(X,E):=by
    rw [←hz]
    by_cases ha:mode<0∨4<mode
    · rw [ask_no ha,if_neg (by decide)]
    · rw [ask_yes ha,if_pos rfl]
      rcases hbad with h|h
      · exact absurd h ha
      · rw [if_pos h]
   have HXE:=qsd (Prod.mk.inj hXE);clear hz hXE hA hla he HM
   by_cases h1:mode<0
   · clear hbad
     go_enter Tryz.func22,Tryz.ntmps22
     go_upto_region 1 with fail
     rw [←HWW.out.1]
     go_wp2_with fail
     refine (HNo1.out _).mono ?_;rintro r u9 ⟨rfl,hu⟩;rw [hu];clear hu;go_wp2;exact bodyPost_ret (v:=.tuple #[.float .f64 0,.int .i64 1]) (by simp [results,Tryz.results22,go_sem]) rfl ⟨by rw [HXE.out.1,HXE.out.2],B0.out.1⟩
   · have d1:decide (mode<0)=false:=decide_eq_false h1
     by_cases h4:4<mode
     · clear hbad
       go_enter Tryz.func22,Tryz.ntmps22
       go_upto_region 1 with fail
       rw [←HWW.out.1]
       go_wp2_with fail
       refine (HNo1.out _).mono ?_;rintro r u9 ⟨rfl,hu⟩;rw [hu];clear hu;go_wp2;exact bodyPost_ret (v:=.tuple #[.float .f64 0,.int .i64 1]) (by simp [results,Tryz.results22,go_sem]) rfl ⟨by rw [HXE.out.1,HXE.out.2],B0.out.1⟩
     · have d4:decide (4<mode)=false:=decide_eq_false h4
       by_cases h5:n<1
       · have d5:decide (n<1)=true:=decide_eq_true h5
         clear hbad;go_enter Tryz.func22,Tryz.ntmps22
         go_upto_region 1 with fail
         rw [←HWW.out.1]
         go_wp2_with fail
         refine (HNo1.out _).mono ?_;rintro r u9 ⟨rfl,hu⟩;rw [hu];clear hu;go_wp2;exact bodyPost_ret (v:=.tuple #[.float .f64 0,.int .i64 1]) (by simp [results,Tryz.results22,go_sem]) rfl ⟨by rw [HXE.out.1,HXE.out.2],B0.out.1⟩
       · have d5:decide (n<1)=false:=decide_eq_false h5
         have d6:decide (1099511627776<n)=true:=decide_eq_true (by omega)
         clear hbad;go_enter Tryz.func22,Tryz.ntmps22
         go_upto_region 1 with fail
         rw [←HWW.out.1]
         go_wp2_with fail
         refine (HNo1.out _).mono ?_;rintro r u9 ⟨rfl,hu⟩;rw [hu];clear hu;go_wp2;exact bodyPost_ret (v:=.tuple #[.float .f64 0,.int .i64 1]) (by simp [results,Tryz.results22,go_sem]) rfl ⟨by rw [HXE.out.1,HXE.out.2],B0.out.1⟩
 · have d1:decide (mode<0)=false:=decide_eq_false (by omega)
   have d4:decide (4<mode)=false:=decide_eq_false (by omega)
   have d5:decide (n<1)=false:=decide_eq_false (by omega)
   have d6:decide (1099511627776<n)=false:=decide_eq_false (by omega)
   have hask:askE mode=0:=ask_yes (by omega)
   rw [hask,if_pos rfl,if_neg (by omega)] at hz
   obtain ⟨N,hN⟩:∃ N:Nat,n=(N:Int):=⟨n.toNat,by omega⟩
   subst hN;rw [Int.toNat_natCast] at hz;obtain ⟨c1,c2⟩:=qo_case ng (val zs) ex N mode hask (by omega) (by omega)
   have F1:=qsd (int_fm N (by omega))
   have HI:Hid (∀ u:World,Calls Tryz.prog 60 #[.int .i64 (N:Nat)] u fun r w'=>(∃ v,r=.returned (.agg #[.bool (dN (mkS false N 0)),v,.int .i64 (dE (mkS false N 0))])∧Nt u.heap.size w' v (dX (mkS false N 0)))∧Below u.heap.size u w'):=fun u=>by
    have:=rInt_any (N:Nat) u (by omega) (by omega)
    rw [decide_eq_false (by omega),Int.natAbs_natCast] at this
    exact this
   have p0:=B0.out.2.cell 0 _ rfl;have p1:=B0.out.2.cell 1 _ rfl;have p2:=B0.out.2.cell 2 _ rfl;have CM:=hid (HM.out W B0.out.1);have HNb:Aside (0<N∧N≤1099511627776):=⟨by omega,by omega⟩
   clear hbad hA hla he HM HNo1;obtain ⟨o,ho⟩:∃ o,mkS ng (val zs) ex=o:=⟨_,rfl⟩;rw [ho] at CM c1 c2;unfold FAns at CM
   cases o with
   | none =>
     rw [c1 rfl] at hz;have hz2:((0:Nat),(2:Int))=(X,E):=hz;have HXE:=qsd (Prod.mk.inj hz2);have HNo:=hid (fun u:World=>no13 2 u)
     clear hz hz2 c1 c2 HI F1 hask ho;go_enter Tryz.func22,Tryz.ntmps22
     go_upto_region 1 with fail
     rw [←HWW.out.1,HWW.out.2]
     go_wp2_with fail
     refine CM.out.mono ?_;rintro r u ⟨⟨v,rfl,hN⟩,hb⟩;obtain ⟨pa,qa,rfl,_⟩:=hN.arg (by show (ws 0).length≤_;rw [ws_zero];decide)
     have B1:=qsd (B0.out.1.trans (hb.mono B0.out.1.size));clear hb hN CM;simp only [Option.isSome]
     go_wp2_with fail
     refine (HNo.out _).mono ?_;rintro r u9 ⟨rfl,hu⟩;rw [hu];clear hu;go_wp2;exact bodyPost_ret (v:=.tuple #[.float .f64 0,.int .i64 2]) (by simp [results,Tryz.results22,go_sem]) rfl ⟨by rw [HXE.out.1,HXE.out.2],B1.out.trans ((bel_alloc _ _).mono B1.out.size)⟩
   | some q =>
     obtain ⟨n',X',e'⟩:=q;have F:=mkS_frm ho;have ok:=quo_ok F hask HNb.out.1 HNb.out.2;rw [c2 n' X' e' rfl,ok] at hz
     have hz2:quoR rndS ⟨n',.bool false,X',e',dN (mkS false N 0),.bool false,dX (mkS false N 0),dE (mkS false N 0)⟩ mode=(X,E):=by
      rw [←hz];exact Prod.ext rfl ok
     have Fo:Fm (some (n',X',e')):=by
      exact ⟨-1048576,_,fvO (mkS_idem F) rfl⟩
     obtain ⟨ov,hov⟩:∃ o:Option (Bool×Nat×Int),some (n',X',e')=o:=⟨_,rfl⟩;have FO:Aside (Fm ov):=by rw [←hov];exact Fo
     have HR:Hid (∀ (u:World) (p q:Option Addr) (cp cq:Nat),Nt 0 u (.slice p (ws (dX ov)).length cp) (dX ov)→Nt 0 u (.slice q (ws (dX (mkS false N 0))).length cq) (dX (mkS false N 0))→Calls Tryz.prog 52 #[.agg #[.bool (dN ov),.slice p (ws (dX ov)).length cp,.int .i64 (dE ov),.bool (dN (mkS false N 0)),.slice q (ws (dX (mkS false N 0))).length cq,.int .i64 (dE (mkS false N 0))],.int .i64 mode] u fun r w'=>r=.returned (.tuple #[.float .f64 X,.int .i64 E])∧Below u.heap.size u w'):=fun u p q cp cq n1 n2=>by
      have:=docQuot (w:=u) mode (FO.out.al13 n1) (F1.out.al13 n2) FO.out.rng (n:=dN ov) (m:=dN (mkS false N 0)) (f:=dE (mkS false N 0)) F1.out.rng;rw [show quoR rndS ⟨dN ov,.slice p (ws (dX ov)).length cp,dX ov,dE ov,dN (mkS false N 0),.slice q (ws (dX (mkS false N 0))).length cq,dX (mkS false N 0),dE (mkS false N 0)⟩ mode=(X,E) from (by rw [←hz2,←hov];rfl)] at this
      exact this
     have his:(some (n',X',e'):Option (Bool×Nat×Int)).isSome=true:=rfl;rw [his,hov] at CM;obtain ⟨ow,how⟩:∃ o,mkS false N 0=o:=⟨_,rfl⟩;rw [how] at HR HI F1;clear hz hz2 c1 c2 hask ho F ok Fo his hov how;go_enter Tryz.func22,Tryz.ntmps22
     go_upto_region 1 with fail
     rw [←HWW.out.1,HWW.out.2]
     go_wp2_with fail
     refine CM.out.mono ?_;rintro r u ⟨⟨v,rfl,hN⟩,hb⟩;obtain ⟨pa,qa,rfl,hN⟩:=Lo.shape FO.out hN;obtain ⟨U,hU⟩:∃ U,U=u.alloc (Obj.cells #[.bool (dN ov),.slice pa (ws (dX ov)).length qa,.int .i64 (dE ov)] 41):=⟨_,rfl⟩;obtain ⟨ge,hge⟩:∃ g,u.heap.size=g:=⟨_,rfl⟩
     have B1:Aside (Below w.heap.size w U∧Dk U ge (dN ov) (.slice pa (ws (dX ov)).length qa) (dE ov)∧Nt 0 U (.slice pa (ws (dX ov)).length qa) (dX ov)):=by
      have b1:=B0.out.1.trans (hb.mono B0.out.1.size);rw [hU,←hge];exact ⟨b1.trans ((below_alloc _ _).mono b1.size),Dk.new _ _ _ _,hN.below (below_alloc _ _)⟩
     have HU:=(qsd (ai hU hge));clear hb hN CM hU hge B0 p0 p1 p2
     go_upto_region 4 with fail
     rw [←HU.out.1,HU.out.2];clear HU
     go_upto_region 6 with fail
     have hdr:=(Below.refl U.heap.size U).drew;have BD:=qsd (ai (B1.out.1.trans (hdr.mono B1.out.1.size)) (ai (B1.out.2.1.below hdr) (B1.out.2.2.below hdr)));clear hdr B1;have kS:=qsd (ai BD.out.2.1.facts.1 (ai BD.out.2.1.facts.2.1 BD.out.2.1.facts.2.2.1))
     go_region_held3 (fun w'=>w'.cell? ⟨ge,0,none⟩=some (.bool (dN ov))∧w'.cell? ⟨ge,1,none⟩=some (.slice pa (ws (dX ov)).length qa)∧w'.cell? ⟨ge,2,none⟩=some (.int .i64 (dE ov))) (with_reducible exact kS.out) (first
      | (go_at_call 52
         with_reducible refine (HR.out _ pa a2 qa c2 BD.out.2.2 Q2.out).mono ?_
         rintro r v ⟨rfl,hb⟩;have BD:=qsd (ai (BD.out.1.trans (hb.mono BD.out.1.size)) (ai (BD.out.2.1.below hb) (BD.out.2.2.below hb)));have kS:=qsd (ai BD.out.2.1.facts.1 (ai BD.out.2.1.facts.2.1 BD.out.2.1.facts.2.2.1));clear hb)
      | (go_at_call 60
         with_reducible refine (HI.out _).mono ?_
         rintro r v ⟨⟨pp,rfl,hN⟩,hb⟩;obtain ⟨a2,c2,rfl,hN0⟩:=Lo.shape F1.out hN;have BD:=qsd (ai (BD.out.1.trans (hb.mono BD.out.1.size)) (ai (BD.out.2.1.below hb) (BD.out.2.2.below hb)));have Q2:=qsd hN0;have kS:=qsd (ai BD.out.2.1.facts.1 (ai BD.out.2.1.facts.2.1 BD.out.2.1.facts.2.2.1));clear hb hN hN0))
     clear kS Q2 HR HI;go_wp2;exact bodyPost_ret (v:=.tuple #[.float .f64 X,.int .i64 E]) (by simp [results,Tryz.results22,go_sem]) rfl ⟨rfl,BD.out.1⟩
end
section
open Go.ChangeShapes Go.WideShapes Go.ChangeAt Go.RowKit
theorem lent_rd {w:World}{g n:Nat}{xs:List Nat}(hn:n=xs.length) (h:Own w g (xs++[71,72])):Rd (g+1) w (some ⟨g,0,none⟩) xs:=by
 have h1:=Rd.ofOwn h 0 n;rw [List.drop_zero,List.take_append_of_le_length (by omega),List.take_of_length_le (by omega)] at h1
 exact h1
theorem lent_arg {w:World}{g n:Nat}{xs:List Nat}(hn:n=xs.length) (hb:n≤35184372088832) (hx:Wf xs) (h:Own w g (xs++[71,72])):Arg w (some ⟨g,0,none⟩) n (n+2) xs :=
 ⟨hn,by omega,hb,hx,(lent_rd hn h).mono h.lt,fun e=>by cases e⟩
theorem dyad_of {H:Type}{enc:TypeId×Value→H}{W:World}{r:Reach}{b0:Nat}{v:Value}{d:DataW H}{p:List MemPlace}(hv:Value.okWide Tryz.prog W r b0 41 v) (h:DataW.Trod enc Tryz.prog W 0 (fun _=>true) true 41 v d p) :
 ∃ (ng:Bool) (a:Option Addr) (n c:Nat) (e:Int) (xs:List Nat) (d1:DataW H),v=.agg #[.bool ng,.slice a n c,.int .i64 e]∧CameD W a n c xs e∧d=.agg [.lit (.bool ng),d1,.lit (.int .i64 e)] ∧
   ((d1=.nil∧c=0)∨∃ elems spare:List (DataW H),d1=.slice elems spare∧elems.length+spare.length=c∧(∀ e ∈ elems,∃ l,e=.lit (.int .u32 l))∧∀ e ∈ spare,∃ l,e=.lit (.int .u32 l)):=by
 obtain ⟨cs,rfl,hsz⟩:=okWide_struct Tryz.underlying41 hv;obtain ⟨fuel,hf⟩:=h;have hC:Tryz.prog.cellsOf 41=3:=by kernel_rfl
 have c4:Tryz.prog.cellsOf 4=1:=by kernel_rfl
 have c3:Tryz.prog.cellsOf 3=1:=by kernel_rfl
 have cN:Tryz.prog.cellsOf 39=1:=by kernel_rfl
 obtain ⟨xs,k,rfl,hx,hl,hxl,hfs⟩:=DataW.trod_struct Tryz.underlying41 hf;rw [hC] at hsz
 obtain ⟨c0,c1,c2,rfl⟩:∃ c0 c1 c2,cs=#[c0,c1,c2]:=by
  obtain ⟨l⟩:=cs
  match l,hsz with
  | [a,b,c],_=>exact ⟨a,b,c,rfl⟩
 have h0:DataW.trod enc Tryz.prog W 0 (fun _=>true) true k 4 (List.take (Tryz.prog.cellsOf 4) (List.drop 0 [c0,c1,c2]))=xs[0]?:=hfs 0 _ rfl
 have h1:DataW.trod enc Tryz.prog W 0 (fun _=>true) true k 39 (List.take (Tryz.prog.cellsOf 39) (List.drop 1 [c0,c1,c2]))=xs[1]?:=hfs 1 _ rfl
 have h2:DataW.trod enc Tryz.prog W 0 (fun _=>true) true k 3 (List.take (Tryz.prog.cellsOf 3) (List.drop 2 [c0,c1,c2]))=xs[2]?:=hfs 2 _ rfl
 rw [c4] at h0;rw [cN] at h1;rw [c3] at h2;replace h0:DataW.trod enc Tryz.prog W 0 (fun _=>true) true k 4 [c0]=xs[0]?:=h0
 replace h1:DataW.trod enc Tryz.prog W 0 (fun _=>true) true k 39 [c1]=xs[1]?:=h1
 replace h2:DataW.trod enc Tryz.prog W 0 (fun _=>true) true k 3 [c2]=xs[2]?:=h2
 match xs,hxl with
 | [x0,x1,x2],_ =>
   obtain ⟨ng,e0,rfl⟩:=DataW.trod_bool Tryz.underlying4 h0;obtain ⟨e,e2,rfl,hw⟩:=DataW.trod_int Tryz.underlying3 h2
   cases e0
   cases e2
   have hs:∃ a n c,c1=.slice a n c:=by
    rcases DataW.trod_slice Tryz.underlying39 h1 with ⟨q,_⟩|⟨a,len,cap,_,_,_,_,q,_⟩
    · cases q;exact ⟨_,_,_,rfl⟩
    · cases q;exact ⟨_,_,_,rfl⟩
   obtain ⟨a,n,c,rfl⟩:=hs;obtain ⟨ys,hy,hd⟩:=came_of (a:=a) (n:=n) (c:=c) (d:=x1.1) (p:=x1.2) ⟨k,h1⟩
   have hw':-9223372036854775808≤e∧e≤9223372036854775807:=by
    simp [Lit.wf,IntKind.min,IntKind.max,IntKind.signed,IntKind.bits] at hw;omega
   refine ⟨ng,a,n,c,e,ys,x1.1,rfl,⟨hy,hw'.1,hw'.2⟩,?_,hd⟩;have:=(Prod.mk.inj hx).1;simpa using this
end
section
open Go.RowKit J
attribute [local go_sem] st_float
theorem Dk.lt13 {w:World}{k:Nat}{n:Bool}{v:Value}{e:Int}(h:Dk w k n v e):k<w.heap.size:=by
 unfold Dk at h;exact (Array.getElem?_eq_some_iff.1 h).1
theorem walk2_MeanOf (nA:Bool) (aA:Option Addr) (lA cA:Nat) (eA:Int) (xs:List Nat) (n mode:Int) (w:World) (hT:Tab w) (w0:CameD w aA lA cA xs eA) (bA:lA≤1048576) :
 Calls Tryz.prog 7 #[.agg #[.bool nA,.slice aA lA cA,.int .i64 eA],.int .i64 n,.int .i64 mode] w fun r w'=>r=.returned (.bool true)∧Below w.heap.size w w':=by
 have A:=w0.came.arg (by omega)
 obtain ⟨⟨X,E⟩,hz⟩:∃ z,ofR13 nA (val xs) eA n mode=z:=⟨_,rfl⟩;have HL:=hid (fun (u:World) (hb:Below w.heap.size w u)=>live13 u (hT.belows hb))
 have HLt:=hid (fun (u:World) (hb:Below w.heap.size w u)=>rLent3_any (A.below hb) (by omega) nA eA)
 have HO:Hid (∀ (u:World) (p:Option Addr) (s:Nat),Below w.heap.size w u→Arg u p lA s xs→Calls Tryz.prog 20 #[.agg #[.bool nA,.slice p lA s,.int .i64 eA],.int .i64 n,.int .i64 mode] u fun r w'=>r=.returned (.tuple #[.float .f64 X,.int .i64 E])∧Below u.heap.size u w'):=fun u p s hb hA=>Of13 nA p lA s (val xs) eA n mode u (hT.belows hb) ⟨p,lA,s,xs,rfl,hA,rfl⟩ ⟨w0.lo,w0.hi⟩ _ hz
 have HR:Hid (∀ (u:World),Below w.heap.size w u→Calls Tryz.prog 22 #[.agg #[.bool nA,.slice aA lA cA,.int .i64 eA],.int .i64 n,.int .i64 mode] u fun r w'=>r=.returned (.tuple #[.float .f64 X,.int .i64 E])∧Below u.heap.size u w'):=fun u hb=>rOf13 nA aA lA cA xs eA n mode u (A.below hb) (by omega) ⟨w0.lo,w0.hi⟩ _ hz
 obtain ⟨W1,hW1⟩:∃ W,W=w.alloc (.cells #[.bool nA,.slice aA lA cA,.int .i64 eA] 41):=⟨_,rfl⟩;have B0:Aside (Below w.heap.size w W1∧Dk W1 w.heap.size nA (.slice aA lA cA) eA):=by rw [hW1];exact ⟨below_alloc _ _,Dk.new w nA (.slice aA lA cA) eA⟩
 have HW:=qsd hW1;have HX:=qsd (ai A bA);clear hW1 hT w0 A hz bA;go_enter Tryz.func7,Tryz.ntmps7
 go_wp2_with fail
 rw [←HW.out];refine (HL.out _ B0.out.1).mono ?_;rintro r u0 ⟨rfl,hb⟩;have B1:Aside (Below w.heap.size w u0∧Dk u0 w.heap.size nA (.slice aA lA cA) eA):=⟨B0.out.1.trans (hb.mono B0.out.1.size),B0.out.2.below hb⟩;clear hb B0 HW HL;obtain ⟨k0,k1,k2,kf0,kf1,kf2⟩:=B1.out.2.facts
 go_wp2_with fail
 clear k0 k1 k2 kf0 kf1 kf2;refine (HLt.out _ B1.out.1).mono ?_;rintro r u1 ⟨gX,rfl,hgX,hO,hb⟩;obtain ⟨U1,hU1⟩:∃ U,U=u1.alloc (.cells #[.bool nA,.slice (some ⟨gX,0,none⟩) lA (lA+2),.int .i64 eA] 41):=⟨_,rfl⟩;obtain ⟨gy,hgy⟩:∃ g,u1.heap.size=g:=⟨_,rfl⟩
 have B2:Aside (Below w.heap.size w U1∧Dk U1 w.heap.size nA (.slice aA lA cA) eA∧Dk U1 gy nA (.slice (some ⟨gX,0,none⟩) lA (lA+2)) eA∧Own U1 gX (xs++[71,72])∧w.heap.size<gX):=by
  have hA:Below u1.heap.size u1 U1:=by rw [hU1];exact below_alloc _ _
  have b2:=B1.out.1.trans (hb.mono B1.out.1.size);refine ⟨b2.trans (hA.mono b2.size),(B1.out.2.below hb).below hA,by rw [hU1,←hgy];exact Dk.new _ _ _ _,hO.below hA hO.lt,?_⟩
  have:=B1.out.2.lt13;omega
 have HU:=(qsd (ai hU1 hgy));clear hO hb hU1 hgy B1 HLt hgX
 go_upto_region 3 with fail
 rw [←HU.out.1,HU.out.2];clear HU;obtain ⟨k0,k1,k2,kf0,kf1,kf2⟩:=B2.out.2.2.1.facts;have C:=hid (HO.out U1 (some ⟨gX,0,none⟩) (lA+2) B2.out.1 (lent_arg HX.out.1.len (by have:=HX.out.2;omega) HX.out.1.wf B2.out.2.2.2.1))
 clear HO
 go_wp2_with fail
 clear k0 k1 k2 kf0 kf1 kf2;refine C.out.mono ?_;rintro r u2 ⟨rfl,hb⟩;have B3:Aside (Below w.heap.size w u2∧Dk u2 w.heap.size nA (.slice aA lA cA) eA∧Dk u2 gy nA (.slice (some ⟨gX,0,none⟩) lA (lA+2)) eA∧Own u2 gX (xs++[71,72])∧w.heap.size<gX):=⟨B2.out.1.trans (hb.mono B2.out.1.size),B2.out.2.1.below hb,B2.out.2.2.1.below hb,B2.out.2.2.2.1.below hb B2.out.2.2.2.1.lt,B2.out.2.2.2.2⟩;clear hb B2 C;obtain ⟨k0,k1,k2,kf0,kf1,kf2⟩:=B3.out.2.2.1.facts;obtain ⟨l0,l1,l2,lf0,lf1,lf2⟩:=B3.out.2.1.facts;have C:=hid (rAsLent3_any (HX.out.1.below B3.out.1) (by have:=HX.out.2;omega) nA eA w.heap.size gX (HX.out.1.rd.below B3.out.1) B3.out.1.size (Nat.le_of_lt B3.out.2.2.2.2) B3.out.2.2.2.1)
 go_wp2_with fail
 clear k0 k1 k2 kf0 kf1 kf2 l0 l1 l2 lf0 lf1 lf2;refine C.out.mono ?_;rintro r u3 ⟨rfl,hbt⟩
 have B4:Aside (Below w.heap.size w u3∧Dk u3 w.heap.size nA (.slice aA lA cA) eA):=by
  have hg:=B3.out.2.2.2.2;exact ⟨But.below B3.out.1 hbt B3.out.1.size (Nat.le_of_lt hg),B3.out.2.1.but hbt (by omega)⟩
 clear hbt C B3;obtain ⟨k0,k1,k2,kf0,kf1,kf2⟩:=B4.out.2.facts
 go_wp2_with fail
 clear k0 k1 k2 kf0 kf1 kf2;refine (HR.out _ B4.out.1).mono ?_;rintro r u4 ⟨rfl,hb⟩;have B5:=qsd (B4.out.1.trans (hb.mono B4.out.1.size));clear hb B4 HR;have e1:(E==E)=true:=by simp
 go_wp2_with fail
 refine (exact_law13 X X _).mono ?_;rintro r u9 ⟨rfl,hu9⟩;rw [hu9,decide_eq_true rfl];clear hu9;go_wp2;go_ret;exact ⟨rfl,B5.out⟩
end
end Go.Proofs.YtjldfhecnaiinaaGreatDoor
