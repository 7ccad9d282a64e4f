import Derived.Test.YtblkpkgebigojaaGreatDoorRS4x
import Derived.Laws.Closers25b
import Derived.Laws.Bits64b
import Derived.Deep.CutBlock
import Derived.Test.YtblkpkgebigojaaGreatDoorD30x
import Derived.Test.YtblkpkgebigojaaGreatDoorM1x
import Derived.Test.YtblkpkgebigojaaGreatDoorBIeeex
import Derived.Test.YtblkpkgebigojaaGreatDoorW14x
import Derived.BigQuiet
import Derived.Test.YtblkpkgebigojaaGreatDoorS11ax
import Derived.Test.YtblkpkgebigojaaGreatDoorQR0x
import Derived.Deep.RegionWith
import Derived.OwnWalk
import Derived.ArgAppend
import Derived.WalkMore
import Derived.Deep.RegionHeld3
import Derived.Deep.CutRange
set_option linter.unusedVariables false
set_option linter.unusedSimpArgs false
set_option maxHeartbeats 16000000
set_option maxRecDepth 20000
namespace Go.Proofs.YtblkpkgebigojaaGreatDoor
namespace J
end J
section
open Go.RowKit J
theorem pow_bl15 (l:Nat) (h:0<l):l<2^bl l∧2^bl l≤2*l:=by
 refine ⟨bl_lt l,?_⟩;have h1:=bl_ge l (by omega)
 have h2:=bl_pos l (by omega)
 rw [show bl l=(bl l-1)+1 by omega,Nat.pow_succ]
 omega
theorem nextPow15 (l:Nat) (w:World) (h0:0<l) (h:l<1152921504606846976):Calls Tryz.prog 222 #[.int .i64 (l:Nat)] w fun r w'=>r=.returned (.int .u64 ((2^bl l:Nat):Int))∧w'=w:=by
 have C:=hid (blen_any l w (by omega))
 have wl:IntKind.u64.wrap (l:Int)=(l:Int):=by simp [IntKind.wrap,IntKind.bits,IntKind.signed];omega
 have hp:=(pow_bl15 l h0).2;go_enter Tryz.func222,Tryz.ntmps222
 go_wp2_with fail
 refine C.out.mono ?_;rintro r w1 ⟨rfl,rfl⟩;obtain ⟨m,hm⟩:∃ m,m=bl l:=⟨_,rfl⟩;rw [←hm] at hp ⊢;have HP:=qsd hp;have HM:=qsd hm;clear C hm hp;go_wp2
 have hm64:m<64:=by
  rcases Nat.lt_or_ge m 64 with q|q
  · exact q
  · have:=Nat.pow_le_pow_right (n:=2) (by omega) q
    have:=HP.out;omega
 have e:IntKind.u64.wrap (2^min m 64)=((2^m:Nat):Int):=by
  rw [Nat.min_eq_left (by omega),show ((2:Int)^m)=((2^m:Nat):Int) by simp]
  have:=HP.out;rw [IntKind.wrap_u64];obtain ⟨P,hP⟩:∃ P,P=2^m:=⟨_,rfl⟩;rw [←hP] at this ⊢;exact Int.emod_eq_of_lt (by omega) (by omega)
 rw [e,HM.out];go_ret;exact ⟨rfl,rfl⟩
theorem xo15 (op:BinOp) (a b:Int):∃ y:Nat,y<18446744073709551616∧bits op .u64 a b=(y:Int):=by
 have h1:=bits_lo_u64 op a b;have h2:=bits_hi_u64 op a b;exact ⟨(bits op .u64 a b).toNat,by omega,by omega⟩
def Xq15 (q:Nat) (w wr:World):Prop:=∃ y:Nat,y<18446744073709551616∧wr.cell? ⟨q,0,none⟩=some (.int .u64 (y:Nat))∧wr.frozen? ⟨q,0,none⟩=false∧But q w wr
theorem Xq15.step {q y:Nat}{w wr:World}(h:Xq15 q w wr) (hy:y<18446744073709551616):Xq15 q w (wr.drew.setCell ⟨q,0,none⟩ (.int .u64 (y:Nat))):=by
 obtain ⟨x,h1,h2,h3,h4⟩:=h;refine ⟨y,hy,World.cell?_setCell_same _ _ _ (show wr.drew.cell? _=_ from h2),?_,(h4.drew).set _ _⟩
 rw [World.frozen?_setCell];exact h3
theorem next15 (q:Nat) (w:World) (h:Xq15 q w w):Calls Tryz.prog 223 #[.pointer (some ⟨q,0,none⟩)] w fun r w'=>∃ y:Nat,y<18446744073709551616∧r=.returned (.int .u64 (y:Nat))∧Xq15 q w w':=by
 have HA:=qsd h;clear h;go_enter Tryz.func223,Tryz.ntmps223
 go_upto_region 1 with fail
 go_cut [0] from 3 to 11 (fun v wx=>v=.pointer (some ⟨q,0,none⟩)∧Aside (Xq15 q w wx))
 case first =>
  obtain ⟨x,x1,x2,x3,x4⟩:=HA.out;obtain ⟨y,y1,y2⟩:=xo15 .xor (x:Int) (IntKind.u64.wrap ((x:Int)*8192));have HF:Aside (∀ v,v=(w.drew.setCell ⟨q,0,none⟩ (.int .u64 (y:Nat)))→Xq15 q w v):=fun v hv=>by rw [hv];exact HA.out.step y1
  have hx0:(0:Int)≤(x:Int):=by omega
  have X:=qsd (ai x1 y1);clear HA x4 x1 y1
  go_region
  all_goals
   go_wp2_with fail
   go_meet
   case rel=>exact ⟨rfl,HF.out _ rfl⟩
 clear HA;obtain ⟨rfl,HA⟩:=hcut;obtain ⟨W1,hW⟩:∃ W,W=wc:=⟨_,rfl⟩;subst hW
 go_upto_region 2 with fail
 go_cut [0] from 12 to 20 (fun v wx=>v=.pointer (some ⟨q,0,none⟩)∧Aside (Xq15 q w wx))
 case first =>
  obtain ⟨x,x1,x2,x3,x4⟩:=HA.out;obtain ⟨y,y1,y2⟩:=xo15 .xor (x:Int) ((x:Int)/128);have HF:Aside (∀ v,v=(W1.drew.setCell ⟨q,0,none⟩ (.int .u64 (y:Nat)))→Xq15 q w v):=fun v hv=>by rw [hv];exact HA.out.step y1
  have hx0:(0:Int)≤(x:Int):=by omega
  have X:=qsd (ai x1 y1);clear HA x4 x1 y1
  go_region
  all_goals
   go_wp2_with fail
   go_meet
   case rel=>exact ⟨rfl,HF.out _ rfl⟩
 clear HA;obtain ⟨rfl,HA⟩:=hcut;obtain ⟨W2,hW⟩:∃ W,W=wc:=⟨_,rfl⟩;subst hW
 go_upto_region 3 with fail
 go_cut [0] from 21 to 29 (fun v wx=>v=.pointer (some ⟨q,0,none⟩)∧Aside (Xq15 q w wx))
 case first =>
  obtain ⟨x,x1,x2,x3,x4⟩:=HA.out;obtain ⟨y,y1,y2⟩:=xo15 .xor (x:Int) (IntKind.u64.wrap ((x:Int)*131072));have HF:Aside (∀ v,v=(W2.drew.setCell ⟨q,0,none⟩ (.int .u64 (y:Nat)))→Xq15 q w v):=fun v hv=>by rw [hv];exact HA.out.step y1
  have hx0:(0:Int)≤(x:Int):=by omega
  have X:=qsd (ai x1 y1);clear HA x4 x1 y1
  go_region
  all_goals
   go_wp2_with fail
   go_meet
   case rel=>exact ⟨rfl,HF.out _ rfl⟩
 clear HA;obtain ⟨rfl,HA⟩:=hcut;obtain ⟨W3,hW⟩:∃ W,W=wc:=⟨_,rfl⟩;subst hW;obtain ⟨x,x1,x2,x3,x4⟩:=HA.out;go_wp2;refine bodyPost_ret (v:=.int .u64 (x:Nat)) (by simp [results,Tryz.results223,go_sem]) rfl ?_
 exact ⟨x,x1,rfl,HA.out⟩
def Xs15 (n g N q:Nat) (w wr:World) (S:List Nat→Prop):Prop:=Sx15 n g N w wr S∧w.heap.size≤q∧∃ y:Nat,y<18446744073709551616∧wr.cell? ⟨q,0,none⟩=some (.int .u64 (y:Nat))∧wr.frozen? ⟨q,0,none⟩=false
theorem Xs15.xq {n g N q:Nat}{w wr:World}{S:List Nat→Prop}(h:Xs15 n g N q w wr S):Xq15 q wr wr:=by
 obtain ⟨h1,h2,y,h3,h4,h5⟩:=h;exact ⟨y,h3,h4,h5,But.refl _ _⟩
theorem Xs15.imp {n g N q:Nat}{w wr:World}{S T:List Nat→Prop}(h:Xs15 n g N q w wr S) (f:∀ L,L.length=N→S L→T L):Xs15 n g N q w wr T:=⟨h.1.imp f,h.2⟩
theorem Xs15.next {n g N q:Nat}{w wr v:World}{S:List Nat→Prop}(h:Xs15 n g N q w wr S) (hv:Xq15 q wr v) (hg:g<w.heap.size):Xs15 n g N q w v S:=by
 obtain ⟨⟨M,o1,o2,o3,o4,o5⟩,h2,_⟩:=h;obtain ⟨y,y1,y2,y3,y4⟩:=hv;refine ⟨⟨M,?_,o2,o3,⟨y4.os.trans o4.os,y4.tape.trans o4.tape,y4.output.trans o4.output,Nat.le_trans o4.size y4.size,fun k hk hkg=>?_⟩,o5⟩,h2,y,y1,y2,y3⟩
 · unfold OwnI
   rw [y4.block g o1.lt (by omega)];exact o1
 · rw [y4.block k (Nat.lt_of_lt_of_le hk o4.size) (by omega)];exact o4.block k hk hkg
theorem Xs15.swap {n g N q:Nat}{w wr:World}{S:List Nat→Prop}(h:Xs15 n g N q w wr S) (i j:Nat) (hg:g<w.heap.size) (hi:i<N) (hj:j<N) :
 ∃ (x y:Nat),wr.cell? ⟨g,i,none⟩=some (.int .i64 (x:Nat))∧wr.cell? ⟨g,j,none⟩=some (.int .i64 (y:Nat))∧wr.frozen? ⟨g,i,none⟩=false∧wr.frozen? ⟨g,j,none⟩=false ∧
   (∀ v:World,(v=(wr.drew.setCell ⟨g,i,none⟩ (.int .i64 (y:Nat))).setCell ⟨g,j,none⟩ (.int .i64 (x:Nat))∨v=(wr.drew.setCell ⟨g,j,none⟩ (.int .i64 (x:Nat))).setCell ⟨g,i,none⟩ (.int .i64 (y:Nat)))→Xs15 n g N q w v (fun L=>∃ M,S M∧M.length=N∧L=sw M i j)):=by
 obtain ⟨h1,h2,z,z1,z2,z3⟩:=h;obtain ⟨x,y,c1,c2,f1,f2,F⟩:=h1.swap i j hi hj;have hqg:q≠g:=by omega
 refine ⟨x,y,c1,c2,f1,f2,fun v hv=>⟨F v hv,h2,z,z1,?_,?_⟩⟩
 · have e:∀ k k' a a',((wr.drew.setCell ⟨g,k,none⟩ a).setCell ⟨g,k',none⟩ a').heap[q]?=wr.heap[q]?:=fun k k' a a'=>by
    simp only [World.setCell,Array.getElem?_modify];rw [if_neg (fun e=>hqg e.symm),if_neg (fun e=>hqg e.symm)];rfl
   unfold World.cell? at z2 ⊢
   rcases hv with rfl|rfl <;> rw [e] <;> exact z2
 · have e:∀ k k' a a',((wr.drew.setCell ⟨g,k,none⟩ a).setCell ⟨g,k',none⟩ a').heap[q]?=wr.heap[q]?:=fun k k' a a'=>by
    simp only [World.setCell,Array.getElem?_modify];rw [if_neg (fun e=>hqg e.symm),if_neg (fun e=>hqg e.symm)];rfl
   unfold World.frozen? at z3 ⊢
   rcases hv with rfl|rfl <;> rw [e] <;> exact z3
theorem break15 (n g N a b cap:Nat) (L:List Nat) (recv:Value) (w:World) (hS:Sx15 n g N w w (fun M=>M=L)) (hab:a+8≤b) (hb:b≤N) (hbig:N<1152921504606846976) :
 Calls Tryz.prog 194 #[.slice (some ⟨g,0,none⟩) N cap,.int .i64 (a:Nat),.int .i64 (b:Nat),.func (.func 108) #[recv] #[]] w fun r w'=>r=.returned (.tuple #[])∧Sx15 n g N w w' (fun M=>Pm a b L M):=by
 obtain ⟨l,hl⟩:∃ x,x=b-a:=⟨_,rfl⟩;obtain ⟨q,hq⟩:∃ x,x=l/4:=⟨_,rfl⟩;obtain ⟨q2,hq2⟩:∃ x,x=q*2:=⟨_,rfl⟩;obtain ⟨m,hm⟩:∃ x,x=a+q2:=⟨_,rfl⟩;obtain ⟨i0,hi0⟩:∃ x,x=m-1:=⟨_,rfl⟩;obtain ⟨i3,hi3⟩:∃ x,x=m+1:=⟨_,rfl⟩;have w1:IntKind.i64.wrap ((b:Int)-(a:Int))=(l:Int):=wrapZ (by omega) (by omega)
 have w2:Int.tdiv (l:Int) 4=(q:Int):=by rw [hq];rfl
 have w3:IntKind.i64.wrap (q:Int)=(q:Int):=wrapZ rfl (by omega)
 have w5:IntKind.i64.wrap ((q:Int)*2)=(q2:Int):=wrapZ (by omega) (by omega)
 have w8:IntKind.i64.wrap ((a:Int)+(q2:Int))=(m:Int):=wrapZ (by omega) (by omega)
 have w9:IntKind.i64.wrap ((m:Int)-1)=(i0:Int):=wrapZ (by omega) (by omega)
 have w10:IntKind.i64.wrap ((m:Int)+1)=(i3:Int):=wrapZ (by omega) (by omega)
 have wl:IntKind.u64.wrap (l:Int)=(l:Int):=by simp [IntKind.wrap,IntKind.bits,IntKind.signed];omega
 have d1:decide ((8:Int)≤(l:Int))=true:=by simp;omega
 have HA:=qsd hS;have HQ:=(qsd (ai hl (ai hq (ai hq2 (ai hm (ai hi0 hi3))))));have hl8:8≤l:=by omega
 have hlb:l<1152921504606846976:=by omega
 clear hl hq hq2 hm hi0 hi3 hS;go_enter Tryz.func194,Tryz.ntmps194
 go_upto_region 3 with fail
 have hgw:g<w.heap.size:=HA.out.lt;have HX:Aside (Xs15 n g N w.heap.size w (w.alloc (Obj.cells #[Value.int IntKind.u64 (l:Nat)] 237)) (fun M=>Pm a b L M)):=(⟨(HA.out.below ((Below.refl w.heap.size w).alloc (Nat.le_refl _) _)).imp (fun M _ e=>by subst e;exact Pm.refl _ _ _),Nat.le_refl _,l,by omega,by rw [World.cell?_alloc_new];rfl,World.frozen?_alloc_new _ _ _ _⟩:Xs15 n g N _ w _ _)
 obtain ⟨W1,hW1⟩:∃ W,W=w.alloc (Obj.cells #[Value.int IntKind.u64 (l:Nat)] 237):=⟨_,rfl⟩;rw [←hW1] at HX ⊢;clear hW1 HA;obtain ⟨G,hG⟩:∃ G,G=w.heap.size:=⟨_,rfl⟩;rw [←hG] at HX ⊢;clear hG;have C:=hid (nextPow15 l W1 (by omega) hlb)
 obtain ⟨P,hP⟩:∃ P,P=2^bl l:=⟨_,rfl⟩;have hp1:=(pow_bl15 l (by omega)).1
 have hp2:=(pow_bl15 l (by omega)).2
 rw [←hP] at C hp1 hp2;clear hP
 go_wp2_with fail
 refine C.out.mono ?_;rintro r v ⟨rfl,rfl⟩;clear C;obtain ⟨P1,hP1⟩:∃ x,x=P-1:=⟨_,rfl⟩
 have em:IntKind.u64.wrap ((P:Int)-1)=(P1:Int):=by
  rw [IntKind.wrap_u64,show (P:Int)-1=(P1:Int) by omega]
  exact Int.emod_eq_of_lt (by omega) (by omega)
 have hP2:P1<2*l:=by omega
 clear hP1 hp1 hp2;go_wp2
 go_loopg [11] 3 (fun gk iv wr=>∃ i:Nat,i0≤i∧gk=i3+1-i∧i≤i3+1∧iv=.int .i64 (i:Nat)∧Aside (Xs15 n g N G w wr (fun M=>Pm a b L M)))
 case atStart=>exact ⟨i0,Nat.le_refl _,by have:=HQ.out;omega,by have:=HQ.out;omega,by first | rfl | simp,HX.out⟩
 case round =>
  clear HX;obtain ⟨i,hii,hgk,hie,rfl,HX⟩:=hrel
  by_cases hi3:i≤i3
  · have hdi:decide ((i:Int)≤(i3:Int))=true:=by simp;omega
    obtain ⟨i1,hi1⟩:∃ x,x=i+1:=⟨_,rfl⟩;have wi1:IntKind.i64.wrap ((i:Int)+1)=(i1:Int):=wrapZ (by omega) (by have:=HQ.out;omega)
    have bi:(i:Int)<(N:Int):=by have:=HQ.out;omega
    have bi':i<N:=by omega
    have hai:a≤i:=by have:=HQ.out;omega
    have hib:i<b:=by have:=HQ.out;omega
    have HI:=qsd hi1;clear hi1;have C:=hid (next15 G wr (HX.out.xq))
    go_wp2_with fail
    refine C.out.mono ?_;rintro r v ⟨y,hy,rfl,hv⟩;obtain ⟨o,ho,eo⟩:∃ o:Nat,o≤P1∧bits .and .u64 (y:Int) (P1:Int)=(o:Int):=⟨y &&& P1,Nat.and_le_right,bits_and_u64_nat y P1 hy (by omega)⟩
    have wo:IntKind.i64.wrap (o:Int)=(o:Int):=wrapZ rfl (by omega)
    replace HX:=qsd (HX.out.next hv hgw);clear C hv hy;have HA:=qsd HX.out.1
    by_cases hol:l≤o
    · have hdo:decide ((l:Int)≤(o:Int))=true:=by simp;omega
      obtain ⟨o1,ho1⟩:∃ x,x=o-l:=⟨_,rfl⟩;have wo1:IntKind.i64.wrap ((o:Int)-(l:Int))=(o1:Int):=wrapZ (by omega) (by omega)
      obtain ⟨p,hp⟩:∃ x,x=a+o1:=⟨_,rfl⟩;have wp:IntKind.i64.wrap ((a:Int)+(o1:Int))=(p:Int):=wrapZ (by omega) (by omega)
      have hap:a≤p:=by omega
      have hpb:p<b:=by have:=HQ.out;omega
      have bp:(p:Int)<(N:Int):=by omega
      have bp':p<N:=by omega
      clear hp ho1
      go_upto_region 10 with fail
      obtain ⟨x,y',c1',c2',z1,z2,HF0⟩:=HX.out.swap i p hgw (by omega) (by omega)
      have HF:=qsd (fun u hu=>((HF0 u hu).imp (fun M _ q=>by
       obtain ⟨M0,q1,q2,rfl⟩:=q;exact q1.trans (Pm.swap (by omega) (by omega) (by omega) (by omega) (by omega))):Xs15 n g N G w u (fun M=>Pm a b L M)))
      clear HA HX HF0
      by_cases hse:i=p
      · subst hse
        have hxy:x=y':=by
         have h2:(x:Int)=(y':Int):=by (have:=c1'.symm.trans c2';simpa using this)
         omega
        subst hxy;clear c2' z2
        go_region
        all_goals
         go_wp2
         go_roundg (i3+1-i1)
         case measure=>have:=HI.out;omega
         case rel=>exact ⟨i1,by have:=HI.out;omega,rfl,by have:=HI.out;omega,by first | rfl | simp,HF.out _ (by first | exact .inl rfl | exact .inr rfl)⟩
      · have hse':p≠i:=fun e=>hse e.symm
        go_region
        all_goals
         go_wp2
         go_roundg (i3+1-i1)
         case measure=>have:=HI.out;omega
         case rel=>exact ⟨i1,by have:=HI.out;omega,rfl,by have:=HI.out;omega,by first | rfl | simp,HF.out _ (by first | exact .inl rfl | exact .inr rfl)⟩
    · have hdo:decide ((l:Int)≤(o:Int))=false:=by simp;omega
      obtain ⟨p,hp⟩:∃ x,x=a+o:=⟨_,rfl⟩;have wp:IntKind.i64.wrap ((a:Int)+(o:Int))=(p:Int):=wrapZ (by omega) (by have:=HQ.out;omega)
      have hap:a≤p:=by omega
      have hpb:p<b:=by have:=HQ.out;omega
      have bp:(p:Int)<(N:Int):=by omega
      have bp':p<N:=by omega
      clear hp
      go_upto_region 10 with fail
      obtain ⟨x,y',c1',c2',z1,z2,HF0⟩:=HX.out.swap i p hgw (by omega) (by omega)
      have HF:=qsd (fun u hu=>((HF0 u hu).imp (fun M _ q=>by
       obtain ⟨M0,q1,q2,rfl⟩:=q;exact q1.trans (Pm.swap (by omega) (by omega) (by omega) (by omega) (by omega))):Xs15 n g N G w u (fun M=>Pm a b L M)))
      clear HA HX HF0
      by_cases hse:i=p
      · subst hse
        have hxy:x=y':=by
         have h2:(x:Int)=(y':Int):=by (have:=c1'.symm.trans c2';simpa using this)
         omega
        subst hxy;clear c2' z2
        go_region
        all_goals
         go_wp2
         go_roundg (i3+1-i1)
         case measure=>have:=HI.out;omega
         case rel=>exact ⟨i1,by have:=HI.out;omega,rfl,by have:=HI.out;omega,by first | rfl | simp,HF.out _ (by first | exact .inl rfl | exact .inr rfl)⟩
      · have hse':p≠i:=fun e=>hse e.symm
        go_region
        all_goals
         go_wp2
         go_roundg (i3+1-i1)
         case measure=>have:=HI.out;omega
         case rel=>exact ⟨i1,by have:=HI.out;omega,rfl,by have:=HI.out;omega,by first | rfl | simp,HF.out _ (by first | exact .inl rfl | exact .inr rfl)⟩
  · have hdi:decide ((i:Int)≤(i3:Int))=false:=by simp;omega
    go_wp2;refine bodyPost_end (v:=.tuple #[]) (by simp [results,Tryz.results194,go_sem]) rfl ?_
    exact ⟨rfl,HX.out.1⟩
end
section
open Go.RowKit J
theorem pdq15 (K:Nat→Nat) (n g N cap:Nat) (recv:Value) (hbig:N<1152921504606846976):∀ (d a b lim:Nat) (L:List Nat) (w:World),b-a≤d→a≤b→b≤N→lim<1152921504606846976→Sx15 n g N w w (fun M=>M=L)→Cmp15 K n g recv w→Fl K a b L→L.Nodup→(∀ x ∈ L,∀ y ∈ L,K x=K y→x=y) →
 Calls Tryz.prog 151 #[.slice (some ⟨g,0,none⟩) N cap,.int .i64 (a:Nat),.int .i64 (b:Nat),.int .i64 (lim:Nat),.func (.func 108) #[recv] #[]] w fun r w'=>r=.returned (.tuple #[])∧Sx15 n g N w w' (fun M=>Pm a b L M∧Up K a b M):=by
 intro d
 induction d using Nat.strongRecOn with
 | _ d ih =>
 intro a b lim L w hd hab hb hlim hS hC hF hnd hK
 have IH:Aside (∀ (a b lim:Nat) (L:List Nat) (w:World),b-a<d→a≤b→b≤N→lim<1152921504606846976→Sx15 n g N w w (fun M=>M=L)→Cmp15 K n g recv w→Fl K a b L→L.Nodup→(∀ x ∈ L,∀ y ∈ L,K x=K y→x=y) →
  Calls Tryz.prog 151 #[.slice (some ⟨g,0,none⟩) N cap,.int .i64 (a:Nat),.int .i64 (b:Nat),.int .i64 (lim:Nat),.func (.func 108) #[recv] #[]] w fun r w'=>r=.returned (.tuple #[])∧Sx15 n g N w w' (fun M=>Pm a b L M∧Up K a b M)) :=
  fun a b lim L w h=>ih (b-a) h a b lim L w (Nat.le_refl _)
 have HC:=qsd hC;have HK:=qsd (ai hnd hK);have HA:Aside (Sx15 n g N w w (fun M=>Pq K a b a b L M)):=(hS.imp (fun M _ e=>by subst e;exact Pq.start hab hF):Sx15 n g N w w _)
 clear ih hS hC hF hnd hK;go_enter Tryz.func151,Tryz.ntmps151;go_wp2
 go_loopg [1,2,3,10,11] (b-a) (fun gk av bv lv v10 v11 wr=>∃ (c e lm:Nat) (bt pt:Bool),gk=e-c∧a≤c∧c≤e∧e≤b∧lm<1152921504606846976∧av=.int .i64 (c:Nat)∧bv=.int .i64 (e:Nat)∧lv=.int .i64 (lm:Nat)∧v10=.bool bt∧v11=.bool pt∧Aside (Sx15 n g N w wr (fun M=>Pq K a b c e L M)))
 case atStart=>exact ⟨a,b,lim,true,true,rfl,Nat.le_refl _,hab,Nat.le_refl _,hlim,by first | rfl | simp,by first | rfl | simp,by first | rfl | simp,by first | rfl | simp,by first | rfl | simp,HA.out⟩
 case round =>
  clear HA;obtain ⟨c,e,lm,bt,pt,hgk,h1,h2,h3,hlm,rfl,rfl,rfl,rfl,rfl,HA⟩:=hrel;obtain ⟨l,hl⟩:∃ x,x=e-c:=⟨_,rfl⟩;have wl:IntKind.i64.wrap ((e:Int)-(c:Int))=(l:Int):=wrapZ (by omega) (by omega)
  have heN:e≤N:=by omega
  by_cases h12:l≤12
  · have hd12:decide ((l:Int)≤12)=true:=by simp;omega
    obtain ⟨L1,s1,s2,s3,s4⟩:=HA.out.use;have C:=hid (insX K n g N c e cap L1 recv wr s3 (HC.out.at s4) h2 heN hbig);have HF:Aside (∀ v,Sx15 n g N wr v (fun M=>Pm c e L1 M∧Up K c e M)→Sx15 n g N w v (fun M=>Pm a b L M∧Up K a b M)):=fun v hv=>(hv.re s4).imp (fun M _ q=>s1.done q.1 q.2)
    have HL:=qsd hl;clear HA s1 s2 s3 s4 hl
    go_wp2_with fail
    refine C.out.mono ?_;rintro r v ⟨rfl,hv⟩;have HR:=qsd (HF.out v hv);clear C HF hv;go_wp2;refine bodyPost_ret (v:=.tuple #[]) (by simp [results,Tryz.results151,go_sem]) rfl ?_
    exact ⟨rfl,HR.out⟩
  · have hd12:decide ((l:Int)≤12)=false:=by simp;omega
    have hl13:13≤l:=by omega
    by_cases hl0:lm=0
    · subst hl0
      obtain ⟨L1,s1,s2,s3,s4⟩:=HA.out.use;have C:=hid (heap15 K n g N c e cap L1 recv wr s3 (HC.out.at s4) (by omega) heN hbig)
      have HF:Aside (∀ v,Sx15 n g N wr v (fun M=>Pm c e L1 M∧Up K c e M)→Sx15 n g N w v (fun M=>Pm a b L M∧Up K a b M)):=fun v hv=>(hv.re s4).imp (fun M _ q=>s1.done q.1 q.2)
      have HL:=qsd hl;clear HA s1 s2 s3 s4 hl
      go_wp2_with fail
      refine C.out.mono ?_;rintro r v ⟨rfl,hv⟩;have HR:=qsd (HF.out v hv);clear C HF hv;go_wp2;refine bodyPost_ret (v:=.tuple #[]) (by simp [results,Tryz.results151,go_sem]) rfl ?_
      exact ⟨rfl,HR.out⟩
    · have hl01:((lm:Int)==0)=false:=by simp;omega
      have hl02:decide ((lm:Int)=0)=false:=by simp;omega
      obtain ⟨lm1,hlm1⟩:∃ x,x=lm-1:=⟨_,rfl⟩;have wlm:IntKind.i64.wrap ((lm:Int)-1)=(lm1:Int):=wrapZ (by omega) (by omega)
      have hlm2:lm1<1152921504606846976:=by omega
      have HL:=qsd (ai hl hlm1);have hce:c+13≤e:=by omega
      clear hl hlm1
      go_upto_region 7 with fail
      go_cut [39] from 38 to 38 (fun v wx=>v=.bool (!bt)∧wx=wr)
      case first =>
       go_wp2_with fail
       go_meet
       case rel=>exact ⟨rfl,rfl⟩
      obtain ⟨rfl,hW⟩:=hcut;rw [hW];clear hW
      go_upto_if 39 with fail
      go_cut [3] from 40 to 46 (fun v wx=>∃ lm':Nat,lm'<1152921504606846976∧v=.int .i64 (lm':Nat)∧Aside (Sx15 n g N w wx (fun M=>Pq K a b c e L M)))
      case first =>
       cases bt
       · obtain ⟨L1,s1,s2,s3,s4⟩:=HA.out.use
         have C:=hid (break15 n g N c e cap L1 recv wr s3 (by omega) heN hbig)
         have HF:Aside (∀ v,Sx15 n g N wr v (fun M=>Pm c e L1 M)→Sx15 n g N w v (fun M=>Pq K a b c e L M)):=fun v hv=>(hv.re s4).imp (fun M _ q=>s1.move q)
         clear HA s1 s2 s3 s4
         go_wp2_with fail
         refine C.out.mono ?_;rintro r v ⟨rfl,hv⟩;have HR:=qsd (HF.out v hv);clear C HF hv
         go_wp2_with fail
         go_meet
         case rel=>exact ⟨lm1,hlm2,rfl,HR.out⟩
       · go_wp2_with fail
         go_meet
         case rel=>exact ⟨lm,hlm,rfl,HA.out⟩
      clear HA wlm hlm2 hl01 hl02 hl0 hlm;obtain ⟨lm',hlm',rfl,HA⟩:=hcut;obtain ⟨W1,hW⟩:∃ W,W=wc:=⟨_,rfl⟩;subst hW;obtain ⟨L1,s1,s2,s3,s4⟩:=HA.out.use;have C:=hid (choose15 K n g N c e cap L1 recv W1 s3 (HC.out.at s4) (by omega) heN hbig)
      have HF:Aside (∀ v,Sx15 n g N W1 v (fun M=>M=L1)→Sx15 n g N w v (fun M=>Pq K a b c e L M)):=fun v hv=>(hv.re s4).imp (fun M _ q=>by rw [q];exact s1)
      clear HA s1 s2 s3 s4
      go_wp2_with fail
      refine C.out.mono ?_;rintro r W2 ⟨p,h,rfl,hp1,hp2,hh,hv⟩;have HA:=qsd (HF.out W2 hv);clear C HF hv hh
      go_upto_region 11 with fail
      go_cut [56] from 55 to 55 (fun v wx=>∃ t:Bool,v=.bool t∧wx=W2)
      case first =>
       by_cases hh2:h=2
       · subst hh2
         go_wp2_with fail
         go_meet
         case rel=>exact ⟨_,rfl,rfl⟩
       · have k1:((h:Int)==2)=false:=by simp;omega
         have k2:decide ((h:Int)=2)=false:=by simp;omega
         go_wp2_with fail
         go_meet
         case rel=>exact ⟨_,rfl,rfl⟩
      obtain ⟨t,rfl,hW⟩:=hcut;rw [hW];clear hW
      go_upto_if 56 with fail
      go_cut [13,14] from 57 to 67 (fun pv hv wx=>∃ p' h':Nat,c≤p'∧p'<e∧pv=.int .i64 (p':Nat)∧hv=.int .i64 (h':Nat)∧Aside (Sx15 n g N w wx (fun M=>Pq K a b c e L M)))
      case first =>
       cases t
       · go_wp2_with fail
         go_meet
         case rel=>exact ⟨p,h,hp1,hp2,rfl,rfl,HA.out⟩
       · obtain ⟨e1,he1⟩:∃ x,x=e-1:=⟨_,rfl⟩
         obtain ⟨pc,hpc⟩:∃ x,x=p-c:=⟨_,rfl⟩;obtain ⟨pp,hpp⟩:∃ x,x=e1-pc:=⟨_,rfl⟩;have v1:IntKind.i64.wrap ((e:Int)-1)=(e1:Int):=wrapZ (by omega) (by omega)
         have v2:IntKind.i64.wrap ((p:Int)-(c:Int))=(pc:Int):=wrapZ (by omega) (by omega)
         have v3:IntKind.i64.wrap ((e1:Int)-(pc:Int))=(pp:Int):=wrapZ (by omega) (by omega)
         have k1:c≤pp:=by omega
         have k2:pp<e:=by omega
         obtain ⟨L1,s1,s2,s3,s4⟩:=HA.out.use;have C:=hid (reverse15 n g N c e cap L1 recv W2 s3 (by omega) heN hbig)
         have HF:Aside (∀ v,Sx15 n g N W2 v (fun M=>Pm c e L1 M)→Sx15 n g N w v (fun M=>Pq K a b c e L M)):=fun v hv=>(hv.re s4).imp (fun M _ q=>s1.move q)
         clear HA s1 s2 s3 s4 he1 hpc hpp
         go_wp2_with fail
         refine C.out.mono ?_;rintro r v ⟨rfl,hv⟩;have HR:=qsd (HF.out v hv);clear C HF hv
         go_wp2_with fail
         go_meet
         case rel=>exact ⟨pp,1,k1,k2,rfl,rfl,HR.out⟩
      clear HA hp1 hp2;obtain ⟨p',h',hp1,hp2,rfl,rfl,HA⟩:=hcut;obtain ⟨W3,hW⟩:∃ W,W=wc:=⟨_,rfl⟩;subst hW
      go_upto_region 15 with fail
      go_cut [75] from 68 to 74 (fun v wx=>∃ t:Bool,v=.bool t∧wx=W3)
      case first =>
       by_cases hh1:h'=1
       · subst hh1
         cases bt <;> cases pt
         all_goals
          go_wp2_with fail
          go_meet
          case rel=>exact ⟨_,rfl,rfl⟩
       · have k1:((h':Int)==1)=false:=by simp;omega
         have k2:decide ((h':Int)=1)=false:=by simp;omega
         cases bt <;> cases pt
         all_goals
          go_wp2_with fail
          go_meet
          case rel=>exact ⟨_,rfl,rfl⟩
      obtain ⟨t,rfl,hW⟩:=hcut;rw [hW];clear hW
      go_upto_if 75 with fail
      go_cut [13] from 76 to 80 (fun v wx=>v=.int .i64 (p':Nat)∧Aside (Sx15 n g N w wx (fun M=>Pq K a b c e L M)))
      case first =>
       cases t
       · go_wp2_with fail
         go_meet
         case rel=>exact ⟨rfl,HA.out⟩
       · obtain ⟨L1,s1,s2,s3,s4⟩:=HA.out.use
         have C:=hid (partial15 K n g N c e cap L1 recv W3 s3 (HC.out.at s4) s1.fl (by omega) heN hbig)
         have HF:Aside (∀ v t,Sx15 n g N W3 v (fun M=>Pm c e L1 M∧(t=true→Up K c e M))→Sx15 n g N w v (fun M=>Pq K a b c e L M∧(t=true→Pm a b L M∧Up K a b M))):=fun v t hv=>(hv.re s4).imp (fun M _ q=>⟨s1.move q.1,fun ht=>s1.done q.1 (q.2 ht)⟩)
         clear HA s1 s2 s3 s4
         go_wp2_with fail
         refine C.out.mono ?_;rintro r v ⟨t,rfl,hv⟩;have HR:=qsd (HF.out v t hv);clear C HF hv
         cases t
         · go_wp2_with fail
           go_meet
           case rel=>exact ⟨rfl,HR.out.imp (fun M _ q=>q.1)⟩
         · go_wp2
           refine bodyPost_ret (v:=.tuple #[]) (by simp [results,Tryz.results151,go_sem]) rfl ?_
           exact ⟨rfl,HR.out.imp (fun M _ q=>by first | exact q.2 rfl | exact q.2 trivial | simpa using q.2)⟩
      clear HA;obtain ⟨rfl,HA⟩:=hcut;obtain ⟨W4,hW⟩:∃ W,W=wc:=⟨_,rfl⟩;subst hW;obtain ⟨cm,hcm⟩:∃ x,x=c-1:=⟨_,rfl⟩;have bcm:(cm:Int)<(N:Int):=by omega
      have bcm':cm<N:=by omega
      have bp:(p':Int)<(N:Int):=by omega
      have bp':p'<N:=by omega
      have HM:=qsd hcm;clear hcm
      go_upto_region 17 with fail
      go_cut [97] from 81 to 96 (fun v wx=>∃ t:Bool,v=.bool t∧Aside (Sx15 n g N w wx (fun M=>(fun M=>Pq K a b c e L M) M∧(t=true↔(0<c∧¬ ky K M cm<ky K M p')))))
      case first =>
       by_cases hgd:0<c
       · have hgdec:decide ((0:Int)<(c:Int))=true:=by simp;omega
         obtain ⟨x,y,z,c1',c2',C0,HF0⟩:=HA.out.cmpd HC.out cm p' (by omega) (by omega)
         have C:=hid C0;have HF:=qsd HF0;have kS:=qsd (ai c1' c2');clear HA C0 HF0 c1' c2';have wcm:IntKind.i64.wrap ((c:Int)-1)=(cm:Int):=wrapZ (by have:=HM.out;omega) (by have:=HM.out;omega)
         go_region_held3 (fun w'=>w'.cell? ⟨g,cm,none⟩=some (.int .i64 (x:Nat))∧w'.cell? ⟨g,p',none⟩=some (.int .i64 (y:Nat))) (with_reducible exact kS.out) (first
          | (go_at_call 108
             with_reducible refine C.out.mono ?_
             rintro r v ⟨rfl,hb⟩;have G:=qsd (HF.out v hb);have kS:Aside (v.cell? ⟨g,cm,none⟩=some (.int .i64 (x:Nat))∧v.cell? ⟨g,p',none⟩=some (.int .i64 (y:Nat))):=⟨(hb.cell (p:=⟨g,cm,none⟩) (lt_of_cell15 kS.out.1)).trans kS.out.1,(hb.cell (p:=⟨g,p',none⟩) (lt_of_cell15 kS.out.2)).trans kS.out.2⟩;clear hb))
         all_goals
          go_wp2_with fail
          go_meet
          case rel=>exact ⟨!decide (z<0),rfl,G.out.imp (fun M _ q=>⟨q.1,and_iff15 hgd (not_iff15 q.2)⟩)⟩
       · have hgdec:decide ((0:Int)<(c:Int))=false:=by simp;omega
         have HD:=qsd (HA.out.drew);clear HA
         go_region
         all_goals
          go_wp2_with fail
          go_meet
          case rel=>exact ⟨false,rfl,HD.out.imp (fun M _ q=>⟨q,and_no15 hgd⟩)⟩
      clear HA;obtain ⟨t,rfl,HA⟩:=hcut;obtain ⟨W5,hW⟩:∃ W,W=wc:=⟨_,rfl⟩;subst hW
      have ht:t=false:=by
       obtain ⟨M,_,_,_,_,q⟩:=HA.out
       cases t
       · rfl
       · exfalso
         have k:=q.2.1 rfl;have hcm:=HM.out;have f:=q.1.fl k.1 p' hp1 hp2;rw [←hcm] at f;exact k.2 f
      subst ht;obtain ⟨L1,s1,s2,s3,s4⟩:=HA.out.use;have C:=hid (partition15 K n g N c e p' cap L1 recv W5 s3 (HC.out.at s4) (by omega) heN hp1 hp2 hbig)
      have HF:Aside (∀ m v,Sx15 n g N W5 v (fun M=>Pm c e L1 M∧Prt K c e m M)→Sx15 n g N w v (fun M=>Pq K a b c e L M∧Prt K c e m M)):=fun m v hv=>(hv.re s4).imp (fun M _ q=>⟨s1.1.move q.1,q.2⟩)
      clear HA s1 s2 s3 s4
      go_wp2_with fail
      refine C.out.mono ?_;rintro r W6 ⟨m,t,rfl,m1,m2,hv⟩;have HA:=qsd (HF.out m W6 hv);clear C HF hv;obtain ⟨lf,hlf⟩:∃ x,x=m-c:=⟨_,rfl⟩;obtain ⟨rt,hrt⟩:∃ x,x=e-m:=⟨_,rfl⟩;obtain ⟨th,hth⟩:∃ x,x=l/8:=⟨_,rfl⟩;obtain ⟨mp,hmp⟩:∃ x,x=m+1:=⟨_,rfl⟩;have v1:IntKind.i64.wrap ((m:Int)-(c:Int))=(lf:Int):=wrapZ (by omega) (by omega)
      have v2:IntKind.i64.wrap ((e:Int)-(m:Int))=(rt:Int):=wrapZ (by omega) (by omega)
      have v3:Int.tdiv (l:Int) 8=(th:Int):=by rw [hth];rfl
      have v4:IntKind.i64.wrap (th:Int)=(th:Int):=wrapZ rfl (by have:=HL.out;omega)
      have v5:IntKind.i64.wrap ((m:Int)+1)=(mp:Int):=wrapZ (by omega) (by omega)
      have HE:=(qsd (ai hlf (ai hrt (ai hth hmp))));clear hlf hrt hth hmp
      by_cases hlr:lf<rt
      · have hdl:decide ((lf:Int)<(rt:Int))=true:=by simp;omega
        obtain ⟨L2,s1,s2,s3,s4⟩:=HA.out.use;have C:=hid (IH.out c m lm' L2 W6 (by omega) m1 (by omega) hlm' s3 (HC.out.at s4) (s1.1.fl.left (by omega)) (s1.1.pm.perm.nodup_iff.2 HK.out.1) (fun x hx y hy=>HK.out.2 x (s1.1.pm.perm.mem_iff.1 hx) y (s1.1.pm.perm.mem_iff.1 hy)))
        have HF:Aside (∀ v,Sx15 n g N W6 v (fun M=>Pm c m L2 M∧Up K c m M)→Sx15 n g N w v (fun M=>Pq K a b mp e L M)):=fun v hv=>(hv.re s4).imp (fun M hM q=>by
         rw [HE.out.2.2.2];exact s1.1.left s1.2 q.1 q.2 (fun i j hi hj hne=>ky_ne15 HK.out.1 HK.out.2 (q.1.perm.trans s1.1.pm.perm) i j (by omega) (by omega) hne))
        clear HA s1 s2 s3 s4
        go_wp2_with fail
        refine C.out.mono ?_;rintro r v ⟨rfl,hv⟩;have HR:=qsd (HF.out v hv);clear C HF hv;go_wp2
        go_roundg (e-mp)
        case measure=>have:=HE.out;omega
        case rel=>exact ⟨mp,e,lm',_,t,rfl,by have:=HE.out;omega,by have:=HE.out;omega,h3,hlm',rfl,rfl,rfl,rfl,rfl,HR.out⟩
      · have hdl:decide ((lf:Int)<(rt:Int))=false:=by simp;omega
        obtain ⟨L2,s1,s2,s3,s4⟩:=HA.out.use
        have C:=hid (IH.out mp e lm' L2 W6 (by have:=HE.out;omega) (by have:=HE.out;omega) (by omega) hlm' s3 (HC.out.at s4) (by
         rw [HE.out.2.2.2];exact s1.2.fl (fun i j hi hj hne=>ky_ne15 HK.out.1 HK.out.2 s1.1.pm.perm i j (by omega) (by omega) hne)) (s1.1.pm.perm.nodup_iff.2 HK.out.1) (fun x hx y hy=>HK.out.2 x (s1.1.pm.perm.mem_iff.1 hx) y (s1.1.pm.perm.mem_iff.1 hy)))
        have HF:Aside (∀ v,Sx15 n g N W6 v (fun M=>Pm mp e L2 M∧Up K mp e M)→Sx15 n g N w v (fun M=>Pq K a b c m L M)):=fun v hv=>(hv.re s4).imp (fun M hM q=>by
         rw [HE.out.2.2.2] at q;exact s1.1.right s1.2 q.1 q.2)
        clear HA s1 s2 s3 s4
        go_wp2_with fail
        refine C.out.mono ?_;rintro r v ⟨rfl,hv⟩;have HR:=qsd (HF.out v hv);clear C HF hv;go_wp2
        go_roundg (m-c)
        case measure=>have:=HE.out;omega
        case rel=>exact ⟨c,m,lm',_,t,rfl,h1,m1,by omega,hlm',rfl,rfl,rfl,rfl,rfl,HR.out⟩
end
section
open Go.RowKit J
def nrm (z:Nat):Nat:=if nanW z then oddW else z
end
section
open Go.RowKit J
attribute [local go_sem] st_float
def Fw10 (n:Nat):Value:=.float .f64 n
theorem Tryz.und_floats:Tryz.prog.underlying 22=some (.slice 26):=by kernel_rfl
theorem Tryz.info_f64:(Tryz.prog.info? 26).map (fun i=>(i.zero,i.size,i.bytes))=some (some (.float .f64 0),1,8):=by kernel_rfl
def OwnF (w:World) (g:Nat) (L:List Nat):Prop:=w.heap[g]?=some (.cells (L.map Fw10).toArray 26 (0,0))
theorem OwnF.lt {w:World}{g:Nat}{L:List Nat}(h:OwnF w g L):g<w.heap.size:=(Array.getElem?_eq_some_iff.1 h).1
theorem OwnF.cell {w:World}{g:Nat}{L:List Nat}(h:OwnF w g L) (i:Nat) (hi:i<L.length):w.cell? ⟨g,i,none⟩=some (.float .f64 (L.getD i 0)):=by
 unfold OwnF at h;simp [World.cell?,h,Fw10,hi]
theorem OwnF.frozen {w:World}{g:Nat}{L:List Nat}(h:OwnF w g L) (i:Nat):w.frozen? ⟨g,i,none⟩=false:=by
 unfold OwnF at h;simp [World.frozen?,h]
theorem OwnF.set {w:World}{g:Nat}{L:List Nat}(h:OwnF w g L) (i x:Nat):OwnF (w.setCell ⟨g,i,none⟩ (.float .f64 x)) g (L.set i x):=by
 unfold OwnF at h ⊢;simp only [World.setCell,Array.getElem?_modify,h];simp [Fw10,List.map_set]
theorem OwnF.below {w w':World}{g B:Nat}{L:List Nat}(h:OwnF w g L) (hb:Below B w w') (hg:g<B):OwnF w' g L:=by
 unfold OwnF at h ⊢;rw [hb.block g hg];exact h
theorem OwnF.fs {w:World}{g B:Nat}{L:List Nat}(h:OwnF w g L) (hg:g<B) (n:Nat):Fs B w (some ⟨g,0,none⟩) (L.take n):=by
 intro _;refine ⟨g,0,hg,rfl,fun i hi=>?_⟩
 rw [List.length_take] at hi;rw [Nat.zero_add,h.cell i (by omega)]
 congr 2
 rw [List.getD_eq_getElem?_getD,List.getD_eq_getElem?_getD,List.getElem?_take,if_pos (by omega)]
theorem make_floats (z:Int) (n:Nat) (hz:z=(n:Int)) (hn:n≤17592186044416) (w:World) :
 (Instr.makeSlice 22 (.int .i64 z) (.int .i64 z)).run Tryz.prog w=.ok (.slice (some ⟨w.heap.size,0,none⟩) n n) (w.alloc (.cells (madeCells #[.float .f64 0] n) 26)):=by
 subst hz;exact run_make_row' 22 26 (.float .f64 0) 8 Tryz.und_floats Tryz.info_f64 rfl .i64 .i64 n (by omega) (by omega) w
theorem OwnF.made (w:World) (n:Nat):OwnF (w.alloc (.cells (madeCells #[.float .f64 0] n) 26)) w.heap.size (List.replicate n 0):=by
 unfold OwnF;have h1:=heap_alloc_new w (.cells (madeCells #[.float .f64 0] n) 26);rw [h1]
 congr 2
 apply Array.toList_inj.1
 rw [toList_madeCells_one];simp [Fw10]
end
section
open Go.RowKit J
def tk (x:Nat):Int:=if 9218868437227405312<magW x then 9221120237041090560 else if negW x then -1-(magW x:Int) else magW x
theorem bw15 {x:Nat}(hx:x<18446744073709551616):∃ s e f,e<2048∧f<4503599627370496∧x=B.bw s e f∧s=negW x∧e=magW x/4503599627370496∧f=magW x%4503599627370496:=by
 have hm:magW x<9223372036854775808:=by unfold magW;omega
 refine ⟨negW x,magW x/4503599627370496,magW x%4503599627370496,by omega,by omega,?_,rfl,rfl,rfl⟩
 unfold B.bw negW magW at *
 by_cases h:9223372036854775808≤x
 · rw [decide_eq_true h];simp only [Bool.toNat_true];omega
 · rw [decide_eq_false h];simp only [Bool.toNat_false];omega
theorem ky_tk {x:Nat}(hx:x<18446744073709551616):B.ky (negW x) (magW x/4503599627370496) (magW x%4503599627370496)=tk x:=by
 have hm:magW x<9223372036854775808:=by unfold magW;omega
 have e:((magW x/4503599627370496:Nat):Int)*4503599627370496+(magW x%4503599627370496:Nat)=(magW x:Int):=by omega
 unfold B.ky tk
 by_cases h:9218868437227405312<magW x
 · rw [if_pos h,if_pos (by omega)]
 · rw [if_neg h,if_neg (by omega),e]
theorem tk_parts {x:Nat}(hx:x<18446744073709551616):∃ s e f,e<2048∧f<4503599627370496∧x=B.bw s e f∧B.ky s e f=tk x:=by
 obtain ⟨s,e,f,h1,h2,h3,rfl,rfl,rfl⟩:=bw15 hx;exact ⟨_,_,_,h1,h2,h3,ky_tk hx⟩
theorem order15 {x y:Nat}(hx:x<18446744073709551616) (hy:y<18446744073709551616) (w:World) :
 Calls Tryz.prog 154 #[.float .f64 x,.float .f64 y] w fun r w'=>r=.returned (.int .i64 (B.oc (tk x) (tk y)))∧w'=w:=by
 obtain ⟨s,e,f,h1,h2,h3,h4⟩:=tk_parts hx;obtain ⟨t,u,v,i1,i2,i3,i4⟩:=tk_parts hy;have h:=B.order_any s t e f u v h1 h2 i1 i2 w;rw [h4,i4,←h3,←i3] at h;exact h
def leI (xs:List Nat) (i j:Nat):Bool:=decide (tk (xs.getD i 0)<tk (xs.getD j 0)∨tk (xs.getD i 0)=tk (xs.getD j 0)∧i≤j)
theorem leI_trans (xs:List Nat) (a b c:Nat) (h1:leI xs a b=true) (h2:leI xs b c=true):leI xs a c=true:=by unfold leI at *;simp only [decide_eq_true_eq] at *;omega
theorem leI_total (xs:List Nat) (a b:Nat):(leI xs a b || leI xs b a)=true:=by unfold leI;simp only [Bool.or_eq_true,decide_eq_true_eq];omega
theorem leI_anti (xs:List Nat) (a b:Nat) (h1:leI xs a b=true) (h2:leI xs b a=true):a=b:=by unfold leI at *;simp only [decide_eq_true_eq] at *;omega
def rowI (xs is:List Nat):List Nat:=is.mergeSort (leI xs)
theorem rowI_perm (xs is:List Nat):(rowI xs is).Perm is:=List.mergeSort_perm is (leI xs)
theorem rowI_len (xs is:List Nat):(rowI xs is).length=is.length:=(rowI_perm xs is).length_eq
theorem rowI_sorted (xs is:List Nat):(rowI xs is).Pairwise (fun a b=>leI xs a b=true):=List.pairwise_mergeSort (leI_trans xs) (leI_total xs) is
theorem getD_mem15 {A:List Nat}{i:Nat}(h:i<A.length):A.getD i 0 ∈ A:=by rw [List.getD_eq_getElem?_getD,List.getElem?_eq_getElem h];exact List.getElem_mem _
def rowL (xs:List Nat):List Nat:=rowI xs (List.range xs.length)
theorem rowL_len (xs:List Nat):(rowL xs).length=xs.length:=by unfold rowL;rw [rowI_len,List.length_range]
theorem rowL_perm (xs:List Nat):(rowL xs).Perm (List.range xs.length):=rowI_perm _ _
theorem rowL_mem {xs:List Nat}{i:Nat}:i ∈ rowL xs↔i<xs.length:=by rw [(rowL_perm xs).mem_iff,List.mem_range]
theorem rowL_lt {xs:List Nat}{k:Nat}(h:k<xs.length):(rowL xs).getD k 0<xs.length:=rowL_mem.1 (getD_mem15 (by rw [rowL_len];exact h))
def plI (xs:List Nat) (i:Nat):Nat:=(rowL xs).idxOf i
theorem plI_lt {xs:List Nat}{i:Nat}(h:i<xs.length):plI xs i<xs.length:=by
 have:=List.idxOf_lt_length_of_mem (rowL_mem.2 h);rw [rowL_len] at this;exact this
theorem row_plI {xs:List Nat}{i:Nat}(h:i<xs.length):(rowL xs).getD (plI xs i) 0=i:=by
 have h1:=List.idxOf_lt_length_of_mem (rowL_mem.2 h);unfold plI;rw [List.getD_eq_getElem?_getD,List.getElem?_eq_getElem h1]
 exact List.getElem_idxOf h1
def sortL (xs:List Nat):List Nat:=(rowL xs).map fun i=>nrm (xs.getD i 0)
theorem sortL_len (xs:List Nat):(sortL xs).length=xs.length:=by unfold sortL;rw [List.length_map,rowL_len]
theorem sortL_get {xs:List Nat}{k:Nat}(h:k<xs.length):(sortL xs).getD k 0=nrm (xs.getD ((rowL xs).getD k 0) 0):=by
 have hk:k<(rowL xs).length:=by rw [rowL_len];exact h
 unfold sortL;rw [List.getD_eq_getElem?_getD,List.getElem?_map,List.getD_eq_getElem?_getD (l:=rowL xs),List.getElem?_eq_getElem hk]
 rfl
end
section
open Go.RowKit J
theorem leI_plI {xs:List Nat}{i j:Nat}(hi:i<xs.length) (hj:j<xs.length) (h:plI xs i<plI xs j):leI xs i j=true:=by
 have p1:=plI_lt hi;have p2:=plI_lt hj;have hl:=rowL_len xs;have:=(List.pairwise_iff_getElem.1 (show (rowL xs).Pairwise (fun a b=>leI xs a b=true) from rowI_sorted xs _)) (plI xs i) (plI xs j) (by omega) (by omega) h
 have e1:=row_plI hi;have e2:=row_plI hj;rw [List.getD_eq_getElem?_getD,List.getElem?_eq_getElem (by omega)] at e1 e2
 simp only [Option.getD_some] at e1 e2;rw [e1,e2] at this;exact this
theorem plI_inj {xs:List Nat}{i j:Nat}(hi:i<xs.length) (hj:j<xs.length) (h:plI xs i=plI xs j):i=j:=by
 rw [←row_plI hi,←row_plI hj,h]
theorem plI_leI {xs:List Nat}{i j:Nat}(hi:i<xs.length) (hj:j<xs.length) (hne:i≠j):plI xs i<plI xs j↔leI xs i j=true:=by
 refine ⟨leI_plI hi hj,fun h=>?_⟩
 rcases Nat.lt_trichotomy (plI xs i) (plI xs j) with q|q|q
 · exact q
 · exact absurd (plI_inj hi hj q) hne
 · exact absurd (leI_anti xs i j h (leI_plI hj hi q)) hne
def cmpZ15 (x y:Int):Int:=if x<y then -1 else if y<x then 1 else 0
theorem isNaN15 (x:Int) (w:World):Calls Tryz.prog 202 #[.int .i64 x] w fun r w'=>r=.returned (.bool false)∧w'=w:=by
 go_enter Tryz.func202,Tryz.ntmps202;go_wp2;go_ret;exact ⟨by first | rfl | simp,rfl⟩
theorem compare_int15 (x y:Int) (w:World):Calls Tryz.prog 155 #[.int .i64 x,.int .i64 y] w fun r w'=>r=.returned (.int .i64 (cmpZ15 x y))∧w'=w:=by
 have H:=hid isNaN15;unfold cmpZ15
 by_cases h1:x<y
 · rw [if_pos h1]
   go_enter Tryz.func155,Tryz.ntmps155
   go_wp2_with (go_at_call 202;refine (H.out _ _).mono ?_;rintro r w1 ⟨rfl,rfl⟩)
   go_ret;exact ⟨rfl,rfl⟩
 · rw [if_neg h1]
   have d1:decide (x<y)=false:=by simp;omega
   by_cases h2:y<x
   · rw [if_pos h2]
     go_enter Tryz.func155,Tryz.ntmps155
     go_wp2_with (go_at_call 202;refine (H.out _ _).mono ?_;rintro r w1 ⟨rfl,rfl⟩)
     go_ret;exact ⟨rfl,rfl⟩
   · rw [if_neg h2]
     have d2:decide (y<x)=false:=by simp;omega
     go_enter Tryz.func155,Tryz.ntmps155
     go_wp2_with (go_at_call 202;refine (H.out _ _).mono ?_;rintro r w1 ⟨rfl,rfl⟩)
     go_ret;exact ⟨rfl,rfl⟩
def orZ15 (x y:Int):Int:=if x=0 then y else x
theorem or15 (g cap:Nat) (x y:Int) (w:World) (c1:w.cell? ⟨g,0,none⟩=some (.int .i64 x)) (c2:w.cell? ⟨g,1,none⟩=some (.int .i64 y)):Calls Tryz.prog 153 #[.slice (some ⟨g,0,none⟩) 2 cap] w fun r w'=>r=.returned (.int .i64 (orZ15 x y))∧w'=w:=by
 obtain ⟨z,hz⟩:∃ z,z=orZ15 x y:=⟨_,rfl⟩;rw [←hz];have HZ:=qsd hz;clear hz;go_enter Tryz.func153,Tryz.ntmps153;go_wp2
 go_loopg [8] 2 (fun gk iv wr=>∃ i:Nat,gk+i=2∧iv=.int .i64 (i:Nat)∧Aside ((0<i→x=0)∧(1<i→y=0))∧wr=w)
 case atStart=>exact ⟨0,rfl,rfl,⟨fun h=>by omega,fun h=>by omega⟩,rfl⟩
 case round =>
  obtain ⟨i,h1,rfl,H,rfl⟩:=hrel;have hi:i=0∨i=1∨i=2:=by omega
  rcases hi with rfl|rfl|rfl
  · by_cases hx:x=0
    · subst hx
      go_wp2
      go_roundg 1
      case measure=>omega
      case rel=>exact ⟨1,rfl,by first | rfl | simp,⟨fun _=>by first | rfl | trivial,fun h=>by omega⟩,rfl⟩
    · have e1:(x==0)=false:=by simp [hx]
      have e2:(x != 0)=true:=by simp [hx]
      have e3:decide (x=0)=false:=by simp [hx]
      have E:Aside (z=x):=qsd (by rw [HZ.out];unfold orZ15;rw [if_neg hx])
      go_wp2;go_ret;exact ⟨by rw [E.out];rfl,rfl⟩
  · by_cases hy:y=0
    · subst hy
      go_wp2
      go_roundg 0
      case measure=>omega
      case rel=>exact ⟨2,rfl,by first | rfl | simp,⟨fun _=>H.out.1 (by omega),fun h=>by first | rfl | trivial⟩,rfl⟩
    · have e1:(y==0)=false:=by simp [hy]
      have e2:(y != 0)=true:=by simp [hy]
      have e3:decide (y=0)=false:=by simp [hy]
      have E:Aside (z=y):=qsd (by rw [HZ.out];unfold orZ15;rw [if_pos (H.out.1 (by omega))])
      go_wp2;go_ret;exact ⟨by rw [E.out];rfl,rfl⟩
  · have E:Aside (z=0):=qsd (by rw [HZ.out];unfold orZ15;rw [if_pos (H.out.1 (by omega)),H.out.2 (by omega)])
    go_wp2;go_ret;exact ⟨by rw [E.out];rfl,rfl⟩
theorem oc_z15 (p q:Int) (i j:Nat) (hne:i≠j):orZ15 (B.oc p q) (cmpZ15 (i:Int) (j:Int))<0↔(p<q∨p=q∧i≤j):=by
 have e:B.oc p q=if p<q then -1 else if q<p then 1 else 0:=by unfold B.oc;rfl
 rw [e];unfold orZ15 cmpZ15
 by_cases a:p<q
 · rw [if_pos a,if_neg (by omega)];omega
 · rw [if_neg a]
   by_cases b:q<p
   · rw [if_pos b,if_neg (by omega)];omega
   · rw [if_neg b,if_pos rfl]
     by_cases c:(i:Int)<(j:Int)
     · rw [if_pos c];omega
     · rw [if_neg c,if_pos (by omega)];omega
theorem oc_lt15 (xs:List Nat) (i j:Nat) (hi:i<xs.length) (hj:j<xs.length):orZ15 (B.oc (tk (xs.getD i 0)) (tk (xs.getD j 0))) (cmpZ15 (i:Int) (j:Int))<0↔plI xs i<plI xs j:=by
 by_cases hne:i=j
 · subst hne
   have e:B.oc (tk (xs.getD i 0)) (tk (xs.getD i 0))=0:=by unfold B.oc;simp
   rw [e];unfold orZ15 cmpZ15;simp
 · rw [plI_leI hi hj hne,oc_z15 _ _ i j hne]
   unfold leI;rw [decide_eq_true_eq]
end
section
open Go.RowKit J
theorem compare_core (b off n cap i j:Nat) (at':Value) (p q:Nat) (o c z:Int) (u:World) (c1:u.cell? ⟨b,off+i,none⟩=some (.float .f64 p)) (c2:u.cell? ⟨b,off+j,none⟩=some (.float .f64 q)) (hi:i<n) (hj:j<n)
 (HO:Hid (∀ w,Calls Tryz.prog 154 #[.float .f64 p,.float .f64 q] w fun r w'=>r=.returned (.int .i64 o)∧w'=w))
 (HM:Hid (∀ w,Calls Tryz.prog 155 #[.int .i64 (i:Nat),.int .i64 (j:Nat)] w fun r w'=>r=.returned (.int .i64 c)∧w'=w))
 (HR:Hid (∀ (g cap:Nat) (w:World),w.cell? ⟨g,0,none⟩=some (.int .i64 o)→w.cell? ⟨g,1,none⟩=some (.int .i64 c)→Calls Tryz.prog 153 #[.slice (some ⟨g,0,none⟩) 2 cap] w fun r w'=>r=.returned (.int .i64 z)∧w'=w)) :
 Calls Tryz.prog 108 #[.agg #[.slice (some ⟨b,off,none⟩) n cap,at'],.int .i64 (i:Nat),.int .i64 (j:Nat)] u fun r w'=>r=.returned (.int .i64 z)∧Below u.heap.size u w':=by
 have b1:(i:Int)<(n:Int):=by omega
 have b2:(j:Int)<(n:Int):=by omega
 have hb:b<u.heap.size:=by
  unfold World.cell? at c1
  rcases Nat.lt_or_ge b u.heap.size with q|q
  · exact q
  · rw [Array.getElem?_eq_none q] at c1;cases c1
 go_enter Tryz.func108,Tryz.ntmps108
 go_upto_region 1 with fail
 go_region_with (first
  | (go_at_call 154
     refine (HO.out _).mono ?_;rintro r v ⟨rfl,rfl⟩)
  | (go_at_call 155
     refine (HM.out _).mono ?_;rintro r v ⟨rfl,rfl⟩)
  | (go_at_call 153
     refine (HR.out _ _ _ (by simp [go_sem]) (by simp [go_sem])).mono ?_
     rintro r v ⟨rfl,rfl⟩))
 all_goals
  go_wp2;go_ret;refine ⟨rfl,?_⟩
  first
   | exact ((((Below.refl u.heap.size u).alloc (Nat.le_refl _) _).drew).alloc (by simp) _)
   | exact ((((Below.refl u.heap.size u).alloc (Nat.le_refl _) _).alloc (by simp) _).drew)
theorem cmp15_of (xs:List Nat) (ao:Option Addr) (n cap g G:Nat) (at':Value) (w:World) (hF:Fs G w ao xs) (hG:G≤g) (hGw:G≤w.heap.size) (hn:n=xs.length) (hW:W64 xs):Cmp15 (plI xs) n g (.agg #[.slice ao n cap,at']) w:=by
 intro u x y hB hx hy;subst hn;obtain ⟨b,off,h1,rfl,h3⟩:=hF (by intro e;subst e;simp at hx)
 have k:∀ i,i<xs.length→u.cell? ⟨b,off+i,none⟩=some (.float .f64 (xs.getD i 0)):=fun i hi =>
  (World.cell?_of_block (a:=⟨b,off+i,none⟩) (hB.block b (by omega) (by omega))).trans (h3 i hi)
 have hm:∀ i,i<xs.length→xs.getD i 0<18446744073709551616:=fun i hi=>hW _ (getD_mem15 hi)
 exact ⟨_,oc_lt15 xs x y hx hy,compare_core b off xs.length cap x y at' _ _ _ _ _ u (k x hx) (k y hy) hx hy (fun w=>order15 (hm x hx) (hm y hy) w) (fun w=>compare_int15 _ _ w) (fun g cap w c1 c2=>or15 g cap _ _ w c1 c2)⟩
end
section
open Go.RowKit J
theorem Tryz.und_ints:Tryz.prog.underlying 85=some (.slice 3):=by kernel_rfl
theorem Tryz.info_int15:(Tryz.prog.info? 3).map (fun i=>(i.zero,i.size,i.bytes))=some (some (.int .i64 0),1,8):=by kernel_rfl
theorem make_ints (z:Int) (n:Nat) (hz:z=(n:Int)) (hn:n≤17592186044416) (w:World) :
 (Instr.makeSlice 85 (.int .i64 z) (.int .i64 z)).run Tryz.prog w=.ok (.slice (some ⟨w.heap.size,0,none⟩) n n) (w.alloc (.cells (madeCells #[.int .i64 0] n) 3)):=by
 subst hz;exact run_make_row' 85 3 (.int .i64 0) 8 Tryz.und_ints Tryz.info_int15 rfl .i64 .i64 n (by omega) (by omega) w
theorem OwnI.made (w:World) (n:Nat):OwnI (w.alloc (.cells (madeCells #[.int .i64 0] n) 3)) w.heap.size (List.replicate n 0):=by
 unfold OwnI;have h1:=heap_alloc_new w (.cells (madeCells #[.int .i64 0] n) 3);rw [h1]
 congr 2
 apply Array.toList_inj.1
 rw [toList_madeCells_one];simp [Iw15]
theorem row_of_up15 {xs M:List Nat}(hP:M.Perm (List.range xs.length)) (hU:Up (plI xs) 0 xs.length M):M=rowL xs:=by
 have hl:M.length=xs.length:=by rw [hP.length_eq,List.length_range]
 have hlt:∀ i (h:i<M.length),M[i]<xs.length:=fun i h=>List.mem_range.1 (hP.mem_iff.1 (List.getElem_mem h))
 have hnd:M.Nodup:=hP.nodup_iff.2 List.nodup_range;refine List.Perm.eq_of_pairwise (le:=fun a b=>leI xs a b=true) (fun a b ha hb h1 h2=>leI_anti xs a b h1 h2) ?_ (rowI_sorted xs _) (hP.trans (rowL_perm xs).symm)
 refine List.pairwise_iff_getElem.2 fun i j hi hj hij=>?_
 have h:=hU i j (Nat.zero_le _) hij (by omega)
 unfold ky at h;rw [List.getD_eq_getElem?_getD,List.getElem?_eq_getElem hi,List.getD_eq_getElem?_getD,List.getElem?_eq_getElem hj] at h
 simp only [Option.getD_some] at h;have hne:M[i]≠M[j]:=List.pairwise_iff_getElem.1 hnd i j hi hj hij
 rcases Nat.lt_or_ge (plI xs M[i]) (plI xs M[j]) with q|q
 · exact leI_plI (hlt i hi) (hlt j hj) q
 · exact absurd (plI_inj (hlt i hi) (hlt j hj) (by omega)) hne
theorem sortFunc15 (xs:List Nat) (n g cap:Nat) (recv:Value) (w:World) (hO:OwnI w g (List.range xs.length)) (hn:n=xs.length) (hb:n≤17592186044416) (hC:Cmp15 (plI xs) n g recv w) :
 Calls Tryz.prog 107 #[.slice (some ⟨g,0,none⟩) n cap,.func (.func 108) #[recv] #[]] w fun r w'=>r=.returned (.tuple #[])∧OwnI w' g (rowL xs)∧But g w w':=by
 have hS:Sx15 n g n w w (fun M=>M=List.range xs.length):=by
  subst hn;exact ⟨List.range xs.length,hO,List.length_range,fun k hk=>by simp [List.getD_eq_getElem?_getD,hk],But.refl _ _,rfl⟩
 have hlim:bl n<1152921504606846976:=by
  have:bl n≤64:=by
   rcases Nat.lt_or_ge 64 (bl n) with q|q
   · have h1:=bl_ge n (by intro e;subst e;simp [bl_zero] at q)
     have h2:=Nat.pow_le_pow_right (n:=2) (by omega) (show 64≤bl n-1 by omega)
     omega
   · exact q
  omega
 have C:=hid (pdq15 (plI xs) n g n cap recv (by omega) n 0 n (bl n) (List.range xs.length) w (by omega) (Nat.zero_le _) (Nat.le_refl _) hlim hS hC (fun h=>by omega) List.nodup_range (fun x hx y hy h=>plI_inj (List.mem_range.1 hx) (List.mem_range.1 hy) h))
 have D:=hid (blen_any n w (by omega))
 have wl:IntKind.u64.wrap (n:Int)=(n:Int):=by simp [IntKind.wrap,IntKind.bits,IntKind.signed];omega
 obtain ⟨m,hm⟩:∃ m,m=bl n:=⟨_,rfl⟩;rw [←hm] at C D;have HN:=qsd hn;clear hS hlim hC hO hn hm;go_enter Tryz.func107,Tryz.ntmps107
 go_wp2_with fail
 refine D.out.mono ?_;rintro r w1 ⟨rfl,rfl⟩
 go_wp2_with fail
 refine C.out.mono ?_;rintro r v ⟨rfl,hv⟩;have HR:=qsd hv;clear C D hv;go_wp2;refine bodyPost_end (v:=.tuple #[]) (by simp [results,Tryz.results107,go_sem]) rfl ?_
 obtain ⟨M,h1,h2,h3,h4,h5,h6⟩:=HR.out;refine ⟨rfl,?_,h4⟩;have hn:=HN.out;subst hn;rw [←row_of_up15 h5.perm h6];exact h1
end
section
open Go.RowKit J
def upto15 (n k:Nat):List Nat:=List.range k++List.replicate (n-k) 0
theorem upto_zero (n:Nat):upto15 n 0=List.replicate n 0:=by simp [upto15]
theorem upto_all (n:Nat):upto15 n n=List.range n:=by simp [upto15]
theorem upto_len {n k:Nat}(h:k≤n):(upto15 n k).length=n:=by simp [upto15];omega
theorem upto_succ {n k:Nat}(h:k<n):(upto15 n k).set k k=upto15 n (k+1):=by
 unfold upto15;rw [List.set_append_right _ _ (by simp),List.length_range,Nat.sub_self,show n-k=(n-(k+1))+1 by omega,List.replicate_succ,List.set_cons_zero,List.range_succ]
 simp
theorem cell_but15 {g:Nat}{u v:World}{p:Addr}{x:Value}(hB:But g u v) (h:u.cell? p=some x) (hp:p.block≠g):v.cell? p=some x :=
 (World.cell?_of_block (hB.block p.block (lt_of_cell15 h) hp)).trans h
theorem frozen_but15 {g:Nat}{u v:World}{p:Addr}(hB:But g u v) (hl:p.block<u.heap.size) (h:u.frozen? p=false) (hp:p.block≠g):v.frozen? p=false:=by
 unfold World.frozen? at h ⊢;rw [hB.block p.block hl hp];exact h
theorem rowOf15 (xs:List Nat) (ao:Option Addr) (n cap:Nat) (w:World) (hF:Fs w.heap.size w ao xs) (hn:n=xs.length) (hb:n≤17592186044416) (hW:W64 xs) :
 Calls Tryz.prog 64 #[.slice ao n cap] w fun r w'=>∃ g,r=.returned (.agg #[.slice ao n cap,.slice (some ⟨g,0,none⟩) n n])∧OwnI w' g (rowL xs)∧Below w.heap.size w w'∧w.heap.size≤g:=by
 have mk:=make_ints n n rfl hb;have HF:=qsd hF;have HN:=(qsd (ai hn hW));clear hF hn hW;go_enter Tryz.func64,Tryz.ntmps64
 go_upto_region 2 with fail
 obtain ⟨W1,hW1⟩:∃ W,W=(((w.alloc (Obj.cells #[Value.slice none 0 0,Value.slice none 0 0] 87)).alloc (Obj.cells (madeCells #[Value.int IntKind.i64 0] n) 3)).alloc (Obj.cells #[Value.slice ao n cap,Value.slice (some ⟨w.heap.size+1,0,none⟩) n n] 87)):=⟨_,rfl⟩
 have o1:OwnI W1 (w.heap.size+1) (upto15 n 0):=by
  rw [hW1,upto_zero];have:=(OwnI.made (w.alloc (Obj.cells #[Value.slice none 0 0,Value.slice none 0 0] 87)) n);rw [World.size_alloc] at this;exact this.below ((Below.refl _ _).alloc (Nat.le_refl _) _) (by simp)
 have o2:Below w.heap.size w W1:=by
  rw [hW1];exact (((Below.refl w.heap.size w).alloc (Nat.le_refl _) _).alloc (by simp) _).alloc (by simp;omega) _
 have q1:W1.cell? ⟨w.heap.size,0,none⟩=some (.slice none 0 0):=by
  rw [hW1,World.cell?_alloc_lt _ _ _ (by simp;omega),World.cell?_alloc_lt _ _ _ (by simp),World.cell?_alloc_new];rfl
 have q2:W1.cell? ⟨w.heap.size,1,none⟩=some (.slice none 0 0):=by
  rw [hW1,World.cell?_alloc_lt _ _ _ (by simp;omega),World.cell?_alloc_lt _ _ _ (by simp),World.cell?_alloc_new];rfl
 have q3:∀ i,W1.frozen? ⟨w.heap.size,i,none⟩=false:=fun i=>by
  rw [hW1,World.frozen?_alloc_old _ _ _ (by simp;omega),World.frozen?_alloc_old _ _ _ (by simp)]
  exact World.frozen?_alloc_new _ _ _ _
 have r1:W1.cell? ⟨w.heap.size+2,0,none⟩=some (.slice ao n cap):=by
  have:=World.cell?_alloc_new ((w.alloc (Obj.cells #[Value.slice none 0 0,Value.slice none 0 0] 87)).alloc (Obj.cells (madeCells #[Value.int IntKind.i64 0] n) 3)) #[Value.slice ao n cap,Value.slice (some ⟨w.heap.size+1,0,none⟩) n n] 87 0;rw [World.size_alloc,World.size_alloc] at this;rw [hW1];exact this
 have r2:W1.cell? ⟨w.heap.size+2,1,none⟩=some (.slice (some ⟨w.heap.size+1,0,none⟩) n n):=by
  have:=World.cell?_alloc_new ((w.alloc (Obj.cells #[Value.slice none 0 0,Value.slice none 0 0] 87)).alloc (Obj.cells (madeCells #[Value.int IntKind.i64 0] n) 3)) #[Value.slice ao n cap,Value.slice (some ⟨w.heap.size+1,0,none⟩) n n] 87 1;rw [World.size_alloc,World.size_alloc] at this;rw [hW1];exact this
 rw [←hW1];clear hW1 mk;obtain ⟨q,hq⟩:∃ x,x=w.heap.size:=⟨_,rfl⟩;obtain ⟨g,hg⟩:∃ x,x=w.heap.size+1:=⟨_,rfl⟩;obtain ⟨h,hh⟩:∃ x,x=w.heap.size+2:=⟨_,rfl⟩;rw [←hg] at o1 r2;rw [←hh] at r1 r2;rw [←hq] at q1 q2;simp only [←hq] at q3;rw [show w.heap.size+1+1=h by omega,←hg,←hq]
 have hgq:g≠q:=by omega
 have hgh:g≠h:=by omega
 have hqg:q≠g:=by omega
 have hhg:h≠g:=by omega
 have HQ:=(qsd (ai hq (ai hg hh)));have HB:=qsd o2;have HR:=(qsd (ai q1 (ai q2 (ai q3 (ai r1 r2)))));have HA:Aside (OwnI W1 g (upto15 n 0)∧But g W1 W1):=⟨o1,But.refl _ _⟩;have hlh:h<W1.heap.size:=lt_of_cell15 r1;have hlq:q<W1.heap.size:=lt_of_cell15 q1;have HL:=(qsd (ai hlh hlq));clear o1 o2 q1 q2 q3 hq hg hh hlh hlq;go_wp2
 go_loopg [13] n (fun gk iv wr=>∃ k:Nat,gk+k=n∧iv=.int .i64 (k:Nat)∧Aside (OwnI wr g (upto15 n k)∧But g W1 wr))
 case atStart=>exact ⟨0,rfl,by first | rfl | simp,HA.out⟩
 case round =>
  clear HA r1 r2;obtain ⟨k,hgk,rfl,HA⟩:=hrel
  by_cases hk:k<n
  · have hdk:decide ((k:Int)<(n:Int))=true:=by simp;omega
    have bk:(k:Int)<(n:Int):=by omega
    obtain ⟨k1,hk1⟩:∃ x,x=k+1:=⟨_,rfl⟩;have wk:IntKind.i64.wrap ((k:Int)+1)=(k1:Int):=wrapZ (by omega) (by omega)
    have r2:=cell_but15 HA.out.2 HR.out.2.2.2.2 hhg;have c1:=HA.out.1.cell k (by rw [upto_len (by omega)];exact hk)
    have z1:=HA.out.1.frozen k;have HX:Aside (OwnI (wr.setCell ⟨g,k,none⟩ (.int .i64 (k:Nat))) g (upto15 n k1)∧But g W1 (wr.setCell ⟨g,k,none⟩ (.int .i64 (k:Nat)))):=⟨by rw [hk1,←upto_succ hk];exact HA.out.1.set k k,HA.out.2.set _ _⟩
    obtain ⟨y,hy⟩:∃ y,y=(upto15 n k).getD k 0:=⟨_,rfl⟩;rw [←hy] at c1;have HK:=qsd hk1;clear HA hk1 hy;go_wp2
    go_roundg (n-k1)
    case measure=>have:=HK.out;omega
    case rel=>exact ⟨k1,by have:=HK.out;omega,by first | rfl | simp,HX.out⟩
  · have hdk:decide ((k:Int)<(n:Int))=false:=by simp;omega
    have hkn:k=n:=by omega
    subst hkn;obtain ⟨a1,a2⟩:=HA.out;rw [upto_all] at a1;have r1:=cell_but15 a2 HR.out.2.2.2.1 hhg;have r2:=cell_but15 a2 HR.out.2.2.2.2 hhg;obtain ⟨hn,hW⟩:=HN.out;obtain ⟨hq,hg,hh⟩:=HQ.out
    have hFw:Fs w.heap.size wr ao xs:=by
     intro hne;obtain ⟨b,off,h1,h2,h3⟩:=HF.out hne;refine ⟨b,off,h1,h2,fun i hi=>?_⟩
     exact cell_but15 a2 ((World.cell?_of_block (a:=⟨b,off+i,none⟩) (HB.out.block b h1)).trans (h3 i hi)) (by show b≠g;omega)
    have hsz:w.heap.size≤wr.heap.size:=Nat.le_trans HB.out.size a2.size;have hC:Cmp15 (plI xs) k g (.agg #[.slice ao k cap,.slice (some ⟨g,0,none⟩) k k]) wr:=cmp15_of xs ao k cap g w.heap.size _ wr hFw (by omega) hsz hn hW
    rw [hn] at a1;have C:=hid (sortFunc15 xs k g k _ wr a1 hn hb hC);clear hFw hC a1 hn hW hq hg hh hsz;have HA2:=qsd a2;clear HA a2
    go_wp2_with fail
    refine C.out.mono ?_;rintro r v ⟨rfl,e1,e2⟩;have a3:=HA2.out.trans e2;have r1:=cell_but15 a3 HR.out.2.2.2.1 hhg;have r2:=cell_but15 a3 HR.out.2.2.2.2 hhg;have q1:=cell_but15 a3 HR.out.1 hqg;have q2:=cell_but15 a3 HR.out.2.1 hqg;have q3:=frozen_but15 (p:=⟨q,0,none⟩) a3 HL.out.2 (HR.out.2.2.1 0) hqg;have q4:=frozen_but15 (p:=⟨q,1,none⟩) a3 HL.out.2 (HR.out.2.2.1 1) hqg;have HE:=(qsd (ai e1 a3));clear C e1 e2 a3 HA2;go_wp2;obtain ⟨WE,hWE⟩:∃ W,W=((v.setCell ⟨q,0,none⟩ (Value.slice ao k cap)).setCell ⟨q,1,none⟩ (Value.slice (some ⟨g,0,none⟩) k k)):=⟨_,rfl⟩
    have x1:WE.cell? ⟨q,0,none⟩=some (Value.slice ao k cap):=by
     rw [hWE,World.cell?_setCell_other _ _ _ _ (by simp)]
     exact World.cell?_setCell_same _ _ _ q1
    have x2:WE.cell? ⟨q,1,none⟩=some (Value.slice (some ⟨g,0,none⟩) k k):=by
     rw [hWE];exact World.cell?_setCell_same _ _ _ (by rw [World.cell?_setCell_other _ _ _ _ (by simp)];exact q2)
    rw [←hWE];have X:=qsd hWE;clear hWE;refine bodyPost_ret (v:=.agg #[.slice ao k cap,.slice (some ⟨g,0,none⟩) k k]) (by simp [results,Tryz.results64,go_sem,x1,x2]) rfl ?_
    obtain ⟨e1,a3⟩:=HE.out;obtain ⟨hq,hg,hh⟩:=HQ.out
    have hb2:∀ j,j≠q→WE.heap[j]?=v.heap[j]?:=fun j hj=>by
     rw [X.out];simp only [World.setCell,Array.getElem?_modify];rw [if_neg (fun e=>hj e.symm),if_neg (fun e=>hj e.symm)]
    have hb3:WE.heap.size=v.heap.size:=by rw [X.out];simp [World.setCell]
    refine ⟨g,rfl,?_,⟨?_,?_,?_,?_,?_⟩,by omega⟩
    · unfold OwnI;rw [hb2 g hgq];exact e1
    · rw [X.out];exact a3.os.trans HB.out.os
    · rw [X.out];exact a3.tape.trans HB.out.tape
    · rw [X.out];exact a3.output.trans HB.out.output
    · rw [hb3];exact Nat.le_trans HB.out.size a3.size
    · intro j hj
      rw [hb2 j (by omega),a3.block j (by have:=HB.out.size;omega) (by omega)]
      exact HB.out.block j hj
end
section
open Go.RowKit J
theorem bd_fv16 {x:Nat}(hx:x<18446744073709551616) (fx:finW x) (z:Nat) (hz:z=2098):Bd z (fvW x):=by
 unfold Bd;exact Nat.le_of_lt (top_fv hx fx z hz)
theorem times16 (x n:Nat) (hx:x<18446744073709551616) (fx:finW x) (hn:n≤2147483648) (w:World) (hT:Tab w) :
 Calls Tryz.prog 103 #[.float .f64 x,.int .i64 (n:Nat)] w fun r w'=>DVal 0 w' r (gV 1074 (fvW x*(n:Int)))∧Below w.heap.size w w':=by
 obtain ⟨z,hz⟩:∃ z,z=2098:=⟨_,rfl⟩;obtain ⟨k,hk⟩:∃ z,z=31:=⟨_,rfl⟩;have b1:=bd_fv16 hx fx z hz;have b2:Bd k (n:Int):=by unfold Bd;rw [Int.natAbs_natCast,hk];exact hn
 have e:=g_mul (u:=1074) (v:=0) (by omega) (by omega) (by omega) (by omega) b1 b2
 have Fq:=g_fm (u:=1074) (by omega) (by omega) (b1.mul b2)
 refine times_core16 x n (gV 1074 (fvW x)) (gV 0 n) _ (g_fm (by omega) (by omega) b1) (g_fm (by omega) (by omega) b2) Fq w hT (fun u hT=>of12 x hx fx u hT) (fun u hT=>?_) (fun u a b c d hT N1 N2=>mulP12 (g_fm (by omega) (by omega) b1) (g_fm (by omega) (by omega) b2) N1 N2 hT e Fq)
 exact (Int_any (n:Nat) u hT (by omega) (by omega)).mono (fun r w' h=>h)
abbrev Sc16 (gb:Nat) (rest den:Int) (u:World):Prop:=u.cell? ⟨gb,1,none⟩=some (.int .i64 rest)∧u.cell? ⟨gb,2,none⟩=some (.int .i64 den)
theorem Sc16.lt {gb:Nat}{rest den:Int}{u:World}(h:Sc16 gb rest den u):gb<u.heap.size:=lt_of_cell15 (p:=⟨gb,1,none⟩) h.1
theorem Sc16.al {gb:Nat}{rest den:Int}{u:World}(h:Sc16 gb rest den u) (o:Obj):Sc16 gb rest den (u.alloc o):=⟨(World.cell?_alloc_lt _ _ _ h.lt).trans h.1,(World.cell?_alloc_lt _ _ _ h.lt).trans h.2⟩
theorem Sc16.be {gb:Nat}{rest den:Int}{u v:World}(h:Sc16 gb rest den u) (hb:Below u.heap.size u v):Sc16 gb rest den v:=⟨(hb.cell (p:=⟨gb,1,none⟩) h.lt).trans h.1,(hb.cell (p:=⟨gb,2,none⟩) h.lt).trans h.2⟩
theorem Sc16.st {gb g:Nat}{rest den:Int}{u:World}(h:Sc16 gb rest den u) (hg:gb<g) (x y z:Value):Sc16 gb rest den (st3 u g x y z):=⟨cell_but15 (st3_but12 g u x y z) h.1 (Nat.ne_of_lt hg),cell_but15 (st3_but12 g u x y z) h.2 (Nat.ne_of_lt hg)⟩
abbrev Zd:Obj:=Obj.cells #[.bool false,.slice none 0 0,.int .i64 0] 62
abbrev Zb16 (w u:World) (gb g:Nat):Prop:=Lo u g o00∧w.heap.size≤g∧gb<g
theorem Zb16.be {w u v:World}{gb g:Nat}(h:Zb16 w u gb g) (hb:Below u.heap.size u v):Zb16 w v gb g:=⟨h.1.below hb,h.2⟩
abbrev dc16 (o:Option (Bool×Nat×Int)) (a:Option Addr) (c:Nat):Obj:=Obj.cells #[.bool (dN o),.slice a (ws (dX o)).length c,.int .i64 (dE o)] 62
abbrev sd16 (u:World) (g:Nat) (o:Option (Bool×Nat×Int)) (a:Option Addr) (c:Nat):World:=((u.setCell ⟨g,0,none⟩ (.bool (dN o))).setCell ⟨g,1,none⟩ (.slice a (ws (dX o)).length c)).setCell ⟨g,2,none⟩ (.int .i64 (dE o))
def Pr16 (w:World) (gb:Nat) (rest den:Int) (o1 o2:Option (Bool×Nat×Int)) (g9 g10:Nat) (u:World):Prop:=Lo u g9 o1∧Lo u g10 o2∧Below w.heap.size w u∧Sc16 gb rest den u
theorem Pr16.sw {w u:World}{gb g9 g10:Nat}{rest den:Int}{o1 o2:Option (Bool×Nat×Int)}(h:Pr16 w gb rest den o2 o1 g10 g9 u):Pr16 w gb rest den o1 o2 g9 g10 u:=⟨h.2.1,h.1,h.2.2⟩
section
variable {w v : World} {gb : Nat} {rest den : Int} {o1 o2 : Option (Bool × Nat × Int)} {a1 a2 : Option Addr} {c1 c2 : Nat}
theorem fin0_16 (hb:Below w.heap.size w v) (hs:Sc16 gb rest den v) (n1:Nt 0 v (.slice a1 (ws (dX o1)).length c1) (dX o1)) (n2:Nt 0 v (.slice a2 (ws (dX o2)).length c2) (dX o2)) :
 Pr16 w gb rest den o1 o2 v.heap.size (v.heap.size+1) ((v.alloc (dc16 o1 a1 c1)).alloc (dc16 o2 a2 c2)):=by
 have h1:Lo (v.alloc (dc16 o1 a1 c1)) v.heap.size o1:=Lo.new n1;have h2:Lo ((v.alloc (dc16 o1 a1 c1)).alloc (dc16 o2 a2 c2)) (v.alloc (dc16 o1 a1 c1)).heap.size o2:=Lo.new (n2.below (below_alloc _ _));rw [World.size_alloc] at h2;have b1:=hb.trans ((below_alloc v (dc16 o1 a1 c1)).mono hb.size);exact ⟨h1.below (below_alloc _ _),h2,b1.trans ((below_alloc _ _).mono b1.size),(hs.al _).al _⟩
theorem fin1a_16 {gA:Nat}(hb:Below w.heap.size w v) (hs:Sc16 gb rest den v) (n1:Nt 0 v (.slice a1 (ws (dX o1)).length c1) (dX o1)) (n2:Nt 0 v (.slice a2 (ws (dX o2)).length c2) (dX o2)) (z:Zb16 w v gb gA) :
 Pr16 w gb rest den o1 o2 gA v.heap.size ((sd16 v gA o1 a1 c1).alloc (dc16 o2 a2 c2)):=by
 obtain ⟨z1,z2,z3⟩:=z;have h1:Lo (sd16 v gA o1 a1 c1) gA o1:=z1.set n1;obtain ⟨a0,c0,D,_⟩:=z1;have n2':Nt 0 (sd16 v gA o1 a1 c1) (.slice a2 (ws (dX o2)).length c2) (dX o2):=n2.off12 D _ _ _;have hsz:(sd16 v gA o1 a1 c1).heap.size=v.heap.size:=by simp [World.setCell]
 have h2:=Lo.new (w:=sd16 v gA o1 a1 c1) n2';rw [hsz] at h2;have b1:Below w.heap.size w (sd16 v gA o1 a1 c1):=st3_bel12 hb hb.size z2 _ _ _;exact ⟨h1.below (below_alloc _ _),h2,b1.trans ((below_alloc _ _).mono b1.size),(hs.st z3 _ _ _).al _⟩
theorem fin2_16 {gA gB:Nat}(hb:Below w.heap.size w v) (hs:Sc16 gb rest den v) (n1:Nt 0 v (.slice a1 (ws (dX o1)).length c1) (dX o1)) (n2:Nt 0 v (.slice a2 (ws (dX o2)).length c2) (dX o2)) (z:Zb16 w v gb gA) (y:Zb16 w v gb gB) (hne:gA≠gB) :
 Pr16 w gb rest den o1 o2 gA gB (sd16 (sd16 v gA o1 a1 c1) gB o2 a2 c2):=by
 obtain ⟨z1,z2,z3⟩:=z;obtain ⟨y1,y2,y3⟩:=y;have h1:Lo (sd16 v gA o1 a1 c1) gA o1:=z1.set n1;have y1':Lo (sd16 v gA o1 a1 c1) gB o00:=y1.other z1 (Ne.symm hne) _ _ _;obtain ⟨a0,c0,D,_⟩:=z1;have n2':Nt 0 (sd16 v gA o1 a1 c1) (.slice a2 (ws (dX o2)).length c2) (dX o2):=n2.off12 D _ _ _;have b1:Below w.heap.size w (sd16 v gA o1 a1 c1):=st3_bel12 hb hb.size z2 _ _ _;exact ⟨h1.other y1' hne _ _ _,y1'.set n2',st3_bel12 b1 b1.size y2 _ _ _,(hs.st z3 _ _ _).st y3 _ _ _⟩
end
end
section
open Go.RowKit J
theorem Sc16.dr {gb:Nat}{rest den:Int}{u:World}(h:Sc16 gb rest den u):Sc16 gb rest den u.drew:=h
theorem Sc16.st' {gb g:Nat}{rest den:Int}{u:World}(h:Sc16 gb rest den u) (hg:gb<g) (x y z:Value):Sc16 gb rest den (((u.setCell ⟨g,0,none⟩ x).setCell ⟨g,1,none⟩ y).setCell ⟨g,2,none⟩ z):=h.st hg x y z
abbrev Bs16 (w:World) (gb:Nat) (rest den:Int) (u:World):Prop:=Below w.heap.size w u∧Sc16 gb rest den u
theorem Bs16.al {w u:World}{gb:Nat}{rest den:Int}(h:Bs16 w gb rest den u) (o:Obj):Bs16 w gb rest den (u.alloc o):=⟨h.1.trans ((below_alloc _ o).mono h.1.size),h.2.al o⟩
theorem Bs16.dr {w u:World}{gb:Nat}{rest den:Int}(h:Bs16 w gb rest den u):Bs16 w gb rest den u.drew:=⟨h.1.drew,h.2⟩
theorem Bs16.be {w u v:World}{gb:Nat}{rest den:Int}(h:Bs16 w gb rest den u) (hb:Below u.heap.size u v):Bs16 w gb rest den v:=⟨h.1.trans (hb.mono h.1.size),h.2.be hb⟩
theorem Bs16.new {w u:World}{gb:Nat}{rest den:Int}(h:Bs16 w gb rest den u):Zb16 w (u.alloc Zd) gb u.heap.size:=⟨Lo.zero u,h.1.size,h.2.lt⟩
theorem Zb16.dr {w u:World}{gb g:Nat}(h:Zb16 w u gb g):Zb16 w u.drew gb g:=h.be (Below.refl u.heap.size u).drew
theorem Zb16.al {w u:World}{gb g:Nat}(h:Zb16 w u gb g) (o:Obj):Zb16 w (u.alloc o) gb g:=h.be (below_alloc u o)
theorem Bs16.new2 {w u:World}{gb:Nat}{rest den:Int}(h:Bs16 w gb rest den u):Zb16 w ((u.alloc Zd).alloc Zd) gb (u.heap.size+1):=by
 have:=(h.al Zd).new;rw [World.size_alloc] at this;exact this
theorem line_core16 (low high:Nat) (at0 rest den lr:Nat) (mode:Int) (o1 o2 q dn:Option (Bool×Nat×Int)) (F1:Fm o1) (F2:Fm o2) (Fq:Fm q) (Fd:Fm dn) (sg t1 t2 t3 t4 t5 t6:Int) (z z0:Nat) (ez:Int) (w:World) (hT:Tab w) (hlr:IntKind.i64.wrap ((den:Int)-(rest:Int))=(lr:Int))
 (H1:Hid (∀ u:World,Tab u→Calls Tryz.prog 103 #[.float .f64 low,.int .i64 (lr:Nat)] u fun r w'=>DVal 0 w' r o1∧Below u.heap.size u w'))
 (H2:Hid (∀ u:World,Tab u→Calls Tryz.prog 103 #[.float .f64 high,.int .i64 (rest:Nat)] u fun r w'=>DVal 0 w' r o2∧Below u.heap.size u w'))
 (HADD:Hid (∀ (u:World) (a b:Option Addr) (c d:Nat),Tab u→Nt 0 u (.slice a (ws (dX o1)).length c) (dX o1)→Nt 0 u (.slice b (ws (dX o2)).length d) (dX o2)→Calls Tryz.prog 88 #[.agg #[.bool (dN o1),.slice a (ws (dX o1)).length c,.int .i64 (dE o1)],.agg #[.bool (dN o2),.slice b (ws (dX o2)).length d,.int .i64 (dE o2)]] u fun r w'=>(∃ v,r=.returned (.tuple #[.agg #[.bool (dN q),v,.int .i64 (dE q)],.int .i64 0])∧Nt u.heap.size w' v (dX q))∧Below u.heap.size u w'))
 (HSG:Hid (∀ (u:World) (a:Option Addr) (c:Nat),Nt 0 u (.slice a (ws (dX q)).length c) (dX q)→Calls Tryz.prog 58 #[.agg #[.bool (dN q),.slice a (ws (dX q)).length c,.int .i64 (dE q)]] u fun r w'=>r=.returned (.int .i64 sg)∧Below u.heap.size u w'))
 (HPL:Hid (∀ u:World,Calls Tryz.prog 105 #[] u fun r w'=>r=.returned (.agg #[.int .i64 0,.int .i64 0])∧Below u.heap.size u w'))
 (HSI:Hid (∀ (u:World) (b:Nat),Fs u.heap.size u (some ⟨b,0,none⟩) [low,high]→Calls Tryz.prog 104 #[.slice (some ⟨b,0,none⟩) 2 2,.agg #[.int .i64 0,.int .i64 0]] u fun r w'=>(∃ v,r=.returned (.tuple #[v,.agg #[.int .i64 t1,.int .i64 t2,.int .i64 t3,.int .i64 t4,.int .i64 t5,.int .i64 t6],.int .i64 0]))∧Below u.heap.size u w'))
 (HNO:Hid (∀ u:World,Calls Tryz.prog 106 #[.agg #[.int .i64 t1,.int .i64 t2,.int .i64 t3,.int .i64 t4,.int .i64 t5,.int .i64 t6],.int .i64 mode] u fun r w'=>r=.returned (.float .f64 z0)∧Below u.heap.size u w'))
 (HI:Hid (∀ u:World,Tab u→Calls Tryz.prog 74 #[.int .i64 (den:Nat)] u fun r w'=>(∃ v,r=.returned (.agg #[.bool (dN dn),v,.int .i64 (dE dn)])∧Nt u.heap.size w' v (dX dn))∧Below u.heap.size u w'))
 (HQT:Hid (∀ (u:World) (a b:Option Addr) (c d:Nat),Tab u→Nt 0 u (.slice a (ws (dX q)).length c) (dX q)→Nt 0 u (.slice b (ws (dX dn)).length d) (dX dn)→Calls Tryz.prog 77 #[.agg #[.bool (dN q),.slice a (ws (dX q)).length c,.int .i64 (dE q),.bool (dN dn),.slice b (ws (dX dn)).length d,.int .i64 (dE dn)],.int .i64 mode] u fun r w'=>r=.returned (.tuple #[.float .f64 z,.int .i64 ez])∧Below u.heap.size u w')) :
 Calls Tryz.prog 63 #[.agg #[.int .i64 (at0:Nat),.int .i64 (rest:Nat),.int .i64 (den:Nat)],.float .f64 low,.float .f64 high,.int .i64 mode] w fun r w'=>r=.returned (.float .f64 (if sg=0 then z0 else z))∧Below w.heap.size w w':=by
 obtain ⟨zz,hzz⟩:∃ x,x=if sg=0 then z0 else z:=⟨_,rfl⟩
 rw [←hzz];have HZ:=qsd hzz;clear hzz;obtain ⟨W0,hW0⟩:∃ W,W=w.alloc (Obj.cells #[.int .i64 (at0:Nat),.int .i64 (rest:Nat),.int .i64 (den:Nat)] 81):=⟨_,rfl⟩;obtain ⟨gb,hgb⟩:∃ g,g=w.heap.size:=⟨_,rfl⟩
 have hs:Bs16 w gb rest den W0:=by
  subst hW0 hgb;exact ⟨below_alloc _ _,by rw [World.cell?_alloc_new];rfl,by rw [World.cell?_alloc_new];rfl⟩
 have FF:=(qsd (ai F1 (ai F2 (ai hT (ai Fq Fd)))));have HW:=(qsd (ai hW0 hgb));have B0:=qsd hs;clear hW0 hgb F1 F2 hT hs Fq Fd;go_enter Tryz.func63,Tryz.ntmps63
 go_upto_region 1 with fail
 rw [←HW.out.1,←HW.out.2]
 go_cut [9,10] from 18 to 28 (fun p9 p10 wx=>∃ g9 g10,p9=.pointer (some ⟨g9,0,none⟩)∧p10=.pointer (some ⟨g10,0,none⟩)∧Aside (Pr16 w gb rest den o1 o2 g9 g10 wx))
 case first =>
  refine calm16 ?_
  go_region_held3 (fun w'=>w'.cell? ⟨gb,1,none⟩=some (.int .i64 (rest:Nat))∧w'.cell? ⟨gb,2,none⟩=some (.int .i64 (den:Nat))) (first
   | with_reducible exact B2.out.2
   | with_reducible exact B2.out.2.al _
   | with_reducible exact (B2.out.2.al _).al _
   | with_reducible exact B2.out.2.st' ZA.out.2.2 _ _ _
   | with_reducible exact B2.out.2.st' ZB.out.2.2 _ _ _
   | with_reducible exact (B2.out.2.st' ZA.out.2.2 _ _ _).st' ZB.out.2.2 _ _ _
   | with_reducible exact (B2.out.2.st' ZB.out.2.2 _ _ _).st' ZA.out.2.2 _ _ _
   | with_reducible exact (B2.out.2.st' ZA.out.2.2 _ _ _).al _
   | with_reducible exact (B2.out.2.al _).st' ZA.out.2.2 _ _ _
   | with_reducible exact B1.out.2
   | with_reducible exact B1.out.2.al _
   | with_reducible exact (B1.out.2.al _).al _
   | with_reducible exact B0.out.2.dr
   | with_reducible exact (B0.out.2.al _).dr
   | with_reducible exact ((B0.out.2.al _).al _).dr) (first
   | (go_at_call_of 103 (Value.float FloatKind.f64 low)
      first
      | (have BX:=qsd (B0.out.dr)
         with_reducible refine (H1.out _ (FF.out.2.2.1.belows BX.out.1)).mono ?_
         rintro r v1 ⟨⟨p,rfl,hN⟩,hb⟩;obtain ⟨a1,c1,rfl,hN0⟩:=Lo.shape FF.out.1 hN;have B1:=qsd (BX.out.be hb);have N1:=qsd hN0;clear hb hN hN0 BX)
      | (have BX:=qsd ((B0.out.al Zd).dr)
         with_reducible refine (H1.out _ (FF.out.2.2.1.belows BX.out.1)).mono ?_
         rintro r v1 ⟨⟨p,rfl,hN⟩,hb⟩;obtain ⟨a1,c1,rfl,hN0⟩:=Lo.shape FF.out.1 hN;have B1:=qsd (BX.out.be hb);have N1:=qsd hN0;have ZA:=qsd ((B0.out.new.dr).be hb);clear hb hN hN0 BX)
      | (have BX:=qsd (((B0.out.al Zd).al Zd).dr)
         with_reducible refine (H1.out _ (FF.out.2.2.1.belows BX.out.1)).mono ?_
         rintro r v1 ⟨⟨p,rfl,hN⟩,hb⟩;obtain ⟨a1,c1,rfl,hN0⟩:=Lo.shape FF.out.1 hN;have B1:=qsd (BX.out.be hb);have N1:=qsd hN0;have ZA:=qsd (((B0.out.new.al Zd).dr).be hb);have ZB:=qsd ((B0.out.new2.dr).be hb);have hAB:W0.heap.size≠W0.heap.size+1:=by omega
         have hBA:W0.heap.size+1≠W0.heap.size:=by omega
         clear hb hN hN0 BX))
   | (go_at_call_of 103 (Value.float FloatKind.f64 high)
      first
      | (have BX:=qsd (B1.out)
         with_reducible refine (H2.out _ (FF.out.2.2.1.belows BX.out.1)).mono ?_
         rintro r v2 ⟨⟨p,rfl,hN⟩,hb⟩;obtain ⟨a2,c2,rfl,hN0⟩:=Lo.shape FF.out.2.1 hN;have B2:=qsd (BX.out.be hb);have N1:=qsd (N1.out.below hb);have N2:=qsd hN0
         try (have ZB:=qsd (ZB.out.be hb))
         try (have ZA:=qsd (ZA.out.be hb))
         try (obtain ⟨⟨e1,e2,D7,e3⟩,e4⟩:=ZA.out;obtain ⟨y0,y1,y2,z0,z1,z2⟩:=D7.facts;have lA:=D7.lt;have nA:=Nat.ne_of_lt lA;have mA:=Nat.ne_of_gt lA;clear D7 e3 e4)
         try (obtain ⟨⟨e1,e2,D7,e3⟩,e4⟩:=ZB.out;obtain ⟨x0,x1,x2,t0,t1,t2⟩:=D7.facts;have lB:=D7.lt;have nB:=Nat.ne_of_lt lB;have mB:=Nat.ne_of_gt lB;clear D7 e3 e4)
         clear hb hN hN0 BX)
      | (have BX:=qsd ((B1.out.al Zd))
         with_reducible refine (H2.out _ (FF.out.2.2.1.belows BX.out.1)).mono ?_
         rintro r v2 ⟨⟨p,rfl,hN⟩,hb⟩;obtain ⟨a2,c2,rfl,hN0⟩:=Lo.shape FF.out.2.1 hN;have B2:=qsd (BX.out.be hb);have N1:=qsd ((N1.out.below (below_alloc _ Zd)).below hb);have N2:=qsd hN0
         first | (have hAB:=Nat.ne_of_lt ZA.out.1.lt;have hBA:=Nat.ne_of_gt ZA.out.1.lt;have ZA:=qsd ((ZA.out.al Zd).be hb);have ZB:=qsd ((B1.out.new).be hb)) | (have ZA:=qsd ((B1.out.new).be hb))
         try (obtain ⟨⟨e1,e2,D7,e3⟩,e4⟩:=ZA.out;obtain ⟨y0,y1,y2,z0,z1,z2⟩:=D7.facts;have lA:=D7.lt;have nA:=Nat.ne_of_lt lA;have mA:=Nat.ne_of_gt lA;clear D7 e3 e4)
         try (obtain ⟨⟨e1,e2,D7,e3⟩,e4⟩:=ZB.out;obtain ⟨x0,x1,x2,t0,t1,t2⟩:=D7.facts;have lB:=D7.lt;have nB:=Nat.ne_of_lt lB;have mB:=Nat.ne_of_gt lB;clear D7 e3 e4)
         clear hb hN hN0 BX)
      | (have BX:=qsd (((B1.out.al Zd).al Zd))
         with_reducible refine (H2.out _ (FF.out.2.2.1.belows BX.out.1)).mono ?_
         rintro r v2 ⟨⟨p,rfl,hN⟩,hb⟩;obtain ⟨a2,c2,rfl,hN0⟩:=Lo.shape FF.out.2.1 hN;have B2:=qsd (BX.out.be hb);have N1:=qsd (((N1.out.below (below_alloc _ Zd)).below (below_alloc _ Zd)).below hb);have N2:=qsd hN0;have ZA:=qsd (((B1.out.new.al Zd)).be hb);have ZB:=qsd ((B1.out.new2).be hb);have hAB:v1.heap.size≠v1.heap.size+1:=by omega
         have hBA:v1.heap.size+1≠v1.heap.size:=by omega
         try (obtain ⟨⟨e1,e2,D7,e3⟩,e4⟩:=ZA.out;obtain ⟨y0,y1,y2,z0,z1,z2⟩:=D7.facts;have lA:=D7.lt;have nA:=Nat.ne_of_lt lA;have mA:=Nat.ne_of_gt lA;clear D7 e3 e4)
         try (obtain ⟨⟨e1,e2,D7,e3⟩,e4⟩:=ZB.out;obtain ⟨x0,x1,x2,t0,t1,t2⟩:=D7.facts;have lB:=D7.lt;have nB:=Nat.ne_of_lt lB;have mB:=Nat.ne_of_gt lB;clear D7 e3 e4)
         clear hb hN hN0 BX)))
  all_goals
   go_wp2_with fail
   go_meet
   case rel=>first
    | with_reducible exact ⟨_,_,rfl,rfl,qsd (fin0_16 B2.out.1 B2.out.2 N1.out N2.out)⟩
    | with_reducible exact ⟨_,_,rfl,rfl,qsd ((fin0_16 B2.out.1 B2.out.2 N2.out N1.out).sw)⟩
    | with_reducible exact ⟨_,_,rfl,rfl,qsd (fin1a_16 B2.out.1 B2.out.2 N1.out N2.out ZA.out)⟩
    | with_reducible exact ⟨_,_,rfl,rfl,qsd (fin1b_16 B2.out.1 B2.out.2 N1.out N2.out ZA.out)⟩
    | with_reducible exact ⟨_,_,rfl,rfl,qsd ((fin1a_16 B2.out.1 B2.out.2 N2.out N1.out ZA.out).sw)⟩
    | with_reducible exact ⟨_,_,rfl,rfl,qsd ((fin1b_16 B2.out.1 B2.out.2 N2.out N1.out ZA.out).sw)⟩
    | with_reducible exact ⟨_,_,rfl,rfl,qsd (fin2_16 B2.out.1 B2.out.2 N1.out N2.out ZA.out ZB.out hAB)⟩
    | with_reducible exact ⟨_,_,rfl,rfl,qsd ((fin2_16 B2.out.1 B2.out.2 N2.out N1.out ZA.out ZB.out hAB).sw)⟩
    | with_reducible exact ⟨_,_,rfl,rfl,qsd (fin2_16 B2.out.1 B2.out.2 N1.out N2.out ZB.out ZA.out hBA)⟩
    | with_reducible exact ⟨_,_,rfl,rfl,qsd ((fin2_16 B2.out.1 B2.out.2 N2.out N1.out ZB.out ZA.out hBA).sw)⟩
 clear B0;obtain ⟨g9,g10,rfl,rfl,HA⟩:=hcut;obtain ⟨W1,hW⟩:∃ W,W=wc:=⟨_,rfl⟩;subst hW;obtain ⟨⟨x9,k9,D9,M9⟩,⟨x10,k10,D10,M10⟩,hb,hs⟩:=HA.out;obtain ⟨p0,p1,p2,_,_,_⟩:=D9.facts;obtain ⟨q0,q1,q2,_,_,_⟩:=D10.facts;have C:=hid (HADD.out W1 x9 x10 k9 k10 (FF.out.2.2.1.belows hb) M9 M10);have K1:Aside (Bs16 w gb rest den W1):=⟨hb,hs⟩;clear D9 M9 D10 M10 hb hs HA HADD H1 H2
 go_wp2_with fail
 refine C.out.mono ?_;rintro r v3 ⟨⟨p,rfl,hN⟩,hb⟩;obtain ⟨a3,c3,rfl,hN0⟩:=Lo.shape FF.out.2.2.2.1 hN;obtain ⟨V3,hV3⟩:∃ V,V=v3.alloc (dc16 q a3 c3):=⟨_,rfl⟩;obtain ⟨g11,hg11⟩:∃ g,g=v3.heap.size:=⟨_,rfl⟩
 have K2:Aside (Dk V3 g11 (dN q) (.slice a3 (ws (dX q)).length c3) (dE q)∧Nt 0 V3 (.slice a3 (ws (dX q)).length c3) (dX q)∧Bs16 w gb rest den V3):=by
  rw [hV3,hg11];exact ⟨Dk.new _ _ _ _,hN0.below (below_alloc _ _),(K1.out.be hb).al _⟩
 have HV:=(qsd (ai hV3 hg11));clear C hb hN hN0 K1 hV3 hg11 p0 p1 p2 q0 q1 q2
 go_upto_region 3 with fail
 rw [←HV.out.1,←HV.out.2];clear HV;obtain ⟨d0,d1,d2,_,_,_⟩:=K2.out.1.facts;have C:=hid (HSG.out V3 a3 c3 K2.out.2.1)
 go_wp2_with fail
 refine C.out.mono ?_;rintro r v4 ⟨rfl,hb⟩;have K3:Aside (Dk v4 g11 (dN q) (.slice a3 (ws (dX q)).length c3) (dE q)∧Nt 0 v4 (.slice a3 (ws (dX q)).length c3) (dX q)∧Bs16 w gb rest den v4):=⟨K2.out.1.below hb,K2.out.2.1.below hb,K2.out.2.2.be hb⟩;clear C hb K2 d0 d1 d2 HSG
 by_cases h0:sg=0
 · replace HZ:Aside (zz=z0):=qsd (by rw [HZ.out,if_pos h0])
   subst h0;obtain ⟨U0,hU0⟩:∃ U,U=v4.alloc (Obj.cells #[.float .f64 low,.float .f64 high] 26):=⟨_,rfl⟩;obtain ⟨gl,hgl⟩:∃ g,g=v4.heap.size:=⟨_,rfl⟩
   have K4:Aside (Fs U0.heap.size U0 (some ⟨gl,0,none⟩) [low,high]∧Below w.heap.size w U0):=by
    rw [hU0,hgl];exact ⟨fs_two v4 low high,K3.out.2.2.1.trans ((below_alloc _ _).mono K3.out.2.2.1.size)⟩
   have C:=hid (HPL.out U0);have HU:=(qsd (ai hU0 hgl));clear hU0 hgl K3
   go_wp2_with fail
   rw [←HU.out.1,←HU.out.2];clear HU;refine C.out.mono ?_;rintro r v5 ⟨rfl,hb⟩;have K5:Aside (Fs v5.heap.size v5 (some ⟨gl,0,none⟩) [low,high]∧Below w.heap.size w v5):=⟨(K4.out.1.below hb).mono hb.size,K4.out.2.trans (hb.mono K4.out.2.size)⟩;clear C hb K4;have C:=hid (HSI.out v5 gl K5.out.1)
   go_wp2_with fail
   refine C.out.mono ?_;rintro r v6 ⟨⟨lv,rfl⟩,hb⟩;obtain ⟨V6,hV6⟩:∃ V,V=v6.alloc (Obj.cells #[.int .i64 t1,.int .i64 t2,.int .i64 t3,.int .i64 t4,.int .i64 t5,.int .i64 t6] 119):=⟨_,rfl⟩;obtain ⟨g14,hg14⟩:∃ g,g=v6.heap.size:=⟨_,rfl⟩
   have K6:Aside (Bl V6 g14 119 [.int .i64 t1,.int .i64 t2,.int .i64 t3,.int .i64 t4,.int .i64 t5,.int .i64 t6]∧Below w.heap.size w V6):=by
    rw [hV6,hg14];have b6:=K5.out.2.trans (hb.mono K5.out.2.size);exact ⟨Bl.new _ 119 [_,_,_,_,_,_],b6.trans ((below_alloc _ _).mono b6.size)⟩
   have HV:=(qsd (ai hV6 hg14));clear C hb K5 hV6 hg14
   go_upto_region 5 with fail
   rw [←HV.out.1,←HV.out.2];clear HV;have s0:=K6.out.1.cell 0 _ rfl;have s1:=K6.out.1.cell 1 _ rfl;have s2:=K6.out.1.cell 2 _ rfl;have s3:=K6.out.1.cell 3 _ rfl;have s4:=K6.out.1.cell 4 _ rfl;have s5:=K6.out.1.cell 5 _ rfl;have C:=hid (HNO.out V6)
   go_wp2_with fail
   refine C.out.mono ?_;rintro r v7 ⟨rfl,hb⟩;have K7:=qsd (K6.out.2.trans (hb.mono K6.out.2.size));clear C hb K6 s0 s1 s2 s3 s4 s5;go_wp2;go_ret;exact ⟨by rw [HZ.out];rfl,K7.out⟩
 · have h01:(sg==0)=false:=by simp [h0]
   have h02:decide (sg=0)=false:=by simp [h0]
   replace HZ:Aside (zz=z):=qsd (by rw [HZ.out,if_neg h0])
   go_upto_region 6 with fail
   have hdr:=(Below.refl v4.heap.size v4).drew;have BB:Aside (Dk v4.drew g11 (dN q) (.slice a3 (ws (dX q)).length c3) (dE q)∧Nt 0 v4.drew (.slice a3 (ws (dX q)).length c3) (dX q)∧Bs16 w gb rest den v4.drew):=⟨K3.out.1.below hdr,K3.out.2.1.below hdr,K3.out.2.2.dr⟩;clear hdr K3;obtain ⟨d0,d1,d2,_,_,_⟩:=BB.out.1.facts;have s2:=BB.out.2.2.2.2;refine calm16 ?_
   go_region_with (first
    | (go_at_call 77
       with_reducible refine (HQT.out _ a3 a5 c3 c5 (FF.out.2.2.1.belows BB.out.2.2.1) BB.out.2.1 Q5.out).mono ?_
       rintro r v ⟨rfl,hb⟩;have BE:=qsd (BB.out.2.2.1.trans (hb.mono BB.out.2.2.1.size));clear hb d0 d1 d2 s2)
    | (go_at_call 74
       with_reducible refine (HI.out _ (FF.out.2.2.1.belows BB.out.2.2.1)).mono ?_
       rintro r v ⟨⟨p,rfl,hN⟩,hb⟩;obtain ⟨a5,c5,rfl,hN0⟩:=Lo.shape FF.out.2.2.2.2 hN;have BB:=qsd (ai (BB.out.1.below hb) (ai (BB.out.2.1.below hb) (BB.out.2.2.be hb)));have Q5:=qsd hN0;obtain ⟨d0,d1,d2,_,_,_⟩:=BB.out.1.facts;have s2:=BB.out.2.2.2.2;clear hb hN hN0))
   all_goals
    go_wp2;go_ret;exact ⟨by rw [HZ.out];rfl,BE.out⟩
end
end Go.Proofs.YtblkpkgebigojaaGreatDoor
