import Derived.Test.YtjppdacikihpdaaGreatDoorS10x
import Derived.Test.YtjppdacikihpdaaGreatDoorD32cx
import Derived.Test.YtjppdacikihpdaaGreatDoorRS6x
import Derived.Test.YtjppdacikihpdaaGreatDoorF2x
import Derived.Deep.RegionWith
import Derived.Test.YtjppdacikihpdaaGreatDoorW14x
import Derived.BigQuiet
import Derived.OwnWalk
import Derived.ArgAppend
import Derived.WalkMore
import Derived.Deep.RegionHeld3
import Derived.Deep.CutRange
set_option linter.unusedVariables false
set_option linter.unusedSimpArgs false
set_option maxHeartbeats 16000000
set_option maxRecDepth 20000
namespace Go.Proofs.YtjppdacikihpdaaGreatDoor
namespace J
end J
section
open Go.RowKit J
def tkQ(x:Nat):Int:=if 9218868437227405312<aQ x then 9221120237041090560 else if cZ x then -1-(aQ x:Int) else aQ x
theorem Qac{P:Prop}(h:P:=by
 unfold B.bw cZ aQ at *
 by_cases h:9223372036854775808<=x
 · rw[decide_eq_true h];simp only[fH];omega
 · rw[decide_eq_false h];simp only[fI];omega):P:=h
theorem ZI{x:Nat}(hx:x<18446744073709551616):∃ s e f,e<2048/\f<4503599627370496/\x=B.bw s e f/\s=cZ x/\e=aQ x/4503599627370496/\f=aQ x%4503599627370496:=by
 have hm:aQ x<9223372036854775808:=by unfold aQ;omega
 refine⟨cZ x,aQ x/4503599627370496,aQ x%4503599627370496,by omega,by omega,?_,rfl,rfl,rfl⟩;exact Qac
theorem ky_tk{x:Nat}(hx:x<18446744073709551616):B.ky (cZ x) (aQ x/4503599627370496) (aQ x%4503599627370496)=tkQ x:=by
 have hm:aQ x<9223372036854775808:=by unfold aQ;omega
 have e:((aQ x/4503599627370496:Nat):Int)*4503599627370496+(aQ x%4503599627370496:Nat)=(aQ x:Int):=by omega
 unfold B.ky tkQ
 by_cases h:9218868437227405312<aQ x
 · rw[if_pos h,if_pos (by omega)]
 · rw[if_neg h,if_neg (by omega),e]
theorem FW{x:Nat}(hx:x<18446744073709551616):∃ s e f,e<2048/\f<4503599627370496/\x=B.bw s e f/\B.ky s e f=tkQ x:=by
 obtain⟨s,e,f,h1,h2,h3,rfl,rfl,rfl⟩:=ZI hx;exact⟨_,_,_,h1,h2,h3,ky_tk hx⟩
theorem WG{x y:Nat}(hx:x<18446744073709551616)(hy:y<18446744073709551616)(w:World) :
 Calls Tryz.prog 99 #[.float .f64 x,.float .f64 y] w fun r w'=>r=.returned (.int .i64 (B.oc (tkQ x) (tkQ y)))/\w'=w:=by
 obtain⟨s,e,f,h1,h2,h3,h4⟩:=FW hx;obtain⟨t,u,v,i1,i2,i3,i4⟩:=FW hy;have h:=B.MB s t e f u v h1 h2 i1 i2 w;rw[h4,i4,<-h3,<-i3] at h;exact h
def leI(xs:List Nat)(i j:Nat):Bool:=decide (tkQ (xs.getD i 0)<tkQ (xs.getD j 0)\/tkQ (xs.getD i 0)=tkQ (xs.getD j 0)/\i<=j)
theorem OA(xs:List Nat)(a b c:Nat)(h1:leI xs a b=true)(h2:leI xs b c=true):leI xs a c=true:=by unfold leI at *;simp only[decide_eq_true_eq] at *;omega
theorem OB(xs:List Nat)(a b:Nat):(leI xs a b || leI xs b a)=true:=by unfold leI;simp only[Bool.or_eq_true,decide_eq_true_eq];omega
theorem yM(xs:List Nat)(a b:Nat)(h1:leI xs a b=true)(h2:leI xs b a=true):a=b:=by unfold leI at *;simp only[decide_eq_true_eq] at *;omega
def WI(xs is:List Nat):List Nat:=is.mergeSort (leI xs)
theorem Ay(xs is:List Nat):(WI xs is).Perm is:=List.mergeSort_perm is (leI xs)
theorem SV(xs is:List Nat):(WI xs is).length=is.length:=(Ay xs is).length_eq
theorem ll(xs is:List Nat):(WI xs is).Pairwise (fun a b=>leI xs a b=true):=List.pairwise_mergeSort (OA xs) (OB xs) is
theorem cK{A:List Nat}{i:Nat}(h:i<A.length):A.getD i 0 ∈ A:=by rw[bG,dx h];exact kR _
def kL(xs:List Nat):List Nat:=WI xs (List.range xs.length)
theorem mE(xs:List Nat):(kL xs).length=xs.length:=by unfold kL;rw[SV,xh]
theorem qf(xs:List Nat):(kL xs).Perm (List.range xs.length):=Ay _ _
theorem kM{xs:List Nat}{i:Nat}:i ∈ kL xs↔i<xs.length:=by rw[(qf xs).mem_iff,wG]
theorem WJ{xs:List Nat}{k:Nat}(h:k<xs.length):(kL xs).getD k 0<xs.length:=kM.1 (cK (by rw[mE];exact h))
def yX(xs:List Nat)(i:Nat):Nat:=(kL xs).idxOf i
theorem SY{xs:List Nat}{i:Nat}(h:i<xs.length):yX xs i<xs.length:=by
 have:=List.idxOf_lt_length_of_mem (kM.2 h);rw[mE] at this;exact this
theorem wh{xs:List Nat}{i:Nat}(h:i<xs.length):(kL xs).getD (yX xs i) 0=i:=by
 have h1:=List.idxOf_lt_length_of_mem (kM.2 h);unfold yX;rw[bG,dx h1];exact List.getElem_idxOf h1
def dR(xs:List Nat):List Nat:=(kL xs).map fun i=>SN (xs.getD i 0)
theorem j4(xs:List Nat):(dR xs).length=xs.length:=by unfold dR;rw[wD,mE]
theorem OC{xs:List Nat}{k:Nat}(h:k<xs.length):(dR xs).getD k 0=SN (xs.getD ((kL xs).getD k 0) 0):=by
 have hk:k<(kL xs).length:=by rw[mE];exact h
 unfold dR;rw[bG,wC,bG (l:=kL xs),dx hk];rfl
theorem CL{xs:List Nat}{i j:Nat}(hi:i<xs.length)(hj:j<xs.length)(h:yX xs i<yX xs j):leI xs i j=true:=by
 have p1:=SY hi;have p2:=SY hj;have hl:=mE xs;have:=(xe.1 (show(kL xs).Pairwise (fun a b=>leI xs a b=true) from ll xs _)) (yX xs i) (yX xs j) (by omega) (by omega) h;have e1:=wh hi;have e2:=wh hj;rw[bG,dx (by omega)] at e1 e2;simp only[Bq] at e1 e2;rw[e1,e2] at this;exact this
theorem CS{xs:List Nat}{i j:Nat}(hi:i<xs.length)(hj:j<xs.length)(h:yX xs i=yX xs j):i=j:=by
 rw[<-wh hi,<-wh hj,h]
theorem WK{xs:List Nat}{i j:Nat}(hi:i<xs.length)(hj:j<xs.length)(hne:i≠j):yX xs i<yX xs j↔leI xs i j=true:=by
 refine⟨CL hi hj,fun h=>?_⟩;rcases l6 (yX xs i) (yX xs j) with q|q|q
 · exact q
 · exact absurd (CS hi hj q) hne
 · exact absurd (yM xs i j h (CL hj hi q)) hne
def uA(x y:Int):Int:=if x<y then -1 else if y<x then 1 else 0
theorem WL(x:Int)(w:World):Calls Tryz.prog 159 #[.int .i64 x] w fun r w'=>r=.returned (.bool false)/\w'=w:=by
 go_enter Tryz.func159,Tryz.ntmps159;exact yd
theorem zm(x y:Int)(w:World):Calls Tryz.prog 100 #[.int .i64 x,.int .i64 y] w fun r w'=>r=.returned (.int .i64 (uA x y))/\w'=w:=by
 have H:=hid WL;unfold uA
 by_cases h1:x<y
 · rw[if_pos h1];go_enter Tryz.func100,Tryz.ntmps100
   go_wp2_with (go_at_call 159;refine(H.o _ _).mono ?_;rintro r w1 ⟨rfl,rfl⟩)
   exact Xs
 · rw[if_neg h1];have d1:decide (x<y)=false:=by simp;omega
   by_cases h2:y<x
   · rw[if_pos h2];go_enter Tryz.func100,Tryz.ntmps100
     go_wp2_with (go_at_call 159;refine(H.o _ _).mono ?_;rintro r w1 ⟨rfl,rfl⟩)
     exact Xs
   · rw[if_neg h2];have d2:decide (y<x)=false:=by simp;omega
     go_enter Tryz.func100,Tryz.ntmps100
     go_wp2_with (go_at_call 159;refine(H.o _ _).mono ?_;rintro r w1 ⟨rfl,rfl⟩)
     exact Xs
def rX(x y:Int):Int:=if x=0 then y else x
theorem Qbf{P:Prop}(h:P:=by
 go_wp2;go_ret;exact⟨by rw[E.o];rfl,rfl⟩):P:=h
theorem or15(g cap:Nat)(x y:Int)(w:World)(c1:w.cell? ⟨g,0,none⟩=some (.int .i64 x))(c2:w.cell? ⟨g,1,none⟩=some (.int .i64 y)):Calls Tryz.prog 98 #[.slice (some ⟨g,0,none⟩) 2 cap] w fun r w'=>r=.returned (.int .i64 (rX x y))/\w'=w:=by
 obtain⟨z,hz⟩:=af (rX x y);rw[<-hz];have HZ:=ah hz;clear hz;go_enter Tryz.func98,Tryz.ntmps98;go_wp2
 go_loopg [8] 2 (fun gk iv wr=>∃ i:Nat,gk+i=2/\iv=.int .i64 (i:Nat)/\Aside ((0<i->x=0)/\(1<i->y=0))/\wr=w)
 case atStart=>exact⟨0,rfl,rfl,⟨fun h=>by omega,fun h=>by omega⟩,rfl⟩
 case round =>
  obtain⟨i,h1,rfl,H,rfl⟩:=hrel;have hi:i=0\/i=1\/i=2:=by omega
  rcases hi with rfl|rfl|rfl
  · by_cases hx:x=0
    · subst hx;go_wp2;go_roundg 1
      case measure=>omega
      case rel=>exact⟨1,rfl,by first | rfl | simp,⟨fun _=>by first | rfl | trivial,fun h=>by omega⟩,rfl⟩
    · have e1:(x==0)=false:=by simp[hx]
      have e2:(x != 0)=true:=by simp[hx]
      have e3:decide (x=0)=false:=by simp[hx]
      have E:Aside (z=x):=ah (by rw[HZ.o];unfold rX;rw[if_neg hx]);exact Qbf
  · by_cases hy:y=0
    · subst hy;go_wp2;go_roundg 0
      case measure=>omega
      case rel=>exact⟨2,rfl,by first | rfl | simp,⟨fun _=>H.o.1 (by omega),fun h=>by first | rfl | trivial⟩,rfl⟩
    · have e1:(y==0)=false:=by simp[hy]
      have e2:(y != 0)=true:=by simp[hy]
      have e3:decide (y=0)=false:=by simp[hy]
      have E:Aside (z=y):=ah (by rw[HZ.o];unfold rX;rw[if_pos (H.o.1 (by omega))]);exact Qbf
  · have E:Aside (z=0):=ah (by rw[HZ.o];unfold rX;rw[if_pos (H.o.1 (by omega)),H.o.2 (by omega)]);exact Qbf
theorem ZJ(p q:Int)(i j:Nat)(hne:i≠j):rX (B.oc p q) (uA (i:Int) (j:Int))<0↔(p<q\/p=q/\i<=j):=by
 have e:B.oc p q=if p<q then -1 else if q<p then 1 else 0:=by unfold B.oc;rfl
 rw[e];unfold rX uA
 by_cases a:p<q
 · rw[if_pos a,if_neg (by omega)];omega
 · rw[if_neg a]
   by_cases b:q<p
   · rw[if_pos b,if_neg (by omega)];omega
   · rw[if_neg b,if_pos rfl]
     by_cases c:(i:Int)<(j:Int)
     · rw[if_pos c];omega
     · rw[if_neg c,if_pos (by omega)];omega
theorem WM(xs:List Nat)(i j:Nat)(hi:i<xs.length)(hj:j<xs.length):rX (B.oc (tkQ (xs.getD i 0)) (tkQ (xs.getD j 0))) (uA (i:Int) (j:Int))<0↔yX xs i<yX xs j:=by
 by_cases hne:i=j
 · subst hne;have e:B.oc (tkQ (xs.getD i 0)) (tkQ (xs.getD i 0))=0:=by unfold B.oc;simp
   rw[e];unfold rX uA;simp
 · rw[WK hi hj hne,ZJ _ _ i j hne];unfold leI;rw[decide_eq_true_eq]
theorem CU (b off n cap i j:Nat) (at':Value) (p q:Nat) (o c z:Int) (u:World) (c1:u.cell? ⟨b,off+i,none⟩=some (.float .f64 p)) (c2:u.cell? ⟨b,off+j,none⟩=some (.float .f64 q)) (hi:i<n) (hj:j<n)
 (HO:Hid (∀ w,Calls Tryz.prog 99 #[.float .f64 p,.float .f64 q] w fun r w'=>r=.returned (.int .i64 o)/\w'=w))
 (HM:Hid (∀ w,Calls Tryz.prog 100 #[.int .i64 (i:Nat),.int .i64 (j:Nat)] w fun r w'=>r=.returned (.int .i64 c)/\w'=w))
 (HR:Hid (∀ (g cap:Nat) (w:World),w.cell? ⟨g,0,none⟩=some (.int .i64 o)->w.cell? ⟨g,1,none⟩=some (.int .i64 c)->Calls Tryz.prog 98 #[.slice (some ⟨g,0,none⟩) 2 cap] w fun r w'=>r=.returned (.int .i64 z)/\w'=w)) :
 Calls Tryz.prog 59 #[.agg #[.slice (some ⟨b,off,none⟩) n cap,at'],.int .i64 (i:Nat),.int .i64 (j:Nat)] u fun r w'=>r=.returned (.int .i64 z)/\Below u.heap.size u w':=by
 have b1:(i:Int)<(n:Int):=by omega
 have b2:(j:Int)<(n:Int):=by omega
 have hb:b<u.heap.size:=by
  unfold World.cell? at c1;rcases gT b u.heap.size with q|q
  · exact q
  · rw[wW q] at c1;cases c1
 go_enter Tryz.func59,Tryz.ntmps59
 go_upto_region 1 with fail
 go_region_with (first
  | (go_at_call 99
     refine(HO.o _).mono ?_
     rintro r v ⟨rfl,rfl⟩)
  | (go_at_call 100
     refine(HM.o _).mono ?_
     rintro r v ⟨rfl,rfl⟩)
  | (go_at_call 98
     refine(HR.o _ _ _ (by simp[go_sem]) (by simp[go_sem])).mono ?_
     rintro r v ⟨rfl,rfl⟩))
 all_goals
  go_wp2;go_ret;refine⟨rfl,?_⟩
  first
   | exact((((ay u.heap.size u).alloc (ak _) _).drew).alloc (by simp) _)
   | exact((((ay u.heap.size u).alloc (ak _) _).alloc (by simp) _).drew)
theorem Ta(xs:List Nat)(ao:Option Addr)(n cap g G:Nat)(at':Value)(w:World)(hF:Fs G w ao xs)(hG:G<=g)(hGw:G<=w.heap.size)(hn:n=xs.length)(hW:ja xs):iD (yX xs) n g (.agg #[.slice ao n cap,at']) w:=by
 intro u x y hB hx hy;subst hn;obtain⟨b,off,h1,rfl,h3⟩:=hF (by intro e;subst e;simp at hx)
 have k:∀ i,i<xs.length->u.cell? ⟨b,off+i,none⟩=some (.float .f64 (xs.getD i 0)):=fun i hi =>
  (qV (a:=⟨b,off+i,none⟩) (hB.block b (by omega) (by omega))).trans (h3 i hi)
 have hm:∀ i,i<xs.length->xs.getD i 0<18446744073709551616:=fun i hi=>hW _ (cK hi);exact⟨_,WM xs x y hx hy,CU b off xs.length cap x y at' _ _ _ _ _ u (k x hx) (k y hy) hx hy (fun w=>WG (hm x hx) (hm y hy) w) (fun w=>zm _ _ w) (fun g cap w c1 c2=>or15 g cap _ _ w c1 c2)⟩
attribute [local go_sem] bR
def lN(n:Nat):Value:=.float .f64 n
theorem Tryz.kN:Tryz.prog.underlying 22=some (.slice 27):=by kernel_rfl
theorem Tryz.yN:(Tryz.prog.info? 27).map (fun i=>(i.zero,i.size,i.bytes))=some (some (.float .f64 0),1,8):=by kernel_rfl
def eG(w:World)(g:Nat)(L:List Nat):Prop:=w.heap[g]?=some (.cells (L.map lN).toArray 27 (0,0))
theorem eG.lt{w:World}{g:Nat}{L:List Nat}(h:eG w g L):g<w.heap.size:=(eZ.1 h).1
theorem eG.cell{w:World}{g:Nat}{L:List Nat}(h:eG w g L)(i:Nat)(hi:i<L.length):w.cell? ⟨g,i,none⟩=some (.float .f64 (L.getD i 0)):=by
 unfold eG at h;simp[World.cell?,h,lN,hi]
theorem eG.frozen{w:World}{g:Nat}{L:List Nat}(h:eG w g L)(i:Nat):w.frozen? ⟨g,i,none⟩=false:=by
 unfold eG at h;simp[World.frozen?,h]
theorem eG.set{w:World}{g:Nat}{L:List Nat}(h:eG w g L)(i x:Nat):eG (w.setCell ⟨g,i,none⟩ (.float .f64 x)) g (L.set i x):=by
 unfold eG at h |-;simp only[World.setCell,gN,h];simp[lN,wL]
theorem eG.below{w w':World}{g B:Nat}{L:List Nat}(h:eG w g L)(hb:Below B w w')(hg:g<B):eG w' g L:=by
 unfold eG at h |-;rw[hb.block g hg];exact h
theorem eG.fs{w:World}{g B:Nat}{L:List Nat}(h:eG w g L)(hg:g<B)(n:Nat):Fs B w (some ⟨g,0,none⟩) (L.take n):=by
 intro _;refine⟨g,0,hg,rfl,fun i hi=>?_⟩;rw[eY] at hi;rw[cO,h.cell i (by omega)];congr 2;rw[bG,bG,List.getElem?_take,if_pos (by omega)]
theorem lq(z:Int)(n:Nat)(hz:z=(n:Int))(hn:n<=17592186044416)(w:World) :
 (Instr.makeSlice 22 (.int .i64 z) (.int .i64 z)).run Tryz.prog w=.ok (.slice (some ⟨w.heap.size,0,none⟩) n n) (w.alloc (.cells (madeCells #[.float .f64 0] n) 27)):=by
 subst hz;exact run_make_row' 22 27 (.float .f64 0) 8 Tryz.kN Tryz.yN rfl .i64 .i64 n (by omega) (by omega) w
theorem eG.made(w:World)(n:Nat):eG (w.alloc (.cells (madeCells #[.float .f64 0] n) 27)) w.heap.size (List.replicate n 0):=by
 unfold eG;have h1:=gU w (.cells (madeCells #[.float .f64 0] n) 27);rw[h1];congr 2;apply Array.toList_inj.1;rw[toList_madeCells_one];simp[lN]
theorem FZ (w:World) (g dLen dCap:Nat) (ao:Option Addr) (sLen sCap B:Nat) (ty:TypeId)
 (L xs:List Nat) (hO:eG w g L) (hL:dLen<=L.length) (hx:sLen=xs.length) (hR:Fs B w ao xs) (hle:sLen<=dLen) :
 ∃ w',(Builtin.copy_ #[22,22] ty #[.slice (some ⟨g,0,none⟩) dLen dCap,.slice ao sLen sCap]).run Tryz.prog w=.ok (.int .i64 (sLen:Int)) w'/\eG w' g (xs++L.drop sLen)/\But g w w':=by
 subst hx;have hmin:Nat.min xs.length dLen=xs.length:=ik hle
 by_cases h0:xs=[]
 · subst h0;exact⟨w,run_copy_none (P:=Tryz.prog) w 22 22 ty 27 _ _ _ _ _ _ Tryz.kN (by kernel_rfl) (by simp at hmin |-),by simpa using hO,But.refl _ _⟩
 · obtain⟨b,off,hlt,rfl,hc⟩:=hR h0;have hadd:∀ j,(⟨b,off,none⟩:Addr).add j=⟨b,off+j,none⟩:=by intro j;unfold Addr.add;split <;> simp_all
   have hrun:=run_copy_row (P:=Tryz.prog) w 22 22 ty 27 g 0 dLen dCap ⟨b,off,none⟩ xs.length sCap (L.map lN).toArray 27 (xs.map lN) Tryz.kN (by kernel_rfl) hO (by rw[hmin];simp) (by
    intro j v hv;rw[hadd]
    have hj:j<xs.length:=by
     have:=(uL.1 hv).1;simpa using this
    rw[hc j hj];simp[hj,lN] at hv
    simp[hj,<-hv]) (by simp;omega) (by
    intro v hv;obtain⟨n,_,rfl⟩:=qR.1 hv
    rfl)
   refine⟨w.setRow g (((xs++L.drop xs.length).map lN)).toArray,?_,setRow_heap w g _ _ 27 _ hO,⟨rfl,rfl,rfl,by simp[World.setRow],fun k _ hk=>setRow_other w g k _ hk⟩⟩;simpa [wz,List.map_drop,goInt] using hrun
def jM:Nat:=4693671547643874799
theorem F3(xs:List Nat)(n:Nat)(hn:n=xs.length):xs++(List.replicate (n+8) 0).drop n=xs++List.replicate 8 0:=by
 rw[wM,show n+8-n=8 by omega]
theorem OD(xs:List Nat)(n k:Nat)(hn:n=xs.length)(hk:k<8):(xs++(List.replicate k jM++List.replicate (8-k) 0)).set (n+k) jM=xs++(List.replicate (k+1) jM++List.replicate (8-(k+1)) 0):=by
 subst hn;have hc:k=0\/k=1\/k=2\/k=3\/k=4\/k=5\/k=6\/k=7:=by omega
 rw[Br _ _ (by omega),GA];rcases hc with rfl|rfl|rfl|rfl|rfl|rfl|rfl|rfl <;> rfl
theorem WO(xs:List Nat)(ao:Option Addr)(n cap B:Nat)(w:World)(hn:n=xs.length)(hm:n<=17592186043904)(hR:Fs B w ao xs)(hB:B<=w.heap.size) :
 Calls Tryz.prog 6 #[.slice ao n cap] w fun r w'=>r=.returned (.slice (some ⟨w.heap.size,0,none⟩) n (n+8))/\eG w' w.heap.size (xs++List.replicate 8 jM)/\Below w.heap.size w w':=by
 have hmk:=lq ((n+8:Nat):Int) (n+8) rfl (by omega);have hmk2:=lq ((n:Int)+8) (n+8) (by omega) (by omega);have HO2:Hid (eG (w.alloc (.cells (madeCells #[.float .f64 0] (n+8)) 27)) w.heap.size (List.replicate (n+8) 0)):=eG.made w (n+8);obtain⟨w2,hcp,hO2,aD⟩:=FZ _ w.heap.size (n+8) (n+8) ao n cap B 3 (List.replicate (n+8) 0) xs HO2.o (by simp) hn (hR.below ((ay _ _).alloc hB _)) (by omega);rw[F3 xs n hn] at hO2;have HX:=(fG hO2 aD hn);have HM:=hid (fun u:World=>XW jM u);clear hO2 aD HO2 hn hR;go_enter Tryz.func6,Tryz.ntmps6;go_wp2
 go_loopg [4] 8 (fun gk i wr=>∃ k:Nat,gk+k=8/\i=.int .i64 ((n+k:Nat):Int)/\Aside (eG wr w.heap.size (xs++(List.replicate k jM++List.replicate (8-k) 0))/\But w.heap.size w2 wr))
 case atStart=>exact⟨0,by omega,by simp,HX.o.1,But.refl _ _⟩
 case round =>
  obtain⟨k,lU,rfl,HA⟩:=hrel
  by_cases hk:k<8
  · have hd:decide (((n+k:Nat):Int)<(n:Int)+8)=true:=by simp;omega
    have hfz:=HA.o.1.frozen (n+k);have hcl:=HA.o.1.cell (n+k) (by rw[HX.o.r2];simp;omega);go_wp2_with fail;refine(HM.o _).mono ?_;rintro r w3 ⟨rfl,rfl⟩;go_wp2;go_roundg (gk-1)
    case measure=>omega
    case rel =>
     refine⟨k+1,by omega,by go_num,?_,HA.o.2.set _ _⟩;rw[<-OD xs n k HX.o.r2 hk];exact HA.o.1.set (n+k) jM
  · obtain rfl:k=8:=by omega
    have hd:decide (((n+8:Nat):Int)<(n:Int)+8)=false:=by simp
    go_wp2;go_ret;refine⟨rfl,?_,?_⟩
    · simpa using HA.o.1
    · exact But.below ((ay _ _).alloc (ak _) _) (HX.o.2.1.trans HA.o.2) (by simp) (ak _)
theorem xj{P:Prop}(h:P:=by
 go_wp2_with fail;refine(HR.o _ _).mono ?_;rintro r w3 ⟨rfl,rfl⟩;go_wp2;go_roundg (gk-1)
 case measure=>omega
 case rel=>exact⟨k+1,by omega,by go_num,rfl⟩):P:=h
theorem OE(xs:List Nat)(ao:Option Addr)(n cap B g:Nat)(w:World)(hn:n=xs.length)(hm:n<=17592186043904)(hR:Fs B w ao xs)(hB:B<=w.heap.size)(hO:eG w g (xs++List.replicate 8 jM)) :
 Calls Tryz.prog 8 #[.slice (some ⟨g,0,none⟩) n (n+8),.slice ao n cap] w fun r w'=>r=.returned (.bool true)/\Below w.heap.size w w':=by
 have hgl:=hO.lt;have HX:=(fM hR hO hn hB hgl);have HR:=hid (fun(x:Nat) (u:World)=>ZH x u);clear hR hO hn hB hgl;go_enter Tryz.func8,Tryz.ntmps8;go_wp2
 go_loopg [6] (n+8) (fun gk i wr=>∃ k:Nat,gk+k=n+8/\i=.int .i64 (k:Nat)/\wr=w)
 case atStart=>exact⟨0,by omega,by simp,rfl⟩
 case round =>
  obtain⟨k,lU,rfl,rfl⟩:=hrel
  by_cases hk:k<n
  · have hcg:=HX.o.2.1.cell k (by simp;rw[<-HX.o.r2.1];omega)
    have e1:(xs++List.replicate 8 jM).getD k 0=xs.getD k 0:=by
     rw[bG,zu (by rw[<-HX.o.r2.1];exact hk),bG]
    rw[e1] at hcg;obtain⟨b,off,rfl,hcl⟩:=HX.o.1.at (ay _ _) k (by rw[<-HX.o.r2.1];exact hk);obtain⟨x,hx⟩:=af (xs.getD k 0);rw[<-hx] at hcg hcl;have hd:decide ((k:Int)<(n:Int)+8)=true:=by simp;omega
    have hne:(((x:Nat):Int) != ((x:Nat):Int))=false:=by simp
    clear hx e1;go_wp2_with fail;refine(HR.o _ _).mono ?_;rintro r w3 ⟨rfl,rfl⟩;exact xj
  · by_cases hk8:k<n+8
    · have hcg:=HX.o.2.1.cell k (by simp;rw[<-HX.o.r2.1];omega)
      have e1:(xs++List.replicate 8 jM).getD k 0=4693671547643874799:=by
       rw[bG,qw (by rw[<-HX.o.r2.1];omega),Gy,if_pos (by rw[<-HX.o.r2.1];omega)];rfl
      rw[e1] at hcg;have hd:decide ((k:Int)<(n:Int)+8)=true:=by simp;omega
      have hd2:decide ((k:Int)<(n:Int))=false:=by simp;omega
      clear e1;exact xj
    · have hd:decide ((k:Int)<(n:Int)+8)=false:=by simp;omega
      go_wp2;go_ret;exact zc
end
section
open Go.RowKit J
theorem Tryz.Tc:Tryz.prog.underlying 59=some (.slice 3):=by kernel_rfl
theorem Tryz.Jf:(Tryz.prog.info? 3).map (fun i=>(i.zero,i.size,i.bytes))=some (some (.int .i64 0),1,8):=by kernel_rfl
theorem OG(z:Int)(n:Nat)(hz:z=(n:Int))(hn:n<=17592186044416)(w:World) :
 (Instr.makeSlice 59 (.int .i64 z) (.int .i64 z)).run Tryz.prog w=.ok (.slice (some ⟨w.heap.size,0,none⟩) n n) (w.alloc (.cells (madeCells #[.int .i64 0] n) 3)):=by
 subst hz;exact run_make_row' 59 3 (.int .i64 0) 8 Tryz.Tc Tryz.Jf rfl .i64 .i64 n (by omega) (by omega) w
theorem bM.made(w:World)(n:Nat):bM (w.alloc (.cells (madeCells #[.int .i64 0] n) 3)) w.heap.size (List.replicate n 0):=by
 unfold bM;have h1:=gU w (.cells (madeCells #[.int .i64 0] n) 3);rw[h1];congr 2;apply Array.toList_inj.1;rw[toList_madeCells_one];simp[Wy]
theorem F4{xs M:List Nat}(hP:M.Perm (List.range xs.length))(hU:Up (yX xs) 0 xs.length M):M=kL xs:=by
 have hl:M.length=xs.length:=by rw[hP.length_eq,xh]
 have hlt:∀ i (h:i<M.length),M[i]<xs.length:=fun i h=>wG.1 (hP.mem_iff.1 (kR h));have hnd:M.Nodup:=hP.nodup_iff.2 List.nodup_range;refine Bt (le:=fun a b=>leI xs a b=true) (fun a b ha hb h1 h2=>yM xs a b h1 h2) ?_ (ll xs _) (hP.trans (qf xs).symm);refine xe.2 fun i j hi hj hij=>?_;have h:=hU i j (kg _) hij (by omega);unfold ky at h;rw[bG,dx hi,bG,dx hj] at h;simp only[Bq] at h;have hne:M[i]≠M[j]:=xe.1 hnd i j hi hj hij;rcases gT (yX xs M[i]) (yX xs M[j]) with q|q
 · exact CL (hlt i hi) (hlt j hj) q
 · exact absurd (CS (hlt i hi) (hlt j hj) (by omega)) hne
theorem Jg(xs:List Nat)(n g cap:Nat)(recv:Value)(w:World)(hO:bM w g (List.range xs.length))(hn:n=xs.length)(hb:n<=17592186044416)(hC:iD (yX xs) n g recv w) :
 Calls Tryz.prog 58 #[.slice (some ⟨g,0,none⟩) n cap,.func (.func 59) #[recv] #[]] w fun r w'=>r=.returned (.tuple #[])/\bM w' g (kL xs)/\But g w w':=by
 have hS:aG n g n w w (fun M=>M=List.range xs.length):=by
  subst hn;exact⟨List.range xs.length,hO,xh,fun k hk=>by simp[bG,hk],But.refl _ _,rfl⟩
 have hlim:bl n<1152921504606846976:=by
  have:bl n<=64:=by
   rcases gT 64 (bl n) with q|q
   · have h1:=gL n (by intro e;subst e;simp[df] at q);have h2:=eB (n:=2) (by omega) (show 64<=bl n-1 by omega);omega
   · exact q
  omega
 have C:=hid (pdq15 (yX xs) n g n cap recv (by omega) n 0 n (bl n) (List.range xs.length) w (by omega) (kg _) (ak _) hlim hS hC (fun h=>by omega) List.nodup_range (fun x hx y hy h=>CS (wG.1 hx) (wG.1 hy) h));have D:=hid (FU n w (by omega));have wl:IntKind.u64.wrap (n:Int)=(n:Int):=by simp[IntKind.wrap,IntKind.bits,IntKind.signed];omega
 obtain⟨m,hm⟩:=af (bl n);rw[<-hm] at C D;have HN:=ah hn;clear hS hlim hC hO hn hm;go_enter Tryz.func58,Tryz.ntmps58;go_wp2_with fail;refine D.o.mono ?_;rintro r w1 ⟨rfl,rfl⟩;go_wp2_with fail;refine C.o.mono ?_;rintro r v ⟨rfl,hv⟩;have HR:=ah hv;clear C D hv;go_wp2;refine bodyPost_end (v:=.tuple #[]) (by simp[results,Tryz.results58,go_sem]) rfl ?_;obtain⟨M,h1,h2,h3,h4,h5,h6⟩:=HR.o;refine⟨rfl,?_,h4⟩;have hn:=HN.o;subst hn;rw[<-F4 h5.perm h6];exact h1
def iU(n k:Nat):List Nat:=List.range k++List.replicate (n-k) 0
theorem OH(n:Nat):iU n 0=List.replicate n 0:=by simp[iU]
theorem Td(n:Nat):iU n n=List.range n:=by simp[iU]
theorem Te{n k:Nat}(h:k<=n):(iU n k).length=n:=by simp[iU];omega
theorem OI{n k:Nat}(h:k<n):(iU n k).set k k=iU n (k+1):=by
 unfold iU;rw[Br _ _ (by simp),xh,uO,show n-k=(n-(k+1))+1 by omega,Bb,List.set_cons_zero,List.range_succ];simp
theorem dB{g:Nat}{u v:World}{p:Addr}{x:Value}(hB:But g u v)(h:u.cell? p=some x)(hp:p.block≠g):v.cell? p=some x :=
 (qV (hB.block p.block (aA h) hp)).trans h
theorem rY{g:Nat}{u v:World}{p:Addr}(hB:But g u v)(hl:p.block<u.heap.size)(h:u.frozen? p=false)(hp:p.block≠g):v.frozen? p=false:=by
 unfold World.frozen? at h |-;rw[hB.block p.block hl hp];exact h
theorem Qat{P:Prop}(h:P:=by
 rw[hW1,World.cell?_alloc_lt _ _ _ (by simp;omega),World.cell?_alloc_lt _ _ _ (by simp),World.cell?_alloc_new];rfl):P:=h
theorem WQ(xs:List Nat)(ao:Option Addr)(n cap:Nat)(w:World)(hF:Fs w.heap.size w ao xs)(hn:n=xs.length)(hb:n<=17592186044416)(hW:ja xs) :
 Calls Tryz.prog 35 #[.slice ao n cap] w fun r w'=>∃ g,r=.returned (.agg #[.slice ao n cap,.slice (some ⟨g,0,none⟩) n n])/\bM w' g (kL xs)/\Below w.heap.size w w'/\w.heap.size<=g:=by
 have mk:=OG n n rfl hb;have HF:=ah hF;have HN:=(aZ hn hW);clear hF hn hW;go_enter Tryz.func35,Tryz.ntmps35
 go_upto_region 2 with fail
 obtain⟨W1,hW1⟩:=af ((((w.alloc (Obj.cells #[Value.slice none 0 0,Value.slice none 0 0] 61)).alloc (Obj.cells (madeCells #[Value.int IntKind.i64 0] n) 3)).alloc (Obj.cells #[Value.slice ao n cap,Value.slice (some ⟨w.heap.size+1,0,none⟩) n n] 61)))
 have o1:bM W1 (w.heap.size+1) (iU n 0):=by
  rw[hW1,OH];have:=(bM.made (w.alloc (Obj.cells #[Value.slice none 0 0,Value.slice none 0 0] 61)) n);rw[sF] at this;exact this.below ((ay _ _).alloc (ak _) _) (by simp)
 have o2:Below w.heap.size w W1:=by
  rw[hW1];exact(((ay w.heap.size w).alloc (ak _) _).alloc (by simp) _).alloc (by simp;omega) _
 have q1:W1.cell? ⟨w.heap.size,0,none⟩=some (.slice none 0 0):=by
  exact Qat
 have q2:W1.cell? ⟨w.heap.size,1,none⟩=some (.slice none 0 0):=by
  exact Qat
 have q3:∀ i,W1.frozen? ⟨w.heap.size,i,none⟩=false:=fun i=>by
  rw[hW1,World.frozen?_alloc_old _ _ _ (by simp;omega),World.frozen?_alloc_old _ _ _ (by simp)];exact World.frozen?_alloc_new _ _ _ _
 have r1:W1.cell? ⟨w.heap.size+2,0,none⟩=some (.slice ao n cap):=by
  have:=World.cell?_alloc_new ((w.alloc (Obj.cells #[Value.slice none 0 0,Value.slice none 0 0] 61)).alloc (Obj.cells (madeCells #[Value.int IntKind.i64 0] n) 3)) #[Value.slice ao n cap,Value.slice (some ⟨w.heap.size+1,0,none⟩) n n] 61 0;rw[sF,sF] at this;rw[hW1];exact this
 have r2:W1.cell? ⟨w.heap.size+2,1,none⟩=some (.slice (some ⟨w.heap.size+1,0,none⟩) n n):=by
  have:=World.cell?_alloc_new ((w.alloc (Obj.cells #[Value.slice none 0 0,Value.slice none 0 0] 61)).alloc (Obj.cells (madeCells #[Value.int IntKind.i64 0] n) 3)) #[Value.slice ao n cap,Value.slice (some ⟨w.heap.size+1,0,none⟩) n n] 61 1;rw[sF,sF] at this;rw[hW1];exact this
 rw[<-hW1];clear hW1 mk;obtain⟨q,hq⟩:=af (w.heap.size);obtain⟨g,hg⟩:=af (w.heap.size+1);obtain⟨h,hh⟩:=af (w.heap.size+2);rw[<-hg] at o1 r2;rw[<-hh] at r1 r2;rw[<-hq] at q1 q2;simp only[<-hq] at q3;rw[show w.heap.size+1+1=h by omega,<-hg,<-hq];have hgq:g≠q:=by omega
 have hgh:g≠h:=by omega
 have hqg:q≠g:=by omega
 have hhg:h≠g:=by omega
 have HQ:=(fG hq hg hh);have HB:=ah o2;have HR:=(fM q1 q2 q3 r1 r2);have HA:Aside (bM W1 g (iU n 0)/\But g W1 W1):=⟨o1,But.refl _ _⟩;have hlh:h<W1.heap.size:=aA r1;have hlq:q<W1.heap.size:=aA q1;have HL:=(aZ hlh hlq);clear o1 o2 q1 q2 q3 hq hg hh hlh hlq;go_wp2
 go_loopg [13] n (fun gk iv wr=>∃ k:Nat,gk+k=n/\iv=.int .i64 (k:Nat)/\Aside (bM wr g (iU n k)/\But g W1 wr))
 case atStart=>exact⟨0,rfl,by first | rfl | simp,HA.o⟩
 case round =>
  clear HA r1 r2;obtain⟨k,lU,rfl,HA⟩:=hrel
  by_cases hk:k<n
  · have hdk:decide ((k:Int)<(n:Int))=true:=by simp;omega
    have bk:(k:Int)<(n:Int):=by omega
    obtain⟨k1,hk1⟩:=af (k+1);have wk:IntKind.i64.wrap ((k:Int)+1)=(k1:Int):=aH (by omega) (by omega);have r2:=dB HA.o.2 HR.o.r4 hhg;have c1:=HA.o.1.cell k (by rw[Te (by omega)];exact hk);have z1:=HA.o.1.frozen k;have HX:Aside (bM (wr.setCell ⟨g,k,none⟩ (.int .i64 (k:Nat))) g (iU n k1)/\But g W1 (wr.setCell ⟨g,k,none⟩ (.int .i64 (k:Nat)))):=⟨by rw[hk1,<-OI hk];exact HA.o.1.set k k,HA.o.2.set _ _⟩;obtain⟨y,hy⟩:=af ((iU n k).getD k 0);rw[<-hy] at c1;have HK:=ah hk1;clear HA hk1 hy;go_wp2;go_roundg (n-k1)
    case measure=>have:=HK.o;omega
    case rel=>exact⟨k1,by have:=HK.o;omega,by first | rfl | simp,HX.o⟩
  · have hdk:decide ((k:Int)<(n:Int))=false:=by simp;omega
    have hkn:k=n:=by omega
    subst hkn;obtain⟨a1,a2⟩:=HA.o;rw[Td] at a1;have r1:=dB a2 HR.o.r3.1 hhg;have r2:=dB a2 HR.o.r4 hhg;obtain⟨hn,hW⟩:=HN.o;obtain⟨hq,hg,hh⟩:=HQ.o
    have hFw:Fs w.heap.size wr ao xs:=by
     intro hne;obtain⟨b,off,h1,h2,h3⟩:=HF.o hne;refine⟨b,off,h1,h2,fun i hi=>?_⟩;exact dB a2 ((qV (a:=⟨b,off+i,none⟩) (HB.o.block b h1)).trans (h3 i hi)) (by show b≠g;omega)
    have hsz:w.heap.size<=wr.heap.size:=dz HB.o.size a2.size;have hC:iD (yX xs) k g (.agg #[.slice ao k cap,.slice (some ⟨g,0,none⟩) k k]) wr:=Ta xs ao k cap g w.heap.size _ wr hFw (by omega) hsz hn hW;rw[hn] at a1;have C:=hid (Jg xs k g k _ wr a1 hn hb hC);clear hFw hC a1 hn hW hq hg hh hsz;have HA2:=ah a2;clear HA a2;go_wp2_with fail;refine C.o.mono ?_;rintro r v ⟨rfl,e1,e2⟩;have a3:=HA2.o.trans e2;have r1:=dB a3 HR.o.r3.1 hhg;have r2:=dB a3 HR.o.r4 hhg;have q1:=dB a3 HR.o.1 hqg;have q2:=dB a3 HR.o.2.1 hqg;have q3:=rY (p:=⟨q,0,none⟩) a3 HL.o.2 (HR.o.r2.1 0) hqg;have q4:=rY (p:=⟨q,1,none⟩) a3 HL.o.2 (HR.o.r2.1 1) hqg;have HE:=(aZ e1 a3);clear C e1 e2 a3 HA2;go_wp2;obtain⟨WE,hWE⟩:=af (((v.setCell ⟨q,0,none⟩ (Value.slice ao k cap)).setCell ⟨q,1,none⟩ (Value.slice (some ⟨g,0,none⟩) k k)))
    have x1:WE.cell? ⟨q,0,none⟩=some (Value.slice ao k cap):=by
     rw[hWE,World.cell?_setCell_other _ _ _ _ (by simp)];exact World.cell?_setCell_same _ _ _ q1
    have x2:WE.cell? ⟨q,1,none⟩=some (Value.slice (some ⟨g,0,none⟩) k k):=by
     rw[hWE];exact World.cell?_setCell_same _ _ _ (by rw[World.cell?_setCell_other _ _ _ _ (by simp)];exact q2)
    rw[<-hWE];have X:=ah hWE;clear hWE;refine aB (v:=.agg #[.slice ao k cap,.slice (some ⟨g,0,none⟩) k k]) (by simp[results,Tryz.results35,go_sem,x1,x2]) rfl ?_;obtain⟨e1,a3⟩:=HE.o;obtain⟨hq,hg,hh⟩:=HQ.o
    have hb2:∀ j,j≠q->WE.heap[j]?=v.heap[j]?:=fun j hj=>by
     rw[X.o];simp only[World.setCell,gN];rw[if_neg (fun e=>hj e.symm),if_neg (fun e=>hj e.symm)]
    have hb3:WE.heap.size=v.heap.size:=by rw[X.o];simp[World.setCell]
    refine⟨g,rfl,?_,⟨?_,?_,?_,?_,?_⟩,by omega⟩
    · unfold bM;rw[hb2 g hgq];exact e1
    · rw[X.o];exact a3.os.trans HB.o.os
    · rw[X.o];exact a3.tape.trans HB.o.tape
    · rw[X.o];exact a3.output.trans HB.o.output
    · rw[hb3];exact dz HB.o.size a3.size
    · intro j hj;rw[hb2 j (by omega),a3.block j (by have:=HB.o.size;omega) (by omega)];exact HB.o.block j hj
theorem mV{x:Nat}(hx:x<18446744073709551616)(fx:aY x)(z:Nat)(hz:z=2098):Bd z (tQ x):=by
 unfold Bd;exact fD (Jb hx fx z hz)
theorem KJ(x n:Nat)(hx:x<18446744073709551616)(fx:aY x)(hn:n<=2147483648)(w:World)(hT:gF w) :
 Calls Tryz.prog 50 #[.float .f64 x,.int .i64 (n:Nat)] w fun r w'=>Iq 0 w' r (gV 1074 (tQ x*(n:Int)))/\Below w.heap.size w w':=by
 obtain⟨z,hz⟩:∃ z,z=2098:=⟨_,rfl⟩;obtain⟨k,hk⟩:∃ z,z=31:=⟨_,rfl⟩;have b1:=mV hx fx z hz;have b2:Bd k (n:Int):=by unfold Bd;rw[ni,hk];exact hn
 have e:=RY (u:=1074) (v:=0) (by omega) (by omega) (by omega) (by omega) b1 b2;have Fq:=lJ (u:=1074) (by omega) (by omega) (b1.mul b2);refine CJ x n (gV 1074 (tQ x)) (gV 0 n) _ (lJ (by omega) (by omega) b1) (lJ (by omega) (by omega) b2) Fq w hT (fun u hT=>of12 x hx fx u hT) (fun u hT=>?_) (fun u a b c d hT N1 N2=>Y7 (lJ (by omega) (by omega) b1) (lJ (by omega) (by omega) b2) N1 N2 hT e Fq);exact(Cc (n:Nat) u hT (by omega) (by omega)).mono (fun r w' h=>h)
abbrev kQ(gb:Nat)(rest den:Int)(u:World):Prop:=u.cell? ⟨gb,1,none⟩=some (.int .i64 rest)/\u.cell? ⟨gb,2,none⟩=some (.int .i64 den)
theorem kQ.lt{gb:Nat}{rest den:Int}{u:World}(h:kQ gb rest den u):gb<u.heap.size:=aA (p:=⟨gb,1,none⟩) h.1
theorem kQ.al{gb:Nat}{rest den:Int}{u:World}(h:kQ gb rest den u)(o:Obj):kQ gb rest den (u.alloc o):=⟨(World.cell?_alloc_lt _ _ _ h.lt).trans h.1,(World.cell?_alloc_lt _ _ _ h.lt).trans h.2⟩
theorem kQ.be{gb:Nat}{rest den:Int}{u v:World}(h:kQ gb rest den u)(hb:Below u.heap.size u v):kQ gb rest den v:=⟨(hb.cell (p:=⟨gb,1,none⟩) h.lt).trans h.1,(hb.cell (p:=⟨gb,2,none⟩) h.lt).trans h.2⟩
theorem kQ.st{gb g:Nat}{rest den:Int}{u:World}(h:kQ gb rest den u)(hg:gb<g)(x y z:Value):kQ gb rest den (dG u g x y z):=⟨dB (eF g u x y z) h.1 (il hg),dB (eF g u x y z) h.2 (il hg)⟩
abbrev Zd:Obj:=Obj.cells #[.bool false,.slice none 0 0,.int .i64 0] 79
abbrev rZ(w u:World)(gb g:Nat):Prop:=Lo u g Fy/\w.heap.size<=g/\gb<g
theorem rZ.be{w u v:World}{gb g:Nat}(h:rZ w u gb g)(hb:Below u.heap.size u v):rZ w v gb g:=⟨h.1.below hb,h.2⟩
abbrev r9(o:Option (Bool×Nat×Int))(a:Option Addr)(c:Nat):Obj:=Obj.cells #[.bool (dN o),.slice a (ws (dX o)).length c,.int .i64 (dE o)] 79
abbrev uB(u:World)(g:Nat)(o:Option (Bool×Nat×Int))(a:Option Addr)(c:Nat):World:=((u.setCell ⟨g,0,none⟩ (.bool (dN o))).setCell ⟨g,1,none⟩ (.slice a (ws (dX o)).length c)).setCell ⟨g,2,none⟩ (.int .i64 (dE o))
def Jh(w:World)(gb:Nat)(rest den:Int)(o1 o2:Option (Bool×Nat×Int))(g9 g10:Nat)(u:World):Prop:=Lo u g9 o1/\Lo u g10 o2/\Below w.heap.size w u/\kQ gb rest den u
theorem Jh.sw{w u:World}{gb g9 g10:Nat}{rest den:Int}{o1 o2:Option (Bool×Nat×Int)}(h:Jh w gb rest den o2 o1 g10 g9 u):Jh w gb rest den o1 o2 g9 g10 u:=⟨h.2.1,h.1,h.2.2⟩
section
variable {w v : World} {gb : Nat} {rest den : Int} {o1 o2 : Option (Bool × Nat × Int)} {a1 a2 : Option Addr} {c1 c2 : Nat}
theorem KL(hb:Below w.heap.size w v)(hs:kQ gb rest den v)(n1:Nt 0 v (.slice a1 (ws (dX o1)).length c1) (dX o1))(n2:Nt 0 v (.slice a2 (ws (dX o2)).length c2) (dX o2)) :
 Jh w gb rest den o1 o2 v.heap.size (v.heap.size+1) ((v.alloc (r9 o1 a1 c1)).alloc (r9 o2 a2 c2)):=by
 have h1:Lo (v.alloc (r9 o1 a1 c1)) v.heap.size o1:=Lo.new n1;have h2:Lo ((v.alloc (r9 o1 a1 c1)).alloc (r9 o2 a2 c2)) (v.alloc (r9 o1 a1 c1)).heap.size o2:=Lo.new (n2.below (ae _ _));rw[sF] at h2;have b1:=hb.trans ((ae v (r9 o1 a1 c1)).mono hb.size);exact⟨h1.below (ae _ _),h2,b1.trans ((ae _ _).mono b1.size),(hs.al _).al _⟩
theorem F5{gA:Nat}(hb:Below w.heap.size w v)(hs:kQ gb rest den v)(n1:Nt 0 v (.slice a1 (ws (dX o1)).length c1) (dX o1))(n2:Nt 0 v (.slice a2 (ws (dX o2)).length c2) (dX o2))(z:rZ w v gb gA) :
 Jh w gb rest den o1 o2 gA v.heap.size ((uB v gA o1 a1 c1).alloc (r9 o2 a2 c2)):=by
 obtain⟨z1,z2,z3⟩:=z;have h1:Lo (uB v gA o1 a1 c1) gA o1:=z1.set n1;obtain⟨a0,c0,D,_⟩:=z1;have n2':Nt 0 (uB v gA o1 a1 c1) (.slice a2 (ws (dX o2)).length c2) (dX o2):=n2.yB D _ _ _;have hsz:(uB v gA o1 a1 c1).heap.size=v.heap.size:=by simp[World.setCell]
 have h2:=Lo.new (w:=uB v gA o1 a1 c1) n2';rw[hsz] at h2;have b1:Below w.heap.size w (uB v gA o1 a1 c1):=jk hb hb.size z2 _ _ _;exact⟨h1.below (ae _ _),h2,b1.trans ((ae _ _).mono b1.size),(hs.st z3 _ _ _).al _⟩
theorem wm{gA gB:Nat}(hb:Below w.heap.size w v)(hs:kQ gb rest den v)(n1:Nt 0 v (.slice a1 (ws (dX o1)).length c1) (dX o1))(n2:Nt 0 v (.slice a2 (ws (dX o2)).length c2) (dX o2))(z:rZ w v gb gA)(y:rZ w v gb gB)(hne:gA≠gB) :
 Jh w gb rest den o1 o2 gA gB (uB (uB v gA o1 a1 c1) gB o2 a2 c2):=by
 obtain⟨z1,z2,z3⟩:=z;obtain⟨y1,y2,y3⟩:=y;have h1:Lo (uB v gA o1 a1 c1) gA o1:=z1.set n1;have y1':Lo (uB v gA o1 a1 c1) gB Fy:=y1.other z1 (Ne.symm hne) _ _ _;obtain⟨a0,c0,D,_⟩:=z1;have n2':Nt 0 (uB v gA o1 a1 c1) (.slice a2 (ws (dX o2)).length c2) (dX o2):=n2.yB D _ _ _;have b1:Below w.heap.size w (uB v gA o1 a1 c1):=jk hb hb.size z2 _ _ _;exact⟨h1.other y1' hne _ _ _,y1'.set n2',jk b1 b1.size y2 _ _ _,(hs.st z3 _ _ _).st y3 _ _ _⟩
end
theorem kQ.dr{gb:Nat}{rest den:Int}{u:World}(h:kQ gb rest den u):kQ gb rest den u.drew:=h
theorem kQ.st'{gb g:Nat}{rest den:Int}{u:World}(h:kQ gb rest den u)(hg:gb<g)(x y z:Value):kQ gb rest den (((u.setCell ⟨g,0,none⟩ x).setCell ⟨g,1,none⟩ y).setCell ⟨g,2,none⟩ z):=h.st hg x y z
abbrev nH(w:World)(gb:Nat)(rest den:Int)(u:World):Prop:=Below w.heap.size w u/\kQ gb rest den u
theorem nH.al{w u:World}{gb:Nat}{rest den:Int}(h:nH w gb rest den u)(o:Obj):nH w gb rest den (u.alloc o):=⟨h.1.trans ((ae _ o).mono h.1.size),h.2.al o⟩
theorem nH.dr{w u:World}{gb:Nat}{rest den:Int}(h:nH w gb rest den u):nH w gb rest den u.drew:=⟨h.1.drew,h.2⟩
theorem nH.be{w u v:World}{gb:Nat}{rest den:Int}(h:nH w gb rest den u)(hb:Below u.heap.size u v):nH w gb rest den v:=⟨h.1.trans (hb.mono h.1.size),h.2.be hb⟩
theorem nH.new{w u:World}{gb:Nat}{rest den:Int}(h:nH w gb rest den u):rZ w (u.alloc Zd) gb u.heap.size:=⟨Lo.zero u,h.1.size,h.2.lt⟩
theorem rZ.dr{w u:World}{gb g:Nat}(h:rZ w u gb g):rZ w u.drew gb g:=h.be (ay u.heap.size u).drew
theorem rZ.al{w u:World}{gb g:Nat}(h:rZ w u gb g)(o:Obj):rZ w (u.alloc o) gb g:=h.be (ae u o)
theorem nH.new2{w u:World}{gb:Nat}{rest den:Int}(h:nH w gb rest den u):rZ w ((u.alloc Zd).alloc Zd) gb (u.heap.size+1):=by
 have:=(h.al Zd).new;rw[sF] at this;exact this
theorem F6 (low high:Nat) (Dq rest den lr:Nat) (mode:Int) (o1 o2 q dn:Option (Bool×Nat×Int)) (F1:Fm o1) (F2:Fm o2) (Fq:Fm q) (Fd:Fm dn) (sg t1 t2 t3 t4 t5 t6:Int) (z z0:Nat) (ez:Int) (w:World) (hT:gF w) (hlr:IntKind.i64.wrap ((den:Int)-(rest:Int))=(lr:Int))
 (H1:Hid (∀ u:World,gF u->Calls Tryz.prog 50 #[.float .f64 low,.int .i64 (lr:Nat)] u fun r w'=>Iq 0 w' r o1/\Below u.heap.size u w'))
 (H2:Hid (∀ u:World,gF u->Calls Tryz.prog 50 #[.float .f64 high,.int .i64 (rest:Nat)] u fun r w'=>Iq 0 w' r o2/\Below u.heap.size u w'))
 (HADD:Hid (∀ (u:World) (a b:Option Addr) (c d:Nat),gF u->Nt 0 u (.slice a (ws (dX o1)).length c) (dX o1)->Nt 0 u (.slice b (ws (dX o2)).length d) (dX o2)->Calls Tryz.prog 51 #[.agg #[.bool (dN o1),.slice a (ws (dX o1)).length c,.int .i64 (dE o1)],.agg #[.bool (dN o2),.slice b (ws (dX o2)).length d,.int .i64 (dE o2)]] u fun r w'=>(∃ v,r=.returned (.tuple #[.agg #[.bool (dN q),v,.int .i64 (dE q)],.int .i64 0])/\Nt u.heap.size w' v (dX q))/\Below u.heap.size u w'))
 (HSG:Hid (∀ (u:World) (a:Option Addr) (c:Nat),Nt 0 u (.slice a (ws (dX q)).length c) (dX q)->Calls Tryz.prog 52 #[.agg #[.bool (dN q),.slice a (ws (dX q)).length c,.int .i64 (dE q)]] u fun r w'=>r=.returned (.int .i64 sg)/\Below u.heap.size u w'))
 (HPL:Hid (∀ u:World,Calls Tryz.prog 54 #[] u fun r w'=>r=.returned (.agg #[.int .i64 0,.int .i64 0])/\Below u.heap.size u w'))
 (HSI:Hid (∀ (u:World) (b:Nat),Fs u.heap.size u (some ⟨b,0,none⟩) [low,high]->Calls Tryz.prog 53 #[.slice (some ⟨b,0,none⟩) 2 2,.agg #[.int .i64 0,.int .i64 0]] u fun r w'=>(∃ v,r=.returned (.tuple #[v,.agg #[.int .i64 t1,.int .i64 t2,.int .i64 t3,.int .i64 t4,.int .i64 t5,.int .i64 t6],.int .i64 0]))/\Below u.heap.size u w'))
 (HNO:Hid (∀ u:World,Calls Tryz.prog 55 #[.agg #[.int .i64 t1,.int .i64 t2,.int .i64 t3,.int .i64 t4,.int .i64 t5,.int .i64 t6],.int .i64 mode] u fun r w'=>r=.returned (.float .f64 z0)/\Below u.heap.size u w'))
 (HI:Hid (∀ u:World,gF u->Calls Tryz.prog 57 #[.int .i64 (den:Nat)] u fun r w'=>(∃ v,r=.returned (.agg #[.bool (dN dn),v,.int .i64 (dE dn)])/\Nt u.heap.size w' v (dX dn))/\Below u.heap.size u w'))
 (HQT:Hid (∀ (u:World) (a b:Option Addr) (c d:Nat),gF u->Nt 0 u (.slice a (ws (dX q)).length c) (dX q)->Nt 0 u (.slice b (ws (dX dn)).length d) (dX dn)->Calls Tryz.prog 56 #[.agg #[.bool (dN q),.slice a (ws (dX q)).length c,.int .i64 (dE q),.bool (dN dn),.slice b (ws (dX dn)).length d,.int .i64 (dE dn)],.int .i64 mode] u fun r w'=>r=.returned (.tuple #[.float .f64 z,.int .i64 ez])/\Below u.heap.size u w')) :
 Calls Tryz.prog 34 #[.agg #[.int .i64 (Dq:Nat),.int .i64 (rest:Nat),.int .i64 (den:Nat)],.float .f64 low,.float .f64 high,.int .i64 mode] w fun r w'=>r=.returned (.float .f64 (if sg=0 then z0 else z))/\Below w.heap.size w w':=by
 obtain⟨zz,hzz⟩:=af (if sg=0 then z0 else z)
 rw[<-hzz];have HZ:=ah hzz;clear hzz;obtain⟨W0,hW0⟩:=af (w.alloc (Obj.cells #[.int .i64 (Dq:Nat),.int .i64 (rest:Nat),.int .i64 (den:Nat)] 54));obtain⟨gb,hgb⟩:=af (w.heap.size)
 have hs:nH w gb rest den W0:=by
  subst hW0 hgb;exact⟨ae _ _,by rw[World.cell?_alloc_new];rfl,by rw[World.cell?_alloc_new];rfl⟩
 have FF:=(fM F1 F2 hT Fq Fd);have HW:=(aZ hW0 hgb);have B0:=ah hs;clear hW0 hgb F1 F2 hT hs Fq Fd;go_enter Tryz.func34,Tryz.ntmps34
 go_upto_region 1 with fail
 rw[<-HW.o.1,<-HW.o.2]
 go_cut [9,10] from 18 to 28 (fun p9 p10 wx=>∃ g9 g10,p9=.pointer (some ⟨g9,0,none⟩)/\p10=.pointer (some ⟨g10,0,none⟩)/\Aside (Jh w gb rest den o1 o2 g9 g10 wx))
 case first =>
  refine uo ?_
  go_region_held3 (fun w'=>w'.cell? ⟨gb,1,none⟩=some (.int .i64 (rest:Nat))/\w'.cell? ⟨gb,2,none⟩=some (.int .i64 (den:Nat))) (first
   | with_reducible exact B2.o.2
   | with_reducible exact B2.o.2.al _
   | with_reducible exact(B2.o.2.al _).al _
   | with_reducible exact B2.o.2.st' ZA.o.r2 _ _ _
   | with_reducible exact B2.o.2.st' ZB.o.r2 _ _ _
   | with_reducible exact(B2.o.2.st' ZA.o.r2 _ _ _).st' ZB.o.r2 _ _ _
   | with_reducible exact(B2.o.2.st' ZB.o.r2 _ _ _).st' ZA.o.r2 _ _ _
   | with_reducible exact(B2.o.2.st' ZA.o.r2 _ _ _).al _
   | with_reducible exact(B2.o.2.al _).st' ZA.o.r2 _ _ _
   | with_reducible exact B1.o.2
   | with_reducible exact B1.o.2.al _
   | with_reducible exact(B1.o.2.al _).al _
   | with_reducible exact B0.o.2.dr
   | with_reducible exact(B0.o.2.al _).dr
   | with_reducible exact((B0.o.2.al _).al _).dr) (first
   | (go_at_call_of 50 (Value.float FloatKind.f64 low)
      first
      | (have BX:=ah (B0.o.dr)
         with_reducible refine(H1.o _ (FF.o.r2.1.belows BX.o.1)).mono ?_
         rintro r v1 ⟨⟨p,rfl,hN⟩,hb⟩;obtain⟨a1,c1,rfl,hN0⟩:=Lo.shape FF.o.1 hN;have B1:=ah (BX.o.be hb);have N1:=ah hN0
         clear hb hN hN0 BX)
      | (have BX:=ah ((B0.o.al Zd).dr)
         with_reducible refine(H1.o _ (FF.o.r2.1.belows BX.o.1)).mono ?_
         rintro r v1 ⟨⟨p,rfl,hN⟩,hb⟩;obtain⟨a1,c1,rfl,hN0⟩:=Lo.shape FF.o.1 hN;have B1:=ah (BX.o.be hb);have N1:=ah hN0;have ZA:=ah ((B0.o.new.dr).be hb)
         clear hb hN hN0 BX)
      | (have BX:=ah (((B0.o.al Zd).al Zd).dr)
         with_reducible refine(H1.o _ (FF.o.r2.1.belows BX.o.1)).mono ?_
         rintro r v1 ⟨⟨p,rfl,hN⟩,hb⟩;obtain⟨a1,c1,rfl,hN0⟩:=Lo.shape FF.o.1 hN;have B1:=ah (BX.o.be hb);have N1:=ah hN0;have ZA:=ah (((B0.o.new.al Zd).dr).be hb);have ZB:=ah ((B0.o.new2.dr).be hb);have hAB:W0.heap.size≠W0.heap.size+1:=by omega
         have hBA:W0.heap.size+1≠W0.heap.size:=by omega
         clear hb hN hN0 BX))
   | (go_at_call_of 50 (Value.float FloatKind.f64 high)
      first
      | (have BX:=ah (B1.o)
         with_reducible refine(H2.o _ (FF.o.r2.1.belows BX.o.1)).mono ?_
         rintro r v2 ⟨⟨p,rfl,hN⟩,hb⟩;obtain⟨a2,c2,rfl,hN0⟩:=Lo.shape FF.o.2.1 hN;have B2:=ah (BX.o.be hb);have N1:=ah (N1.o.below hb);have N2:=ah hN0
         try (have ZB:=ah (ZB.o.be hb))
         try (have ZA:=ah (ZA.o.be hb))
         try (obtain⟨⟨e1,e2,D7,e3⟩,e4⟩:=ZA.o;obtain⟨y0,y1,y2,z0,z1,z2⟩:=D7.facts;have lA:=D7.lt;have nA:=il lA;have mA:=nS lA;clear D7 e3 e4)
         try (obtain⟨⟨e1,e2,D7,e3⟩,e4⟩:=ZB.o;obtain⟨x0,x1,x2,t0,t1,t2⟩:=D7.facts;have lB:=D7.lt;have nB:=il lB;have mB:=nS lB;clear D7 e3 e4)
         clear hb hN hN0 BX)
      | (have BX:=ah ((B1.o.al Zd))
         with_reducible refine(H2.o _ (FF.o.r2.1.belows BX.o.1)).mono ?_
         rintro r v2 ⟨⟨p,rfl,hN⟩,hb⟩;obtain⟨a2,c2,rfl,hN0⟩:=Lo.shape FF.o.2.1 hN;have B2:=ah (BX.o.be hb);have N1:=ah ((N1.o.below (ae _ Zd)).below hb);have N2:=ah hN0
         first | (have hAB:=il ZA.o.1.lt;have hBA:=nS ZA.o.1.lt;have ZA:=ah ((ZA.o.al Zd).be hb);have ZB:=ah ((B1.o.new).be hb)) | (have ZA:=ah ((B1.o.new).be hb))
         try (obtain⟨⟨e1,e2,D7,e3⟩,e4⟩:=ZA.o;obtain⟨y0,y1,y2,z0,z1,z2⟩:=D7.facts;have lA:=D7.lt;have nA:=il lA;have mA:=nS lA;clear D7 e3 e4)
         try (obtain⟨⟨e1,e2,D7,e3⟩,e4⟩:=ZB.o;obtain⟨x0,x1,x2,t0,t1,t2⟩:=D7.facts;have lB:=D7.lt;have nB:=il lB;have mB:=nS lB;clear D7 e3 e4)
         clear hb hN hN0 BX)
      | (have BX:=ah (((B1.o.al Zd).al Zd))
         with_reducible refine(H2.o _ (FF.o.r2.1.belows BX.o.1)).mono ?_
         rintro r v2 ⟨⟨p,rfl,hN⟩,hb⟩;obtain⟨a2,c2,rfl,hN0⟩:=Lo.shape FF.o.2.1 hN;have B2:=ah (BX.o.be hb);have N1:=ah (((N1.o.below (ae _ Zd)).below (ae _ Zd)).below hb);have N2:=ah hN0;have ZA:=ah (((B1.o.new.al Zd)).be hb);have ZB:=ah ((B1.o.new2).be hb);have hAB:v1.heap.size≠v1.heap.size+1:=by omega
         have hBA:v1.heap.size+1≠v1.heap.size:=by omega
         try (obtain⟨⟨e1,e2,D7,e3⟩,e4⟩:=ZA.o;obtain⟨y0,y1,y2,z0,z1,z2⟩:=D7.facts;have lA:=D7.lt;have nA:=il lA;have mA:=nS lA;clear D7 e3 e4)
         try (obtain⟨⟨e1,e2,D7,e3⟩,e4⟩:=ZB.o;obtain⟨x0,x1,x2,t0,t1,t2⟩:=D7.facts;have lB:=D7.lt;have nB:=il lB;have mB:=nS lB;clear D7 e3 e4)
         clear hb hN hN0 BX)))
  all_goals
   go_wp2_with fail
   go_meet
   case rel=>first
    | with_reducible exact⟨_,_,rfl,rfl,ah (KL B2.o.1 B2.o.2 N1.o N2.o)⟩
    | with_reducible exact⟨_,_,rfl,rfl,ah ((KL B2.o.1 B2.o.2 N2.o N1.o).sw)⟩
    | with_reducible exact⟨_,_,rfl,rfl,ah (F5 B2.o.1 B2.o.2 N1.o N2.o ZA.o)⟩
    | with_reducible exact⟨_,_,rfl,rfl,ah (Tf B2.o.1 B2.o.2 N1.o N2.o ZA.o)⟩
    | with_reducible exact⟨_,_,rfl,rfl,ah ((F5 B2.o.1 B2.o.2 N2.o N1.o ZA.o).sw)⟩
    | with_reducible exact⟨_,_,rfl,rfl,ah ((Tf B2.o.1 B2.o.2 N2.o N1.o ZA.o).sw)⟩
    | with_reducible exact⟨_,_,rfl,rfl,ah (wm B2.o.1 B2.o.2 N1.o N2.o ZA.o ZB.o hAB)⟩
    | with_reducible exact⟨_,_,rfl,rfl,ah ((wm B2.o.1 B2.o.2 N2.o N1.o ZA.o ZB.o hAB).sw)⟩
    | with_reducible exact⟨_,_,rfl,rfl,ah (wm B2.o.1 B2.o.2 N1.o N2.o ZB.o ZA.o hBA)⟩
    | with_reducible exact⟨_,_,rfl,rfl,ah ((wm B2.o.1 B2.o.2 N2.o N1.o ZB.o ZA.o hBA).sw)⟩
 clear B0;obtain⟨g9,g10,rfl,rfl,HA⟩:=hcut;obtain⟨W1,hW⟩:=af wc;subst hW;obtain⟨⟨x9,k9,D9,M9⟩,⟨x10,k10,D10,M10⟩,hb,hs⟩:=HA.o;obtain⟨p0,p1,p2,_,_,_⟩:=D9.facts;obtain⟨q0,q1,q2,_,_,_⟩:=D10.facts;have C:=hid (HADD.o W1 x9 x10 k9 k10 (FF.o.r2.1.belows hb) M9 M10);have K1:Aside (nH w gb rest den W1):=⟨hb,hs⟩;clear D9 M9 D10 M10 hb hs HA HADD H1 H2;go_wp2_with fail;refine C.o.mono ?_;rintro r v3 ⟨⟨p,rfl,hN⟩,hb⟩;obtain⟨a3,c3,rfl,hN0⟩:=Lo.shape FF.o.r3.1 hN;obtain⟨V3,hV3⟩:=af (v3.alloc (r9 q a3 c3));obtain⟨g11,ZK⟩:=af (v3.heap.size)
 have K2:Aside (Dk V3 g11 (dN q) (.slice a3 (ws (dX q)).length c3) (dE q)/\Nt 0 V3 (.slice a3 (ws (dX q)).length c3) (dX q)/\nH w gb rest den V3):=by
  rw[hV3,ZK];exact⟨Dk.new _ _ _ _,hN0.below (ae _ _),(K1.o.be hb).al _⟩
 have HV:=(aZ hV3 ZK);clear C hb hN hN0 K1 hV3 ZK p0 p1 p2 q0 q1 q2
 go_upto_region 3 with fail
 rw[<-HV.o.1,<-HV.o.2];clear HV;obtain⟨d0,d1,d2,_,_,_⟩:=K2.o.1.facts;have C:=hid (HSG.o V3 a3 c3 K2.o.2.1);go_wp2_with fail;refine C.o.mono ?_;rintro r v4 ⟨rfl,hb⟩;have K3:Aside (Dk v4 g11 (dN q) (.slice a3 (ws (dX q)).length c3) (dE q)/\Nt 0 v4 (.slice a3 (ws (dX q)).length c3) (dX q)/\nH w gb rest den v4):=⟨K2.o.1.below hb,K2.o.2.1.below hb,K2.o.r2.be hb⟩;clear C hb K2 d0 d1 d2 HSG
 by_cases h0:sg=0
 · replace HZ:Aside (zz=z0):=ah (by rw[HZ.o,if_pos h0]);subst h0;obtain⟨U0,pR⟩:=af (v4.alloc (Obj.cells #[.float .f64 low,.float .f64 high] 27));obtain⟨gl,hgl⟩:=af (v4.heap.size)
   have K4:Aside (Fs U0.heap.size U0 (some ⟨gl,0,none⟩) [low,high]/\Below w.heap.size w U0):=by
    rw[pR,hgl];exact⟨CG v4 low high,K3.o.r2.1.trans ((ae _ _).mono K3.o.r2.1.size)⟩
   have C:=hid (HPL.o U0);have HU:=(aZ pR hgl);clear pR hgl K3;go_wp2_with fail;rw[<-HU.o.1,<-HU.o.2];clear HU;refine C.o.mono ?_;rintro r v5 ⟨rfl,hb⟩;have K5:Aside (Fs v5.heap.size v5 (some ⟨gl,0,none⟩) [low,high]/\Below w.heap.size w v5):=⟨(K4.o.1.below hb).mono hb.size,K4.o.2.trans (hb.mono K4.o.2.size)⟩;clear C hb K4;have C:=hid (HSI.o v5 gl K5.o.1);go_wp2_with fail;refine C.o.mono ?_;rintro r v6 ⟨⟨lv,rfl⟩,hb⟩;obtain⟨V6,hV6⟩:=af (v6.alloc (Obj.cells #[.int .i64 t1,.int .i64 t2,.int .i64 t3,.int .i64 t4,.int .i64 t5,.int .i64 t6] 72));obtain⟨g14,ZL⟩:=af (v6.heap.size)
   have K6:Aside (Bl V6 g14 72 [.int .i64 t1,.int .i64 t2,.int .i64 t3,.int .i64 t4,.int .i64 t5,.int .i64 t6]/\Below w.heap.size w V6):=by
    rw[hV6,ZL];have b6:=K5.o.2.trans (hb.mono K5.o.2.size);exact⟨Bl.new _ 72 [_,_,_,_,_,_],b6.trans ((ae _ _).mono b6.size)⟩
   have HV:=(aZ hV6 ZL);clear C hb K5 hV6 ZL
   go_upto_region 5 with fail
   rw[<-HV.o.1,<-HV.o.2];clear HV;have s0:=K6.o.1.cell 0 _ rfl;have s1:=K6.o.1.cell 1 _ rfl;have s2:=K6.o.1.cell 2 _ rfl;have s3:=K6.o.1.cell 3 _ rfl;have s4:=K6.o.1.cell 4 _ rfl;have s5:=K6.o.1.cell 5 _ rfl;have C:=hid (HNO.o V6);go_wp2_with fail;refine C.o.mono ?_;rintro r v7 ⟨rfl,hb⟩;have K7:=ah (K6.o.2.trans (hb.mono K6.o.2.size));clear C hb K6 s0 s1 s2 s3 s4 s5;go_wp2;go_ret;exact⟨by rw[HZ.o];rfl,K7.o⟩
 · have h01:(sg==0)=false:=by simp[h0]
   have h02:decide (sg=0)=false:=by simp[h0]
   replace HZ:Aside (zz=z):=ah (by rw[HZ.o,if_neg h0])
   go_upto_region 6 with fail
   have hdr:=(ay v4.heap.size v4).drew;have BB:Aside (Dk v4.drew g11 (dN q) (.slice a3 (ws (dX q)).length c3) (dE q)/\Nt 0 v4.drew (.slice a3 (ws (dX q)).length c3) (dX q)/\nH w gb rest den v4.drew):=⟨K3.o.1.below hdr,K3.o.2.1.below hdr,K3.o.r2.dr⟩;clear hdr K3;obtain⟨d0,d1,d2,_,_,_⟩:=BB.o.1.facts;have s2:=BB.o.r4;refine uo ?_
   go_region_with (first
    | (go_at_call 56
       with_reducible refine(HQT.o _ a3 a5 c3 c5 (FF.o.r2.1.belows BB.o.r2.1) BB.o.2.1 Q5.o).mono ?_
       rintro r v ⟨rfl,hb⟩;have BE:=ah (BB.o.r2.1.trans (hb.mono BB.o.r2.1.size))
       clear hb d0 d1 d2 s2)
    | (go_at_call 57
       with_reducible refine(HI.o _ (FF.o.r2.1.belows BB.o.r2.1)).mono ?_
       rintro r v ⟨⟨p,rfl,hN⟩,hb⟩;obtain⟨a5,c5,rfl,hN0⟩:=Lo.shape FF.o.r4 hN;have BB:=fG (BB.o.1.below hb) (BB.o.2.1.below hb) (BB.o.r2.be hb);have Q5:=ah hN0;obtain⟨d0,d1,d2,_,_,_⟩:=BB.o.1.facts;have s2:=BB.o.r4
       clear hb hN hN0))
   all_goals
    go_wp2;go_ret;exact⟨by rw[HZ.o];rfl,BE.o⟩
abbrev Az:=Option (Bool×Nat×Int)
def iX(w u:World)(l:List (Nat×Az)):Prop:=Below w.heap.size w u/\∀ p ∈ l,Lo u p.1 p.2/\w.heap.size<=p.1
theorem iX.nil{w u:World}(h:Below w.heap.size w u):iX w u []:=⟨h,fun p hp=>by cases hp⟩
theorem iX.be{w u v:World}{l:List (Nat×Az)}(h:iX w u l)(hb:Below u.heap.size u v):iX w v l:=⟨h.1.trans (hb.mono h.1.size),fun p hp=>⟨(h.2 p hp).1.below hb,(h.2 p hp).2⟩⟩
theorem iX.al{w u:World}{l:List (Nat×Az)}(h:iX w u l)(o:Obj):iX w (u.alloc o) l:=h.be (ae u o)
theorem iX.dr{w u:World}{l:List (Nat×Az)}(h:iX w u l):iX w u.drew l:=h.be (ay u.heap.size u).drew
theorem iX.new{w u:World}{l:List (Nat×Az)}(h:iX w u l){q:Az}{a:Option Addr}{c:Nat}(n:Nt 0 u (.slice a (ws (dX q)).length c) (dX q)):iX w (u.alloc (r9 q a c)) ((u.heap.size,q)::l):=by
 refine⟨(h.al _).1,fun p hp=>?_⟩;rcases uP.1 hp with rfl|hp
 · exact⟨Lo.new n,h.1.size⟩
 · exact(h.al _).2 p hp
def Tg(w u:World)(l:List (Nat×Az))(g:Nat):Prop:=Lo u g Fy/\w.heap.size<=g/\∀ p ∈ l,p.1<g
theorem Tg.be{w u v:World}{l:List (Nat×Az)}{g:Nat}(h:Tg w u l g)(hb:Below u.heap.size u v):Tg w v l g:=⟨h.1.below hb,h.2⟩
theorem iX.zero{w u:World}{l:List (Nat×Az)}(h:iX w u l):Tg w (u.alloc Zd) l u.heap.size:=⟨Lo.zero u,h.1.size,fun p hp=>(h.2 p hp).1.lt⟩
theorem iX.set{w u:World}{l:List (Nat×Az)}{g:Nat}(h:iX w u l)(z:Tg w u l g){q:Az}{a:Option Addr}{c:Nat}(n:Nt 0 u (.slice a (ws (dX q)).length c) (dX q)):iX w (uB u g q a c) ((g,q)::l):=by
 obtain⟨z1,z2,z3⟩:=z;refine⟨jk h.1 h.1.size z2 _ _ _,fun p hp=>?_⟩;rcases uP.1 hp with rfl|hp
 · exact⟨z1.set n,z2⟩
 · exact⟨(h.2 p hp).1.other z1 (il (z3 p hp)) _ _ _,(h.2 p hp).2⟩
abbrev oO(g:Nat)(o:Az)(a:Option Addr)(c:Nat)(u:World):Prop:=u.cell? ⟨g,0,none⟩=some (.bool (dN o))/\u.cell? ⟨g,1,none⟩=some (.slice a (ws (dX o)).length c)/\u.cell? ⟨g,2,none⟩=some (.int .i64 (dE o))
theorem oO.lt{g:Nat}{o:Az}{a:Option Addr}{c:Nat}{u:World}(h:oO g o a c u):g<u.heap.size:=aA (p:=⟨g,0,none⟩) h.1
theorem oO.be{g:Nat}{o:Az}{a:Option Addr}{c:Nat}{u v:World}(h:oO g o a c u)(hb:Below u.heap.size u v):oO g o a c v:=⟨(hb.cell (p:=⟨g,0,none⟩) h.lt).trans h.1,(hb.cell (p:=⟨g,1,none⟩) h.lt).trans h.2.1,(hb.cell (p:=⟨g,2,none⟩) h.lt).trans h.2.2⟩
theorem oO.al{g:Nat}{o:Az}{a:Option Addr}{c:Nat}{u:World}(h:oO g o a c u)(ob:Obj):oO g o a c (u.alloc ob):=h.be (ae u ob)
theorem oO.dr{g:Nat}{o:Az}{a:Option Addr}{c:Nat}{u:World}(h:oO g o a c u):oO g o a c u.drew:=h
theorem oO.st{g k:Nat}{o:Az}{a:Option Addr}{c:Nat}{u:World}(h:oO g o a c u)(hk:g<k)(x y z:Value):oO g o a c (((u.setCell ⟨k,0,none⟩ x).setCell ⟨k,1,none⟩ y).setCell ⟨k,2,none⟩ z):=⟨dB (eF k u x y z) h.1 (il hk),dB (eF k u x y z) h.2.1 (il hk),dB (eF k u x y z) h.2.2 (il hk)⟩
theorem iX.get{w u:World}{l:List (Nat×Az)}(h:iX w u l){g:Nat}{o:Az}(hm:(g,o) ∈ l):∃ a c,oO g o a c u/\Nt 0 u (.slice a (ws (dX o)).length c) (dX o):=by
 obtain⟨⟨a,c,D,N⟩,_⟩:=h.2 _ hm;obtain⟨p0,p1,p2,_⟩:=D.facts;exact⟨a,c,⟨p0,p1,p2⟩,N⟩
theorem xi{P:Prop}(h:P:=by
 go_wp2_with fail
 go_meet
 case rel=>first
  | with_reducible exact⟨_,rfl,rfl,ah (B2.o.new NM.o)⟩
  | with_reducible exact⟨_,rfl,rfl,ah (B2.o.set ZA.o NM.o)⟩):P:=h
theorem CV (s t num den:Nat) (mode:Int) (oa ob of on od ou og q:Az) (Fa:Fm oa) (Fb:Fm ob) (Ff:Fm of) (Fn:Fm on) (Fd:Fm od) (Fu:Fm ou) (Fg:Fm og) (Fq:Fm q) (z0 z:Nat) (ez:Int) (sp:Value) (w:World)
 (H1:Hid (∀ u:World,Calls Tryz.prog 66 #[.float .f64 s] u fun r w'=>(∃ v,r=.returned (.tuple #[.agg #[.bool (dN oa),v,.int .i64 (dE oa)],.int .i64 0])/\Nt u.heap.size w' v (dX oa))/\Below u.heap.size u w'))
 (H2:Hid (∀ u:World,Calls Tryz.prog 66 #[.float .f64 t] u fun r w'=>(∃ v,r=.returned (.tuple #[.agg #[.bool (dN ob),v,.int .i64 (dE ob)],.int .i64 0])/\Nt u.heap.size w' v (dX ob))/\Below u.heap.size u w'))
 (H3:Hid (∀ (u:World) (a b:Option Addr) (c d:Nat),Nt 0 u (.slice a (ws (dX ob)).length c) (dX ob)->Nt 0 u (.slice b (ws (dX oa)).length d) (dX oa)->Calls Tryz.prog 67 #[.agg #[.bool (dN ob),.slice a (ws (dX ob)).length c,.int .i64 (dE ob)],.agg #[.bool (dN oa),.slice b (ws (dX oa)).length d,.int .i64 (dE oa)]] u fun r w'=>(∃ v,r=.returned (.tuple #[.agg #[.bool (dN of),v,.int .i64 (dE of)],.int .i64 0])/\Nt u.heap.size w' v (dX of))/\Below u.heap.size u w'))
 (H4:Hid (∀ u:World,Calls Tryz.prog 69 #[.int .i64 (num:Nat)] u fun r w'=>(∃ v,r=.returned (.agg #[.bool (dN on),v,.int .i64 (dE on)])/\Nt u.heap.size w' v (dX on))/\Below u.heap.size u w'))
 (H5:Hid (∀ (u:World) (a b:Option Addr) (c d:Nat),Nt 0 u (.slice a (ws (dX of)).length c) (dX of)->Nt 0 u (.slice b (ws (dX on)).length d) (dX on)->Calls Tryz.prog 68 #[.agg #[.bool (dN of),.slice a (ws (dX of)).length c,.int .i64 (dE of)],.agg #[.bool (dN on),.slice b (ws (dX on)).length d,.int .i64 (dE on)]] u fun r w'=>(∃ v,r=.returned (.tuple #[.agg #[.bool (dN ou),v,.int .i64 (dE ou)],.int .i64 0])/\Nt u.heap.size w' v (dX ou))/\Below u.heap.size u w'))
 (H6:Hid (∀ u:World,Calls Tryz.prog 69 #[.int .i64 (den:Nat)] u fun r w'=>(∃ v,r=.returned (.agg #[.bool (dN od),v,.int .i64 (dE od)])/\Nt u.heap.size w' v (dX od))/\Below u.heap.size u w'))
 (H7:Hid (∀ (u:World) (a b:Option Addr) (c d:Nat),Nt 0 u (.slice a (ws (dX oa)).length c) (dX oa)->Nt 0 u (.slice b (ws (dX od)).length d) (dX od)->Calls Tryz.prog 68 #[.agg #[.bool (dN oa),.slice a (ws (dX oa)).length c,.int .i64 (dE oa)],.agg #[.bool (dN od),.slice b (ws (dX od)).length d,.int .i64 (dE od)]] u fun r w'=>(∃ v,r=.returned (.tuple #[.agg #[.bool (dN og),v,.int .i64 (dE og)],.int .i64 0])/\Nt u.heap.size w' v (dX og))/\Below u.heap.size u w'))
 (H8:Hid (∀ (u:World) (a b:Option Addr) (c d:Nat),Nt 0 u (.slice a (ws (dX og)).length c) (dX og)->Nt 0 u (.slice b (ws (dX ou)).length d) (dX ou)->Calls Tryz.prog 70 #[.agg #[.bool (dN og),.slice a (ws (dX og)).length c,.int .i64 (dE og)],.agg #[.bool (dN ou),.slice b (ws (dX ou)).length d,.int .i64 (dE ou)]] u fun r w'=>(∃ v,r=.returned (.tuple #[.agg #[.bool (dN q),v,.int .i64 (dE q)],.int .i64 0])/\Nt u.heap.size w' v (dX q))/\Below u.heap.size u w'))
 (H9:Hid (∀ (u:World) (b:Nat),Fs u.heap.size u (some ⟨b,0,none⟩) [s,t]->Calls Tryz.prog 72 #[.slice (some ⟨b,0,none⟩) 2 2] u fun r w'=>r=.returned sp/\Below u.heap.size u w'))
 (H10:Hid (∀ u:World,Calls Tryz.prog 71 #[sp,.int .i64 mode] u fun r w'=>r=.returned (.float .f64 z0)/\Below u.heap.size u w'))
 (H11:Hid (∀ (u:World) (a b:Option Addr) (c d:Nat),Nt 0 u (.slice a (ws (dX q)).length c) (dX q)->Nt 0 u (.slice b (ws (dX od)).length d) (dX od)->Calls Tryz.prog 73 #[.agg #[.bool (dN q),.slice a (ws (dX q)).length c,.int .i64 (dE q),.bool (dN od),.slice b (ws (dX od)).length d,.int .i64 (dE od)],.int .i64 mode] u fun r w'=>r=.returned (.tuple #[.float .f64 z,.int .i64 ez])/\Below u.heap.size u w')) :
 Calls Tryz.prog 40 #[.float .f64 s,.float .f64 t,.int .i64 (num:Nat),.int .i64 (den:Nat),.int .i64 mode] w fun r w'=>r=.returned (.tuple #[.float .f64 (if (ws (dX q)).length=0 then z0 else z),.int .i64 (if (ws (dX q)).length=0 then 0 else ez)])/\Below w.heap.size w w':=by
 have FF:=(Dh Fa Fb Ff Fn Fd Fu Fg Fq);clear Fa Fb Ff Fn Fd Fu Fg Fq;obtain⟨zz,hzz⟩:=af (if (ws (dX q)).length=0 then z0 else z)
 obtain⟨ee,Zq⟩:∃ x:Int,x=if (ws (dX q)).length=0 then 0 else ez:=⟨_,rfl⟩
 rw[<-hzz,<-Zq];have HZ:=(aZ hzz Zq);clear hzz Zq;go_enter Tryz.func40,Tryz.ntmps40
 go_upto_region 1 with fail
 have C:=hid (H1.o w);go_wp2_with fail;refine C.o.mono ?_;rintro r v1 ⟨⟨p,rfl,hN⟩,hb⟩;obtain⟨a1,c1,rfl,hN0⟩:=Lo.shape FF.o.1 hN;obtain⟨V1,hV⟩:=af (v1.alloc (r9 oa a1 c1));obtain⟨g12,hg⟩:=af (v1.heap.size)
 have L1:Aside (iX w V1 ((g12,oa)::[])):=by
  rw[hV,hg];exact((iX.nil (ay w.heap.size w)).be hb).new hN0
 have HV:=(aZ hV hg);clear C hb hN hN0 hV hg
 go_upto_region 2 with fail
 rw[<-HV.o.1,<-HV.o.2];clear HV;have C:=hid (H2.o V1);go_wp2_with fail;refine C.o.mono ?_;rintro r v2 ⟨⟨p,rfl,hN⟩,hb⟩;obtain⟨a2,c2,rfl,hN0⟩:=Lo.shape FF.o.2.1 hN;obtain⟨V2,hV⟩:=af (v2.alloc (r9 ob a2 c2));obtain⟨g14,hg⟩:=af (v2.heap.size)
 have L2:Aside (iX w V2 ((g14,ob)::[(g12,oa)])):=by
  rw[hV,hg];exact(L1.o.be hb).new hN0
 have HV:=(aZ hV hg);clear C hb hN hN0 hV hg
 go_upto_region 3 with fail
 rw[<-HV.o.1,<-HV.o.2];clear HV;obtain⟨xb,yb,Kb,Mb⟩:=L2.o.get (g:=g14) (o:=ob) nu;obtain⟨xa,ya,Ka,Ma⟩:=L2.o.get (g:=g12) (o:=oa) (nk _ nu);obtain⟨p0,p1,p2⟩:=Kb;obtain⟨q0,q1,q2⟩:=Ka;have C:=hid (H3.o V2 xb xa yb ya Mb Ma);go_wp2_with fail;refine C.o.mono ?_;rintro r v3 ⟨⟨p,rfl,hN⟩,hb⟩;obtain⟨a3,c3,rfl,hN0⟩:=Lo.shape FF.o.r2.1 hN;obtain⟨V3,hV⟩:=af (v3.alloc (r9 of a3 c3));obtain⟨g16,hg⟩:=af (v3.heap.size)
 have L3:Aside (iX w V3 ((g16,of)::[(g14,ob),(g12,oa)])):=by
  rw[hV,hg];exact(L2.o.be hb).new hN0
 have HV:=(aZ hV hg);clear C hb hN hN0 hV hg
 go_upto_region 4 with fail
 rw[<-HV.o.1,<-HV.o.2];clear HV;clear p0 p1 p2 q0 q1 q2 Mb Ma;obtain⟨xs4,ys4,Ks4,Ms4⟩:=L3.o.get (g:=g16) (o:=of) nu;have KS:=ah Ks4;have NS:=ah Ms4;clear Ks4 Ms4
 go_cut [18,19] from 40 to 46 (fun pv ev wx=>∃ g,pv=.pointer (some ⟨g,0,none⟩)/\ev=.int .i64 0/\Aside (iX w wx ((g,ou)::[(g16,of),(g14,ob),(g12,oa)])))
 case first =>
  refine uo ?_
  go_region_held3 (fun w'=>w'.cell? ⟨g16,0,none⟩=some (.bool (dN of))/\w'.cell? ⟨g16,1,none⟩=some (.slice xs4 (ws (dX of)).length ys4)/\w'.cell? ⟨g16,2,none⟩=some (.int .i64 (dE of))) (first
   | with_reducible exact S2.o
   | with_reducible exact S2.o.al _
   | with_reducible exact S2.o.st hgs _ _ _
   | with_reducible exact S1.o
   | with_reducible exact S1.o.al _
   | with_reducible exact KS.o.dr
   | with_reducible exact(KS.o.al _).dr) (first
   | (go_at_call 69
      first
      | (have BX:=ah (L3.o.dr)
         have SX:=ah (KS.o.dr)
         with_reducible refine(H4.o V3.drew).mono ?_
         rintro r v1 ⟨⟨p,rfl,hN⟩,hb⟩;obtain⟨ai,ci,rfl,hN0⟩:=Lo.shape FF.o.r3.1 hN;have B1:=ah (BX.o.be hb);have S1:=ah (SX.o.be hb);have N1:=ah ((NS.o.below (ay V3.heap.size V3).drew).below hb);have NI:=ah hN0
         clear hb hN hN0 BX SX)
      | (have BX:=ah ((L3.o.al Zd).dr)
         have SX:=ah ((KS.o.al Zd).dr)
         with_reducible refine(H4.o (V3.alloc Zd).drew).mono ?_
         rintro r v1 ⟨⟨p,rfl,hN⟩,hb⟩;obtain⟨ai,ci,rfl,hN0⟩:=Lo.shape FF.o.r3.1 hN;have B1:=ah (BX.o.be hb);have S1:=ah (SX.o.be hb);have N1:=ah (((NS.o.below (ae _ Zd)).below (ay (V3.alloc Zd).heap.size (V3.alloc Zd)).drew).below hb);have NI:=ah hN0;have ZA:=ah (((L3.o.zero).be (ay (V3.alloc Zd).heap.size (V3.alloc Zd)).drew).be hb)
         clear hb hN hN0 BX SX))
   | (go_at_call 68
      first
      | (have BX:=ah (B1.o)
         have SX:=ah (S1.o);have NX:=ah (N1.o);have NY:=ah (NI.o)
         with_reducible refine(H5.o v1 xs4 ai ys4 ci NX.o NY.o).mono ?_
         rintro r v2 ⟨⟨p,rfl,hN⟩,hb⟩;obtain⟨am,cm,rfl,hN0⟩:=Lo.shape FF.o.r5.1 hN;have B2:=ah (BX.o.be hb);have S2:=ah (SX.o.be hb);have NM:=ah hN0
         try (have ZA:=ah (ZA.o.be hb))
         try (have hgs:=ZA.o.r2 _ nu;obtain⟨⟨e1,e2,D7,e3⟩,e4⟩:=ZA.o;obtain⟨u0,u1,u2,t0,t1,t2⟩:=D7.facts;have lA:=D7.lt;have nA:=il lA;have mA:=nS lA;clear D7 e3 e4)
         clear hb hN hN0 BX SX NX NY)
      | (have BX:=ah (B1.o.al Zd)
         have SX:=ah (S1.o.al Zd);have NX:=ah (N1.o.below (ae _ Zd));have NY:=ah (NI.o.below (ae _ Zd))
         with_reducible refine(H5.o (v1.alloc Zd) xs4 ai ys4 ci NX.o NY.o).mono ?_
         rintro r v2 ⟨⟨p,rfl,hN⟩,hb⟩;obtain⟨am,cm,rfl,hN0⟩:=Lo.shape FF.o.r5.1 hN;have B2:=ah (BX.o.be hb);have S2:=ah (SX.o.be hb);have NM:=ah hN0;have ZA:=ah (B1.o.zero.be hb)
         try (have hgs:=ZA.o.r2 _ nu;obtain⟨⟨e1,e2,D7,e3⟩,e4⟩:=ZA.o;obtain⟨u0,u1,u2,t0,t1,t2⟩:=D7.facts;have lA:=D7.lt;have nA:=il lA;have mA:=nS lA;clear D7 e3 e4)
         clear hb hN hN0 BX SX NX NY)))
  all_goals
   exact xi
 clear L3 KS NS;obtain⟨g18,rfl,rfl,L4⟩:=hcut;obtain⟨W4,hW⟩:=af wc;subst hW
 go_upto_region 5 with fail
 obtain⟨xs5,ys5,Ks5,Ms5⟩:=L4.o.get (g:=g12) (o:=oa) (nk _ (nk _ (nk _ nu)));have KS:=ah Ks5;have NS:=ah Ms5;clear Ks5 Ms5
 go_cut [20,21] from 47 to 53 (fun pv ev wx=>∃ g,pv=.pointer (some ⟨g,0,none⟩)/\ev=.int .i64 0/\Aside (iX w wx ((g,og)::[(g18,ou),(g16,of),(g14,ob),(g12,oa)])))
 case first =>
  refine uo ?_
  go_region_held3 (fun w'=>w'.cell? ⟨g12,0,none⟩=some (.bool (dN oa))/\w'.cell? ⟨g12,1,none⟩=some (.slice xs5 (ws (dX oa)).length ys5)/\w'.cell? ⟨g12,2,none⟩=some (.int .i64 (dE oa))) (first
   | with_reducible exact S2.o
   | with_reducible exact S2.o.al _
   | with_reducible exact S2.o.st hgs _ _ _
   | with_reducible exact S1.o
   | with_reducible exact S1.o.al _
   | with_reducible exact KS.o.dr
   | with_reducible exact(KS.o.al _).dr) (first
   | (go_at_call 69
      first
      | (have BX:=ah (L4.o.dr)
         have SX:=ah (KS.o.dr)
         with_reducible refine(H6.o W4.drew).mono ?_
         rintro r v1 ⟨⟨p,rfl,hN⟩,hb⟩;obtain⟨ai,ci,rfl,hN0⟩:=Lo.shape FF.o.r4.1 hN;have B1:=ah (BX.o.be hb);have S1:=ah (SX.o.be hb);have N1:=ah ((NS.o.below (ay W4.heap.size W4).drew).below hb);have NI:=ah hN0
         clear hb hN hN0 BX SX)
      | (have BX:=ah ((L4.o.al Zd).dr)
         have SX:=ah ((KS.o.al Zd).dr)
         with_reducible refine(H6.o (W4.alloc Zd).drew).mono ?_
         rintro r v1 ⟨⟨p,rfl,hN⟩,hb⟩;obtain⟨ai,ci,rfl,hN0⟩:=Lo.shape FF.o.r4.1 hN;have B1:=ah (BX.o.be hb);have S1:=ah (SX.o.be hb);have N1:=ah (((NS.o.below (ae _ Zd)).below (ay (W4.alloc Zd).heap.size (W4.alloc Zd)).drew).below hb);have NI:=ah hN0;have ZA:=ah (((L4.o.zero).be (ay (W4.alloc Zd).heap.size (W4.alloc Zd)).drew).be hb)
         clear hb hN hN0 BX SX))
   | (go_at_call 68
      first
      | (have BX:=ah (B1.o)
         have SX:=ah (S1.o);have NX:=ah (N1.o);have NY:=ah (NI.o)
         with_reducible refine(H7.o v1 xs5 ai ys5 ci NX.o NY.o).mono ?_
         rintro r v2 ⟨⟨p,rfl,hN⟩,hb⟩;obtain⟨am,cm,rfl,hN0⟩:=Lo.shape FF.o.r6.1 hN;have B2:=ah (BX.o.be hb);have S2:=ah (SX.o.be hb);have NM:=ah hN0
         try (have ZA:=ah (ZA.o.be hb))
         try (have hgs:=ZA.o.r2 _ (nk _ (nk _ (nk _ nu)));obtain⟨⟨e1,e2,D7,e3⟩,e4⟩:=ZA.o;obtain⟨u0,u1,u2,t0,t1,t2⟩:=D7.facts;have lA:=D7.lt;have nA:=il lA;have mA:=nS lA;clear D7 e3 e4)
         clear hb hN hN0 BX SX NX NY)
      | (have BX:=ah (B1.o.al Zd)
         have SX:=ah (S1.o.al Zd);have NX:=ah (N1.o.below (ae _ Zd));have NY:=ah (NI.o.below (ae _ Zd))
         with_reducible refine(H7.o (v1.alloc Zd) xs5 ai ys5 ci NX.o NY.o).mono ?_
         rintro r v2 ⟨⟨p,rfl,hN⟩,hb⟩;obtain⟨am,cm,rfl,hN0⟩:=Lo.shape FF.o.r6.1 hN;have B2:=ah (BX.o.be hb);have S2:=ah (SX.o.be hb);have NM:=ah hN0;have ZA:=ah (B1.o.zero.be hb)
         try (have hgs:=ZA.o.r2 _ (nk _ (nk _ (nk _ nu)));obtain⟨⟨e1,e2,D7,e3⟩,e4⟩:=ZA.o;obtain⟨u0,u1,u2,t0,t1,t2⟩:=D7.facts;have lA:=D7.lt;have nA:=il lA;have mA:=nS lA;clear D7 e3 e4)
         clear hb hN hN0 BX SX NX NY)))
  all_goals
   exact xi
 clear L4 KS NS;obtain⟨g20,rfl,rfl,L5⟩:=hcut;obtain⟨W5,hW⟩:=af wc;subst hW;obtain⟨xg,yg,Kg,Mg⟩:=L5.o.get (g:=g20) (o:=og) nu;obtain⟨xu,yu,Ku,Mu⟩:=L5.o.get (g:=g18) (o:=ou) (nk _ nu);obtain⟨p0,p1,p2⟩:=Kg;obtain⟨q0,q1,q2⟩:=Ku;have C:=hid (H8.o W5 xg xu yg yu Mg Mu);go_wp2_with fail;refine C.o.mono ?_;rintro r v6 ⟨⟨p,rfl,hN⟩,hb⟩;obtain⟨a6,c6,rfl,hN0⟩:=Lo.shape FF.o.r7 hN;obtain⟨V6,hV⟩:=af (v6.alloc (r9 q a6 c6));obtain⟨g22,hg⟩:=af (v6.heap.size)
 have L6:Aside (iX w V6 ((g22,q)::[(g20,og),(g18,ou),(g16,of),(g14,ob),(g12,oa)])):=by
  rw[hV,hg];exact(L5.o.be hb).new hN0
 have HV:=(aZ hV hg);clear C hb hN hN0 hV hg
 go_upto_region 7 with fail
 rw[<-HV.o.1,<-HV.o.2];clear HV;clear p0 p1 p2 q0 q1 q2 Mg Mu;obtain⟨xq,yq,Kq,Mq⟩:=L6.o.get (g:=g22) (o:=q) nu;obtain⟨q0,q1,q2⟩:=Kq;have NQ:=ah Mq;clear Mq;obtain⟨m,hm⟩:=af ((ws (dX q)).length);rw[<-hm] at q1;have HM:=ah hm
 by_cases h0:m=0
 · have e0:(ws (dX q)).length=0:=by rw[<-hm];exact h0
   have Hz:Aside (zz=z0/\ee=0):=ah ⟨by rw[HZ.o.1,if_pos e0],by rw[HZ.o.2,if_pos e0]⟩;obtain⟨U0,pR⟩:=af (V6.alloc (Obj.cells #[.float .f64 s,.float .f64 t] 27));obtain⟨gl,hgl⟩:=af (V6.heap.size)
   have K4:Aside (Fs U0.heap.size U0 (some ⟨gl,0,none⟩) [s,t]/\Below w.heap.size w U0):=by
    rw[pR,hgl];exact⟨CG V6 s t,(L6.o.al _).1⟩
   have C:=hid (H9.o U0 gl K4.o.1);have HU:=(aZ pR hgl);subst h0;clear pR hgl L6 hm e0;go_wp2_with fail;rw[<-HU.o.1,<-HU.o.2];clear HU;refine C.o.mono ?_;rintro r v7 ⟨rfl,hb⟩;have K5:=ah (K4.o.2.trans (hb.mono K4.o.2.size));clear C hb K4;have C:=hid (H10.o v7);go_wp2_with fail;refine C.o.mono ?_;rintro r v8 ⟨rfl,hb⟩;have K6:=ah (K5.o.trans (hb.mono K5.o.size));clear C hb K5;go_wp2;refine aB (v:=.tuple #[.float .f64 z0,.int .i64 0]) (by simp[results,Tryz.results40,go_sem]) rfl ?_;exact⟨by rw[Hz.o.1,Hz.o.2],K6.o⟩
 · have e0:¬ (ws (dX q)).length=0:=by rw[<-hm];exact h0
   have Hz:Aside (zz=z/\ee=ez):=ah ⟨by rw[HZ.o.1,if_neg e0],by rw[HZ.o.2,if_neg e0]⟩;have d0:((m:Int)==0)=false:=by simp;omega
   have d1:decide ((m:Int)=0)=false:=by simp;omega
   have CQ:Aside (oO g22 q xq yq V6):=⟨q0,by rw[q1,hm],q2⟩;clear hm e0
   go_upto_region 9 with fail
   have BB:Aside (Below w.heap.size w V6.drew/\oO g22 q xq yq V6.drew/\Nt 0 V6.drew (.slice xq (ws (dX q)).length yq) (dX q)):=⟨L6.o.dr.1,CQ.o.dr,NQ.o.below (ay V6.heap.size V6).drew⟩;clear q0 q1 q2 CQ NQ L6;obtain⟨d3,d4,d5⟩:=BB.o.2.1;refine uo ?_
   go_region_with (first
    | (go_at_call 73
       with_reducible refine(H11.o _ xq a9 yq c9 BB.o.r2 Q9.o).mono ?_
       rintro r v ⟨rfl,hb⟩;have BE:=ah (BB.o.1.trans (hb.mono BB.o.1.size))
       clear hb d3 d4 d5)
    | (go_at_call 69
       with_reducible refine(H6.o _).mono ?_
       rintro r v ⟨⟨p,rfl,hN⟩,hb⟩;obtain⟨a9,c9,rfl,hN0⟩:=Lo.shape FF.o.r4.1 hN;have BB:=fG (BB.o.1.trans (hb.mono BB.o.1.size)) (BB.o.2.1.be hb) (BB.o.r2.below hb);have Q9:=ah hN0;obtain⟨d3,d4,d5⟩:=BB.o.2.1
       clear hb hN hN0))
   all_goals
    go_wp2;refine aB (v:=.tuple #[.float .f64 z,.int .i64 ez]) (by simp[results,Tryz.results40,go_sem]) rfl ?_;exact⟨by rw[Hz.o.1,Hz.o.2],BE.o⟩
end
end Go.Proofs.YtjppdacikihpdaaGreatDoor
