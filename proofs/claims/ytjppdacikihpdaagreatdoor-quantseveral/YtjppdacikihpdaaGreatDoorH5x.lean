import Derived.Test.YtjppdacikihpdaaGreatDoorRS6x
import Derived.Test.YtjppdacikihpdaaGreatDoorW14x
import Derived.BigQuiet
import Derived.Test.YtjppdacikihpdaaGreatDoorS10x
import Derived.Test.YtjppdacikihpdaaGreatDoorD32cx
import Derived.Test.YtjppdacikihpdaaGreatDoorF2x
import Derived.Deep.RegionWith
import Derived.OwnWalk
import Derived.ArgAppend
import Derived.WalkMore
import Derived.Deep.RegionHeld3
import Derived.Deep.CutRange
import Derived.Test.YtjppdacikihpdaaGreatDoorD39x
set_option linter.unusedVariables false
set_option linter.unusedSimpArgs false
set_option maxHeartbeats 16000000
set_option maxRecDepth 20000
namespace Go.Proofs.YtjppdacikihpdaaGreatDoor
namespace J
end J
section
open Go.RowKit J
attribute [local go_sem] cZ
def jD(n:Nat):Value:=.float .f64 n
theorem Tryz.iL:Tryz.prog.underlying 22=some (.slice 27):=by kernel_rfl
theorem Tryz.nK:(Tryz.prog.info? 27).map (λi=>(i.zero,i.size,i.bytes))=some (some (.float .f64 0),1,8):=by kernel_rfl
def eO(w:World)(g:Nat)(L:List Nat):Prop:=w.heap[g]?=some (.cells (L.map jD).toArray 27 (0,0))
theorem eO.lt{w:World}{g:Nat}{L:List Nat}(h:eO w g L):g<w.heap.size:=(dQ.1 h).1
theorem eO.cell{w:World}{g:Nat}{L:List Nat}(h:eO w g L)(i:Nat)(hi:i<L.length):w.cell? ⟨g,i,none⟩=some (.float .f64 (L.getD i 0)):=by
 unfold eO at h;simp[World.cell?,h,jD,hi]
theorem eO.frozen{w:World}{g:Nat}{L:List Nat}(h:eO w g L)(i:Nat):w.frozen? ⟨g,i,none⟩=false:=by
 unfold eO at h;simp[World.frozen?,h]
theorem eO.set{w:World}{g:Nat}{L:List Nat}(h:eO w g L)(i x:Nat):eO (w.setCell ⟨g,i,none⟩ (.float .f64 x)) g (L.set i x):=by
 unfold eO at h |-;simp only[World.setCell,gz,h];simp[jD,sO]
theorem eO.below{w w':World}{g B:Nat}{L:List Nat}(h:eO w g L)(hb:Below B w w')(hg:g<B):eO w' g L:=by
 unfold eO at h |-;rw[hb.block g hg];exact h
theorem eO.fs{w:World}{g B:Nat}{L:List Nat}(h:eO w g L)(hg:g<B)(n:Nat):Fs B w (some ⟨g,0,none⟩) (L.take n):=by
 intro _;refine⟨g,0,hg,rfl,λi hi=>?_⟩;rw[fJ] at hi;rw[dA,h.cell i ae];congr 2;rw[bF,bF,List.getElem?_take,if_pos ae]
theorem mJ(z:Int)(n:Nat)(hz:z=(n:Int))(hn:n<=17592186044416)(w:World) :
 (Instr.makeSlice 22 (.int .i64 z) (.int .i64 z)).run Tryz.prog w=.ok (.slice (some ⟨w.heap.size,0,none⟩) n n) (w.alloc (.cells (madeCells #[.float .f64 0] n) 27)):=by
 subst hz;exact run_make_row' 22 27 (.float .f64 0) 8 Tryz.iL Tryz.nK rfl .i64 .i64 n ae ae w
theorem eO.made(w:World)(n:Nat):eO (w.alloc (.cells (madeCells #[.float .f64 0] n) 27)) w.heap.size (List.replicate n 0):=by
 unfold eO;have h1:=iF w (.cells (madeCells #[.float .f64 0] n) 27);rw[h1];congr 2;apply Array.toList_inj.1;rw[toList_madeCells_one];simp[jD]
theorem G8 (w:World) (g dLen dCap:Nat) (ao:Option Addr) (sLen sCap B:Nat) (ty:TypeId)
 (L xs:List Nat) (hO:eO w g L) (hL:dLen<=L.length) (hx:sLen=xs.length) (hR:Fs B w ao xs) (hle:sLen<=dLen) :
 ∃w',(Builtin.copy_ #[22,22] ty #[.slice (some ⟨g,0,none⟩) dLen dCap,.slice ao sLen sCap]).run Tryz.prog w=.ok (.int .i64 (sLen:Int)) w'/\eO w' g (xs++L.drop sLen)/\But g w w':=by
 subst hx;have hmin:Nat.min xs.length dLen=xs.length:=iQ hle
 by_cases h0:xs=[]
 . subst h0;exact⟨w,run_copy_none (P:=Tryz.prog) w 22 22 ty 27 _ _ _ _ _ _ Tryz.iL mW (by simp at hmin |-),by simpa using hO,But.refl _ _⟩
 . obtain⟨b,off,hlt,rfl,hc⟩:=hR h0;have hadd:∀j,(⟨b,off,none⟩:Addr).add j=⟨b,off+j,none⟩:=by intro j;unfold Addr.add;split <;> simp_all
   have hrun:=run_copy_row (P:=Tryz.prog) w 22 22 ty 27 g 0 dLen dCap ⟨b,off,none⟩ xs.length sCap (L.map jD).toArray 27 (xs.map jD) Tryz.iL mW hO (by rw[hmin];simp) (by
    intro j v hv;rw[hadd]
    have hj:j<xs.length:=by
     have:=(iD.1 hv).1;simpa using this
    rw[hc j hj];simp[hj,jD] at hv
    simp[hj,<-hv]) (by simp;omega) (by
    intro v hv;obtain⟨n,_,rfl⟩:=rE.1 hv
    rfl)
   refine⟨w.setRow g (((xs++L.drop xs.length).map jD)).toArray,?_,setRow_heap w g _ _ 27 _ hO,⟨rfl,rfl,rfl,by simp[World.setRow],λk _ hk=>setRow_other w g k _ hk⟩⟩;simpa [jy,List.map_drop,goInt] using hrun
def jE:Nat:=4693671547643874799
theorem G9(xs:List Nat)(n:Nat)(hn:n=xs.length):xs++(List.replicate (n+8) 0).drop n=xs++List.replicate 8 0:=by
 rw[xW,show n+8-n=8 by omega]
theorem PT(xs:List Nat)(n k:Nat)(hn:n=xs.length)(hk:k<8):(xs++(List.replicate k jE++List.replicate (8-k) 0)).set (n+k) jE=xs++(List.replicate (k+1) jE++List.replicate (8-(k+1)) 0):=by
 subst hn;have hc:k=0\/k=1\/k=2\/k=3\/k=4\/k=5\/k=6\/k=7:=ae
 rw[yw _ _ ae,IK];rcases hc with rfl|rfl|rfl|rfl|rfl|rfl|rfl|rfl <;> rfl
theorem X9(xs:List Nat)(ao:Option Addr)(n cap B:Nat)(w:World)(hn:n=xs.length)(hm:n<=17592186043904)(hR:Fs B w ao xs)(hB:B<=w.heap.size) :
 As 6 #[.slice ao n cap] w λr w'=>r=.returned (.slice (some ⟨w.heap.size,0,none⟩) n (n+8))/\eO w' w.heap.size (xs++List.replicate 8 jE)/\An w w':=by
 have hmk:=mJ ((n+8:Nat):Int) (n+8) rfl ae;have hmk2:=mJ ((n:Int)+8) (n+8) ae ae;have HO2:Hid (eO (w.alloc (.cells (madeCells #[.float .f64 0] (n+8)) 27)) w.heap.size (List.replicate (n+8) 0)):=eO.made w (n+8);obtain⟨w2,hcp,hO2,aI⟩:=G8 _ w.heap.size (n+8) (n+8) ao n cap B 3 (List.replicate (n+8) 0) xs HO2.o aN hn (hR.below ((aD _ _).alloc hB _)) ae;rw[G9 xs n hn] at hO2;have HX:=(gp hO2 aI hn);have HM:=hid (λu:World=>BR jE u);clear hO2 aI HO2 hn hR;go_enter Tryz.func6,Tryz.ntmps6;go_wp2
 go_loopg [4] 8 (λgk i wr=>∃k:Nat,gk+k=8/\i=.int .i64 ((n+k:Nat):Int)/\Aside (eO wr w.heap.size (xs++(List.replicate k jE++List.replicate (8-k) 0))/\But w.heap.size w2 wr))
 case atStart=>exact⟨0,ae,aN,HX.o.1,But.refl _ _⟩
 case round =>
  obtain⟨k,jo,rfl,HA⟩:=hrel
  by_cases hk:k<8
  . have hd:decide (((n+k:Nat):Int)<(n:Int)+8)=true:=by simp;omega
    have hfz:=HA.o.1.frozen (n+k);have hcl:=HA.o.1.cell (n+k) (by rw[HX.o.r2];simp;omega);go_wp2_with fail;refine(HM.o _).mono ?_;rintro r w3 ⟨rfl,rfl⟩;go_wp2;go_roundg (gk-1)
    case measure=>omega
    case rel =>
     refine⟨k+1,ae,by go_num,?_,HA.o.2.set _ _⟩;rw[<-PT xs n k HX.o.r2 hk];exact HA.o.1.set (n+k) jE
  . obtain rfl:k=8:=ae
    have hd:decide (((n+8:Nat):Int)<(n:Int)+8)=false:=by simp
    go_wp2;go_ret;refine⟨rfl,?_,?_⟩
    . simpa using HA.o.1
    . exact But.below ((aD _ _).alloc (aA _) _) (HX.o.2.1.trans HA.o.2) aN (aA _)
theorem Qad{P:Prop}(h:P:=by
 go_wp2_with fail;refine(HR.o _ _).mono ?_;rintro r w3 ⟨rfl,rfl⟩;go_wp2;go_roundg (gk-1)
 case measure=>omega
 case rel=>exact⟨k+1,ae,by go_num,rfl⟩):P:=h
theorem PW(xs:List Nat)(ao:Option Addr)(n cap B g:Nat)(w:World)(hn:n=xs.length)(hm:n<=17592186043904)(hR:Fs B w ao xs)(hB:B<=w.heap.size)(hO:eO w g (xs++List.replicate 8 jE)) :
 At 8 #[.slice (some ⟨g,0,none⟩) n (n+8),.slice ao n cap] w (.bool true):=by
 have hgl:=hO.lt;have HX:=(gy hR hO hn hB hgl);have HR:=hid (fun(x:Nat) (u:World)=>rraw10 x u);clear hR hO hn hB hgl;go_enter Tryz.func8,Tryz.ntmps8;go_wp2
 go_loopg [6] (n+8) (λgk i wr=>∃k:Nat,gk+k=n+8/\i=.int .i64 (k:Nat)/\wr=w)
 case atStart=>exact⟨0,ae,aN,rfl⟩
 case round =>
  obtain⟨k,jo,rfl,rfl⟩:=hrel
  by_cases hk:k<n
  . have hcg:=HX.o.2.1.cell k (by simp;rw[<-HX.o.r2.1];omega)
    have e1:(xs++List.replicate 8 jE).getD k 0=xs.getD k 0:=by
     rw[bF,sQ (by rw[<-HX.o.r2.1];exact hk),bF]
    rw[e1] at hcg;obtain⟨b,off,rfl,hcl⟩:=HX.o.1.at (aD _ _) k (by rw[<-HX.o.r2.1];exact hk);obtain⟨x,hx⟩:=ah (xs.getD k 0);rw[<-hx] at hcg hcl;have hd:decide ((k:Int)<(n:Int)+8)=true:=by simp;omega
    have hne:(((x:Nat):Int) != ((x:Nat):Int))=false:=by simp
    clear hx e1;go_wp2_with fail;refine(HR.o _ _).mono ?_;rintro r w3 ⟨rfl,rfl⟩;exact Qad
  . by_cases hk8:k<n+8
    . have hcg:=HX.o.2.1.cell k (by simp;rw[<-HX.o.r2.1];omega)
      have e1:(xs++List.replicate 8 jE).getD k 0=4693671547643874799:=by
       rw[bF,pq (by rw[<-HX.o.r2.1];omega),II,if_pos (by rw[<-HX.o.r2.1];omega)];rfl
      rw[e1] at hcg;have hd:decide ((k:Int)<(n:Int)+8)=true:=by simp;omega
      have hd2:decide ((k:Int)<(n:Int))=false:=by simp;omega
      clear e1;exact Qad
    . have hd:decide ((k:Int)<(n:Int)+8)=false:=by simp;omega
      go_wp2;go_ret;exact yk
end
section
open Go.RowKit J
def tkQ(x:Nat):Int:=if 9218868437227405312<bB x then 9221120237041090560 else if dH x then -1-(bB x:Int) else bB x
theorem Qaj{P:Prop}(h:P:=by
 unfold B.bw dH bB at *
 by_cases h:9223372036854775808<=x
 . rw[decide_eq_true h];simp only[gD];omega
 . rw[decide_eq_false h];simp only[gF];omega):P:=h
theorem bw15{x:Nat}(hx:x<18446744073709551616):∃s e f,e<2048/\f<4503599627370496/\x=B.bw s e f/\s=dH x/\e=bB x/4503599627370496/\f=bB x%4503599627370496:=by
 have hm:bB x<9223372036854775808:=by unfold bB;omega
 refine⟨dH x,bB x/4503599627370496,bB x%4503599627370496,ae,ae,?_,rfl,rfl,rfl⟩;exact Qaj
theorem ky_tk{x:Nat}(hx:x<18446744073709551616):B.ky (dH x) (bB x/4503599627370496) (bB x%4503599627370496)=tkQ x:=by
 have hm:bB x<9223372036854775808:=by unfold bB;omega
 have e:((bB x/4503599627370496:Nat):Int)*4503599627370496+(bB x%4503599627370496:Nat)=(bB x:Int):=ae
 unfold B.ky tkQ
 by_cases h:9218868437227405312<bB x
 . rw[if_pos h,if_pos ae]
 . rw[if_neg h,if_neg ae,e]
theorem He{x:Nat}(hx:x<18446744073709551616):∃s e f,e<2048/\f<4503599627370496/\x=B.bw s e f/\B.ky s e f=tkQ x:=by
 obtain⟨s,e,f,h1,h2,h3,rfl,rfl,rfl⟩:=bw15 hx;exact⟨_,_,_,h1,h2,h3,ky_tk hx⟩
theorem Ya{x y:Nat}(hx:x<18446744073709551616)(hy:y<18446744073709551616)(w:World) :
 Ax 99 #[.float .f64 x,.float .f64 y] w (.int .i64 (B.oc (tkQ x) (tkQ y))):=by
 obtain⟨s,e,f,h1,h2,h3,h4⟩:=He hx;obtain⟨t,u,v,i1,i2,i3,i4⟩:=He hy;have h:=B.Oe s t e f u v h1 h2 i1 i2 w;rw[h4,i4,<-h3,<-i3] at h;exact h
def leI(xs:List Nat)(i j:Nat):Bool:=decide (tkQ (xs.getD i 0)<tkQ (xs.getD j 0)\/tkQ (xs.getD i 0)=tkQ (xs.getD j 0)/\i<=j)
theorem PX(xs:List Nat)(a b c:Nat)(h1:leI xs a b=true)(h2:leI xs b c=true):leI xs a c=true:=by unfold leI at *;simp only[decide_eq_true_eq] at *;omega
theorem PY(xs:List Nat)(a b:Nat):(leI xs a b || leI xs b a)=true:=by unfold leI;simp only[Bool.or_eq_true,decide_eq_true_eq];omega
theorem zP(xs:List Nat)(a b:Nat)(h1:leI xs a b=true)(h2:leI xs b a=true):a=b:=by unfold leI at *;simp only[decide_eq_true_eq] at *;omega
def Yb(xs is:List Nat):List Nat:=is.mergeSort (leI xs)
theorem BS(xs is:List Nat):(Yb xs is).Perm is:=List.mergeSort_perm is (leI xs)
theorem Uz(xs is:List Nat):(Yb xs is).length=is.length:=(BS xs is).length_eq
theorem mK(xs is:List Nat):(Yb xs is).Pairwise (λa b=>leI xs a b=true):=List.pairwise_mergeSort (PX xs) (PY xs) is
theorem dF{A:List Nat}{i:Nat}(h:i<A.length):A.getD i 0 ∈ A:=by rw[bF,aY h];exact gQ _
def mf(xs:List Nat):List Nat:=Yb xs (List.range xs.length)
theorem nL(xs:List Nat):(mf xs).length=xs.length:=by unfold mf;rw[Uz,yx]
theorem qV(xs:List Nat):(mf xs).Perm (List.range xs.length):=BS _ _
theorem mg{xs:List Nat}{i:Nat}:i ∈ mf xs↔i<xs.length:=by rw[(qV xs).mem_iff,xQ]
theorem Yc{xs:List Nat}{k:Nat}(h:k<xs.length):(mf xs).getD k 0<xs.length:=mg.1 (dF (by rw[nL];exact h))
def zY(xs:List Nat)(i:Nat):Nat:=(mf xs).idxOf i
theorem UA{xs:List Nat}{i:Nat}(h:i<xs.length):zY xs i<xs.length:=by
 have:=List.idxOf_lt_length_of_mem (mg.2 h);rw[nL] at this;exact this
theorem xI{xs:List Nat}{i:Nat}(h:i<xs.length):(mf xs).getD (zY xs i) 0=i:=by
 have h1:=List.idxOf_lt_length_of_mem (mg.2 h);unfold zY;rw[bF,aY h1];exact List.getElem_idxOf h1
def dP(xs:List Nat):List Nat:=(mf xs).map λi=>Uy (xs.getD i 0)
theorem ll(xs:List Nat):(dP xs).length=xs.length:=by unfold dP;rw[mZ,nL]
theorem PZ{xs:List Nat}{k:Nat}(h:k<xs.length):(dP xs).getD k 0=Uy (xs.getD ((mf xs).getD k 0) 0):=by
 have hk:k<(mf xs).length:=by rw[nL];exact h
 unfold dP;rw[bF,mY,bF (l:=mf xs),aY hk];rfl
theorem Ef{xs:List Nat}{i j:Nat}(hi:i<xs.length)(hj:j<xs.length)(h:zY xs i<zY xs j):leI xs i j=true:=by
 have p1:=UA hi;have p2:=UA hj;have hl:=nL xs;have:=(yt.1 (show(mf xs).Pairwise (λa b=>leI xs a b=true) from mK xs _)) (zY xs i) (zY xs j) ae ae h;have e1:=xI hi;have e2:=xI hj;rw[bF,aY ae] at e1 e2;simp only[CJ] at e1 e2;rw[e1,e2] at this;exact this
theorem Eg{xs:List Nat}{i j:Nat}(hi:i<xs.length)(hj:j<xs.length)(h:zY xs i=zY xs j):i=j:=by
 rw[<-xI hi,<-xI hj,h]
theorem Yd{xs:List Nat}{i j:Nat}(hi:i<xs.length)(hj:j<xs.length)(hne:i≠j):zY xs i<zY xs j↔leI xs i j=true:=by
 refine⟨Ef hi hj,λh=>?_⟩;rcases ni (zY xs i) (zY xs j) with q|q|q
 . exact q
 . exact absurd (Eg hi hj q) hne
 . exact absurd (zP xs i j h (Ef hj hi q)) hne
def vV(x y:Int):Int:=if x<y then -1 else if y<x then 1 else 0
theorem Ye(x:Int)(w:World):Ax 159 #[.int .i64 x] w (.bool false):=by
 go_enter Tryz.func159,Tryz.ntmps159;go_wp2;exact z9
theorem Ak(x y:Int)(w:World):Ax 100 #[.int .i64 x,.int .i64 y] w (.int .i64 (vV x y)):=by
 have H:=hid Ye;unfold vV
 by_cases h1:x<y
 . rw[if_pos h1];go_enter Tryz.func100,Tryz.ntmps100
   go_wp2_with (go_at_call 159;refine(H.o _ _).mono ?_;rintro r w1 ⟨rfl,rfl⟩)
   exact Jx
 . rw[if_neg h1];have d1:decide (x<y)=false:=by simp;omega
   by_cases h2:y<x
   . rw[if_pos h2];go_enter Tryz.func100,Tryz.ntmps100
     go_wp2_with (go_at_call 159;refine(H.o _ _).mono ?_;rintro r w1 ⟨rfl,rfl⟩)
     exact Jx
   . rw[if_neg h2];have d2:decide (y<x)=false:=by simp;omega
     go_enter Tryz.func100,Tryz.ntmps100
     go_wp2_with (go_at_call 159;refine(H.o _ _).mono ?_;rintro r w1 ⟨rfl,rfl⟩)
     exact Jx
def uy(x y:Int):Int:=if x=0 then y else x
theorem Qbm{P:Prop}(h:P:=by
 go_wp2;go_ret;exact⟨by rw[E.o];rfl,rfl⟩):P:=h
theorem or15(g cap:Nat)(x y:Int)(w:World)(c1:w.cell? ⟨g,0,none⟩=some (.int .i64 x))(c2:w.cell? ⟨g,1,none⟩=some (.int .i64 y)):Ax 98 #[.slice (some ⟨g,0,none⟩) 2 cap] w (.int .i64 (uy x y)):=by
 obtain⟨z,hz⟩:=ah (uy x y);rw[<-hz];have HZ:=ak hz;clear hz;go_enter Tryz.func98,Tryz.ntmps98;go_wp2
 go_loopg [8] 2 (λgk iv wr=>∃i:Nat,gk+i=2/\iv=.int .i64 (i:Nat)/\Aside ((0<i->x=0)/\(1<i->y=0))/\wr=w)
 case atStart=>exact⟨0,rfl,rfl,⟨λh=>by omega,λh=>by omega⟩,rfl⟩
 case round =>
  obtain⟨i,h1,rfl,H,rfl⟩:=hrel;have hi:i=0\/i=1\/i=2:=ae
  rcases hi with rfl|rfl|rfl
  . by_cases hx:x=0
    . subst hx;go_wp2;go_roundg 1
      case measure=>omega
      case rel=>exact⟨1,rfl,by first | rfl | simp,⟨λ_=>by first | rfl | trivial,λh=>by omega⟩,rfl⟩
    . have e1:(x==0)=false:=by simp[hx]
      have e2:(x != 0)=true:=by simp[hx]
      have e3:decide (x=0)=false:=by simp[hx]
      have E:Aside (z=x):=ak (by rw[HZ.o];unfold uy;rw[if_neg hx]);exact Qbm
  . by_cases hy:y=0
    . subst hy;go_wp2;go_roundg 0
      case measure=>omega
      case rel=>exact⟨2,rfl,by first | rfl | simp,⟨λ_=>H.o.1 ae,λh=>by first | rfl | trivial⟩,rfl⟩
    . have e1:(y==0)=false:=by simp[hy]
      have e2:(y != 0)=true:=by simp[hy]
      have e3:decide (y=0)=false:=by simp[hy]
      have E:Aside (z=y):=ak (by rw[HZ.o];unfold uy;rw[if_pos (H.o.1 ae)]);exact Qbm
  . have E:Aside (z=0):=ak (by rw[HZ.o];unfold uy;rw[if_pos (H.o.1 ae),H.o.2 ae]);exact Qbm
theorem oc_z15(p q:Int)(i j:Nat)(hne:i≠j):uy (B.oc p q) (vV (i:Int) (j:Int))<0↔(p<q\/p=q/\i<=j):=by
 have e:B.oc p q=if p<q then -1 else if q<p then 1 else 0:=by unfold B.oc;rfl
 rw[e];unfold uy vV
 by_cases a:p<q
 . rw[if_pos a,if_neg ae];omega
 . rw[if_neg a]
   by_cases b:q<p
   . rw[if_pos b,if_neg ae];omega
   . rw[if_neg b,if_pos rfl]
     by_cases c:(i:Int)<(j:Int)
     . rw[if_pos c];omega
     . rw[if_neg c,if_pos ae];omega
theorem Yf(xs:List Nat)(i j:Nat)(hi:i<xs.length)(hj:j<xs.length):uy (B.oc (tkQ (xs.getD i 0)) (tkQ (xs.getD j 0))) (vV (i:Int) (j:Int))<0↔zY xs i<zY xs j:=by
 by_cases hne:i=j
 . subst hne;have e:B.oc (tkQ (xs.getD i 0)) (tkQ (xs.getD i 0))=0:=by unfold B.oc;simp
   rw[e];unfold uy vV;simp
 . rw[Yd hi hj hne,oc_z15 _ _ i j hne];unfold leI;rw[decide_eq_true_eq]
theorem Eh (b off n cap i j:Nat) (at':Value) (p q:Nat) (o c z:Int) (u:World) (c1:u.cell? ⟨b,off+i,none⟩=some (.float .f64 p)) (c2:u.cell? ⟨b,off+j,none⟩=some (.float .f64 q)) (hi:i<n) (hj:j<n)
 (HO:Hid (∀w,Ax 99 #[.float .f64 p,.float .f64 q] w (.int .i64 o)))
 (HM:Hid (∀w,Ax 100 #[.int .i64 (i:Nat),.int .i64 (j:Nat)] w (.int .i64 c)))
 (HR:Hid (∀(g cap:Nat) (w:World),w.cell? ⟨g,0,none⟩=some (.int .i64 o)->w.cell? ⟨g,1,none⟩=some (.int .i64 c)->Ax 98 #[.slice (some ⟨g,0,none⟩) 2 cap] w (.int .i64 z))) :
 At 59 #[.agg #[.slice (some ⟨b,off,none⟩) n cap,at'],.int .i64 (i:Nat),.int .i64 (j:Nat)] u (.int .i64 z):=by
 have b1:(i:Int)<(n:Int):=ae
 have b2:(j:Int)<(n:Int):=ae
 have hb:b<u.heap.size:=by
  unfold World.cell? at c1;rcases iE b u.heap.size with q|q
  . exact q
  . rw[yj q] at c1;cases c1
 go_enter Tryz.func59,Tryz.ntmps59
 go_upto_region 1 with fail
 go_region_with (first
  | (go_at_call 99
     refine(HO.o _).mono ?_
     rintro r v ⟨rfl,rfl⟩)
  | (go_at_call 100
     refine(HM.o _).mono ?_
     rintro r v ⟨rfl,rfl⟩)
  | (go_at_call 98
     refine(HR.o _ _ _ (by simp[go_sem]) (by simp[go_sem])).mono ?_
     rintro r v ⟨rfl,rfl⟩))
 all_goals
  go_wp2;go_ret;refine⟨rfl,?_⟩
  first
   | exact((((aD u.heap.size u).alloc (aA _) _).drew).alloc aN _)
   | exact((((aD u.heap.size u).alloc (aA _) _).alloc aN _).drew)
theorem UB(xs:List Nat)(ao:Option Addr)(n cap g G:Nat)(at':Value)(w:World)(hF:Fs G w ao xs)(hG:G<=g)(hGw:G<=w.heap.size)(hn:n=xs.length)(hW:jH xs):iX (zY xs) n g (.agg #[.slice ao n cap,at']) w:=by
 intro u x y hB hx hy;subst hn;obtain⟨b,off,h1,rfl,h3⟩:=hF (by intro e;subst e;simp at hx)
 have k:∀i,i<xs.length->u.cell? ⟨b,off+i,none⟩=some (.float .f64 (xs.getD i 0)):=λi hi =>
  (sV (a:=⟨b,off+i,none⟩) (hB.block b ae ae)).trans (h3 i hi)
 have hm:∀i,i<xs.length->xs.getD i 0<18446744073709551616:=λi hi=>hW _ (dF hi);exact⟨_,Yf xs x y hx hy,Eh b off xs.length cap x y at' _ _ _ _ _ u (k x hx) (k y hy) hx hy (λw=>Ya (hm x hx) (hm y hy) w) (λw=>Ak _ _ w) (λg cap w c1 c2=>or15 g cap _ _ w c1 c2)⟩
theorem Tryz.UC:Tryz.prog.underlying 59=some (.slice 3):=by kernel_rfl
theorem Tryz.Kc:(Tryz.prog.info? 3).map (λi=>(i.zero,i.size,i.bytes))=some (some (.int .i64 0),1,8):=by kernel_rfl
theorem P5(z:Int)(n:Nat)(hz:z=(n:Int))(hn:n<=17592186044416)(w:World) :
 (Instr.makeSlice 59 (.int .i64 z) (.int .i64 z)).run Tryz.prog w=.ok (.slice (some ⟨w.heap.size,0,none⟩) n n) (w.alloc (.cells (madeCells #[.int .i64 0] n) 3)):=by
 subst hz;exact run_make_row' 59 3 (.int .i64 0) 8 Tryz.UC Tryz.Kc rfl .i64 .i64 n ae ae w
theorem df.made(w:World)(n:Nat):df (w.alloc (.cells (madeCells #[.int .i64 0] n) 3)) w.heap.size (List.replicate n 0):=by
 unfold df;have h1:=iF w (.cells (madeCells #[.int .i64 0] n) 3);rw[h1];congr 2;apply Array.toList_inj.1;rw[toList_madeCells_one];simp[X5]
theorem Hg{xs M:List Nat}(hP:M.Perm (List.range xs.length))(hU:Up (zY xs) 0 xs.length M):M=mf xs:=by
 have hl:M.length=xs.length:=by rw[hP.length_eq,yx]
 have hlt:∀i (h:i<M.length),M[i]<xs.length:=λi h=>xQ.1 (hP.mem_iff.1 (gQ h));have hnd:M.Nodup:=hP.nodup_iff.2 List.nodup_range;refine CL (le:=λa b=>leI xs a b=true) (λa b ha hb h1 h2=>zP xs a b h1 h2) ?_ (mK xs _) (hP.trans (qV xs).symm);refine yt.2 λi j hi hj hij=>?_;have h:=hU i j (lD _) hij ae;unfold ky at h;rw[bF,aY hi,bF,aY hj] at h;simp only[CJ] at h;have hne:M[i]≠M[j]:=yt.1 hnd i j hi hj hij;rcases iE (zY xs M[i]) (zY xs M[j]) with q|q
 . exact Ef (hlt i hi) (hlt j hj) q
 . exact absurd (Eg (hlt i hi) (hlt j hj) ae) hne
theorem Ke(xs:List Nat)(n g cap:Nat)(recv:Value)(w:World)(hO:df w g (List.range xs.length))(hn:n=xs.length)(hb:n<=17592186044416)(hC:iX (zY xs) n g recv w) :
 As 58 #[.slice (some ⟨g,0,none⟩) n cap,.func (.func 59) #[recv] #[]] w λr w'=>r=.returned (.tuple #[])/\df w' g (mf xs)/\But g w w':=by
 have hS:aK n g n w w (λM=>M=List.range xs.length):=by
  subst hn;exact⟨List.range xs.length,hO,yx,λk hk=>by simp[bF,hk],But.refl _ _,rfl⟩
 have hlim:bl n<1152921504606846976:=by
  have:bl n<=64:=by
   rcases iE 64 (bl n) with q|q
   . have h1:=iw n (by intro e;subst e;simp[dI] at q);have h2:=fD (n:=2) ae (show 64<=bl n-1 by omega);omega
   . exact q
  omega
 have C:=hid (pdq15 (zY xs) n g n cap recv ae n 0 n (bl n) (List.range xs.length) w ae (lD _) (aA _) hlim hS hC (λh=>by omega) List.nodup_range (λx hx y hy h=>Eg (xQ.1 hx) (xQ.1 hy) h));have D:=hid (G6 n w ae);have wl:IntKind.u64.wrap (n:Int)=(n:Int):=by simp[IntKind.wrap,IntKind.bits,IntKind.signed];omega
 obtain⟨m,hm⟩:=ah (bl n);rw[<-hm] at C D;have HN:=ak hn;clear hS hlim hC hO hn hm;go_enter Tryz.func58,Tryz.ntmps58;go_wp2_with fail;refine D.o.mono ?_;rintro r w1 ⟨rfl,rfl⟩;go_wp2_with fail;refine C.o.mono ?_;rintro r v ⟨rfl,hv⟩;have HR:=ak hv;clear C D hv;go_wp2;refine bodyPost_end (v:=.tuple #[]) (by simp[results,Tryz.results58,go_sem]) rfl ?_;obtain⟨M,h1,h2,h3,h4,h5,h6⟩:=HR.o;refine⟨rfl,?_,h4⟩;have hn:=HN.o;subst hn;rw[<-Hg h5.perm h6];exact h1
def jF(n k:Nat):List Nat:=List.range k++List.replicate (n-k) 0
theorem P6(n:Nat):jF n 0=List.replicate n 0:=by simp[jF]
theorem UD(n:Nat):jF n n=List.range n:=by simp[jF]
theorem UE{n k:Nat}(h:k<=n):(jF n k).length=n:=by simp[jF];omega
theorem P7{n k:Nat}(h:k<n):(jF n k).set k k=jF n (k+1):=by
 unfold jF;rw[yw _ _ aN,yx,wE,show n-k=(n-(k+1))+1 by omega,Co,List.set_cons_zero,List.range_succ];simp
theorem dR{g:Nat}{u v:World}{p:Addr}{x:Value}(hB:But g u v)(h:u.cell? p=some x)(hp:p.block≠g):v.cell? p=some x :=
 (sV (hB.block p.block (aG h) hp)).trans h
theorem uz{g:Nat}{u v:World}{p:Addr}(hB:But g u v)(hl:p.block<u.heap.size)(h:u.frozen? p=false)(hp:p.block≠g):v.frozen? p=false:=by
 unfold World.frozen? at h |-;rw[hB.block p.block hl hp];exact h
theorem Qba{P:Prop}(h:P:=by
 rw[hW1,World.cell?_alloc_lt _ _ _ (by simp;omega),World.cell?_alloc_lt _ _ _ aN,World.cell?_alloc_new];rfl):P:=h
theorem x6{P:Prop}(h:P:=by
 have:=HK.o;omega):P:=h
theorem Yg(xs:List Nat)(ao:Option Addr)(n cap:Nat)(w:World)(hF:Fs w.heap.size w ao xs)(hn:n=xs.length)(hb:n<=17592186044416)(hW:jH xs) :
 As 35 #[.slice ao n cap] w λr w'=>∃g,r=.returned (.agg #[.slice ao n cap,.slice (some ⟨g,0,none⟩) n n])/\df w' g (mf xs)/\An w w'/\w.heap.size<=g:=by
 have mk:=P5 n n rfl hb;have HF:=ak hF;have HN:=(bA hn hW);clear hF hn hW;go_enter Tryz.func35,Tryz.ntmps35
 go_upto_region 2 with fail
 obtain⟨W1,hW1⟩:=ah ((((w.alloc (Obj.cells #[Value.slice none 0 0,Value.slice none 0 0] 61)).alloc (Obj.cells (madeCells #[Value.int IntKind.i64 0] n) 3)).alloc (Obj.cells #[Value.slice ao n cap,Value.slice (some ⟨w.heap.size+1,0,none⟩) n n] 61)))
 have o1:df W1 (w.heap.size+1) (jF n 0):=by
  rw[hW1,P6];have:=(df.made (w.alloc (Obj.cells #[Value.slice none 0 0,Value.slice none 0 0] 61)) n);rw[uL] at this;exact this.below ((aD _ _).alloc (aA _) _) aN
 have o2:An w W1:=by
  rw[hW1];exact(((aD w.heap.size w).alloc (aA _) _).alloc aN _).alloc (by simp;omega) _
 have q1:W1.cell? ⟨w.heap.size,0,none⟩=some (.slice none 0 0):=by
  exact Qba
 have q2:W1.cell? ⟨w.heap.size,1,none⟩=some (.slice none 0 0):=by
  exact Qba
 have q3:∀i,W1.frozen? ⟨w.heap.size,i,none⟩=false:=λi=>by
  rw[hW1,World.frozen?_alloc_old _ _ _ (by simp;omega),World.frozen?_alloc_old _ _ _ aN];exact World.frozen?_alloc_new _ _ _ _
 have r1:W1.cell? ⟨w.heap.size+2,0,none⟩=some (.slice ao n cap):=by
  have:=World.cell?_alloc_new ((w.alloc (Obj.cells #[Value.slice none 0 0,Value.slice none 0 0] 61)).alloc (Obj.cells (madeCells #[Value.int IntKind.i64 0] n) 3)) #[Value.slice ao n cap,Value.slice (some ⟨w.heap.size+1,0,none⟩) n n] 61 0;rw[uL,uL] at this;rw[hW1];exact this
 have r2:W1.cell? ⟨w.heap.size+2,1,none⟩=some (.slice (some ⟨w.heap.size+1,0,none⟩) n n):=by
  have:=World.cell?_alloc_new ((w.alloc (Obj.cells #[Value.slice none 0 0,Value.slice none 0 0] 61)).alloc (Obj.cells (madeCells #[Value.int IntKind.i64 0] n) 3)) #[Value.slice ao n cap,Value.slice (some ⟨w.heap.size+1,0,none⟩) n n] 61 1;rw[uL,uL] at this;rw[hW1];exact this
 rw[<-hW1];clear hW1 mk;obtain⟨q,hq⟩:=ah (w.heap.size);obtain⟨g,hg⟩:=ah (w.heap.size+1);obtain⟨h,hh⟩:=ah (w.heap.size+2);rw[<-hg] at o1 r2;rw[<-hh] at r1 r2;rw[<-hq] at q1 q2;simp only[<-hq] at q3;rw[show w.heap.size+1+1=h by omega,<-hg,<-hq];have hgq:g≠q:=ae
 have hgh:g≠h:=ae
 have hqg:q≠g:=ae
 have hhg:h≠g:=ae
 have HQ:=(gp hq hg hh);have HB:=ak o2;have HR:=(gy q1 q2 q3 r1 r2);have HA:Aside (df W1 g (jF n 0)/\But g W1 W1):=⟨o1,But.refl _ _⟩;have hlh:h<W1.heap.size:=aG r1;have hlq:q<W1.heap.size:=aG q1;have HL:=(bA hlh hlq);clear o1 o2 q1 q2 q3 hq hg hh hlh hlq;go_wp2
 go_loopg [13] n (λgk iv wr=>∃k:Nat,gk+k=n/\iv=.int .i64 (k:Nat)/\Aside (df wr g (jF n k)/\But g W1 wr))
 case atStart=>exact⟨0,rfl,by first | rfl | simp,HA.o⟩
 case round =>
  clear HA r1 r2;obtain⟨k,jo,rfl,HA⟩:=hrel
  by_cases hk:k<n
  . have hdk:decide ((k:Int)<(n:Int))=true:=by simp;omega
    have bk:(k:Int)<(n:Int):=ae
    obtain⟨k1,hk1⟩:=ah (k+1);have wk:IntKind.i64.wrap ((k:Int)+1)=(k1:Int):=aL ae ae;have r2:=dR HA.o.2 HR.o.r4 hhg;have c1:=HA.o.1.cell k (by rw[UE ae];exact hk);have z1:=HA.o.1.frozen k;have HX:Aside (df (wr.setCell ⟨g,k,none⟩ (.int .i64 (k:Nat))) g (jF n k1)/\But g W1 (wr.setCell ⟨g,k,none⟩ (.int .i64 (k:Nat)))):=⟨by rw[hk1,<-P7 hk];exact HA.o.1.set k k,HA.o.2.set _ _⟩;obtain⟨y,hy⟩:=ah ((jF n k).getD k 0);rw[<-hy] at c1;have HK:=ak hk1;clear HA hk1 hy;go_wp2;go_roundg (n-k1)
    case measure=>exact x6
    case rel=>exact⟨k1,by have:=HK.o;omega,by first | rfl | simp,HX.o⟩
  . have hdk:decide ((k:Int)<(n:Int))=false:=by simp;omega
    have hkn:k=n:=ae
    subst hkn;obtain⟨a1,a2⟩:=HA.o;rw[UD] at a1;have r1:=dR a2 HR.o.r3.1 hhg;have r2:=dR a2 HR.o.r4 hhg;obtain⟨hn,hW⟩:=HN.o;obtain⟨hq,hg,hh⟩:=HQ.o
    have hFw:Fs w.heap.size wr ao xs:=by
     intro hne;obtain⟨b,off,h1,h2,h3⟩:=HF.o hne;refine⟨b,off,h1,h2,λi hi=>?_⟩;exact dR a2 ((sV (a:=⟨b,off+i,none⟩) (HB.o.block b h1)).trans (h3 i hi)) (by show b≠g;omega)
    have hsz:w.heap.size<=wr.heap.size:=dB HB.o.size a2.size;have hC:iX (zY xs) k g (.agg #[.slice ao k cap,.slice (some ⟨g,0,none⟩) k k]) wr:=UB xs ao k cap g w.heap.size _ wr hFw ae hsz hn hW;rw[hn] at a1;have C:=hid (Ke xs k g k _ wr a1 hn hb hC);clear hFw hC a1 hn hW hq hg hh hsz;have HA2:=ak a2;clear HA a2;go_wp2_with fail;refine C.o.mono ?_;rintro r v ⟨rfl,e1,e2⟩;have a3:=HA2.o.trans e2;have r1:=dR a3 HR.o.r3.1 hhg;have r2:=dR a3 HR.o.r4 hhg;have q1:=dR a3 HR.o.1 hqg;have q2:=dR a3 HR.o.2.1 hqg;have q3:=uz (p:=⟨q,0,none⟩) a3 HL.o.2 (HR.o.r2.1 0) hqg;have q4:=uz (p:=⟨q,1,none⟩) a3 HL.o.2 (HR.o.r2.1 1) hqg;have HE:=(bA e1 a3);clear C e1 e2 a3 HA2;go_wp2;obtain⟨WE,hWE⟩:=ah (((v.setCell ⟨q,0,none⟩ (Value.slice ao k cap)).setCell ⟨q,1,none⟩ (Value.slice (some ⟨g,0,none⟩) k k)))
    have x1:WE.cell? ⟨q,0,none⟩=some (Value.slice ao k cap):=by
     rw[hWE,World.cell?_setCell_other _ _ _ _ aN];exact World.cell?_setCell_same _ _ _ q1
    have x2:WE.cell? ⟨q,1,none⟩=some (Value.slice (some ⟨g,0,none⟩) k k):=by
     rw[hWE];exact World.cell?_setCell_same _ _ _ (by rw[World.cell?_setCell_other _ _ _ _ aN];exact q2)
    rw[<-hWE];have X:=ak hWE;clear hWE;refine aH (v:=.agg #[.slice ao k cap,.slice (some ⟨g,0,none⟩) k k]) (by simp[results,Tryz.results35,go_sem,x1,x2]) rfl ?_;obtain⟨e1,a3⟩:=HE.o;obtain⟨hq,hg,hh⟩:=HQ.o
    have hb2:∀j,j≠q->WE.heap[j]?=v.heap[j]?:=λj hj=>by
     rw[X.o];simp only[World.setCell,gz];rw[if_neg (λe=>hj e.symm),if_neg (λe=>hj e.symm)]
    have hb3:WE.heap.size=v.heap.size:=by rw[X.o];simp[World.setCell]
    refine⟨g,rfl,?_,⟨?_,?_,?_,?_,?_⟩,ae⟩
    . unfold df;rw[hb2 g hgq];exact e1
    . rw[X.o];exact a3.os.trans HB.o.os
    . rw[X.o];exact a3.tape.trans HB.o.tape
    . rw[X.o];exact a3.output.trans HB.o.output
    . rw[hb3];exact dB HB.o.size a3.size
    . intro j hj;rw[hb2 j ae,a3.block j (by have:=HB.o.size;omega) ae];exact HB.o.block j hj
theorem oh{x:Nat}(hx:x<18446744073709551616)(fx:bO x)(z:Nat)(hz:z=2098):Bd z (vC x):=by
 unfold Bd;exact fU (J6 hx fx z hz)
theorem Mr(x n:Nat)(hx:x<18446744073709551616)(fx:bO x)(hn:n<=2147483648)(w:World)(hT:gP w) :
 As 50 #[.float .f64 x,.int .i64 (n:Nat)] w λr w'=>Ju 0 w' r (gV 1074 (vC x*(n:Int)))/\An w w':=by
 obtain⟨z,hz⟩:∃z,z=2098:=⟨_,rfl⟩;obtain⟨k,hk⟩:∃z,z=31:=⟨_,rfl⟩;have b1:=oh hx fx z hz;have b2:Bd k (n:Int):=by unfold Bd;rw[oC,hk];exact hn
 have e:=TR (u:=1074) (v:=0) ae ae ae ae b1 b2;have Fq:=mR (u:=1074) ae ae (b1.mul b2);refine Ee x n (gV 1074 (vC x)) (gV 0 n) _ (mR ae ae b1) (mR ae ae b2) Fq w hT (λu hT=>of12 x hx fx u hT) (λu hT=>?_) (λu a b c d hT N1 N2=>mulP12 (mR ae ae b1) (mR ae ae b2) N1 N2 hT e Fq);exact(Dr (n:Nat) u hT ae ae).mono (λr w' h=>h)
abbrev mo(gb:Nat)(rest den:Int)(u:World):Prop:=u.cell? ⟨gb,1,none⟩=some (.int .i64 rest)/\u.cell? ⟨gb,2,none⟩=some (.int .i64 den)
theorem mo.lt{gb:Nat}{rest den:Int}{u:World}(h:mo gb rest den u):gb<u.heap.size:=aG (p:=⟨gb,1,none⟩) h.1
theorem mo.al{gb:Nat}{rest den:Int}{u:World}(h:mo gb rest den u)(o:Obj):mo gb rest den (u.alloc o):=⟨(World.cell?_alloc_lt _ _ _ h.lt).trans h.1,(World.cell?_alloc_lt _ _ _ h.lt).trans h.2⟩
theorem mo.be{gb:Nat}{rest den:Int}{u v:World}(h:mo gb rest den u)(hb:An u v):mo gb rest den v:=⟨(hb.cell (p:=⟨gb,1,none⟩) h.lt).trans h.1,(hb.cell (p:=⟨gb,2,none⟩) h.lt).trans h.2⟩
theorem mo.st{gb g:Nat}{rest den:Int}{u:World}(h:mo gb rest den u)(hg:gb<g)(x y z:Value):mo gb rest den (dW u g x y z):=⟨dR (fF g u x y z) h.1 (iR hg),dR (fF g u x y z) h.2 (iR hg)⟩
abbrev Zd:Obj:=Obj.cells zD3 79
abbrev uA(w u:World)(gb g:Nat):Prop:=Lo u g GA/\w.heap.size<=g/\gb<g
theorem uA.be{w u v:World}{gb g:Nat}(h:uA w u gb g)(hb:An u v):uA w v gb g:=⟨h.1.below hb,h.2⟩
abbrev uB(o:Option (Bool×Nat×Int))(a:Option Addr)(c:Nat):Obj:=Obj.cells #[.bool (dN o),.slice a (ws (dX o)).length c,.int .i64 (dE o)] 79
abbrev vW(u:World)(g:Nat)(o:Option (Bool×Nat×Int))(a:Option Addr)(c:Nat):World:=((u.setCell ⟨g,0,none⟩ (.bool (dN o))).setCell ⟨g,1,none⟩ (.slice a (ws (dX o)).length c)).setCell ⟨g,2,none⟩ (.int .i64 (dE o))
def Kh(w:World)(gb:Nat)(rest den:Int)(o1 o2:Option (Bool×Nat×Int))(g9 g10:Nat)(u:World):Prop:=Lo u g9 o1/\Lo u g10 o2/\An w u/\mo gb rest den u
theorem Kh.sw{w u:World}{gb g9 g10:Nat}{rest den:Int}{o1 o2:Option (Bool×Nat×Int)}(h:Kh w gb rest den o2 o1 g10 g9 u):Kh w gb rest den o1 o2 g9 g10 u:=⟨h.2.1,h.1,h.2.2⟩
section
variable {w v : World} {gb : Nat} {rest den : Int} {o1 o2 : Option (Bool × Nat × Int)} {a1 a2 : Option Addr} {c1 c2 : Nat}
theorem Ms(hb:An w v)(hs:mo gb rest den v)(n1:Nt 0 v (.slice a1 (ws (dX o1)).length c1) (dX o1))(n2:Nt 0 v (.slice a2 (ws (dX o2)).length c2) (dX o2)) :
 Kh w gb rest den o1 o2 v.heap.size (v.heap.size+1) ((v.alloc (uB o1 a1 c1)).alloc (uB o2 a2 c2)):=by
 have h1:Lo (v.alloc (uB o1 a1 c1)) v.heap.size o1:=Lo.new n1;have h2:Lo ((v.alloc (uB o1 a1 c1)).alloc (uB o2 a2 c2)) (v.alloc (uB o1 a1 c1)).heap.size o2:=Lo.new (n2.below (af _ _));rw[uL] at h2;have b1:=hb.trans ((af v (uB o1 a1 c1)).mono hb.size);exact⟨h1.below (af _ _),h2,b1.trans ((af _ _).mono b1.size),(hs.al _).al _⟩
theorem Hl{gA:Nat}(hb:An w v)(hs:mo gb rest den v)(n1:Nt 0 v (.slice a1 (ws (dX o1)).length c1) (dX o1))(n2:Nt 0 v (.slice a2 (ws (dX o2)).length c2) (dX o2))(z:uA w v gb gA) :
 Kh w gb rest den o1 o2 gA v.heap.size ((vW v gA o1 a1 c1).alloc (uB o2 a2 c2)):=by
 obtain⟨z1,z2,z3⟩:=z;have h1:Lo (vW v gA o1 a1 c1) gA o1:=z1.set n1;obtain⟨a0,c0,D,_⟩:=z1;have n2':Nt 0 (vW v gA o1 a1 c1) (.slice a2 (ws (dX o2)).length c2) (dX o2):=n2.zC D _ _ _;have hsz:(vW v gA o1 a1 c1).heap.size=v.heap.size:=by simp[World.setCell]
 have h2:=Lo.new (w:=vW v gA o1 a1 c1) n2';rw[hsz] at h2;have b1:An w (vW v gA o1 a1 c1):=jU hb hb.size z2 _ _ _;exact⟨h1.below (af _ _),h2,b1.trans ((af _ _).mono b1.size),(hs.st z3 _ _ _).al _⟩
theorem xJ{gA gB:Nat}(hb:An w v)(hs:mo gb rest den v)(n1:Nt 0 v (.slice a1 (ws (dX o1)).length c1) (dX o1))(n2:Nt 0 v (.slice a2 (ws (dX o2)).length c2) (dX o2))(z:uA w v gb gA)(y:uA w v gb gB)(hne:gA≠gB) :
 Kh w gb rest den o1 o2 gA gB (vW (vW v gA o1 a1 c1) gB o2 a2 c2):=by
 obtain⟨z1,z2,z3⟩:=z;obtain⟨y1,y2,y3⟩:=y;have h1:Lo (vW v gA o1 a1 c1) gA o1:=z1.set n1;have y1':Lo (vW v gA o1 a1 c1) gB GA:=y1.other z1 (Ne.symm hne) _ _ _;obtain⟨a0,c0,D,_⟩:=z1;have n2':Nt 0 (vW v gA o1 a1 c1) (.slice a2 (ws (dX o2)).length c2) (dX o2):=n2.zC D _ _ _;have b1:An w (vW v gA o1 a1 c1):=jU hb hb.size z2 _ _ _;exact⟨h1.other y1' hne _ _ _,y1'.set n2',jU b1 b1.size y2 _ _ _,(hs.st z3 _ _ _).st y3 _ _ _⟩
end
theorem mo.dr{gb:Nat}{rest den:Int}{u:World}(h:mo gb rest den u):mo gb rest den u.drew:=h
theorem mo.st'{gb g:Nat}{rest den:Int}{u:World}(h:mo gb rest den u)(hg:gb<g)(x y z:Value):mo gb rest den (((u.setCell ⟨g,0,none⟩ x).setCell ⟨g,1,none⟩ y).setCell ⟨g,2,none⟩ z):=h.st hg x y z
abbrev oK(w:World)(gb:Nat)(rest den:Int)(u:World):Prop:=An w u/\mo gb rest den u
theorem oK.al{w u:World}{gb:Nat}{rest den:Int}(h:oK w gb rest den u)(o:Obj):oK w gb rest den (u.alloc o):=⟨h.1.trans ((af _ o).mono h.1.size),h.2.al o⟩
theorem oK.dr{w u:World}{gb:Nat}{rest den:Int}(h:oK w gb rest den u):oK w gb rest den u.drew:=⟨h.1.drew,h.2⟩
theorem oK.be{w u v:World}{gb:Nat}{rest den:Int}(h:oK w gb rest den u)(hb:An u v):oK w gb rest den v:=⟨h.1.trans (hb.mono h.1.size),h.2.be hb⟩
theorem oK.new{w u:World}{gb:Nat}{rest den:Int}(h:oK w gb rest den u):uA w (u.alloc Zd) gb u.heap.size:=⟨Lo.zero u,h.1.size,h.2.lt⟩
theorem uA.dr{w u:World}{gb g:Nat}(h:uA w u gb g):uA w u.drew gb g:=h.be (aD u.heap.size u).drew
theorem uA.al{w u:World}{gb g:Nat}(h:uA w u gb g)(o:Obj):uA w (u.alloc o) gb g:=h.be (af u o)
theorem oK.new2{w u:World}{gb:Nat}{rest den:Int}(h:oK w gb rest den u):uA w ((u.alloc Zd).alloc Zd) gb (u.heap.size+1):=by
 have:=(h.al Zd).new;rw[uL] at this;exact this
theorem Ho (low high:Nat) (EG rest den lr:Nat) (mode:Int) (o1 o2 q dn:Option (Bool×Nat×Int)) (F1:Fm o1) (F2:Fm o2) (Fq:Fm q) (Fd:Fm dn) (sg t1 t2 t3 t4 t5 t6:Int) (z z0:Nat) (ez:Int) (w:World) (hT:gP w) (hlr:IntKind.i64.wrap ((den:Int)-(rest:Int))=(lr:Int))
 (H1:Hid (∀u:World,gP u->As 50 #[.float .f64 low,.int .i64 (lr:Nat)] u λr w'=>Ju 0 w' r o1/\An u w'))
 (H2:Hid (∀u:World,gP u->As 50 #[.float .f64 high,.int .i64 (rest:Nat)] u λr w'=>Ju 0 w' r o2/\An u w'))
 (HADD:Hid (∀(u:World) (a b:Option Addr) (c d:Nat),gP u->Nt 0 u (.slice a (ws (dX o1)).length c) (dX o1)->Nt 0 u (.slice b (ws (dX o2)).length d) (dX o2)->As 51 #[.agg #[.bool (dN o1),.slice a (ws (dX o1)).length c,.int .i64 (dE o1)],.agg #[.bool (dN o2),.slice b (ws (dX o2)).length d,.int .i64 (dE o2)]] u λr w'=>(∃v,r=.returned (.tuple #[.agg #[.bool (dN q),v,.int .i64 (dE q)],.int .i64 0])/\Nt u.heap.size w' v (dX q))/\An u w'))
 (HSG:Hid (∀(u:World) (a:Option Addr) (c:Nat),Nt 0 u (.slice a (ws (dX q)).length c) (dX q)->At 52 #[.agg #[.bool (dN q),.slice a (ws (dX q)).length c,.int .i64 (dE q)]] u (.int .i64 sg)))
 (HPL:Hid (∀u:World,At 54 #[] u (.agg #[.int .i64 0,.int .i64 0])))
 (HSI:Hid (∀(u:World) (b:Nat),Fs u.heap.size u (some ⟨b,0,none⟩) [low,high]->As 53 #[.slice (some ⟨b,0,none⟩) 2 2,.agg #[.int .i64 0,.int .i64 0]] u λr w'=>(∃v,r=.returned (.tuple #[v,.agg #[.int .i64 t1,.int .i64 t2,.int .i64 t3,.int .i64 t4,.int .i64 t5,.int .i64 t6],.int .i64 0]))/\An u w'))
 (HNO:Hid (∀u:World,At 55 #[.agg #[.int .i64 t1,.int .i64 t2,.int .i64 t3,.int .i64 t4,.int .i64 t5,.int .i64 t6],.int .i64 mode] u (.float .f64 z0)))
 (HI:Hid (∀u:World,gP u->As 57 #[.int .i64 (den:Nat)] u λr w'=>(∃v,r=.returned (.agg #[.bool (dN dn),v,.int .i64 (dE dn)])/\Nt u.heap.size w' v (dX dn))/\An u w'))
 (HQT:Hid (∀(u:World) (a b:Option Addr) (c d:Nat),gP u->Nt 0 u (.slice a (ws (dX q)).length c) (dX q)->Nt 0 u (.slice b (ws (dX dn)).length d) (dX dn)->At 56 #[.agg #[.bool (dN q),.slice a (ws (dX q)).length c,.int .i64 (dE q),.bool (dN dn),.slice b (ws (dX dn)).length d,.int .i64 (dE dn)],.int .i64 mode] u (.tuple #[.float .f64 z,.int .i64 ez]))) :
 At 34 #[.agg #[.int .i64 (EG:Nat),.int .i64 (rest:Nat),.int .i64 (den:Nat)],.float .f64 low,.float .f64 high,.int .i64 mode] w (.float .f64 (if sg=0 then z0 else z)):=by
 obtain⟨zz,hzz⟩:=ah (if sg=0 then z0 else z)
 rw[<-hzz];have HZ:=ak hzz;clear hzz;obtain⟨W0,hW0⟩:=ah (w.alloc (Obj.cells #[.int .i64 (EG:Nat),.int .i64 (rest:Nat),.int .i64 (den:Nat)] 54));obtain⟨gb,hgb⟩:=ah (w.heap.size)
 have hs:oK w gb rest den W0:=by
  subst hW0 hgb;exact⟨af _ _,by rw[World.cell?_alloc_new];rfl,by rw[World.cell?_alloc_new];rfl⟩
 have FF:=(gy F1 F2 hT Fq Fd);have HW:=(bA hW0 hgb);have B0:=ak hs;clear hW0 hgb F1 F2 hT hs Fq Fd;go_enter Tryz.func34,Tryz.ntmps34
 go_upto_region 1 with fail
 rw[<-HW.o.1,<-HW.o.2]
 go_cut [9,10] from 18 to 28 (λp9 p10 wx=>∃g9 g10,p9=.pointer (some ⟨g9,0,none⟩)/\p10=.pointer (some ⟨g10,0,none⟩)/\Aside (Kh w gb rest den o1 o2 g9 g10 wx))
 case first =>
  refine vO ?_
  go_region_held3 (λw'=>w'.cell? ⟨gb,1,none⟩=some (.int .i64 (rest:Nat))/\w'.cell? ⟨gb,2,none⟩=some (.int .i64 (den:Nat))) (first
   | with_reducible exact B2.o.2
   | with_reducible exact B2.o.2.al _
   | with_reducible exact(B2.o.2.al _).al _
   | with_reducible exact B2.o.2.st' ZA.o.r2 _ _ _
   | with_reducible exact B2.o.2.st' ZB.o.r2 _ _ _
   | with_reducible exact(B2.o.2.st' ZA.o.r2 _ _ _).st' ZB.o.r2 _ _ _
   | with_reducible exact(B2.o.2.st' ZB.o.r2 _ _ _).st' ZA.o.r2 _ _ _
   | with_reducible exact(B2.o.2.st' ZA.o.r2 _ _ _).al _
   | with_reducible exact(B2.o.2.al _).st' ZA.o.r2 _ _ _
   | with_reducible exact B1.o.2
   | with_reducible exact B1.o.2.al _
   | with_reducible exact(B1.o.2.al _).al _
   | with_reducible exact B0.o.2.dr
   | with_reducible exact(B0.o.2.al _).dr
   | with_reducible exact((B0.o.2.al _).al _).dr) (first
   | (go_at_call_of 50 (Value.float FloatKind.f64 low)
      first
      | (have BX:=ak (B0.o.dr)
         with_reducible refine(H1.o _ (FF.o.r2.1.belows BX.o.1)).mono ?_
         rintro r v1 ⟨⟨p,rfl,hN⟩,hb⟩;obtain⟨a1,c1,rfl,hN0⟩:=Lo.shape FF.o.1 hN;have B1:=ak (BX.o.be hb);have N1:=ak hN0
         clear hb hN hN0 BX)
      | (have BX:=ak ((B0.o.al Zd).dr)
         with_reducible refine(H1.o _ (FF.o.r2.1.belows BX.o.1)).mono ?_
         rintro r v1 ⟨⟨p,rfl,hN⟩,hb⟩;obtain⟨a1,c1,rfl,hN0⟩:=Lo.shape FF.o.1 hN;have B1:=ak (BX.o.be hb);have N1:=ak hN0;have ZA:=ak ((B0.o.new.dr).be hb)
         clear hb hN hN0 BX)
      | (have BX:=ak (((B0.o.al Zd).al Zd).dr)
         with_reducible refine(H1.o _ (FF.o.r2.1.belows BX.o.1)).mono ?_
         rintro r v1 ⟨⟨p,rfl,hN⟩,hb⟩;obtain⟨a1,c1,rfl,hN0⟩:=Lo.shape FF.o.1 hN;have B1:=ak (BX.o.be hb);have N1:=ak hN0;have ZA:=ak (((B0.o.new.al Zd).dr).be hb);have ZB:=ak ((B0.o.new2.dr).be hb);have hAB:W0.heap.size≠W0.heap.size+1:=ae
         have hBA:W0.heap.size+1≠W0.heap.size:=ae
         clear hb hN hN0 BX))
   | (go_at_call_of 50 (Value.float FloatKind.f64 high)
      first
      | (have BX:=ak (B1.o)
         with_reducible refine(H2.o _ (FF.o.r2.1.belows BX.o.1)).mono ?_
         rintro r v2 ⟨⟨p,rfl,hN⟩,hb⟩;obtain⟨a2,c2,rfl,hN0⟩:=Lo.shape FF.o.2.1 hN;have B2:=ak (BX.o.be hb);have N1:=ak (N1.o.below hb);have N2:=ak hN0
         try (have ZB:=ak (ZB.o.be hb))
         try (have ZA:=ak (ZA.o.be hb))
         try (obtain⟨⟨e1,e2,D7,e3⟩,e4⟩:=ZA.o;obtain⟨y0,y1,y2,z0,z1,z2⟩:=D7.facts;have lA:=D7.lt;have nA:=iR lA;have mA:=pE lA;clear D7 e3 e4)
         try (obtain⟨⟨e1,e2,D7,e3⟩,e4⟩:=ZB.o;obtain⟨x0,x1,x2,t0,t1,t2⟩:=D7.facts;have lB:=D7.lt;have nB:=iR lB;have mB:=pE lB;clear D7 e3 e4)
         clear hb hN hN0 BX)
      | (have BX:=ak ((B1.o.al Zd))
         with_reducible refine(H2.o _ (FF.o.r2.1.belows BX.o.1)).mono ?_
         rintro r v2 ⟨⟨p,rfl,hN⟩,hb⟩;obtain⟨a2,c2,rfl,hN0⟩:=Lo.shape FF.o.2.1 hN;have B2:=ak (BX.o.be hb);have N1:=ak ((N1.o.below (af _ Zd)).below hb);have N2:=ak hN0
         first | (have hAB:=iR ZA.o.1.lt;have hBA:=pE ZA.o.1.lt;have ZA:=ak ((ZA.o.al Zd).be hb);have ZB:=ak ((B1.o.new).be hb)) | (have ZA:=ak ((B1.o.new).be hb))
         try (obtain⟨⟨e1,e2,D7,e3⟩,e4⟩:=ZA.o;obtain⟨y0,y1,y2,z0,z1,z2⟩:=D7.facts;have lA:=D7.lt;have nA:=iR lA;have mA:=pE lA;clear D7 e3 e4)
         try (obtain⟨⟨e1,e2,D7,e3⟩,e4⟩:=ZB.o;obtain⟨x0,x1,x2,t0,t1,t2⟩:=D7.facts;have lB:=D7.lt;have nB:=iR lB;have mB:=pE lB;clear D7 e3 e4)
         clear hb hN hN0 BX)
      | (have BX:=ak (((B1.o.al Zd).al Zd))
         with_reducible refine(H2.o _ (FF.o.r2.1.belows BX.o.1)).mono ?_
         rintro r v2 ⟨⟨p,rfl,hN⟩,hb⟩;obtain⟨a2,c2,rfl,hN0⟩:=Lo.shape FF.o.2.1 hN;have B2:=ak (BX.o.be hb);have N1:=ak (((N1.o.below (af _ Zd)).below (af _ Zd)).below hb);have N2:=ak hN0;have ZA:=ak (((B1.o.new.al Zd)).be hb);have ZB:=ak ((B1.o.new2).be hb);have hAB:v1.heap.size≠v1.heap.size+1:=ae
         have hBA:v1.heap.size+1≠v1.heap.size:=ae
         try (obtain⟨⟨e1,e2,D7,e3⟩,e4⟩:=ZA.o;obtain⟨y0,y1,y2,z0,z1,z2⟩:=D7.facts;have lA:=D7.lt;have nA:=iR lA;have mA:=pE lA;clear D7 e3 e4)
         try (obtain⟨⟨e1,e2,D7,e3⟩,e4⟩:=ZB.o;obtain⟨x0,x1,x2,t0,t1,t2⟩:=D7.facts;have lB:=D7.lt;have nB:=iR lB;have mB:=pE lB;clear D7 e3 e4)
         clear hb hN hN0 BX)))
  all_goals
   go_wp2_with fail
   go_meet
   case rel=>first
    | with_reducible exact⟨_,_,rfl,rfl,ak (Ms B2.o.1 B2.o.2 N1.o N2.o)⟩
    | with_reducible exact⟨_,_,rfl,rfl,ak ((Ms B2.o.1 B2.o.2 N2.o N1.o).sw)⟩
    | with_reducible exact⟨_,_,rfl,rfl,ak (Hl B2.o.1 B2.o.2 N1.o N2.o ZA.o)⟩
    | with_reducible exact⟨_,_,rfl,rfl,ak (UF B2.o.1 B2.o.2 N1.o N2.o ZA.o)⟩
    | with_reducible exact⟨_,_,rfl,rfl,ak ((Hl B2.o.1 B2.o.2 N2.o N1.o ZA.o).sw)⟩
    | with_reducible exact⟨_,_,rfl,rfl,ak ((UF B2.o.1 B2.o.2 N2.o N1.o ZA.o).sw)⟩
    | with_reducible exact⟨_,_,rfl,rfl,ak (xJ B2.o.1 B2.o.2 N1.o N2.o ZA.o ZB.o hAB)⟩
    | with_reducible exact⟨_,_,rfl,rfl,ak ((xJ B2.o.1 B2.o.2 N2.o N1.o ZA.o ZB.o hAB).sw)⟩
    | with_reducible exact⟨_,_,rfl,rfl,ak (xJ B2.o.1 B2.o.2 N1.o N2.o ZB.o ZA.o hBA)⟩
    | with_reducible exact⟨_,_,rfl,rfl,ak ((xJ B2.o.1 B2.o.2 N2.o N1.o ZB.o ZA.o hBA).sw)⟩
 clear B0;obtain⟨g9,g10,rfl,rfl,HA⟩:=hcut;obtain⟨W1,hW⟩:=ah wc;subst hW;obtain⟨⟨x9,k9,D9,M9⟩,⟨x10,k10,D10,M10⟩,hb,hs⟩:=HA.o;obtain⟨p0,p1,p2,_,_,_⟩:=D9.facts;obtain⟨q0,q1,q2,_,_,_⟩:=D10.facts;have C:=hid (HADD.o W1 x9 x10 k9 k10 (FF.o.r2.1.belows hb) M9 M10);have K1:Aside (oK w gb rest den W1):=⟨hb,hs⟩;clear D9 M9 D10 M10 hb hs HA HADD H1 H2;go_wp2_with fail;refine C.o.mono ?_;rintro r v3 ⟨⟨p,rfl,hN⟩,hb⟩;obtain⟨a3,c3,rfl,hN0⟩:=Lo.shape FF.o.r3.1 hN;obtain⟨V3,hV3⟩:=ah (v3.alloc (uB q a3 c3));obtain⟨g11,hg11⟩:=ah (v3.heap.size)
 have K2:Aside (Dk V3 g11 (dN q) (.slice a3 (ws (dX q)).length c3) (dE q)/\Nt 0 V3 (.slice a3 (ws (dX q)).length c3) (dX q)/\oK w gb rest den V3):=by
  rw[hV3,hg11];exact⟨Dk.new _ _ _ _,hN0.below (af _ _),(K1.o.be hb).al _⟩
 have HV:=(bA hV3 hg11);clear C hb hN hN0 K1 hV3 hg11 p0 p1 p2 q0 q1 q2
 go_upto_region 3 with fail
 rw[<-HV.o.1,<-HV.o.2];clear HV;obtain⟨d0,d1,d2,_,_,_⟩:=K2.o.1.facts;have C:=hid (HSG.o V3 a3 c3 K2.o.2.1);go_wp2_with fail;refine C.o.mono ?_;rintro r v4 ⟨rfl,hb⟩;have K3:Aside (Dk v4 g11 (dN q) (.slice a3 (ws (dX q)).length c3) (dE q)/\Nt 0 v4 (.slice a3 (ws (dX q)).length c3) (dX q)/\oK w gb rest den v4):=⟨K2.o.1.below hb,K2.o.2.1.below hb,K2.o.r2.be hb⟩;clear C hb K2 d0 d1 d2 HSG
 by_cases h0:sg=0
 . replace HZ:Aside (zz=z0):=ak (by rw[HZ.o,if_pos h0]);subst h0;obtain⟨U0,qL⟩:=ah (v4.alloc (Obj.cells #[.float .f64 low,.float .f64 high] 27));obtain⟨gl,hgl⟩:=ah (v4.heap.size)
   have K4:Aside (Fs U0.heap.size U0 (some ⟨gl,0,none⟩) [low,high]/\An w U0):=by
    rw[qL,hgl];exact⟨Ed v4 low high,K3.o.r2.1.trans ((af _ _).mono K3.o.r2.1.size)⟩
   have C:=hid (HPL.o U0);have HU:=(bA qL hgl);clear qL hgl K3;go_wp2_with fail;rw[<-HU.o.1,<-HU.o.2];clear HU;refine C.o.mono ?_;rintro r v5 ⟨rfl,hb⟩;have K5:Aside (Fs v5.heap.size v5 (some ⟨gl,0,none⟩) [low,high]/\An w v5):=⟨(K4.o.1.below hb).mono hb.size,K4.o.2.trans (hb.mono K4.o.2.size)⟩;clear C hb K4;have C:=hid (HSI.o v5 gl K5.o.1);go_wp2_with fail;refine C.o.mono ?_;rintro r v6 ⟨⟨lv,rfl⟩,hb⟩;obtain⟨V6,hV6⟩:=ah (v6.alloc (Obj.cells #[.int .i64 t1,.int .i64 t2,.int .i64 t3,.int .i64 t4,.int .i64 t5,.int .i64 t6] 72));obtain⟨g14,hg14⟩:=ah (v6.heap.size)
   have K6:Aside (Bl V6 g14 72 [.int .i64 t1,.int .i64 t2,.int .i64 t3,.int .i64 t4,.int .i64 t5,.int .i64 t6]/\An w V6):=by
    rw[hV6,hg14];have b6:=K5.o.2.trans (hb.mono K5.o.2.size);exact⟨Bl.new _ 72 [_,_,_,_,_,_],b6.trans ((af _ _).mono b6.size)⟩
   have HV:=(bA hV6 hg14);clear C hb K5 hV6 hg14
   go_upto_region 5 with fail
   rw[<-HV.o.1,<-HV.o.2];clear HV;have s0:=K6.o.1.cell 0 _ rfl;have s1:=K6.o.1.cell 1 _ rfl;have s2:=K6.o.1.cell 2 _ rfl;have s3:=K6.o.1.cell 3 _ rfl;have s4:=K6.o.1.cell 4 _ rfl;have s5:=K6.o.1.cell 5 _ rfl;have C:=hid (HNO.o V6);go_wp2_with fail;refine C.o.mono ?_;rintro r v7 ⟨rfl,hb⟩;have K7:=ak (K6.o.2.trans (hb.mono K6.o.2.size));clear C hb K6 s0 s1 s2 s3 s4 s5;go_wp2;go_ret;exact⟨by rw[HZ.o];rfl,K7.o⟩
 . have h01:(sg==0)=false:=by simp[h0]
   have h02:decide (sg=0)=false:=by simp[h0]
   replace HZ:Aside (zz=z):=ak (by rw[HZ.o,if_neg h0])
   go_upto_region 6 with fail
   have hdr:=(aD v4.heap.size v4).drew;have BB:Aside (Dk v4.drew g11 (dN q) (.slice a3 (ws (dX q)).length c3) (dE q)/\Nt 0 v4.drew (.slice a3 (ws (dX q)).length c3) (dX q)/\oK w gb rest den v4.drew):=⟨K3.o.1.below hdr,K3.o.2.1.below hdr,K3.o.r2.dr⟩;clear hdr K3;obtain⟨d0,d1,d2,_,_,_⟩:=BB.o.1.facts;have s2:=BB.o.r4;refine vO ?_
   go_region_with (first
    | (go_at_call 56
       with_reducible refine(HQT.o _ a3 a5 c3 c5 (FF.o.r2.1.belows BB.o.r2.1) BB.o.2.1 Q5.o).mono ?_
       rintro r v ⟨rfl,hb⟩;have BE:=ak (BB.o.r2.1.trans (hb.mono BB.o.r2.1.size))
       clear hb d0 d1 d2 s2)
    | (go_at_call 57
       with_reducible refine(HI.o _ (FF.o.r2.1.belows BB.o.r2.1)).mono ?_
       rintro r v ⟨⟨p,rfl,hN⟩,hb⟩;obtain⟨a5,c5,rfl,hN0⟩:=Lo.shape FF.o.r4 hN;have BB:=gp (BB.o.1.below hb) (BB.o.2.1.below hb) (BB.o.r2.be hb);have Q5:=ak hN0;obtain⟨d0,d1,d2,_,_,_⟩:=BB.o.1.facts;have s2:=BB.o.r4
       clear hb hN hN0))
   all_goals
    go_wp2;go_ret;exact⟨by rw[HZ.o];rfl,BE.o⟩
def Yh(x:Nat):Int:=B.cls (bB x/4503599627370496) (bB x%4503599627370496)
theorem Mt{x:Nat}(hx:x<18446744073709551616)(w:World):At 44 #[.float .f64 x] w (.int .i64 (Yh x)):=by
 obtain⟨s,e,f,h1,h2,h3,h4,h5,h6⟩:=bw15 hx;have:=B.Od s e f h1 h2 w;rw[<-h3,h5,h6] at this;exact this
theorem Yi{x:Nat}(hx:x<18446744073709551616):Yh x=4↔ug x=true:=by
 unfold Yh B.cls ug bB;rw[decide_eq_true_eq]
 by_cases a:x%9223372036854775808/4503599627370496=2047
 . rw[if_pos a]
   by_cases b:x%9223372036854775808%4503599627370496=0
   . rw[if_pos b];constructor <;> intro h <;> omega
   . rw[if_neg b];constructor <;> intro h <;> omega
 . rw[if_neg a]
   by_cases b:x%9223372036854775808/4503599627370496=0
   . rw[if_pos b];split <;> (constructor <;> intro h <;> omega)
   . rw[if_neg b];constructor <;> intro h <;> omega
theorem yy{P:Prop}(h:P:=by
 go_wp2_with fail;refine C.o.mono ?_;rintro r v ⟨rfl,hv⟩;go_wp2;go_ret;exact⟨rfl,hv⟩):P:=h
theorem told15{x:Nat}(hx:x<18446744073709551616)(w:World):At 36 #[.float .f64 x] w (.float .f64 (Uy x)):=by
 have C:=hid (Mt hx w);have hk:=Yi hx;obtain⟨c,hc⟩:=ah (Yh x);rw[<-hc] at C hk;clear hc
 by_cases h:c=4
 . subst h;have e:Uy x=9221120237041090560:=by unfold Uy;rw[if_pos (hk.1 rfl)];rfl
   rw[e];clear e hk;go_enter Tryz.func36,Tryz.ntmps36;go_wp2_with fail;refine C.o.mono ?_;rintro r v ⟨rfl,hv⟩;have D:=hid (B.V7 v);go_wp2_with fail;refine D.o.mono ?_;rintro r v2 ⟨rfl,rfl⟩;go_wp2;go_ret;exact⟨rfl,hv⟩
 . have e:Uy x=x:=by unfold Uy;rw[if_neg (λq=>h (hk.2 q))]
   rw[e];clear e hk;have k1:(c==4)=false:=by simp[h]
   have k2:decide (c=4)=false:=by simp[h]
   go_enter Tryz.func36,Tryz.ntmps36;exact yy
def mh(xs:List Nat)(k:Nat):List Nat:=(dP xs).take k++List.replicate (xs.length-k) 0
theorem Ki(xs:List Nat):mh xs 0=List.replicate xs.length 0:=by simp[mh]
theorem P8(xs:List Nat):mh xs xs.length=dP xs:=by
 unfold mh;rw[eF (by rw[ll];exact aA _)];simp
theorem P9{xs:List Nat}{k:Nat}(h:k<=xs.length):(mh xs k).length=xs.length:=by
 unfold mh;rw[gU,fJ,xN,ll];omega
theorem Kj{xs:List Nat}{k:Nat}(h:k<xs.length):(mh xs k).set k ((dP xs).getD k 0)=mh xs (k+1):=by
 have hl:k<(dP xs).length:=by rw[ll];exact h
 unfold mh;rw[yw _ _ (by rw[fJ];omega),fJ,iQ ae,wE,show xs.length-k=(xs.length-(k+1))+1 by omega,Co,List.set_cons_zero,bF,aY hl,List.take_add_one,aY hl,rG];rfl
theorem fld15(a b:Value)(w:World):(Instr.field 61 (.agg #[a,b]) 1).run Tryz.prog w=.ok b w:=by kernel_rfl
attribute [local go_sem] fld15 cZ
theorem UG(xs:List Nat)(ao:Option Addr)(n cap:Nat)(w:World)(hF:Fs w.heap.size w ao xs)(hn:n=xs.length)(hb:n<=17592186044416)(hW:jH xs) :
 As 20 #[.slice ao n cap] w λr w'=>r=.returned (.slice (some ⟨w.heap.size,0,none⟩) n n)/\eO w' w.heap.size (dP xs)/\An w w':=by
 have mk:=mJ n n rfl hb;obtain⟨G,hG⟩:=ah (w.heap.size);obtain⟨W1,hW1⟩:=ah (w.alloc (.cells (madeCells #[.float .f64 0] n) 27));have o1:eO W1 G (mh xs 0):=by rw[hW1,Ki,hG,<-hn];exact eO.made w n
 have o2:An w W1:=by rw[hW1];exact(aD w.heap.size w).alloc (aA _) _
 have hFw:Fs w.heap.size W1 ao xs:=hF.below o2;have C:=hid (Yg xs ao n cap W1 (hFw.mono o2.size) hn hb hW);have hGl:G<W1.heap.size:=o1.lt;have HN:=(Ew hn hW hF o1 o2 hG hGl);have HW1:=ak hW1;clear hF hFw o1 o2 hn hW hGl hG hW1;go_enter Tryz.func20,Tryz.ntmps20
 go_upto_region 2 with fail
 rw[<-HW1.o,<-HN.o.r5.1];clear mk;go_wp2_with fail;refine C.o.mono ?_;rintro r v ⟨g,rfl,e1,e2,e3⟩
 have HA:Aside (eO v G (mh xs 0)/\df v g (mf xs)/\An w v/\G<g/\g<v.heap.size):=by
  obtain⟨hn,hW,hFw,o1,o2,hG,hGl⟩:=HN.o;exact⟨o1.below e2 hGl,e1,o2.trans (e2.mono o2.size),ae,e1.lt⟩
 clear C e1 e2 e3;go_wp2
 go_loopg [13] n (λgk iv wr=>∃k:Nat,gk+k=n/\iv=.int .i64 (k:Nat)/\Aside (eO wr G (mh xs k)/\df wr g (mf xs)/\An w wr/\G<g/\g<wr.heap.size))
 case atStart=>exact⟨0,rfl,by first | rfl | simp,HA.o⟩
 case round =>
  clear HA;obtain⟨k,jo,rfl,HA⟩:=hrel
  by_cases hk:k<n
  . have hdk:decide ((k:Int)<(n:Int))=true:=by simp;omega
    have bk:(k:Int)<(n:Int):=ae
    obtain⟨k1,hk1⟩:=ah (k+1);have wk:IntKind.i64.wrap ((k:Int)+1)=(k1:Int):=aL ae ae;obtain⟨a1,a2,a3,a4,a5⟩:=HA.o;obtain⟨hn,hW,hF,o1,o2,hG,hGl⟩:=HN.o;have hkx:k<xs.length:=ae
    obtain⟨i,hi⟩:=ah ((mf xs).getD k 0);have c1:=a2.cell k (by rw[nL];exact hkx);have hin:i<n:=by rw[hi,hn];exact Yc hkx
    rw[<-hi] at c1;have bi:(i:Int)<(n:Int):=ae
    obtain⟨b,off,rfl,c2⟩:=hF.at a3 i ae;have hx:xs.getD i 0<18446744073709551616:=hW _ (dF ae);have e4:(dP xs).getD k 0=Uy (xs.getD i 0):=by rw[hi];exact PZ hkx
    obtain⟨x,fE⟩:=ah (xs.getD i 0);rw[<-fE] at c2 hx e4;have D:=hid (told15 hx wr);obtain⟨y,hy⟩:=ah (Uy x);rw[<-hy] at D e4
    have HX:Aside (∀v,An wr v->v.cell? ⟨G,k,none⟩=some (.float .f64 ((mh xs k).getD k 0))/\v.frozen? ⟨G,k,none⟩=false/\eO (v.setCell ⟨G,k,none⟩ (.float .f64 y)) G (mh xs k1)/\df (v.setCell ⟨G,k,none⟩ (.float .f64 y)) g (mf xs)/\An w (v.setCell ⟨G,k,none⟩ (.float .f64 y))/\G<g/\g<(v.setCell ⟨G,k,none⟩ (.float .f64 y)).heap.size):=λv hv=>by
     have a1':=a1.below hv ae;have Xv:=a2.below hv ae;refine⟨a1'.cell k (by rw[P9 ae];exact hkx),a1'.frozen k,?_,?_,?_,a4,?_⟩
     . rw[hk1,<-Kj hkx,e4];exact a1'.set k y
     . have hne:g≠G:=ae
       unfold df at Xv |-;simp only[World.setCell,gz];rw[if_neg (λe=>hne e.symm)];exact Xv
     . exact(a3.trans (hv.mono a3.size)).setCell (show w.heap.size<=G by omega) _
     . have:=Xv.lt;simpa [World.setCell] using this
    have HK:=ak hk1;clear HA a1 a2 a3 a4 a5 hn hW hF o1 o2 hG hGl hi hkx hx e4 fE hy hk1;go_wp2_with fail;refine D.o.mono ?_;rintro r v ⟨rfl,hv⟩;obtain⟨x1,x2,x3⟩:=HX.o v hv;have HY:=ak x3;clear D HX x3 hv;obtain⟨z,hz⟩:=ah ((mh xs k).getD k 0);rw[<-hz] at x1;clear hz;go_wp2;go_roundg (n-k1)
    case measure=>exact x6
    case rel=>exact⟨k1,by have:=HK.o;omega,by first | rfl | simp,HY.o⟩
  . have hdk:decide ((k:Int)<(n:Int))=false:=by simp;omega
    go_wp2;go_ret;obtain⟨a1,a2,a3,a4,a5⟩:=HA.o;obtain⟨hn,hW,hF,o1,o2,hG,hGl⟩:=HN.o;rw[show k=xs.length by omega,P8] at a1;exact⟨by rw[<-hG];rfl,by rw[<-hG];exact a1,a3⟩
end
section
open Go.RowKit J
def Hq(rule mode:Int):Bool:=decide (0<=rule/\rule<=4/\0<=mode/\mode<=4)
theorem Ei(rule mode:Int)(w:World):Ax 17 #[.int .i64 rule,.int .i64 mode] w (.bool (Hq rule mode)):=by
 obtain⟨z,hz⟩:=ah (Hq rule mode);rw[<-hz];unfold Hq at hz
 by_cases h1:0<=rule
 . have d1:decide (0<=rule)=true:=by simp[h1]
   by_cases h2:rule<=4
   . have d2:decide (rule<=4)=true:=by simp[h2]
     by_cases h3:0<=mode
     . have d3:decide (0<=mode)=true:=by simp[h3]
       by_cases h4:mode<=4
       . have d4:decide (mode<=4)=true:=by simp[h4]
         rw[decide_eq_true ⟨h1,h2,h3,h4⟩] at hz;subst hz;go_enter Tryz.func17,Tryz.ntmps17;go_wp2;exact Jx
       . have d4:decide (mode<=4)=false:=by simp;omega
         rw[decide_eq_false (λh=>h4 h.2.2.2)] at hz;subst hz;go_enter Tryz.func17,Tryz.ntmps17;go_wp2;exact Jx
     . have d3:decide (0<=mode)=false:=by simp;omega
       rw[decide_eq_false (λh=>h3 h.2.2.1)] at hz;subst hz;go_enter Tryz.func17,Tryz.ntmps17;go_wp2;exact Jx
   . have d2:decide (rule<=4)=false:=by simp;omega
     rw[decide_eq_false (λh=>h2 h.2.1)] at hz;subst hz;go_enter Tryz.func17,Tryz.ntmps17;go_wp2;exact Jx
 . have d1:decide (0<=rule)=false:=by simp;omega
   rw[decide_eq_false (λh=>h1 h.1)] at hz;subst hz;go_enter Tryz.func17,Tryz.ntmps17;go_wp2;exact Jx
def EH(x:Nat):Bool:=decide (9218868437227405312<=bB x)
theorem UH{x:Nat}(hx:x<18446744073709551616):decide ((3:Int)<=Yh x)=EH x:=by
 unfold Yh B.cls EH bB;have hm:x%9223372036854775808<9223372036854775808:=ae
 by_cases a:x%9223372036854775808/4503599627370496=2047
 . rw[if_pos a,decide_eq_true (show 9218868437227405312<=x%9223372036854775808 by omega)]
   split <;> rfl
 . rw[if_neg a,decide_eq_false (show ¬ 9218868437227405312<=x%9223372036854775808 by omega)]
   by_cases b:x%9223372036854775808/4503599627370496=0
   . rw[if_pos b];split <;> rfl
   . rw[if_neg b];rfl
theorem UI{x:Nat}(hx:x<18446744073709551616)(w:World):At 30 #[.float .f64 x] w (.bool (EH x)):=by
 have C:=hid (Mt hx w);have hk:=UH hx;rw[<-hk];obtain⟨c,hc⟩:=ah (Yh x);rw[<-hc] at C |-;clear hc hk;go_enter Tryz.func30,Tryz.ntmps30;go_wp2_with fail;refine C.o.mono ?_;rintro r v ⟨rfl,hv⟩;go_wp2;go_ret;exact⟨by first | rfl | simp,hv⟩
theorem zQ{xs:List Nat}{k:Nat}(h:k<xs.length):(xs.take (k+1)).any EH=((xs.take k).any EH || EH (xs.getD k 0)):=by
 rw[List.take_add_one,aY h,bF,aY h,List.any_append];simp only[Option.toList,List.any_cons,List.any_nil,Bool.or_false,CJ]
theorem Yj(xs:List Nat)(ao:Option Addr)(n cap:Nat)(w:World)(hF:Fs w.heap.size w ao xs)(hn:n=xs.length)(hb:n<=17592186044416)(hW:jH xs) :
 As 43 #[.slice ao n cap,.func (.func 30) #[] #[]] w λr w'=>∃z:Int,r=.returned (.int .i64 z)/\(decide (0<=z)=xs.any EH)/\An w w':=by
 have HN:=(gp hn hW hF);clear hF hn hW;go_enter Tryz.func43,Tryz.ntmps43;go_wp2
 go_loopg [8] n (λgk iv wr=>∃k:Nat,gk+k=n/\iv=.int .i64 (k:Nat)/\Aside ((xs.take k).any EH=false/\An w wr))
 case atStart=>exact⟨0,rfl,by first | rfl | simp,aN,aD _ _⟩
 case round =>
  obtain⟨k,jo,rfl,HA⟩:=hrel
  by_cases hk:k<n
  . have hdk:decide ((k:Int)<(n:Int))=true:=by simp;omega
    have bk:(k:Int)<(n:Int):=ae
    obtain⟨k1,hk1⟩:=ah (k+1);have wk:IntKind.i64.wrap ((k:Int)+1)=(k1:Int):=aL ae ae;obtain⟨hn,hW,hF⟩:=HN.o;obtain⟨b,off,rfl,c2⟩:=hF.at HA.o.2 k ae;have hx:xs.getD k 0<18446744073709551616:=hW _ (dF ae);have ht:=zQ (xs:=xs) (k:=k) ae;obtain⟨x,fE⟩:=ah (xs.getD k 0);rw[<-fE] at c2 hx ht;have D:=hid (UI hx wr);rw[HA.o.1,yc] at ht;have HK:=(bA hk1 ht);obtain⟨t,Ey⟩:=ah (EH x);rw[<-Ey] at D ht;have HT:=ak Ey
    have hany:Aside (t=true->xs.any EH=true):=λh=>by
     rw[yf];exact⟨x,by rw[fE];exact dF ae,by rw[<-HT.o];exact h⟩
    have HT2:=ak ht;clear hn hW hF hx ht fE hk1 Ey;go_wp2_with fail;refine D.o.mono ?_;rintro r v ⟨rfl,hv⟩;have HB:=ak (HA.o.2.trans (hv.mono HA.o.2.size));clear D hv
    cases t
    . go_wp2;go_roundg (n-k1)
      case measure=>exact x6
      case rel=>exact⟨k1,by have:=HK.o;omega,by first | rfl | simp,by rw[HK.o.1];exact HT2.o,HB.o⟩
    . go_wp2;refine aH (v:=.int .i64 (k:Nat)) (by simp[results,Tryz.results43,go_sem]) rfl ?_;exact⟨k,rfl,by rw[hany.o (by first | rfl | trivial)];simp,HB.o⟩
  . have hdk:decide ((k:Int)<(n:Int))=false:=by simp;omega
    have E:Aside (xs.any EH=false):=by
     have h1:=HA.o.1;rw[eF (by have:=HN.o.1;omega)] at h1;exact h1
    go_wp2;refine aH (v:=.int .i64 (-1)) (by simp[results,Tryz.results43,go_sem]) rfl ?_;exact⟨-1,rfl,by rw[E.o];rfl,HA.o.2⟩
theorem Kk(xs:List Nat)(ao:Option Addr)(n cap:Nat)(w:World)(hF:Fs w.heap.size w ao xs)(hn:n=xs.length)(hb:n<=17592186044416)(hW:jH xs) :
 At 29 #[.slice ao n cap,.func (.func 30) #[] #[]] w (.bool (xs.any EH)):=by
 have C:=hid (Yj xs ao n cap w hF hn hb hW);clear hF hn hW;go_enter Tryz.func29,Tryz.ntmps29;go_wp2_with fail;refine C.o.mono ?_;rintro r v ⟨z,rfl,hz,hv⟩;have HZ:=(bA hz hv);clear C hz hv;go_wp2;go_ret;exact⟨by rw[<-HZ.o.1];first | rfl | simp,HZ.o.2⟩
def zR(xs:List Nat)(odd:Bool):Int:=if 65536<xs.length then 2 else if odd || xs.any EH then 30 else if xs.length=0 then 3 else 0
theorem xK(xs:List Nat)(odd:Bool)(ao:Option Addr)(n cap:Nat)(w:World)(hF:Fs w.heap.size w ao xs)(hn:n=xs.length)(hb:n<=17592186044416)(hW:jH xs) :
 At 18 #[.slice ao n cap,.bool odd] w (.int .i64 (zR xs odd)):=by
 have C:=hid (Kk xs ao n cap w hF hn hb hW);obtain⟨z,hz⟩:=ah (zR xs odd);rw[<-hz];unfold zR at hz;rw[<-hn] at hz;clear hF hn hW
 by_cases h1:65536<n
 . have d1:decide ((65536:Int)<(n:Int))=true:=by simp;omega
   rw[if_pos h1] at hz;subst hz;go_enter Tryz.func18,Tryz.ntmps18;go_wp2;go_ret;exact yk
 . have d1:decide ((65536:Int)<(n:Int))=false:=by simp;omega
   rw[if_neg h1] at hz
   cases odd
   . rw[yc] at hz;obtain⟨t,ht⟩:=ah (xs.any EH);rw[<-ht] at C hz;clear ht
     cases t
     . rw[if_neg aM] at hz
       by_cases h2:n=0
       . rw[if_pos h2] at hz;subst hz h2;go_enter Tryz.func18,Tryz.ntmps18;exact yy
       . rw[if_neg h2] at hz;have d2:((n:Int)==0)=false:=by simp;omega
         have d3:decide ((n:Int)=0)=false:=by simp;omega
         subst hz;go_enter Tryz.func18,Tryz.ntmps18;exact yy
     . rw[if_pos rfl] at hz;subst hz;go_enter Tryz.func18,Tryz.ntmps18;exact yy
   . rw[Bool.true_or,if_pos rfl] at hz;subst hz;go_enter Tryz.func18,Tryz.ntmps18;go_wp2;go_ret;exact yk
theorem Yk(w:World):At 54 #[] w (.agg #[.int .i64 0,.int .i64 0]):=by
 go_enter Tryz.func54,Tryz.ntmps54;go_wp2;refine aH (v:=.agg #[.int .i64 0,.int .i64 0]) (by simp[results,Tryz.results54,go_sem]) rfl ?_;exact⟨rfl,af _ _⟩
noncomputable def Am (V D:Option (Bool×Nat×Int)) (mode:Int):Nat×Int:=nI jJ ⟨dN V,.bool false,dX V,dE V,dN D,.bool false,dX D,dE D⟩ mode
noncomputable def Yl (low high rest den:Nat):Int:=vC low*((den-rest:Nat):Int)+vC high*(rest:Int)
noncomputable def Iz (low high rest den:Nat) (mode:Int):Nat :=
 if Yl low high rest den=0 then nt (snd (sS [low,high]).n (sS [low,high]).u (sS [low,high]).d (sS [low,high]).m (sS [low,high]).p (sS [low,high]).a) (sS [low,high]).n (sS [low,high]).u (sS [low,high]).d (sS [low,high]).m (sS [low,high]).p (sS [low,high]).a mode else(Am (gV 1074 (Yl low high rest den)) (gV 0 (den:Int)) mode).1
theorem line16(low high EG rest den:Nat)(mode:Int)(hl:low<18446744073709551616)(fl:bO low)(hh:high<18446744073709551616)(fh:bO high)(hr:rest<=den)(hd:den<=2147483648)(w:World)(hT:gP w) :
 At 34 #[.agg #[.int .i64 (EG:Nat),.int .i64 (rest:Nat),.int .i64 (den:Nat)],.float .f64 low,.float .f64 high,.int .i64 mode] w (.float .f64 (Iz low high rest den mode)):=by
 obtain⟨z,hz⟩:∃z,z=2098:=⟨_,rfl⟩;obtain⟨k,hk⟩:∃z,z=31:=⟨_,rfl⟩;have b1:=oh hl fl z hz;have b2:=oh hh fh z hz;have bn:∀n:Nat,n<=2147483648->Bd k (n:Int):=λn hn=>by unfold Bd;rw[oC,hk];exact hn
 have c1:=b1.mul (bn (den-rest) ae);have c2:=b2.mul (bn rest ae);have F1:=mR (u:=1074) ae ae c1;have F2:=mR (u:=1074) ae ae c2;have ea:=TS (u:=1074) ae ae c1 c2;have Fq:=mR (u:=1074) ae ae (c1.add c2);have Fd:=mR (u:=0) ae ae (bn den hd);have hsg:=(TT (u:=1074) ae ae (c1.add c2)).1
 have hW2:jH [low,high]:=λx hx=>by
  rcases pg.1 hx with rfl|hx
  . exact hl
  . rw[Ar.1 hx];exact hh
 obtain⟨V,hV⟩:=ah (Yl low high rest den);have hV':vC low*((den-rest:Nat):Int)+vC high*(rest:Int)=V:=hV.symm;rw[hV'] at ea Fq hsg
 have:=Ho low high EG rest den (den-rest) mode _ _ _ _ F1 F2 Fq Fd (qN (dN (gV 1074 V)) (dX (gV 1074 V))) (sS [low,high]).n (sS [low,high]).u (sS [low,high]).d (sS [low,high]).m (sS [low,high]).p (sS [low,high]).a (Am (gV 1074 V) (gV 0 (den:Int)) mode).1 (nt (snd (sS [low,high]).n (sS [low,high]).u (sS [low,high]).d (sS [low,high]).m (sS [low,high]).p (sS [low,high]).a) (sS [low,high]).n (sS [low,high]).u (sS [low,high]).d (sS [low,high]).m (sS [low,high]).p (sS [low,high]).a mode) (Am (gV 1074 V) (gV 0 (den:Int)) mode).2 w hT (aL ae ae)
  (λu hT=>Mr low (den-rest) hl fl ae u hT) (λu hT=>Mr high rest hh fh ae u hT)
  (λu a b c d hT N1 N2=>XK F1 F2 N1 N2 hT ea Fq)
  (λu a c N=>by
   have:=vB (Fq.a12 N) (dN (gV 1074 V)) (dE (gV 1074 V));rw[aB] at this
   exact this)
  Yk
  (λu b hF=>(Ul [low,high] _ 2 2 0 0 u rfl aM hF hW2).mono (λr w' h=>by
   obtain⟨h1,h2⟩:=h;refine⟨?_,h2⟩
   have e0:Mm 0 0 [low,high]=0:=by
    unfold Mm Ps.rf;rw[if_neg aM,if_neg aN,if_neg ae,if_neg ae]
   rcases h1 with ⟨h1,_⟩|⟨_,a',c',rfl,_⟩
   . exact absurd e0 h1
   . exact⟨_,rfl⟩))
  (λu=>yY _ _ _ _ _ _ _ u)
  (λu hT=>(Dr (den:Nat) u hT ae ae).mono (λr w' h=>h))
  (λu a b c d hT N1 N2=>TL (w:=u) (n:=dN (gV 1074 V)) (m:=dN (gV 0 (den:Int))) (X:=dX (gV 1074 V)) (Y:=dX (gV 0 (den:Int))) (e:=dE (gV 1074 V)) (f:=dE (gV 0 (den:Int))) mode ⟨N1.av (dB Fq.len aM),N2.av (dB Fd.len aM),Fq.sD,Fd.sD⟩ hT)
 have e1:(if qN (dN (gV 1074 V)) (dX (gV 1074 V))=0 then(nt (snd (sS [low,high]).n (sS [low,high]).u (sS [low,high]).d (sS [low,high]).m (sS [low,high]).p (sS [low,high]).a) (sS [low,high]).n (sS [low,high]).u (sS [low,high]).d (sS [low,high]).m (sS [low,high]).p (sS [low,high]).a mode) else(Am (gV 1074 V) (gV 0 (den:Int)) mode).1)=Iz low high rest den mode:=by
  unfold Iz;rw[<-hV]
  have:qN (dN (gV 1074 V)) (dX (gV 1074 V))=0↔V=0:=by
   rw[<-hsg];unfold qN
   by_cases h:dX (gV 1074 V)=0
   . rw[if_pos h];exact⟨λ_=>h,λ_=>rfl⟩
   . rw[if_neg h];exact⟨λe=>by split at e <;> omega,λe=>absurd e h⟩
  by_cases h:V=0
  . rw[if_pos (this.2 h),if_pos h]
  . rw[if_neg (λe=>h (this.1 e)),if_neg h]
 rw[e1] at this;exact this
theorem Qa(n num den:Nat)(hn:1<=n)(hn2:n<=65536)(UJ:num<=den)(hd1:1<=den)(hd:den<=2147483648)(w:World) :
 At 31 #[.int .i64 (n:Nat),.int .i64 (num:Nat),.int .i64 (den:Nat)] w (.agg #[.int .i64 (((n-1)*num/den:Nat):Int),.int .i64 (((n-1)*num%den:Nat):Int),.int .i64 (den:Nat)]):=by
 obtain⟨n1,hn1⟩:=ah (n-1);obtain⟨s,hs⟩:=ah (n1*num);have hsb:s<=65535*2147483648:=by rw[hs];exact kF ae ae
 rw[<-hn1,<-hs];obtain⟨q,hq⟩:=ah (s/den);obtain⟨m,hm⟩:=ah (s%den);rw[<-hq,<-hm];have hqb:q<=s:=by rw[hq];exact o8 _ _
 have w1:IntKind.i64.wrap ((n:Int)-1)=(n1:Int):=aL ae ae;have w2:IntKind.i64.wrap ((n1:Int)*(num:Int))=(s:Int):=aL (by rw[hs];simp) ae;have w3:Int.tdiv (s:Int) (den:Int)=(q:Int):=by rw[hq];rfl
 have w4:Int.tmod (s:Int) (den:Int)=(m:Int):=by rw[hm];rfl
 have w5:IntKind.i64.wrap (q:Int)=(q:Int):=aL rfl ae;have w6:IntKind.i64.wrap (m:Int)=(m:Int):=aL rfl (by have:=iB s (show 0<den by omega);omega);have w7:((den:Int)==0)=false:=by simp;omega
 have w8:¬ (den:Int)=0:=ae
 have w9:¬ den=0:=ae
 have HQ:=(iN hn1 hs hq hm);clear hn1 hs hq hm;go_enter Tryz.func31,Tryz.ntmps31
 go_upto_region 2 with fail
 go_region
 all_goals
  go_wp2;refine aH (v:=.agg #[.int .i64 (q:Nat),.int .i64 (m:Nat),.int .i64 (den:Nat)]) (by simp[results,Tryz.results31,go_sem]) rfl ?_;exact⟨rfl,by first | exact(af _ _).drew | exact af _ _ | exact((((af _ _).drew).setCell (aA _) _).setCell (aA _) _).setCell (aA _) _⟩
end
end Go.Proofs.YtjppdacikihpdaaGreatDoor
