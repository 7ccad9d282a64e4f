import Derived.Test.YtepkabljmpbmaaaGreatDoorD41x
import Derived.Test.YtepkabljmpbmaaaGreatDoorW53x
import Derived.Test.YtepkabljmpbmaaaGreatDoorD32x
import Derived.KernelRfl
import Derived.ArgAppend
import Derived.Maps.AppendAt
import Derived.WalkMore
import Derived.OwnWalk
import Derived.Test.YtepkabljmpbmaaaGreatDoorD16x
import Derived.Test.YtepkabljmpbmaaaGreatDoorD21x
import Derived.Deep.RegionWith
import Derived.Deep.RegionHeld3
import Derived.Deep.CutRange
import Derived.Test.YtepkabljmpbmaaaGreatDoorBIeeex
import Derived.Test.YtepkabljmpbmaaaGreatDoorW13x
import Derived.Test.YtepkabljmpbmaaaGreatDoorW33x
import Derived.Deep.MidRow
import Derived.ChangeKeysEq
import Derived.Laws.OwnMore
import Derived.Lib.SliceRun
import Derived.Deep.RegionHeld
set_option linter.unusedVariables false
set_option linter.unusedSimpArgs false
set_option maxHeartbeats 16000000
set_option maxRecDepth 20000
namespace Go.Proofs.YtepkabljmpbmaaaGreatDoor
namespace J
end J
section
open Go.RowKit J
theorem sg1_sg (s:Bool) (v:Nat):sg1 s*(v:Int)=B.sg s v:=by unfold sg1 B.sg;cases s <;> simp
theorem top_v (K:Nat) (hK:K<9218868437227405312) (a:Nat) (ha:a=2045):vK K<9007199254740992*2^a:=by
 have h:=vK_word a 9007199254740992 (.inr (by omega)) (by omega);have h2:a*4503599627370496+9007199254740992=9218868437227405312:=by rw [ha]
 rw [←h,h2];exact vK_lt.2 hK
theorem of_fo (s:Bool) (K:Nat) (hK:K<9218868437227405312):∃ n X e,ofK s K=some (n,X,e)∧Fo (some (n,X,e)) (B.sg s (vK K)*(UU:Int)) (-1074) 1024∧(X=0↔K=0):=by
 obtain ⟨n,X,e,h1,F,h2,h3,h4⟩:=ofK_val s K hK;refine ⟨n,X,e,h1,⟨n,X,e,rfl,F,?_,?_⟩,h3⟩
 · obtain ⟨a,ha⟩:∃ a:Nat,(-1074 - -2097152:Int).toNat=a:=⟨_,rfl⟩;have h5:=h4 (-2097152) (by omega);rw [ha] at h5;rw [h5,US a (by omega),Int.natCast_mul,Int.natCast_mul,←Int.mul_assoc,←Int.mul_assoc,sg1_sg]
 · by_cases hX:X=0
   · exact .inl hX
   · right
     have ho:=frm_odd F hX;have hd:=F.down
     -- in units of the form's own place
     have h5:=h4 (min e (-1074)) (by omega);unfold zv at h5;simp only at h5;rw [h2 hX] at h5
     have h6:X*2^(e-min e (-1074)).toNat=vK K*2^(-1074-min e (-1074)).toNat:=by
      unfold sg1 at h5
      cases s
      · simp only [Bool.false_eq_true,if_false,Int.one_mul] at h5;exact_mod_cast h5
      · simp only [if_true] at h5;have:=Int.eq_of_mul_eq_mul_left (by decide) h5;exact_mod_cast this
     have he:-1074≤e:=by
      apply Int.le_of_not_gt;intro hlt;rw [show (e-min e (-1074)).toNat=0 by omega,Nat.pow_zero,Nat.mul_one] at h6;obtain ⟨q,hq⟩:∃ q,(-1074-min e (-1074)).toNat=q+1:=⟨(-1074-min e (-1074)).toNat-1,by omega⟩;rw [hq,Nat.pow_succ,←Nat.mul_assoc] at h6;omega
     refine ⟨he,?_⟩;rw [show (-1074-min e (-1074)).toNat=0 by omega,Nat.pow_zero,Nat.mul_one] at h6;obtain ⟨q,hq⟩:∃ q,(e-min e (-1074)).toNat=q:=⟨_,rfl⟩;rw [hq] at h6;obtain ⟨c,hc⟩:∃ c:Nat,c=2045:=⟨_,rfl⟩;have h7:=top_v K hK c hc;have h8:=bl_ge X hX;have h9:=bl_pos X hX;obtain ⟨b,hb⟩:∃ b,bl X=b+1:=⟨bl X-1,by omega⟩;rw [hb,Nat.add_sub_cancel] at h8;have h10:2^b*2^q<9007199254740992*2^c:=Nat.lt_of_le_of_lt (Nat.mul_le_mul_right _ h8) (by rw [h6];exact h7);rw [←Nat.pow_add,show (9007199254740992:Nat)=2^53 from rfl,←Nat.pow_add] at h10;have h11:=(Nat.pow_lt_pow_iff_right (by decide:1<2)).1 h10;omega
theorem round_fo {n:Bool}{X:Nat}{e T L H:Int}(h:Fo (some (n,X,e)) T L H) (hT:T≠0):X≠0∧n=decide (T<0)∧∀ R,NE R T.natAbs UU→rW 0 n X e=min R 9218868437227405312:=by
 obtain ⟨F,hv,_⟩:=h.frm;have hS:=S_pos;unfold zv at hv;simp only at hv
 have hX:X≠0:=by
  intro h0;rw [h0,Nat.zero_mul] at hv;have:T*(SS:Int)=0:=by rw [←hv];simp
  rcases Int.mul_eq_zero.1 this with h|h <;> omega
 obtain ⟨q,hq⟩:∃ q,X*2^(e - -2097152).toNat=q:=⟨_,rfl⟩;have hq0:0<q:=by rw [←hq];exact Nat.mul_pos (by omega) (Nat.two_pow_pos _)
 rw [hq] at hv
 have hab:q=T.natAbs*SS:=by
  have:=congrArg Int.natAbs hv;rw [Int.natAbs_mul,Int.natAbs_mul,Int.natAbs_natCast,Int.natAbs_natCast] at this;rw [←this];unfold sg1;cases n <;> simp
 refine ⟨hX,?_,fun R hR=>?_⟩
 · have hTS:T<0→T*(SS:Int)<0:=fun h=>Int.mul_neg_of_neg_of_pos h (by omega);have hTP:0<T→0<T*(SS:Int):=fun h=>Int.mul_pos h (by omega);unfold sg1 at hv
   cases n
   · simp only [Bool.false_eq_true,if_false,Int.one_mul] at hv;rw [decide_eq_false (by intro h;have:=hTS h;omega)]
   · simp only [if_true] at hv;rw [decide_eq_true (by apply Int.lt_of_not_ge;intro h;have:=hTP (by omega);omega)]
 · exact rW_ne F hX (-2097152) (by omega) (V:=T.natAbs) (U:=UU) (S:=SS) (by rw [hq,hab]) (US _ (by omega)) hR
theorem frmLen {n:Bool}{X:Nat}{e:Int}(F:Frm n X e):(ws X).length≤8192:=by
 have:=mkS_len n X e;rw [mkS_idem F] at this;exact this
theorem kinds (x:Nat) (hx:x<18446744073709551616):(nanW x=true∧(magW x==9218868437227405312)=false∧(magW x==0)=false∧9218868437227405312<magW x)∨(nanW x=false∧(magW x==9218868437227405312)=true∧(magW x==0)=false∧magW x=9218868437227405312)∨(nanW x=false∧(magW x==9218868437227405312)=false∧magW x<9218868437227405312):=by
 have e:nanW x=decide (9218868437227405312<magW x):=rfl;rcases Nat.lt_trichotomy (magW x) 9218868437227405312 with h|h|h
 · refine .inr (.inr ⟨?_,?_,h⟩)
   · rw [e];simp;omega
   · simp;omega
 · refine .inr (.inl ⟨?_,?_,?_,h⟩)
   · rw [e];simp;omega
   · simp;omega
   · simp;omega
 · refine .inl ⟨?_,?_,?_,h⟩
   · rw [e];simp;omega
   · simp;omega
   · simp;omega
theorem read_nanW (x:Nat) (h:9218868437227405312<magW x):∃ s t,Ieee.double.read x=.nan s t:=⟨_,_,B.read_nan Ieee.double x (by rw [B.dInf,B.dSign];exact h) hBin⟩
theorem read_infW (x:Nat) (hx:x<18446744073709551616) (h:magW x=9218868437227405312):Ieee.double.read x=.infinity (negW x):=by
 have e:=wd_of x hx;rw [h,wd_word,←B.dInf] at e;rw [e,B.read_inf Ieee.double _ hInf hBin,←e]
theorem read_finW (x:Nat) (hx:x<18446744073709551616) (h:magW x<9218868437227405312):∃ m k,Ieee.double.read x=.number (negW x) m (Ieee.double.leastPlace+(k:Nat))∧m*2^k=vK (magW x):=by
 have e:=wd_of x hx;rw [wd_word] at e;obtain ⟨m,k,h1,h2⟩:=B.read_word Ieee.double (negW x) (magW x) (by rw [B.dInf];exact h) hInf;rw [←e] at h1;exact ⟨m,k,h1,h2⟩
end
section
open Go.RowKit J
theorem arW_add (x y:Nat):arW .add x y=(((Ieee.double.read x).sum (Ieee.double.read y)).map Ieee.double.write).getD oddW:=rfl
theorem arW_sub (x y:Nat):arW .sub x y=(((Ieee.double.read x).sum (Ieee.double.read y).opposite).map Ieee.double.write).getD oddW:=rfl
theorem turn_wd (s:Bool) (K:Nat) (h:K<9223372036854775808):turnW (wd64 s K)=wd64 (!s) K:=by
 unfold turnW wd64
 cases s <;> simp <;> omega
theorem turn_lt (y:Nat) (hy:y<18446744073709551616):turnW y<18446744073709551616:=by unfold turnW;split <;> omega
theorem readOpp (f:Ieee.Format) (hs:f.infRung<f.signWeight) (t:Bool) (u:Nat) (hu:u<f.infRung):(f.read (f.word t u)).opposite=f.read (f.word (!t) u):=by
 have key:∀ b:Bool,(f.word b u/f.signWeight%2==1)=b∧f.word b u%f.signWeight=u:=by
  intro b;unfold Ieee.Format.word
  cases b
  · simp only [Bool.false_eq_true,if_false];rw [Nat.div_eq_of_lt (by omega)];exact ⟨rfl,Nat.mod_eq_of_lt (by omega)⟩
  · simp only [if_true];rw [Nat.add_div_left _ (by omega),Nat.div_eq_of_lt (by omega),Nat.add_mod_left];exact ⟨rfl,Nat.mod_eq_of_lt (by omega)⟩
 unfold Ieee.Format.read;simp only [(key t).1,(key t).2,(key (!t)).1,(key (!t)).2]
 by_cases h:u<f.binade
 · rw [if_pos h,if_pos h];rfl
 · rw [if_neg h,if_neg h,if_pos hu,if_pos hu];rfl
theorem sub_turn (x y:Nat) (hy:y<18446744073709551616):arW .sub x y=arW .add x (turnW y):=by
 rw [arW_sub,arW_add];have ey:=wd_of y hy;have hm:magW y<9223372036854775808:=Nat.mod_lt _ (by decide);have et:turnW y=wd64 (!negW y) (magW y):=by rw [←turn_wd _ _ hm,←ey]
 obtain ⟨m1,m2,m3⟩:=magW_wd (!negW y) (magW y) hm;rcases kinds y hy with ⟨b1,b2,b3,b4⟩|⟨b1,b2,b3,b4⟩|⟨b1,b2,b4⟩
 · obtain ⟨s,t,hr⟩:=read_nanW y b4;obtain ⟨s2,t2,hr2⟩:=read_nanW (turnW y) (by rw [et,m1];exact b4);rw [hr,hr2]
   cases Ieee.double.read x <;> rfl
 · have hr:=read_infW y hy b4;have hr2:=read_infW (turnW y) (turn_lt y hy) (by rw [et,m1];exact b4);rw [hr,hr2,et,m2];rfl
 · have hr:=readOpp Ieee.double hInf (negW y) (magW y) (by rw [B.dInf];exact b4);rw [←wd_word,←ey,←wd_word,←et] at hr;rw [hr]
end
section
open Go.RowKit J
theorem absSg (s:Bool) (v:Nat):(B.sg s v).natAbs=v:=by unfold B.sg;cases s <;> simp
end
section
open Go.RowKit J
abbrev Wd (x:Nat):Prop:=x<18446744073709551616
end
section
open Go.RowKit J
abbrev finW (x:Nat):Prop:=magW x<9218868437227405312
def fvW (x:Nat):Int:=B.sg (negW x) (vK (magW x))
theorem sg_abs (s:Bool) (v:Nat):(B.sg s v).natAbs=v:=absSg s v
end
section
open Go.RowKit J
theorem fo_abs {n:Bool}{X:Nat}{e z L H:Int}(h:Fo (some (n,X,e)) z L H):X*2^(e - -2097152).toNat=z.natAbs*SS:=by
 obtain ⟨F,hv,_⟩:=h.frm;unfold zv at hv;simp only at hv;have:=congrArg Int.natAbs hv;rw [Int.natAbs_mul,Int.natAbs_mul,Int.natAbs_natCast,Int.natAbs_natCast] at this;rw [←this];unfold sg1;cases n <;> simp
theorem fo_zero {n:Bool}{X:Nat}{e z L H:Int}(h:Fo (some (n,X,e)) z L H):X=0↔z=0:=by
 have a:=fo_abs h;have hS:=S_pos;constructor
 · intro hX;rw [hX,Nat.zero_mul] at a;rcases Nat.mul_eq_zero.1 a.symm with q|q <;> omega
 · intro hz;rw [hz,Int.natAbs_zero,Nat.zero_mul] at a;rcases Nat.mul_eq_zero.1 a with q|q
   · exact q
   · have:=Nat.two_pow_pos (e - -2097152).toNat;omega
end
section
open Go.RowKit
def fo8 (V:Int):Option (Bool×Nat×Int):=mkS (decide (V<0)) V.natAbs (-1074)
theorem sg1_abs (V:Int):sg1 (decide (V<0))*(V.natAbs:Int)=V:=by
 unfold sg1
 by_cases h:V<0
 · rw [decide_eq_true h,if_pos rfl];omega
 · rw [decide_eq_false h,if_neg (by decide)];omega
theorem fo8_fo (V:Int) (m:Nat) (hm:m≤200000) (hV:V.natAbs<2^m):Fo (fo8 V) (V*(UU:Int)) (-1074) ((m:Int)-1074):=by
 by_cases h0:V=0
 · subst h0;refine ⟨⟨false,0,0,?_,?_,?_,.inl rfl⟩⟩
   · unfold fo8;exact mkS_zero _ _
   · exact mkS_frm (mkS_zero false 0)
   · rw [zv_zero _ rfl];simp
 · obtain ⟨X,e,h1,h2,h3,h4⟩:=mkS_sz (decide (V<0)) V.natAbs (-1074) (-1074) ((m:Int)-1074) (by omega) (by omega) (by have:=blLe hV;omega) (by omega) (by omega) (by omega);refine ⟨⟨_,X,e,h1,mkS_frm h1,?_,.inr ⟨h3,h4⟩⟩⟩;rw [zv_mkS h1 (-2097152) (.inr (by omega))];have e1:(2:Nat)^((-1074:Int) - -2097152).toNat=UU*SS:=US _ (by decide);rw [e1,Int.natCast_mul,Int.natCast_mul,←Int.mul_assoc,sg1_abs,Int.mul_assoc]
theorem fo8_one {o:Option (Bool×Nat×Int)}{V L H:Int}(h:Fo o (V*(UU:Int)) L H) (m:Nat) (hm:m≤200000) (hV:V.natAbs<2^m):o=fo8 V:=by
 obtain ⟨n,X,e,rfl,F1,z1,_⟩:=h.ex;obtain ⟨n',X',e',h2,F2,z2,_⟩:=(fo8_fo V m hm hV).ex;rw [h2];obtain ⟨rfl,rfl,rfl⟩:=zv_inj F1 F2 (-2097152) (by omega) (by rw [z1,z2]);rfl
theorem fo8_frm (V:Int) (m:Nat) (hm:m≤200000) (hV:V.natAbs<2^m):∃ n X e,fo8 V=some (n,X,e)∧Frm n X e∧(X=0↔V=0)∧(V≠0→n=decide (V<0))∧-1074≤e∧e≤200000:=by
 have h:=fo8_fo V m hm hV;obtain ⟨n,X,e,h1,F,z,hb⟩:=h.ex;have hz:=fo_zero (h1 ▸ h);have hU:=U_pos
 have hz2:X=0↔V=0:=by
  rw [hz];constructor
  · intro q;rcases Int.mul_eq_zero.1 q with q|q
    · exact q
    · omega
  · intro q;rw [q];simp
 refine ⟨n,X,e,h1,F,hz2,fun hV0=>?_,?_⟩
 · have:=(round_fo (h1 ▸ h) (fun q=>by rcases Int.mul_eq_zero.1 q with q | q;exact hV0 q;omega)).2.1;rw [this,decide_eq_decide];constructor
   · intro q
     by_cases q2:V<0
     · exact q2
     · have:=Int.mul_nonneg (show 0≤V by omega) (show (0:Int)≤UU by omega);omega
   · intro q;exact Int.mul_neg_of_neg_of_pos q (by omega)
 · rcases hb with q | ⟨q1,q2⟩
   · rcases F.odd with q3 | ⟨_,_,q3⟩
     · omega
     · omega
   · constructor
     · exact q1
     · omega
theorem fo8_add (V U:Int) (m:Nat) (hm:m≤100000) (hV:V.natAbs<2^m) (hU:U.natAbs<2^m):addD (fo8 V) (fo8 U)=fo8 (V+U):=by
 have h1:=fo8_fo V m (by omega) hV;have h2:=fo8_fo U m (by omega) hU;have h3:=h1.add h2 (by omega) (by omega) (by omega);rw [←Int.add_mul] at h3;have:2^(m+1)=2*2^m:=by rw [Nat.pow_succ,Nat.mul_comm]
 exact fo8_one h3 (m+1) (by omega) (by omega)
theorem fo8_self (V:Int) (m:Nat) (hm:m≤200000) (hV:V.natAbs<2^m):mkS (dN (fo8 V)) (dX (fo8 V)) (dE (fo8 V))=fo8 V:=by
 obtain ⟨n,X,e,h1,F,_⟩:=fo8_frm V m hm hV;rw [h1];exact mkS_idem F
theorem fo8_er (V:Int) (m:Nat) (hm:m≤200000) (hV:V.natAbs<2^m):erS (fo8 V)=0:=by
 obtain ⟨n,X,e,h1,F,_⟩:=fo8_frm V m hm hV;rw [h1];rfl
theorem top_fv {x:Nat}(hx:Wd x) (fx:finW x) (m:Nat) (hm:m=2098):(fvW x).natAbs<2^m:=by
 unfold fvW;rw [sg_abs];have:=top_v (magW x) fx 2045 rfl;obtain ⟨a,ha⟩:∃ a,a=2045:=⟨_,rfl⟩;have h2:=top_v (magW x) fx a ha;rw [show m=53+a by omega,Nat.pow_add];exact h2
theorem of_fo8 {x:Nat}(hx:Wd x) (fx:finW x):ofK (negW x) (magW x)=fo8 (fvW x):=by
 obtain ⟨n,X,e,h1,h2,_⟩:=of_fo (negW x) (magW x) fx;rw [h1];exact fo8_one h2 2098 (by omega) (top_fv hx fx 2098 rfl)
end
section
open Go.RowKit
theorem fo8_len (V:Int) (m:Nat) (hm:m≤200000) (hV:V.natAbs<2^m):(ws (dX (fo8 V))).length≤8192∧-9223372036854775808≤dE (fo8 V)∧dE (fo8 V)≤9223372036854775807∧-1074≤dE (fo8 V)∧dE (fo8 V)≤200000:=by
 obtain ⟨n,X,e,h1,F,_,_,h4,h5⟩:=fo8_frm V m hm hV;rw [h1];exact ⟨frmLen F,by show -9223372036854775808≤e;omega,by show e≤9223372036854775807;omega,h4,h5⟩
theorem add_any8 (V U:Int) (m:Nat) (hm:m≤100000) (hV:V.natAbs<2^m) (hU:U.natAbs<2^m) (e:Int) (he0:-9223372036854775808≤e) (he1:e≤9223372036854775807) (n:Bool) (X:Nat) (hX:mkS n X e=fo8 U)
 (w:World) (a b:Option Addr) (c d:Nat) (hT:Tab w) (h1:Arg w a (ws (dX (fo8 V))).length c (ws (dX (fo8 V)))) (h2:Arg w b (ws X).length d (ws X)) :
 Calls Tryz.prog 63 #[.agg #[.bool (dN (fo8 V)),.slice a (ws (dX (fo8 V))).length c,.int .i64 (dE (fo8 V))],.agg #[.bool n,.slice b (ws X).length d,.int .i64 e]] w fun r w' =>
  (∃ v,r=.returned (.tuple #[.agg #[.bool (dN (fo8 (V+U))),v,.int .i64 (dE (fo8 (V+U)))],.int .i64 0])∧Nt w.heap.size w' v (dX (fo8 (V+U))))∧Below w.heap.size w w':=by
 obtain ⟨l1,l2,l3,_⟩:=fo8_len V m (by omega) hV;have:=Add_any3 h1 h2 hT (dN (fo8 V)) n (dE (fo8 V)) e l2 l3 he0 he1;rw [val_ws,val_ws,fo8_self V m (by omega) hV,hX,fo8_add V U m hm hV hU] at this;refine this.mono ?_;rintro r w' ⟨⟨v,rfl,hN⟩,hb⟩;have e2:2^(m+1)=2*2^m:=by rw [Nat.pow_succ,Nat.mul_comm]
 rw [fo8_er (V+U) (m+1) (by omega) (by omega)];exact ⟨⟨v,rfl,hN⟩,hb⟩
theorem Nt.but8 {lo g:Nat}{w w':World}{v:Value}{X:Nat}(h:Nt lo w v X) (hb:But g w w') (hg:g<lo):Nt lo w' v X:=by
 refine ⟨h.1,?_⟩;rcases h.2 with hn|⟨g',cap,cur,rfl,hlo,hgc,rest⟩
 · exact .inl hn
 · exact .inr ⟨g',cap,cur,rfl,hlo,(hb.block g' (Array.getElem?_eq_some_iff.1 hgc).1 (by omega)).trans hgc,rest⟩
theorem Tryz.row_dyad8:∃ d:TypeDesc,Tryz.prog.underlying 70=some d∧d.isRow=true:=by
 have h:(Tryz.prog.underlying 70).any (·.isRow)=true:=by kernel_rfl
 obtain ⟨d,h1,h2⟩:=(Option.any_eq_true _ _).1 h;exact ⟨d,h1,h2⟩
theorem Tryz.size_dyad8:(Tryz.prog.info? 70).map (·.size)=some 3:=by kernel_rfl
theorem close8 {fn:Func}{p:Tmp}(h:fn.results=#[.cell p 70]) {tmps:Array Value}{W:World}{g:Nat}{n:Bool}{v:Value}{e:Int}{Q:Ending→World→Prop}
 (hp:tmps.getD p undef=.pointer (some ⟨g,0,none⟩)) (hD:Dk W g n v e) (hQ:Q (.returned (.agg #[.bool n,v,.int .i64 e])) W):bodyPost Tryz.prog fn Q .ret ⟨tmps,[]⟩ W:=by
 refine bodyPost_ret (v:=.agg #[.bool n,v,.int .i64 e]) ?_ rfl hQ;obtain ⟨d,h1,h2⟩:=Tryz.row_dyad8
 cases d <;> first
  | exact results_cell_row (P:=Tryz.prog) h tmps W g 70 _ _ _ hp hD h1 rfl (by rw [Tryz.size_dyad8];rfl)
  | exact absurd h2 (by simp [TypeDesc.isRow])
theorem st3_but8 (g:Nat) (w:World) (x y z:Value):But g w (st3 w g x y z):=(((But.refl g w).set _ _).set _ _).set _ _
end
section
open Go.RowKit
theorem rof8 (x:Nat) (hx:Wd x∧finW x) (w:World) :
 Calls Tryz.prog 67 #[.float .f64 x] w fun r w'=>(∃ v,r=.returned (.tuple #[.agg #[.bool (dN (fo8 (fvW x))),v,.int .i64 (dE (fo8 (fvW x)))],.int .i64 0])∧Nt w.heap.size w' v (dX (fo8 (fvW x))))∧Below w.heap.size w w':=by
 obtain ⟨h1,h2,h3,_⟩:=wd64_bw (negW x) (magW x) (Nat.le_of_lt hx.2);have:=rOf3_any (negW x) (magW x/4503599627370496) (magW x%4503599627370496) h2 h3 w;rw [←h1,←wd_of x hx.1] at this;refine this.mono ?_;rintro r w' ⟨⟨v,rfl,hN⟩,hb⟩;have e:=of_fo8 hx.1 hx.2;unfold ofK at e;rw [e] at hN ⊢;have he:ofE (magW x/4503599627370496)=0:=by unfold ofE;rw [if_neg (by have:=hx.2;omega)]
 rw [he];exact ⟨⟨v,rfl,hN⟩,hb⟩
theorem radd8 (V U:Int) (m:Nat) (hm:m≤100000) (hV:V.natAbs<2^m) (hU:U.natAbs<2^m) (w:World) (a b:Option Addr) (c d:Nat) (h1:Arg w a (ws (dX (fo8 V))).length c (ws (dX (fo8 V)))) (h2:Arg w b (ws (dX (fo8 U))).length d (ws (dX (fo8 U)))) :
 Calls Tryz.prog 96 #[.agg #[.bool (dN (fo8 V)),.slice a (ws (dX (fo8 V))).length c,.int .i64 (dE (fo8 V))],.agg #[.bool (dN (fo8 U)),.slice b (ws (dX (fo8 U))).length d,.int .i64 (dE (fo8 U))]] w fun r w' =>
  (∃ v,r=.returned (.tuple #[.agg #[.bool (dN (fo8 (V+U))),v,.int .i64 (dE (fo8 (V+U)))],.int .i64 0])∧Nt w.heap.size w' v (dX (fo8 (V+U))))∧Below w.heap.size w w':=by
 obtain ⟨l1,l2,l3,_⟩:=fo8_len V m (by omega) hV;obtain ⟨k1,k2,k3,_⟩:=fo8_len U m (by omega) hU;have:=rAdd_any3 h1 h2 (by omega) (by omega) (dN (fo8 V)) (dN (fo8 U)) (dE (fo8 V)) (dE (fo8 U)) l2 l3 k2 k3;rw [val_ws,val_ws,fo8_self V m (by omega) hV,fo8_self U m (by omega) hU,fo8_add V U m hm hV hU] at this;refine this.mono ?_;rintro r w' ⟨⟨v,rfl,hN⟩,hb⟩;have e2:2^(m+1)=2*2^m:=by rw [Nat.pow_succ,Nat.mul_comm]
 rw [fo8_er (V+U) (m+1) (by omega) (by omega)];exact ⟨⟨v,rfl,hN⟩,hb⟩
theorem rround8 (V:Int) (m:Nat) (hm:m≤100000) (hV:V.natAbs<2^m) (mode:Int) (w:World) (a:Option Addr) (c:Nat) (h1:Arg w a (ws (dX (fo8 V))).length c (ws (dX (fo8 V)))) :
 Calls Tryz.prog 68 #[.agg #[.bool (dN (fo8 V)),.slice a (ws (dX (fo8 V))).length c,.int .i64 (dE (fo8 V))],.int .i64 mode] w fun r w' =>
  r=.returned (.tuple #[.float .f64 (rndS (fo8 V) mode).1,.int .i64 (rndS (fo8 V) mode).2])∧Below w.heap.size w w':=by
 obtain ⟨l1,l2,l3,_⟩:=fo8_len V m (by omega) hV;have:=rRound_any h1 (by omega) (dN (fo8 V)) (dE (fo8 V)) mode l2 l3;rw [val_ws,fo8_self V m (by omega) hV] at this;exact this
section
attribute [local go_sem] B.f64bits B.f64frombits
end
end
section
open Go.RowKit
def Wb (w:World) (g:Nat) (L:List Nat):Prop:=w.heap[g]?=some (.cells (L.map U).toArray 83 (0,0))
theorem Wb.lt {w:World}{g:Nat}{L:List Nat}(h:Wb w g L):g<w.heap.size:=(Array.getElem?_eq_some_iff.1 h).1
theorem Wb.cell {w:World}{g:Nat}{L:List Nat}(h:Wb w g L) (i:Nat) (hi:i<L.length):w.cell? ⟨g,i,none⟩=some (.int .u32 ((L.getD i 0:Nat):Int)):=by
 unfold Wb at h;simp only [World.cell?,h];simp [U,List.getD_eq_getElem?_getD,List.getElem?_eq_getElem hi]
theorem Wb.frozen {w:World}{g:Nat}{L:List Nat}(h:Wb w g L) (i:Nat):w.frozen? ⟨g,i,none⟩=false:=by
 unfold Wb at h;simp [World.frozen?,h]
theorem Wb.set {w:World}{g:Nat}{L:List Nat}(h:Wb w g L) (i x:Nat):Wb (w.setCell ⟨g,i,none⟩ (.int .u32 (x:Int))) g (L.set i x):=by
 unfold Wb at h ⊢;simp [World.setCell,Array.getElem?_modify,h,List.map_set,U]
theorem Wb.drew {w:World}{g:Nat}{L:List Nat}(h:Wb w g L):Wb w.drew g L:=h
def PB:Nat:=pw 133
theorem PB_pos:0<PB:=pw_pos 133
attribute [irreducible] PB
theorem val_lt_PB {L:List Nat}(hl:L.length=133) (hw:Wf L):val L<PB:=by
 have:=val_lt L hw;rw [hl] at this;unfold PB;exact this
theorem val_set (L:List Nat) (i x:Nat) (h:i<L.length):val (L.set i x)+L.getD i 0*pw i=val L+x*pw i:=by
 have h1:=val_take_drop L i (Nat.le_of_lt h);have h2:=val_take_drop (L.set i x) i (by simp;omega);rw [val_drop_succ L i h] at h1;rw [val_drop_succ (L.set i x) i (by simp;omega),getD_set_same _ _ _ h] at h2;have e1:(L.set i x).take i=L.take i:=by rw [List.take_set];exact List.set_eq_of_length_le (by simp;omega)
 have e2:(L.set i x).drop (i+1)=L.drop (i+1):=by rw [List.drop_set,if_pos (by omega)]
 rw [e1,e2] at h2;rw [h2,h1]
 grind
theorem add_step (M:List Nat) (i c T s d:Nat) (h:i<M.length) (e:s+d*4294967296=c+M.getD i 0) (hT:val M+c*pw i=T):val (M.set i s)+d*pw (i+1)=T:=by
 have h1:=val_set M i s h;rw [pw_succ];have e2:(s+d*4294967296)*pw i=(c+M.getD i 0)*pw i:=by rw [e]
 rw [Nat.add_mul,Nat.add_mul,Nat.mul_assoc] at e2;omega
theorem take_step (M:List Nat) (i c T R s lo hi b:Nat) (h:i<M.length) (e:s+lo=M.getD i 0+b*4294967296) (hc:c=lo+hi*4294967296) (hT:val M+T=R+c*pw i):val (M.set i s)+T=R+(hi+b)*pw (i+1):=by
 have h1:=val_set M i s h;rw [pw_succ];have e2:(s+lo)*pw i=(M.getD i 0+b*4294967296)*pw i:=by rw [e]
 have e3:c*pw i=(lo+hi*4294967296)*pw i:=by rw [hc]
 rw [Nat.add_mul,Nat.add_mul,Nat.mul_assoc] at e2;rw [Nat.add_mul,Nat.mul_assoc] at e3;rw [Nat.add_mul];omega
theorem pw_pow (i:Nat):pw i=2^(32*i):=by unfold pw;rw [Nat.pow_mul]
theorem place_split (n p:Nat):n*2^(p%32)*pw (p/32)=n*2^p:=by
 rw [pw_pow,Nat.mul_assoc,←Nat.pow_add,Nat.mod_add_div]
theorem add_end (M:List Nat) (c T:Nat) (hl:M.length=133) (hw:Wf M) (h:val M+c*pw 133=T):val M=T%PB:=by
 have:=val_lt_PB hl hw;have e:pw 133=PB:=by unfold PB;rfl
 rw [←h,e,Nat.mul_comm,Nat.add_mul_mod_self_left,Nat.mod_eq_of_lt this]
theorem take_end (M:List Nat) (c T R:Nat) (hl:M.length=133) (hw:Wf M) (h:val M+T=R+c*pw 133):(val M:Int)=((R:Int)-(T:Int))%(PB:Int):=by
 have h1:=val_lt_PB hl hw;have e:pw 133=PB:=by unfold PB;rfl
 rw [e] at h
 have h2:(R:Int)-(T:Int)=(val M:Int)+(PB:Int)*(-(c:Int)):=by
  have:((val M+T:Nat):Int)=((R+c*PB:Nat):Int):=by rw [h]
  simp only [Int.natCast_add,Int.natCast_mul] at this;rw [Int.mul_neg,Int.mul_comm];omega
 rw [h2,Int.add_mul_emod_self_left,Int.emod_eq_of_lt (by omega) (by omega)]
end
section
open Go.RowKit
theorem shl_small (n q:Nat) (hn:n<4294967296) (hq:q<32):n*2^q<9223372036854775808:=by
 have h1:2^q≤2147483648:=by
  have:=Nat.pow_le_pow_right (n:=2) (by decide) (show q≤31 by omega);simpa using this
 calc n*2^q≤4294967295*2147483648:=Nat.mul_le_mul (by omega) h1
  _<_:=by decide
theorem shl_wrap (n p:Nat) (hn:n<4294967296):IntKind.u64.wrap ((n:Int)*2^(p%32))=((n*2^(p%32):Nat):Int):=by
 have h1:=shl_small n (p%32) hn (Nat.mod_lt _ (by decide));have e:((n:Int)*2^(p%32))=((n*2^(p%32):Nat):Int):=by simp
 rw [e];exact wrap_u64n _ (by omega) (by omega)
theorem wadd_any (L:List Nat) (g n p:Nat) (w:World) (hW:Wb w g L) (hl:L.length=133) (hL:Wf L) (hn:n<4294967296) (hp:p<4256) :
 Calls Tryz.prog 99 #[.pointer (some ⟨g,0,none⟩),.int .u32 (n:Nat),.int .i64 (p:Nat)] w fun r w' =>
  r=.returned (.tuple #[])∧∃ M,Wb w' g M∧M.length=133∧Wf M∧val M=(val L+n*2^p)%PB∧But g w w':=by
 have HR:Aside (Wf L∧L.length=133):=⟨hL,hl⟩;have HO:Hid (Wb w g L):=hW;clear hL hW hl;go_enter Tryz.func99,Tryz.ntmps99;go_wp2
 go_loopg [6,7] 133 (fun k c i wr=>∃ (cv iv:Nat) (M:List Nat),133≤k+iv∧iv≤133∧c=.int .u64 (cv:Nat)∧cv<9223372036854775808∧i=.int .i64 (iv:Nat) ∧
  Hid (Wb wr g M)∧Aside (Wf M∧M.length=133∧val M+cv*pw iv=val L+n*2^p∧But g w wr))
 case atStart =>
  exact ⟨n*2^(p%32),p/32,L,by omega,by omega,by rw [shl_wrap n p hn],shl_small n _ hn (Nat.mod_lt _ (by decide)),by simp,HO,HR.out.1,HR.out.2,by rw [place_split],But.refl _ _⟩
 case round =>
  obtain ⟨cv,iv,M,hk,hi,rfl,hcv,rfl,HM,HA⟩:=hrel
  by_cases h1:iv=133
  · subst h1;go_wp2;refine bodyPost_end (v:=.tuple #[]) (by simp [results,Tryz.results99,go_sem]) rfl ?_;obtain ⟨hMw,hMl,hMs,hbut⟩:=HA.out;exact ⟨rfl,M,HM.out,hMl,hMw,add_end M cv _ hMl hMw hMs,hbut⟩
  by_cases h2:cv=0
  · subst h2;have h3:(iv:Int)<133:=by omega
    go_wp2;refine bodyPost_end (v:=.tuple #[]) (by simp [results,Tryz.results99,go_sem]) rfl ?_;obtain ⟨hMw,hMl,hMs,hbut⟩:=HA.out;exact ⟨rfl,M,HM.out,hMl,hMw,add_end M 0 _ hMl hMw (by rw [←hMs];simp),hbut⟩
  · have h3:iv<133:=by omega
    have h4:0<cv:=by omega
    obtain ⟨hMw,hMl,hMs,hbut⟩:=HA.out;have hgc:=HM.out.cell iv (by omega);have hgf:=HM.out.frozen iv;obtain ⟨x,hx⟩:∃ x:Nat,M.getD iv 0=x:=⟨_,rfl⟩;have hxl:x<4294967296:=hx ▸ hMw.get _;rw [hx] at hgc;have HX:Aside (M.getD iv 0=x):=hx;clear hx hMw hMl hMs hbut h1 h2;obtain ⟨k,rfl⟩:∃ k,gk=k+1:=⟨gk-1,by omega⟩;go_wp2;go_roundg k
    case measure=>omega
    case rel =>
     obtain ⟨hMw,hMl,hMs,hbut⟩:=HA.out;have e1:((cv:Int)+(x:Int))%4294967296=(((cv+x)%4294967296:Nat):Int):=by omega
     have e2:((cv:Int)+(x:Int))/4294967296=(((cv+x)/4294967296:Nat):Int):=by omega
     rw [e1];exact ⟨(cv+x)/4294967296,iv+1,M.set iv ((cv+x)%4294967296),by omega,by omega,by rw [e2],by omega,by simp,HM.out.set iv _,hMw.set _ _ (Nat.mod_lt _ (by decide)),by simp [hMl],add_step M iv cv _ _ _ (by omega) (by rw [HX.out];omega) hMs,hbut.set iv _⟩
theorem wtake_any (L:List Nat) (g n p:Nat) (w:World) (hW:Wb w g L) (hl:L.length=133) (hL:Wf L) (hn:n<4294967296) (hp:p<4256) :
 Calls Tryz.prog 98 #[.pointer (some ⟨g,0,none⟩),.int .u32 (n:Nat),.int .i64 (p:Nat)] w fun r w' =>
  r=.returned (.tuple #[])∧∃ M,Wb w' g M∧M.length=133∧Wf M∧(val M:Int)=((val L:Int)-((n*2^p:Nat):Int))%(PB:Int)∧But g w w':=by
 have HR:Aside (Wf L∧L.length=133):=⟨hL,hl⟩;have HO:Hid (Wb w g L):=hW;clear hL hW hl;go_enter Tryz.func98,Tryz.ntmps98;go_wp2
 go_loopg [6,7] 133 (fun k c i wr=>∃ (cv iv:Nat) (M:List Nat),133≤k+iv∧iv≤133∧c=.int .u64 (cv:Nat)∧cv<9223372036854775808∧i=.int .i64 (iv:Nat) ∧
  Hid (Wb wr g M)∧Aside (Wf M∧M.length=133∧val M+n*2^p=val L+cv*pw iv∧But g w wr))
 case atStart =>
  exact ⟨n*2^(p%32),p/32,L,by omega,by omega,by rw [shl_wrap n p hn],shl_small n _ hn (Nat.mod_lt _ (by decide)),by simp,HO,HR.out.1,HR.out.2,by rw [place_split],But.refl _ _⟩
 case round =>
  obtain ⟨cv,iv,M,hk,hi,rfl,hcv,rfl,HM,HA⟩:=hrel
  by_cases h1:iv=133
  · subst h1;go_wp2;refine bodyPost_end (v:=.tuple #[]) (by simp [results,Tryz.results98,go_sem]) rfl ?_;obtain ⟨hMw,hMl,hMs,hbut⟩:=HA.out;exact ⟨rfl,M,HM.out,hMl,hMw,take_end M cv _ _ hMl hMw hMs,hbut⟩
  by_cases h2:cv=0
  · subst h2;have h3:(iv:Int)<133:=by omega
    go_wp2;refine bodyPost_end (v:=.tuple #[]) (by simp [results,Tryz.results98,go_sem]) rfl ?_;obtain ⟨hMw,hMl,hMs,hbut⟩:=HA.out;exact ⟨rfl,M,HM.out,hMl,hMw,take_end M 0 _ _ hMl hMw (by rw [hMs];simp),hbut⟩
  · have h3:iv<133:=by omega
    have h4:0<cv:=by omega
    obtain ⟨hMw,hMl,hMs,hbut⟩:=HA.out;have hgc:=HM.out.cell iv (by omega);have hgf:=HM.out.frozen iv;obtain ⟨x,hx⟩:∃ x:Nat,M.getD iv 0=x:=⟨_,rfl⟩;have hxl:x<4294967296:=hx ▸ hMw.get _;rw [hx] at hgc;obtain ⟨lo,hlo⟩:∃ lo:Nat,cv%4294967296=lo:=⟨_,rfl⟩;obtain ⟨hi',hhi⟩:∃ hi':Nat,cv/4294967296=hi':=⟨_,rfl⟩;have e1:(cv:Int)%4294967296=(lo:Int):=by omega
    have e2:(cv:Int)/4294967296=(hi':Int):=by omega
    have b1:lo<4294967296:=by omega
    have b2:hi'<2147483648:=by omega
    have HX:Aside (M.getD iv 0=x∧cv=lo+hi'*4294967296):=⟨hx,by omega⟩;clear hx hMw hMl hMs hbut h1 h2 hlo hhi;obtain ⟨k,rfl⟩:∃ k,gk=k+1:=⟨gk-1,by omega⟩
    by_cases hlt:x<lo
    · have h5:decide (x<lo)=true:=by simp [hlt]
      go_wp2
      go_region
      all_goals (
       go_wp2;go_roundg k
       case measure=>omega
       case rel =>
        obtain ⟨hMw,hMl,hMs,hbut⟩:=HA.out;have e3:((x:Int)-(lo:Int))%4294967296=((x+4294967296-lo:Nat):Int):=by omega
        rw [e3]
        exact ⟨hi'+1,iv+1,M.set iv (x+4294967296-lo),by omega,by omega,by simp,by omega,by simp,(HM.out.set iv _).drew,hMw.set _ _ (by omega),by simp [hMl],take_step M iv cv _ _ _ lo hi' 1 (by omega) (by rw [HX.out.1];omega) HX.out.2 hMs,(hbut.set iv _).drew⟩)
    · have h5:decide (x<lo)=false:=by simp [hlt]
      go_wp2
      go_region
      all_goals (
       go_wp2;go_roundg k
       case measure=>omega
       case rel =>
        obtain ⟨hMw,hMl,hMs,hbut⟩:=HA.out;have e3:((x:Int)-(lo:Int))=((x-lo:Nat):Int):=by omega
        rw [e3]
        exact ⟨hi',iv+1,M.set iv (x-lo),by omega,by omega,by simp,by omega,by simp,(HM.out.set iv _).drew,hMw.set _ _ (by omega),by simp [hMl],by have:=take_step M iv cv _ _ (x-lo) lo hi' 0 (by omega) (by rw [HX.out.1];omega) HX.out.2 hMs;simpa using this,(hbut.set iv _).drew⟩)
end
section
open Go.RowKit
def Bl (w:World) (g T:Nat) (C:List Value):Prop:=w.heap[g]?=some (.cells C.toArray T (0,0))
theorem Bl.lt {w:World}{g T:Nat}{C:List Value}(h:Bl w g T C):g<w.heap.size:=(Array.getElem?_eq_some_iff.1 h).1
theorem Bl.cell {w:World}{g T:Nat}{C:List Value}(h:Bl w g T C) (i:Nat) (v:Value) (hv:C[i]?=some v):w.cell? ⟨g,i,none⟩=some v:=by
 unfold Bl at h;simp [World.cell?,h,hv]
theorem Bl.frozen {w:World}{g T:Nat}{C:List Value}(h:Bl w g T C) (i:Nat):w.frozen? ⟨g,i,none⟩=false:=by
 unfold Bl at h;simp [World.frozen?,h]
theorem Bl.set {w:World}{g T:Nat}{C:List Value}(h:Bl w g T C) (i:Nat) (v:Value):Bl (w.setCell ⟨g,i,none⟩ v) g T (C.set i v):=by
 unfold Bl at h ⊢;simp [World.setCell,Array.getElem?_modify,h]
theorem Bl.drew {w:World}{g T:Nat}{C:List Value}(h:Bl w g T C):Bl w.drew g T C:=h
theorem Bl.below {w w':World}{g T B:Nat}{C:List Value}(h:Bl w g T C) (hb:Below B w w') (hg:g<B):Bl w' g T C:=by
 unfold Bl at h ⊢;rw [hb.block g hg];exact h
theorem Bl.but {w w':World}{g g' T:Nat}{C:List Value}(h:Bl w g T C) (hb:But g' w w') (hg:g≠g'):Bl w' g T C:=by
 unfold Bl at h ⊢;rw [hb.block g (Bl.lt h) hg];exact h
theorem Bl.range {w:World}{g T:Nat}{C:List Value}(h:Bl w g T C) (o:Nat) (cs:List Value) (hc:∀ j v,cs[j]?=some v→C[o+j]?=some v):w.rangeAt g o cs :=
 fun j v hv=>h.cell _ _ (hc j v hv)
theorem Bl.there {w:World}{g T:Nat}{C:List Value}(h:Bl w g T C) (o n:Nat) (hn:o+n≤C.length):w.there g o n :=
 fun j hj=>⟨by rw [h.cell (o+j) _ (List.getElem?_eq_getElem (by omega))];rfl,h.frozen _⟩
theorem Bl.setCells {g T:Nat}:∀ (vs:List Value) (o:Nat) {w:World}{C:List Value}(h:Bl w g T C) (hn:o+vs.length≤C.length),Bl (w.setCells g o vs) g T (C.take o++vs++C.drop (o+vs.length))
 | [],o,w,C,h,hn=>by simpa [World.setCells] using h
 | v::r,o,w,C,h,hn=>by
   rw [World.setCells];have:=Bl.setCells r (o+1) (h.set o v) (by simp at hn ⊢;omega);simp only [List.length_cons] at hn
   have e:(C.set o v).take (o+1)++r++(C.set o v).drop (o+1+r.length)=C.take o++(v::r)++C.drop (o+(v::r).length):=by
    rw [List.drop_set,if_pos (by omega),List.take_succ_eq_append_getElem (by simp;omega),List.getElem_set_self,List.take_set,List.set_eq_of_length_le (by simp;omega)];simp [Nat.add_assoc,Nat.add_comm 1]
   rw [e] at this;exact this
theorem Bl.setAll {g T:Nat}{w:World}{C vs:List Value}(h:Bl w g T C) (hn:vs.length=C.length):Bl (w.setCells g 0 vs) g T vs:=by
 have:=Bl.setCells vs 0 h (by omega);rw [hn] at this;simpa using this
theorem But.setCells {g:Nat}{a:World}:∀ (vs:List Value) (o:Nat) {w:World}(h:But g a w),But g a (w.setCells g o vs)
 | [],o,w,h=>h
 | v::r,o,w,h=>by rw [World.setCells];exact But.setCells r (o+1) (h.set o v)
theorem bel_alloc (w:World) (o:Obj):Below w.heap.size w (w.alloc o):=(Below.refl _ _).alloc (Nat.le_refl _) _
theorem Bl.alloc {w:World}{g T:Nat}{C:List Value}(h:Bl w g T C) (o:Obj):Bl (w.alloc o) g T C:=by
 unfold Bl at h ⊢;rw [(bel_alloc w o).block g (Bl.lt h)];exact h
theorem Bl.new (w:World) (T:Nat) (C:List Value):Bl (w.alloc (.cells C.toArray T)) w.heap.size T C:=by
 unfold Bl;rw [heap_alloc_new]
theorem Bl.new' (w:World) (T n:Nat) (C:List Value) (hn:n=w.heap.size):Bl (w.alloc (.cells C.toArray T)) n T C:=by
 subst hn;exact Bl.new w T C
theorem Wb.bl {w:World}{g:Nat}{L:List Nat}(h:Wb w g L):Bl w g 83 (L.map U):=h
theorem Bl.wb {w:World}{g:Nat}{L:List Nat}(h:Bl w g 83 (L.map U)):Wb w g L:=h
theorem oneCell_U (L:List Nat):((L.map U).toArray).all (·.oneCell')=true:=all_oneCell_toArray fun v hv=>by
 obtain ⟨x,_,rfl⟩:=List.mem_map.1 hv;rfl
theorem Tryz.zero_words:Tryz.zeroCells83=(List.replicate 133 (Value.int .u32 0)).toArray:=by kernel_rfl
theorem Tryz.size_words:(Tryz.prog.info? 83).map (·.size)=some 133:=by kernel_rfl
theorem Tryz.desc_words:Tryz.prog.underlying 83=some (.array 133 81):=by kernel_rfl
theorem emod_add' (x y n:Int):(x%n+y)%n=(x+y)%n:=by simp
def sgn7 (ng:Bool) (T:Nat):Int:=if ng then -(T:Int) else (T:Int)
theorem sgn_zero (ng:Bool):sgn7 ng 0=0:=by cases ng <;> simp [sgn7]
theorem sgn_add (ng:Bool) (a b:Nat):sgn7 ng (a+b)=sgn7 ng a+sgn7 ng b:=by cases ng <;> simp [sgn7];omega
theorem with_step (xs:List Nat) (k p:Nat) (hk:k<xs.length):val (xs.take (k+1))*2^p=val (xs.take k)*2^p+xs.getD k 0*2^(p+32*k):=by
 rw [val_take_succ xs k hk,Nat.add_mul,pw_pow,Nat.pow_add];congr 1;rw [Nat.mul_comm (2^(32*k)),Nat.mul_assoc,Nat.mul_comm (2^(32*k))]
theorem with_any (L xs:List Nat) (ao:Option Addr) (n cap p:Nat) (kd:Int) (ng:Bool) (w:World) (hl:L.length=133) (hL:Wf L) (hA:Arg w ao n cap xs) (hp:p+32*n≤4256) :
 Calls Tryz.prog 71 #[.agg (L.map U).toArray,.agg #[.int .i64 kd,.bool ng,.slice ao n cap,.int .i64 (p:Nat)]] w fun r w' =>
  ∃ M,r=.returned (.agg (M.map U).toArray)∧M.length=133∧Wf M∧(val M:Int)=((val L:Int)+sgn7 ng (val xs*2^p))%(PB:Int)∧Below w.heap.size w w':=by
 have HR:Aside (Wf L∧L.length=133∧Arg w ao n cap xs):=⟨hL,hl,hA⟩;clear hL hl hA;go_enter Tryz.func71,Tryz.ntmps71;go_wp2;obtain ⟨w3,hw3⟩:∃ w3,w3=(((w.alloc (Obj.cells (L.map U).toArray 83)).alloc (Obj.cells #[Value.int IntKind.i64 kd,Value.bool ng,Value.slice ao n cap,Value.int IntKind.i64 (p:Nat)] 90)).alloc (Obj.cells Tryz.zeroCells83 83)):=⟨_,rfl⟩;rw [←hw3]
 have H3:Aside (Below w.heap.size w w3∧Wb w3 w.heap.size L∧Bl w3 (w.heap.size+1) 90 [Value.int IntKind.i64 kd,Value.bool ng,Value.slice ao n cap,Value.int IntKind.i64 (p:Nat)]∧Bl w3 (w.heap.size+1+1) 83 (List.replicate 133 (Value.int .u32 0))∧w3.heap.size=w.heap.size+3):=by
  subst hw3;refine ⟨?_,?_,?_,?_,by simp⟩
  · exact ((bel_alloc w _).trans ((bel_alloc _ _).mono (by simp))).trans ((bel_alloc _ _).mono (by simp;omega))
  · exact (((Bl.new w 83 (L.map U)).alloc _).alloc _).wb
  · exact (Bl.new' (w.alloc (Obj.cells (L.map U).toArray 83)) 90 _ [_,_,_,_] (by simp)).alloc _
  · rw [Tryz.zero_words];exact Bl.new' _ 83 _ _ (by simp)
 clear hw3
 go_loopg [10] n (fun gk i wr=>∃ (k:Nat) (M:List Nat),gk+k=n∧i=.int .i64 (k:Nat) ∧
  Aside (Wb wr w.heap.size M∧Wf M∧M.length=133∧(val M:Int)=((val L:Int)+sgn7 ng (val (xs.take k)*2^p))%(PB:Int)∧But w.heap.size w3 wr))
 case atStart=>exact ⟨0,L,by omega,by simp,H3.out.2.1,HR.out.1,HR.out.2.1,by simp only [List.take_zero,val,Nat.zero_mul,sgn_zero,Int.add_zero];rw [Int.emod_eq_of_lt (by omega) (by have:=val_lt_PB HR.out.2.1 HR.out.1;omega)],But.refl _ _⟩
 case round =>
  obtain ⟨k,M,hgk,rfl,HA⟩:=hrel
  by_cases hk:k<n
  · obtain ⟨hL,hl,hA⟩:=HR.out;obtain ⟨hM,hMw,hMl,hMs,hbut⟩:=HA.out;obtain ⟨b3,_,T3,Z3,s3⟩:=H3.out;obtain ⟨b,boff,hbB,rfl,hbc⟩:=hA.rd (by intro e;subst e;have:=hA.len;simp at this;omega)
    have hbk:wr.cell? ⟨b,boff+k,none⟩=some (.int .u32 ((xs.getD k 0:Nat):Int)):=by
     have h0:=b3.block b hbB;have h1:=hbut.block b (by omega) (by omega);exact (World.cell?_of_block (a:=⟨b,boff+k,none⟩) (h1.trans h0)).trans (hbc k (by rw [←hA.len];omega))
    have T4:=T3.but hbut (by omega);have c1:=T4.cell 1 _ rfl;have c3:=T4.cell 3 _ rfl;obtain ⟨y,hy⟩:∃ y:Nat,xs.getD k 0=y:=⟨_,rfl⟩;have hyl:y<4294967296:=hy ▸ hA.wf.get _;rw [hy] at hbk;have HX:Aside (xs.getD k 0=y):=hy;have HB:Aside (∀ i,i<xs.length→w.cell? ⟨b,boff+i,none⟩=some (.int .u32 ((xs.getD i 0:Nat):Int))):=hbc;clear hy hL hl hA hM hMw hMl hMs hbut b3 T3 Z3 s3 T4 hbc
    cases ng
    · go_wp2_with fail;rw [show (p:Int)+32*(k:Int)=((p+32*k:Nat):Int) by simp];obtain ⟨hM,hMw,hMl,hMs,hbut⟩:=HA.out;refine (Calls.mono (wadd_any M w.heap.size y (p+32*k) wr hM hMl hMw hyl (by omega)) ?_);rintro r w' ⟨rfl,M',hM',hMl',hMw',hv',hb'⟩;have HA':Aside (Wb w' w.heap.size M'∧Wf M'∧M'.length=133∧val M'=(val M+y*2^(p+32*k))%PB∧But w.heap.size wr w'):=⟨hM',hMw',hMl',hv',hb'⟩;clear hM hMw hMl hMs hbut hM' hMl' hMw' hv' hb';go_wp2;go_roundg (gk-1)
      case measure=>omega
      case rel =>
       obtain ⟨hM',hMw',hMl',hv',hb'⟩:=HA'.out;obtain ⟨hM,hMw,hMl,hMs,hbut⟩:=HA.out;refine ⟨k+1,M',by omega,by simp,hM',hMw',hMl',?_,hbut.trans hb'⟩;rw [with_step xs k p (by rw [←HR.out.2.2.len];exact hk),HX.out,sgn_add,←Int.add_assoc,←emod_add',←hMs,hv'];simp [sgn7]
    · go_wp2_with fail;rw [show (p:Int)+32*(k:Int)=((p+32*k:Nat):Int) by simp];obtain ⟨hM,hMw,hMl,hMs,hbut⟩:=HA.out;refine (Calls.mono (wtake_any M w.heap.size y (p+32*k) wr hM hMl hMw hyl (by omega)) ?_);rintro r w' ⟨rfl,M',hM',hMl',hMw',hv',hb'⟩;have HA':Aside (Wb w' w.heap.size M'∧Wf M'∧M'.length=133∧(val M':Int)=((val M:Int)-((y*2^(p+32*k):Nat):Int))%(PB:Int)∧But w.heap.size wr w'):=⟨hM',hMw',hMl',hv',hb'⟩;clear hM hMw hMl hMs hbut hM' hMl' hMw' hv' hb';go_wp2;go_roundg (gk-1)
      case measure=>omega
      case rel =>
       obtain ⟨hM',hMw',hMl',hv',hb'⟩:=HA'.out;obtain ⟨hM,hMw,hMl,hMs,hbut⟩:=HA.out;refine ⟨k+1,M',by omega,by simp,hM',hMw',hMl',?_,hbut.trans hb'⟩;rw [with_step xs k p (by rw [←HR.out.2.2.len];exact hk),HX.out,sgn_add,←Int.add_assoc,←emod_add',←hMs,hv'];simp only [sgn7,if_true,Int.sub_eq_add_neg]
  · obtain rfl:k=n:=by omega
    obtain ⟨hM,hMw,hMl,hMs,hbut⟩:=HA.out;obtain ⟨b3,_,T3,Z3,s3⟩:=H3.out;have HZ:Aside (Bl wr (w.heap.size+1+1) 83 (List.replicate 133 (Value.int .u32 0))):=Z3.but hbut (by omega);have HB:Aside (Below w.heap.size w w3∧w3.heap.size=w.heap.size+3):=⟨b3,s3⟩;clear hM hMw hMl hMs hbut b3 T3 Z3 s3
    go_wp2_with (first
     | (with_reducible refine wpList_load_mid (P:=Tryz.prog) rfl 83 (.tmp 2) rfl w.heap.size 0 rfl (M.map U) _ (HA.out.1.bl.range 0 _ (fun j v hv=>by simpa using hv)) Tryz.desc_words rfl (by simp [Tryz.size_words,HA.out.2.2.1]) ?_)
     | (with_reducible refine wpList_store_mid (P:=Tryz.prog) rfl 83 (.tmp 4) (.tmp 32) rfl (w.heap.size+1+1) 0 (M.map U).toArray rfl rfl (HZ.out.there 0 _ (by simp [HA.out.2.2.1])) (by simp [Tryz.size_words,HA.out.2.2.1]) (oneCell_U M) ?_))
    have hZ:Bl (wr.setCells (w.heap.size+1+1) 0 (M.map U)) (w.heap.size+1+1) 83 (M.map U):=HZ.out.setAll (by simp [HA.out.2.2.1]);refine bodyPost_ret (v:=.agg (M.map U).toArray) (results_cell_row (P:=Tryz.prog) Tryz.results71 _ _ (w.heap.size+1+1) 83 _ _ _ rfl hZ Tryz.desc_words rfl (by simp [Tryz.size_words,HA.out.2.2.1])) rfl ?_;obtain ⟨hM,hMw,hMl,hMs,hbut⟩:=HA.out;obtain ⟨b3,s3⟩:=HB.out;refine ⟨M,rfl,hMl,hMw,?_,?_⟩
    · rw [hMs,List.take_of_length_le (by rw [←HR.out.2.2.len];exact Nat.le_refl _)]
    · exact But.below (But.below b3 hbut (by omega) (Nat.le_refl _)) (But.setCells _ _ (But.refl _ _)) (by have:=hbut.size;omega) (by omega)
end
section
open Go.RowKit
theorem But.of_bel9 {g:Nat}{a w w':World}(h:But g a w) (hb:Below w.heap.size w w'):But g a w' :=
 h.trans ⟨hb.os,hb.tape,hb.output,hb.size,fun k hk _=>hb.block k hk⟩
end
section
def sl (a t:Nat):Nat:=a/2^(32*t)%4294967296
def tp (a:Nat):Int:=if a=0 then -1 else ((a.log2/32:Nat):Int)
theorem pw32 (t:Nat):2^(32*(t+1))=4294967296*2^(32*t):=by
 rw [show 32*(t+1)=32+32*t by omega,Nat.pow_add]
theorem sl_lt (a t:Nat):sl a t<4294967296:=Nat.mod_lt _ (by decide)
theorem sl_shift (N m k:Nat):sl (N*2^(32*m)) (m+k)=sl N k:=by
 unfold sl;rw [show 32*(m+k)=32*m+32*k by omega,Nat.pow_add,←Nat.div_div_eq_div_mul,Nat.mul_div_cancel _ (Nat.two_pow_pos _)]
theorem sl_low (N m t:Nat) (h:t<m):sl (N*2^(32*m)) t=0:=by
 unfold sl;obtain ⟨d,rfl⟩:∃ d,m=t+(d+1):=⟨m-t-1,by omega⟩;rw [show 32*(t+(d+1))=32*t+32*(d+1) by omega,Nat.pow_add,Nat.mul_comm (2^(32*t)),←Nat.mul_assoc,Nat.mul_div_cancel _ (Nat.two_pow_pos _),pw32,Nat.mul_left_comm];exact Nat.mul_mod_right _ _
theorem sl_high (a t:Nat) (h:a<2^(32*t)):sl a t=0:=by
 unfold sl;rw [Nat.div_eq_of_lt h]
theorem tp_lt (a:Nat) (t:Nat):tp a<t↔a<2^(32*t):=by
 unfold tp
 by_cases h:a=0
 · rw [if_pos h,h];have:=Nat.two_pow_pos (32*t)
   constructor <;> intro _ <;> omega
 · rw [if_neg h,←Nat.log2_lt h];omega
theorem tp_ge (a:Nat):-1≤tp a:=by
 unfold tp;split <;> omega
theorem sl_above (a t:Nat) (h:tp a<t):sl a t=0:=sl_high a t ((tp_lt a t).1 h)
theorem sl_top (a t:Nat) (h:tp a=t):sl a t≠0:=by
 have h1:a<2^(32*(t+1)):=(tp_lt a (t+1)).1 (by omega);have h2:¬ a<2^(32*t):=fun q=>by have:=(tp_lt a t).2 q;omega
 unfold sl;rw [pw32] at h1;have h3:a/2^(32*t)<4294967296:=Nat.div_lt_of_lt_mul (by rw [Nat.mul_comm];exact h1);rw [Nat.mod_eq_of_lt h3];have:=Nat.div_pos (Nat.le_of_not_lt h2) (Nat.two_pow_pos (32*t));omega
theorem tp_iff (a t:Nat) (h0:sl a t≠0) (h1:∀ u,t<u→sl a u=0):tp a=t:=by
 by_cases h:tp a<t
 · exact absurd (sl_above a t h) h0
 · obtain ⟨u,hu⟩:∃ u:Nat,tp a=u:=⟨(tp a).toNat,by omega⟩;have:=sl_top a u hu
   by_cases q:t<u
   · exact absurd (h1 u q) this
   · omega
def ss (z t:Int):Int:=if t<0 then 0 else if z<0 then -((sl z.natAbs t.toNat:Nat):Int) else ((sl z.natAbs t.toNat:Nat):Int)
theorem ss_abs (z t:Int):(ss z t).natAbs<4294967296:=by
 have:=sl_lt z.natAbs t.toNat;unfold ss
 split
 · decide
 · split <;> omega
theorem ss_above (z t:Int) (h:tp z.natAbs<t):ss z t=0:=by
 unfold ss;have:=tp_ge z.natAbs;have e:=sl_above z.natAbs t.toNat (by omega);rw [e]
 split
 · rfl
 · split <;> rfl
theorem ss_neg (z t:Int) (h:t<0):ss z t=0:=by unfold ss;rw [if_pos h]
def SL:List Int→Int→Int
 | [],_=>0
 | z::L,t=>ss z t+SL L t
def tL:List Int→Int
 | []=>-1
 | z::L=>max (tp z.natAbs) (tL L)
theorem SL_append (L M:List Int) (t:Int):SL (L++M) t=SL L t+SL M t:=by
 induction L with
 | nil=>simp [SL]
 | cons z L ih=>simp only [List.cons_append,SL];omega
theorem tL_ge (L:List Int):-1≤tL L:=by
 induction L with
 | nil=>simp [tL]
 | cons z M ih=>simp only [tL];omega
theorem tL_append (L M:List Int):tL (L++M)=max (tL L) (tL M):=by
 induction L with
 | nil =>
   have:=tL_ge M;simp only [List.nil_append,tL];omega
 | cons z L ih=>simp only [List.cons_append,tL];omega
theorem SL_above (L:List Int) (t:Int) (h:tL L<t):SL L t=0:=by
 induction L with
 | nil=>rfl
 | cons z L ih =>
   simp only [tL] at h;simp only [SL];rw [ss_above z t (by omega),ih (by omega)];rfl
theorem SL_neg (L:List Int) (t:Int) (h:t<0):SL L t=0:=by
 induction L with
 | nil=>rfl
 | cons z L ih=>simp only [SL];rw [ss_neg z t h,ih];rfl
theorem SL_abs (L:List Int) (t:Int):(SL L t).natAbs≤L.length*4294967296:=by
 induction L with
 | nil=>simp [SL]
 | cons z L ih =>
   have:=ss_abs z t;simp only [SL,List.length_cons];omega
end
section
def vb (t k:Int):Int:=if t<0 then 0 else if t=0 then k/16384 else k*((2^(32*t.toNat-14):Nat):Int)
theorem vb_zero (t:Int):vb t 0=0:=by
 unfold vb
 split
 · rfl
 · split
   · rfl
   · rw [Int.zero_mul]
theorem vb_mul (t:Nat) (k:Int) (h:t=0→(16384:Int) ∣ k):vb t k*16384=k*((2^(32*t):Nat):Int):=by
 unfold vb;rw [if_neg (by omega)]
 by_cases q:t=0
 · subst q;rw [if_pos (by decide)];have:=Int.ediv_mul_cancel (h rfl);simp only [Nat.mul_zero,Nat.pow_zero];omega
 · rw [if_neg (by omega),Int.toNat_natCast,Int.mul_assoc]
   have:2^(32*t)=2^(32*t-14)*16384:=by
    rw [show (16384:Nat)=2^14 from rfl,←Nat.pow_add,show 32*t-14+14=32*t by omega]
   rw [this,Int.natCast_mul];rfl
theorem vb_abs (t k:Int) (m a:Nat) (ht:t≤a) (hk:k.natAbs≤2^m):(vb t k).natAbs≤2^(m+32*a):=by
 have h1:2^m≤2^(m+32*a):=Nat.pow_le_pow_right (by decide) (by omega);unfold vb
 split
 · simp
 · split
   · omega
   · rw [Int.natAbs_mul,Int.natAbs_natCast,Nat.pow_add];exact Nat.mul_le_mul hk (Nat.pow_le_pow_right (by decide) (by omega))
theorem vb_two (t:Int) (k:Int) (h:t<0→k=0) (h2:t=0→(16384:Int) ∣ k):vb (t+1) (k/4294967296)+vb t (k%4294967296)=vb t k:=by
 by_cases q:t<0
 · rw [h q];simp [vb_zero]
 · obtain ⟨n,rfl⟩:∃ n:Nat,t=n:=⟨t.toNat,by omega⟩;have hk:k%4294967296+k/4294967296*4294967296=k:=by omega
   have h3:n=0→(16384:Int) ∣ k%4294967296:=by
    intro q;obtain ⟨c,hc⟩:=h2 (by omega);omega
   have e1:=vb_mul (n+1) (k/4294967296) (by omega);have e2:=vb_mul n (k%4294967296) h3;have e3:=vb_mul n k (fun q=>h2 (by omega));have e4:(((2^(32*(n+1)):Nat)):Int)=4294967296*((2^(32*n):Nat):Int):=by rw [pw32,Int.natCast_mul];rfl
   rw [e4,←Int.mul_assoc] at e1
   have e5:k*((2^(32*n):Nat):Int)=k/4294967296*4294967296*((2^(32*n):Nat):Int)+k%4294967296*((2^(32*n):Nat):Int):=by
    rw [←Int.add_mul];congr 1;omega
   rw [show ((n:Int)+1)=((n+1:Nat):Int) by omega];omega
def kf (f:Nat) (T:Int) (D:Int→Int) (i:Nat):Int:=if i<f then D (T-i) else 0
def kv (T:Int) (K:Nat→Int):Nat→Int
 | 0=>0
 | n+1=>kv T K n+vb (T-n) (K n)
theorem SL_div (L:List Int) (h:∀ z ∈ L,(16384:Int) ∣ z):(16384:Int) ∣ SL L 0:=by
 induction L with
 | nil=>exact ⟨0,rfl⟩
 | cons z L ih =>
   obtain ⟨a,ha⟩:=ih (fun y hy=>h y (List.mem_cons_of_mem _ hy));obtain ⟨b,hb⟩:=h z (List.mem_cons_self ..)
   have:(16384:Int) ∣ ss z 0:=by
    unfold ss sl;rw [if_neg (by omega)];simp only [Int.toNat_zero,Nat.mul_zero,Nat.pow_zero,Nat.div_one]
    split <;> omega
   obtain ⟨c,hc⟩:=this;exact ⟨a+c,by simp only [SL];omega⟩
theorem kv_abs (T:Int) (K:Nat→Int) (n m a:Nat) (hT:T≤a) (hK:∀ i,(K i).natAbs≤2^m):(kv T K n).natAbs≤n*2^(m+32*a):=by
 induction n with
 | zero=>simp [kv]
 | succ n ih =>
   have:=vb_abs (T-n) (K n) m a (by omega) (hK n);show (kv T K n+vb (T-n) (K n)).natAbs≤_;rw [Nat.succ_mul];omega
def upd (D:Int→Int) (j v:Int):Int→Int:=fun t=>if t=j then D t+v else D t
end
section
open Go.RowKit
def Hd (w:World) (g:Nat) (L:List Nat):Prop:=g<w.heap.size∧∀ i,i<L.length→w.cell? ⟨g,i,none⟩=some (.int .u32 ((L.getD i 0:Nat):Int))
theorem Hd.below {w w':World}{g B:Nat}{L:List Nat}(h:Hd w g L) (hb:Below B w w') (hg:g<B) (hB:B≤w.heap.size):Hd w' g L :=
 ⟨by have:=hb.size;omega,fun i hi=>(hb.cell (p:=⟨g,i,none⟩) hg).trans (h.2 i hi)⟩
theorem Bl.hd {w:World}{g T:Nat}{L:List Nat}{C:List Value}(h:Bl w g T (L.map U++C)):Hd w g L :=
 ⟨h.lt,fun i hi=>h.cell i _ (by rw [List.getElem?_append_left (by simpa using hi)];simp [U,List.getD_eq_getElem?_getD,List.getElem?_eq_getElem hi])⟩
theorem Wb.hd {w:World}{g:Nat}{L:List Nat}(h:Wb w g L):Hd w g L:=⟨h.lt,fun i hi=>h.cell i hi⟩
end
section
open Go.RowKit
theorem Tryz.plain_u32:Tryz.prog.plainKey 81=true:=by kernel_rfl
theorem Tryz.cells_u32:Tryz.prog.cellsOf 81=1:=by kernel_rfl
theorem Tryz.under_u32:Tryz.prog.underlying 81=some (.int .u32):=by kernel_rfl
theorem Tryz.there_u32:(Tryz.prog.info? 81).isSome=true:=by kernel_rfl
theorem eq_items (L K:List Nat) (d:Nat) (w:World):∀ (is:List Nat),(∀ i ∈ is,i<L.length∧i<K.length) →
 (Op.eqItems (d+1) 81 1 (L.map U).toArray (K.map U).toArray is).run Tryz.prog w=.ok (decide (∀ i ∈ is,L.getD i 0=K.getD i 0)) w
 | [],_=>by simp [Op.eqItems]
 | i::is,h=>by
   obtain ⟨h1,h2⟩:=h i (by simp);have ih:=eq_items L K d w is (fun j hj=>h j (by simp [hj]))
   have p1:(part 81 (L.map U).toArray (i*1)).run Tryz.prog w=.ok (.int .u32 ((L.getD i 0:Nat):Int)) w :=
    run_part_plain _ Tryz.plain_u32 (by simp [U,List.getD_eq_getElem?_getD,List.getElem?_eq_getElem h1])
   have p2:(part 81 (K.map U).toArray (i*1)).run Tryz.prog w=.ok (.int .u32 ((K.getD i 0:Nat):Int)) w :=
    run_part_plain _ Tryz.plain_u32 (by simp [U,List.getD_eq_getElem?_getD,List.getElem?_eq_getElem h2])
   simp only [Op.eqItems,Sem.run_bind,p1,p2,Result.andThen_ok,run_equalIn_int w d 81 .u32 .u32 _ _ Tryz.under_u32]
   by_cases e:L.getD i 0=K.getD i 0
   · rw [e];simp only [beq_self_eq_true,Bool.not_true];rw [if_neg (by decide),ih];simp only [List.mem_cons,forall_eq_or_imp,e,true_and]
   · have e2:(((L.getD i 0:Nat):Int)==((K.getD i 0:Nat):Int))=false:=by simp only [beq_eq_false_iff_ne,ne_eq];omega
     rw [e2];simp only [List.mem_cons,forall_eq_or_imp,e,false_and,decide_false,Bool.not_false,if_true,Sem.run_pure]
theorem eq_words (L K:List Nat) (w:World) (hl:L.length=133) (hk:K.length=133) :
 (Op.equalIn 10000 83 (.agg (L.map U).toArray) (.agg (K.map U).toArray)).run Tryz.prog w=.ok (decide (L=K)) w:=by
 obtain ⟨i,hi⟩:=Option.isSome_iff_exists.1 Tryz.there_u32;rw [show (10000:Nat)=9999+1 by rfl,run_equalIn_array _ 9999 _ _ Tryz.desc_words hi,Tryz.cells_u32,show (9999:Nat)=9998+1 by rfl,eq_items L K 9998 w (List.range 133) (fun i hi=>by simp at hi;omega)];congr 1;rw [decide_eq_decide];constructor
 · intro h;apply List.ext_getElem (by omega);intro i h1 h2;have:=h i (by simp;omega);simpa [List.getD_eq_getElem?_getD,List.getElem?_eq_getElem h1,List.getElem?_eq_getElem h2] using this
 · rintro rfl i _;rfl
def lowL:List Nat:=List.replicate 132 0++[4294950912]
theorem Tryz.low_words:Tryz.zeroCells83.setIfInBounds 132 (Value.int IntKind.u32 4294950912)=(lowL.map U).toArray:=by kernel_rfl
theorem lowL_len:lowL.length=133:=by simp [lowL]
theorem Tryz.nought_words:Tryz.zeroCells83=((List.replicate 133 0).map U).toArray:=by kernel_rfl
theorem below_lo (g t:Nat) (w:World) (hc:w.cell? ⟨g,132,none⟩=some (.int .u32 (t:Nat))) (ht:t<2147483648) :
 Calls Tryz.prog 77 #[.pointer (some ⟨g,0,none⟩)] w fun r w'=>r=.returned (.bool false)∧w'=w:=by
 go_enter Tryz.func77,Tryz.ntmps77;go_wp2;refine bodyPost_ret (v:=.bool false) (by simp [results,Tryz.results77,go_sem]) rfl ⟨rfl,rfl⟩
theorem below_hi (g t:Nat) (w:World) (hc:w.cell? ⟨g,132,none⟩=some (.int .u32 (t:Nat))) (ht0:2147483648≤t) (ht:t<4294967296) :
 Calls Tryz.prog 77 #[.pointer (some ⟨g,0,none⟩)] w fun r w'=>r=.returned (.bool true)∧w'=w:=by
 have hw:wrap32 (t:Int)=(t:Int)-4294967296:=by unfold wrap32;omega
 go_enter Tryz.func77,Tryz.ntmps77;go_wp2;refine bodyPost_ret (v:=.bool true) (by simp [results,Tryz.results77,go_sem];omega) rfl ⟨rfl,rfl⟩
theorem beyond_lo (g t:Nat) (w:World) (hc:w.cell? ⟨g,132,none⟩=some (.int .u32 (t:Nat))) (ht:t<16384) :
 Calls Tryz.prog 97 #[.pointer (some ⟨g,0,none⟩)] w fun r w'=>r=.returned (.bool false)∧w'=w:=by
 have hw:((t:Int)/16384==0)=true:=by simp;omega
 go_enter Tryz.func97,Tryz.ntmps97;go_wp2;refine bodyPost_ret (v:=.bool false) (by simp [results,Tryz.results97,go_sem]) rfl ⟨rfl,rfl⟩
theorem beyond_mid (g t:Nat) (w:World) (hc:w.cell? ⟨g,132,none⟩=some (.int .u32 (t:Nat))) (ht0:16384≤t) (ht:t<4294950912) :
 Calls Tryz.prog 97 #[.pointer (some ⟨g,0,none⟩)] w fun r w'=>r=.returned (.bool true)∧w'=w:=by
 have hw0:(wrap32 (t:Int)/16384==0)=false:=by simp;unfold wrap32;omega
 have hw1:(wrap32 (t:Int)/16384==-1)=false:=by simp;unfold wrap32;omega
 go_enter Tryz.func97,Tryz.ntmps97;go_wp2;refine bodyPost_ret (v:=.bool true) (by simp [results,Tryz.results97,go_sem]) rfl ⟨rfl,rfl⟩
theorem beyond_hi (g t:Nat) (L:List Nat) (w:World) (hc:w.cell? ⟨g,132,none⟩=some (.int .u32 (t:Nat))) (hr:w.rangeAt g 0 (L.map U)) (hl:L.length=133) (ht0:4294950912≤t) (ht:t<4294967296) :
 Calls Tryz.prog 97 #[.pointer (some ⟨g,0,none⟩)] w fun r w'=>r=.returned (.bool (decide (L=lowL)))∧w'=w:=by
 have hw0:(wrap32 (t:Int)/16384==0)=false:=by simp;unfold wrap32;omega
 have hw1:(wrap32 (t:Int)/16384==-1)=true:=by simp;unfold wrap32;omega
 have HL:Aside (L.length=133∧w.rangeAt g 0 (L.map U)):=⟨hl,hr⟩;clear hl hr;go_enter Tryz.func97,Tryz.ntmps97
 go_wp2_with (first | (with_reducible refine wpList_load_mid (P:=Tryz.prog) rfl 83 (.tmp 14) rfl g 0 rfl (L.map U) _ HL.out.2 Tryz.desc_words rfl (by simp [Tryz.size_words,HL.out.1]) ?_))
 rw [Tryz.low_words,eq_words L _ w HL.out.1 lowL_len];generalize hb:decide (L=lowL)=b;generalize hK:lowL=K at hb;have HK:Aside (decide (L=lowL)=b):=by rw [hK];exact hb
 clear hb hK;simp only [Result.andThen_ok,Oper.upon];go_wp2;exact bodyPost_ret (v:=.bool b) (by simp [results,Tryz.results97,go_sem]) rfl ⟨by rw [HK.out],rfl⟩
def HB:Nat:=16384*pw 132
theorem HB_pos:0<HB:=Nat.mul_pos (by decide) (pw_pos _)
theorem PB_top:PB=4294967296*pw 132:=by unfold PB;exact pw_succ 132
attribute [irreducible] HB
theorem HB_eq:HB=16384*pw 132:=by unfold HB;rfl
theorem top_val (L:List Nat) (hl:L.length=133) (hL:Wf L):∃ r,r<pw 132∧val L=r+pw 132*L.getD 132 0:=by
 refine ⟨val (L.take 132),?_,?_⟩
 · have:=val_lt (L.take 132) (hL.take 132);rwa [show (L.take 132).length=132 by simp;omega] at this
 · have h:=val_take_succ L 132 (by omega);rwa [List.take_of_length_le (by omega)] at h
theorem val_lowL:val lowL=4294950912*pw 132:=by
 unfold lowL;rw [val_append,val_zeros,List.length_replicate,Nat.zero_add,Nat.mul_comm];rfl
theorem wf_lowL:Wf lowL:=by
 intro y hy;unfold lowL at hy;rcases List.mem_append.1 hy with h|h
 · have:=List.eq_of_mem_replicate h;omega
 · have:=List.mem_singleton.1 h;omega
theorem val_inj {L K:List Nat}(hl:L.length=K.length) (hL:Wf L) (hK:Wf K) (h:val L=val K):L=K:=by
 induction L generalizing K with
 | nil=>cases K <;> simp_all
 | cons x xs ih =>
   cases K with
   | nil=>simp at hl
   | cons y ys =>
     simp only [val] at h;have h1:=hL.head;have h2:=hK.head;have e1:x=y:=by omega
     have e2:val xs=val ys:=by omega
     rw [e1,ih (by simpa using hl) hL.tail hK.tail e2]
def neg7 (N:Nat):Bool:=decide (PB≤2*N)
theorem below_any (g:Nat) (L:List Nat) (w:World) (hl:L.length=133) (hL:Wf L) (hH:Hd w g L) :
 Calls Tryz.prog 77 #[.pointer (some ⟨g,0,none⟩)] w fun r w'=>r=.returned (.bool (neg7 (val L)))∧w'=w:=by
 have hc:=hH.2 132 (by omega);obtain ⟨r,hr,hv⟩:=top_val L hl hL;have ht:=hL.get 132;generalize L.getD 132 0=t at hc hv ht;have h0:=pw_pos 132
 by_cases h:t<2147483648
 · have e:neg7 (val L)=false:=by
    unfold neg7;rw [decide_eq_false_iff_not,hv,PB_top];generalize pw 132=q at hr h0 ⊢;have:q*t≤q*2147483647:=Nat.mul_le_mul_left _ (by omega);omega
   rw [e];exact below_lo g t w hc h
 · have e:neg7 (val L)=true:=by
    unfold neg7;rw [decide_eq_true_iff,hv,PB_top];generalize pw 132=q at hr h0 ⊢;have:q*2147483648≤q*t:=Nat.mul_le_mul_left _ (by omega);omega
   rw [e];exact below_hi g t w hc (by omega) ht
def bey (N:Nat):Bool:=decide (HB≤N∧N≤PB-HB)
theorem beyond_any (g:Nat) (L:List Nat) (w:World) (hl:L.length=133) (hL:Wf L) (hH:Hd w g L) :
 Calls Tryz.prog 97 #[.pointer (some ⟨g,0,none⟩)] w fun r w'=>r=.returned (.bool (bey (val L)))∧w'=w:=by
 have hc:=hH.2 132 (by omega);obtain ⟨r,hr,hv⟩:=top_val L hl hL;have ht:=hL.get 132
 have hg:w.rangeAt g 0 (L.map U):=fun j v hj=>by
  have hj2:j<L.length:=by have:=(List.getElem?_eq_some_iff.1 hj).1;simpa using this
  rw [Nat.zero_add,hH.2 j hj2,←hj,List.getElem?_map,List.getElem?_eq_getElem hj2,List.getD_eq_getElem?_getD,List.getElem?_eq_getElem hj2];rfl
 generalize htt:L.getD 132 0=t at hc hv ht;have h0:=pw_pos 132;have eP:=PB_top;have eH:=HB_eq;have eL:=val_lowL;generalize pw 132=q at hr h0 hv eP eH eL
 by_cases h:t<16384
 · have e:bey (val L)=false:=by
    unfold bey;rw [decide_eq_false_iff_not,hv];have:q*t≤q*16383:=Nat.mul_le_mul_left _ (by omega);omega
   rw [e];exact beyond_lo g t w hc h
 by_cases h2:t<4294950912
 · have e:bey (val L)=true:=by
    unfold bey;rw [decide_eq_true_iff,hv];have a1:q*16384≤q*t:=Nat.mul_le_mul_left _ (by omega);have a2:q*t≤q*4294950911:=Nat.mul_le_mul_left _ (by omega);omega
   rw [e];exact beyond_mid g t w hc (by omega) h2
 · have e:bey (val L)=decide (L=lowL):=by
    unfold bey;rw [decide_eq_decide];constructor
    · intro hb;have a1:q*4294950912≤q*t:=Nat.mul_le_mul_left _ (by omega);refine val_inj (by rw [hl,lowL_len]) hL wf_lowL ?_;rw [eL];omega
    · rintro rfl;rw [eL];omega
   rw [e];exact beyond_hi g t L w hc hg hl (by omega) ht
end
section
open Go.RowKit
theorem Tryz.desc_row:Tryz.prog.underlying 67=some (.slice 81):=by kernel_rfl
theorem clone_any (b n c:Nat) (L:List Nat) (w:World) (hl:L.length=n) (hn:n≤1000) (hH:Hd w b L) :
 Calls Tryz.prog 107 #[.slice (some ⟨b,0,none⟩) n c] w fun r w'=>∃ v',r=.returned v'∧w'.ownsRow w.heap.size 81 1 v' n (L.map U)∧v'≠.slice none 0 0∧Below w.heap.size w w':=by
 obtain ⟨i0,hi,hz0,hz1,hz2⟩:=info_parts Tryz.info81;have q67:∀ (w:World) (a:Option Addr) (n c n' c':Nat),(binOp .eql 67 (.slice a n c) (.slice none n' c')).run Tryz.prog w=.ok (.bool a.isNone) w:=fun w a n c n' c'=>Lib.run_eql_slice_nil w _ _ a n c n' c' Tryz.desc_row;have A:Aside (L.length=n∧Hd w b L):=⟨hl,hH⟩;clear hl hH;go_enter Tryz.func107,Tryz.ntmps107
 go_wp2_with (at_builtin;refine wpList_append_own _ rfl _ _ 67 rfl w.heap.size 81 i0 (.int .u32 0) 1 4 Tryz.desc_row hi hz0 hz1 hz2 rfl (by decide) _ _ _ rfl (World.ownsRow_made w #[] 0 (Nat.le_refl _) (Nat.zero_le _) (by simp)) ⟨b,0,none⟩ n c (L.map U) rfl ?qc1 ?qc2 ?qc3 ?qc4 ?qc5 ?qc6 ?_)
 case qc1=>simp [A.out.1]
 case qc2 =>
  intro j u hj;have hj2:j<L.length:=by have:=(List.getElem?_eq_some_iff.1 hj).1;simpa using this
  rw [Addr.add_lit];refine Lib.cell?_alloc_some _ ?_;rw [Nat.zero_add,A.out.2.2 j hj2,←hj,List.getElem?_map,List.getElem?_eq_getElem hj2,List.getD_eq_getElem?_getD,List.getElem?_eq_getElem hj2];rfl
 case qc3=>intro u hu;obtain ⟨x,_,rfl⟩:=List.mem_map.1 hu;rfl
 case qc4=>unfold maxLen;omega
 case qc5=>omega
 case qc6=>simp
 intro v' w1 hown hgrow hnil;go_wp2;go_ret;refine ⟨v',rfl,by simpa using hown,hnil,?_⟩;exact ((Below.refl _ w).alloc (Nat.le_refl _) _).grown hgrow (by simp) (by intro k hk;simp [Value.ownBlock] at hk;omega)
theorem xor32s (a b:Nat) (ha:a<4294967296) (hb:b<4294967296):bits .xor .u32 (a:Int) (b:Int)=((a ^^^ b:Nat):Int):=by
 have hx:a ^^^ b<2^32:=Nat.xor_lt_two_pow (by omega) (by omega);show IntKind.u32.wrap ((BitVec.ofInt 32 (a:Int) ^^^ BitVec.ofInt 32 (b:Int)).toNat:Int)=_;rw [BitVec.toNat_xor,ofInt32 a ha,ofInt32 b hb,wrap_u32n];omega
theorem xor_max (x:Nat) (h:x<4294967296):bits BinOp.xor IntKind.u32 IntKind.u32.max (x:Int)=((4294967295-x:Nat):Int):=by
 have e:IntKind.u32.max=((4294967295:Nat):Int):=by decide
 rw [e,xor32s _ _ (by decide) h];congr 1;have h1:(BitVec.allOnes 32 ^^^ BitVec.ofNat 32 x)= ~~~ (BitVec.ofNat 32 x):=BitVec.allOnes_xor;have h2:=congrArg BitVec.toNat h1;simp only [BitVec.toNat_xor,BitVec.toNat_allOnes,BitVec.toNat_not,BitVec.toNat_ofNat] at h2;rw [Nat.mod_eq_of_lt (by omega)] at h2;exact h2
theorem turn_step (M L:List Nat) (k c s d:Nat) (hM:M.length=133) (hL:L.length=133) (hk:k<133) (hx:L.getD k 0<4294967296) (ho:∀ j,k≤j→M.getD j 0=L.getD j 0) (e:s+d*4294967296=c+(4294967295-L.getD k 0)) (h:sg M 0 k+c*pw k+sg L 0 k=pw k) :
 sg (M.set k s) 0 (k+1)+d*pw (k+1)+sg L 0 (k+1)=pw (k+1):=by
 have h1:=sg_set_last M 0 k s (by omega);rw [Nat.zero_add] at h1;rw [h1,sg_succ L 0 k (by omega),Nat.zero_add,pw_succ];have e2:(s+d*4294967296+L.getD k 0)*pw k=(c+4294967295)*pw k:=by congr 1;omega
 simp only [Nat.add_mul,Nat.mul_assoc] at e2;rw [Nat.mul_comm (pw k) s,Nat.mul_comm (pw k) (L.getD k 0)];omega
theorem turn_any (L:List Nat) (lo g cap:Nat) (w:World) (hl:L.length=133) (hL:Wf L) (hR:w.ownsRow lo 81 1 (.slice (some ⟨g,0,none⟩) 133 cap) 133 (L.map U)) :
 Calls Tryz.prog 108 #[.slice (some ⟨g,0,none⟩) 133 cap] w fun r w' =>
  r=.returned (.tuple #[])∧∃ M,w'.ownsRow lo 81 1 (.slice (some ⟨g,0,none⟩) 133 cap) 133 (M.map U)∧M.length=133∧Wf M∧val M=(PB-val L)%PB∧But g w w':=by
 have HR:Aside (Wf L∧L.length=133∧w.ownsRow lo 81 1 (.slice (some ⟨g,0,none⟩) 133 cap) 133 (L.map U)):=⟨hL,hl,hR⟩;clear hL hl hR;go_enter Tryz.func108,Tryz.ntmps108;go_wp2
 go_loopg [2,7] 133 (fun gk c i wr=>∃ (k cv:Nat) (M:List Nat),gk+k=133∧i=.int .i64 (k:Nat)∧c=.int .u64 (cv:Nat)∧cv<2 ∧
  Hid (wr.ownsRow lo 81 1 (.slice (some ⟨g,0,none⟩) 133 cap) 133 (M.map U))∧Aside (Wf M∧M.length=133∧(∀ j,k≤j→M.getD j 0=L.getD j 0)∧sg M 0 k+cv*pw k+sg L 0 k=pw k∧But g w wr))
 case atStart=>exact ⟨0,1,L,by omega,by simp,by simp,by omega,HR.out.2.2,HR.out.1,HR.out.2.1,fun _ _=>rfl,by simp [sg_zero],But.refl _ _⟩
 case round =>
  obtain ⟨k,cv,M,hgk,rfl,rfl,hcv,HM,HA⟩:=hrel
  by_cases hk:k<133
  · obtain ⟨hL,hl,hR⟩:=HR.out;obtain ⟨hMw,hMl,hMo,hMs,hbut⟩:=HA.out
    have hgc:wr.cell? ⟨g,k,none⟩=some (.int .u32 ((M.getD k 0:Nat):Int)):=by
     rw [HM.out.cellAt k (by omega)];simp [U,List.getD_eq_getElem?_getD,List.getElem?_eq_getElem (show k<M.length by omega)]
    have hgf:=HM.out.frozenAt k;obtain ⟨x,hx⟩:∃ x:Nat,M.getD k 0=x:=⟨_,rfl⟩;have hxl:x<4294967296:=hx ▸ hMw.get _;rw [hx] at hgc;obtain ⟨y,hy⟩:∃ y:Nat,y=4294967295-x:=⟨_,rfl⟩;have e1:bits BinOp.xor IntKind.u32 IntKind.u32.max (x:Int)=(y:Int):=by rw [xor_max x hxl,hy]
    have hyl:y<4294967296:=by omega
    have HX:Aside (M.getD k 0=x∧y=4294967295-x):=⟨hx,hy⟩;clear hy;clear hx hL hl hR hMw hMl hMo hMs hbut;obtain ⟨gk,rfl⟩:∃ k,gk=k+1:=⟨gk-1,by omega⟩;go_wp2;go_roundg gk
    case measure=>omega
    case rel =>
     obtain ⟨hL,hl,hR⟩:=HR.out;obtain ⟨hMw,hMl,hMo,hMs,hbut⟩:=HA.out;obtain ⟨hx,hy⟩:=HX.out;have e2:((cv:Int)+(y:Int))%4294967296=(((cv+y)%4294967296:Nat):Int):=by omega
     have e3:((cv:Int)+(y:Int))/4294967296=(((cv+y)/4294967296:Nat):Int):=by omega
     rw [wrap_u64n (y:Int) (by omega) (by omega),wrap_u64n ((cv:Int)+(y:Int)) (by omega) (by omega),e2];refine ⟨k+1,(cv+y)/4294967296,M.set k ((cv+y)%4294967296),by omega,by simp,by rw [e3],by omega,?_,hMw.set _ _ (Nat.mod_lt _ (by decide)),by simp [hMl],fun j hj=>by rw [getD_set_ne _ _ _ _ (by omega)];exact hMo j (by omega),?_,hbut.set k _⟩
     · rw [List.map_set];exact (HM.out.stored k _).1
     · have hLx:L.getD k 0=x:=by rw [←hMo k (Nat.le_refl _)];exact hx
       exact turn_step M L k cv _ _ hMl hl hk (by omega) hMo (by rw [hLx];omega) hMs
  · obtain rfl:k=133:=by omega
    go_wp2;refine bodyPost_end (v:=.tuple #[]) (by simp [results,Tryz.results108,go_sem]) rfl ?_;obtain ⟨hMw,hMl,hMo,hMs,hbut⟩:=HA.out;refine ⟨rfl,M,HM.out,hMl,hMw,?_,hbut⟩;have a1:=sg_all M;have a2:=sg_all L;rw [hMl] at a1;rw [HR.out.2.1] at a2;rw [a1,a2] at hMs;have hb:=val_lt_PB hMl hMw;have eP:pw 133=PB:=by unfold PB;rfl
    rw [eP] at hMs;have h2:PB-val L=val M+PB*cv:=by rw [Nat.mul_comm];omega
    rw [h2,Nat.add_mul_mod_self_left,Nat.mod_eq_of_lt hb]
def mag7 (N:Nat):Nat:=if neg7 N then PB-N else N
theorem row_arg {w:World}{lo cap:Nat}{L:List Nat}{g:Nat}(h:w.ownsRow lo 81 1 (.slice (some ⟨g,0,none⟩) 133 cap) 133 (L.map U)) (hl:L.length=133) (hL:Wf L):Arg w (some ⟨g,0,none⟩) 133 cap L:=by
 have hg:g<w.heap.size:=(h.lt g rfl).2
 have hc:133≤cap:=by
  rcases h.2 with ⟨h',_⟩|⟨g',cap',cur,h',_,_,hn,_⟩
  · simp at h'
  · simp only [Value.slice.injEq,Option.some.injEq,Addr.mk.injEq,and_true,true_and] at h';omega
 refine ⟨hl.symm,hc,by decide,hL,fun _=>⟨g,0,hg,rfl,fun i hi=>?_⟩,fun e=>by cases e⟩;rw [Nat.zero_add,h.cellAt i (by omega),List.getElem?_map,List.getElem?_eq_getElem hi,List.getD_eq_getElem?_getD,List.getElem?_eq_getElem hi];rfl
theorem size7_any (L:List Nat) (g:Nat) (w:World) (hl:L.length=133) (hL:Wf L) (hH:Hd w g L) :
 Calls Tryz.prog 78 #[.pointer (some ⟨g,0,none⟩)] w fun r w' =>
  ∃ b cap M,r=.returned (.slice (some ⟨b,0,none⟩) 133 cap)∧Arg w' (some ⟨b,0,none⟩) 133 cap M∧val M=mag7 (val L)∧Below w.heap.size w w':=by
 have HR:Aside (Wf L∧L.length=133∧Hd w g L):=⟨hL,hl,hH⟩;clear hL hl hH;go_enter Tryz.func78,Tryz.ntmps78;go_wp2_with fail;refine Calls.mono (clone_any g 133 133 L w HR.out.2.1 (by decide) HR.out.2.2) ?_;rintro r w1 ⟨v',rfl,hown,hnn,hb1⟩;have HO:Aside (w1.ownsRow w.heap.size 81 1 v' 133 (L.map U)∧Below w.heap.size w w1):=⟨hown,hb1⟩
 obtain ⟨b,cap,rfl⟩:∃ b cap,v'=.slice (some ⟨b,0,none⟩) 133 cap:=by
  rcases hown.2 with ⟨_,h⟩|⟨g',cap',cur,h,_⟩
  · cases h
  · exact ⟨g',cap',h⟩
 clear hown hnn hb1;go_wp2_with fail;obtain ⟨hL,hl,hH⟩:=HR.out;refine Calls.mono (below_any g L w1 hl hL (hH.below HO.out.2 hH.1 (Nat.le_refl _))) ?_;rintro r w2 ⟨rfl,rfl⟩;clear hL hl hH
 cases hn:neg7 (val L)
 · have HN:Aside (neg7 (val L)=false):=hn;clear hn;go_wp2;go_ret;obtain ⟨hL,hl,hH⟩:=HR.out;exact ⟨b,cap,L,rfl,row_arg HO.out.1 hl hL,by unfold mag7;rw [HN.out];rfl,HO.out.2⟩
 · have HN:Aside (neg7 (val L)=true):=hn;clear hn;go_wp2_with fail;obtain ⟨hL,hl,hH⟩:=HR.out;refine Calls.mono (turn_any L w.heap.size b cap w2 hl hL HO.out.1) ?_;rintro r w3 ⟨rfl,M,hM,hMl,hMw,hMv,hbut⟩;have HM:Aside (w3.ownsRow w.heap.size 81 1 (.slice (some ⟨b,0,none⟩) 133 cap) 133 (M.map U)∧M.length=133∧Wf M∧val M=(PB-val L)%PB∧But b w2 w3):=⟨hM,hMl,hMw,hMv,hbut⟩;clear hL hl hH hM hMl hMw hMv hbut;go_wp2;go_ret;obtain ⟨hM,hMl,hMw,hMv,hbut⟩:=HM.out;refine ⟨b,cap,M,rfl,row_arg hM hMl hMw,?_,But.below HO.out.2 hbut HO.out.2.size (HO.out.1.lt b rfl).1⟩;unfold mag7;rw [HN.out,hMv,if_pos rfl,Nat.mod_eq_of_lt];have h1:PB≤2*val L:=of_decide_eq_true HN.out;have:=PB_pos;omega
end
section
open Go.RowKit
theorem But.of_bel {g:Nat}{a w w':World}(h:But g a w) (hb:Below w.heap.size w w'):But g a w' :=
 h.trans ⟨hb.os,hb.tape,hb.output,hb.size,fun k hk _=>hb.block k hk⟩
structure Sp where
 (n u d m p a:Int)
def Sp.cells (s:Sp):List Value:=[.int .i64 s.n,.int .i64 s.u,.int .i64 s.d,.int .i64 s.m,.int .i64 s.p,.int .i64 s.a]
def Sp.agg (s:Sp):Value:=.agg #[.int .i64 s.n,.int .i64 s.u,.int .i64 s.d,.int .i64 s.m,.int .i64 s.p,.int .i64 s.a]
def Ac (w:World) (g:Nat) (L:List Nat) (s:Sp):Prop:=Bl w g 87 (L.map U++s.cells)
theorem Ac.lt {w:World}{g:Nat}{L:List Nat}{s:Sp}(h:Ac w g L s):g<w.heap.size:=Bl.lt h
theorem Ac.hd {w:World}{g:Nat}{L:List Nat}{s:Sp}(h:Ac w g L s):Hd w g L:=Bl.hd h
theorem Ac.cell {w:World}{g:Nat}{L:List Nat}{s:Sp}(h:Ac w g L s) (hl:L.length=133) (k:Nat) (v:Value) (hk:s.cells[k]?=some v):w.cell? ⟨g,133+k,none⟩=some v :=
 Bl.cell h _ _ (by rw [List.getElem?_append_right (by simp;omega)];simpa [hl] using hk)
theorem Ac.frozen {w:World}{g:Nat}{L:List Nat}{s:Sp}(h:Ac w g L s) (k:Nat):w.frozen? ⟨g,k,none⟩=false:=Bl.frozen h k
theorem Ac.below {w w':World}{g B:Nat}{L:List Nat}{s:Sp}(h:Ac w g L s) (hb:Below B w w') (hg:g<B):Ac w' g L s:=Bl.below h hb hg
theorem Ac.drew {w:World}{g:Nat}{L:List Nat}{s:Sp}(h:Ac w g L s):Ac w.drew g L s:=h
theorem Ac.alloc {w:World}{g:Nat}{L:List Nat}{s:Sp}(h:Ac w g L s) (o:Obj):Ac (w.alloc o) g L s:=Bl.alloc h o
theorem Ac.there {w:World}{g:Nat}{L:List Nat}{s:Sp}(h:Ac w g L s) (hl:L.length=133):w.there g 0 133:=Bl.there h 0 133 (by simp [hl])
theorem Ac.range {w:World}{g:Nat}{L:List Nat}{s:Sp}(h:Ac w g L s):w.rangeAt g 0 (L.map U):=Bl.range h 0 _ (fun j v hv=>by
 rw [Nat.zero_add,List.getElem?_append_left (List.getElem?_eq_some_iff.1 hv).1];exact hv)
theorem oneCell_Ul (L:List Nat):∀ v ∈ L.map U,v.oneCell'=true:=fun v hv=>by
 obtain ⟨x,_,rfl⟩:=List.mem_map.1 hv;rfl
theorem become_yes (g:Nat) (L M:List Nat) (s t:Sp) (w:World) (hA:Ac w g L s) (hl:L.length=133) (hM:Wf M) (hm:M.length=133) (hb:bey (val M)=false) :
 Calls Tryz.prog 70 #[.pointer (some ⟨g,0,none⟩),.agg (M.map U).toArray,t.agg] w fun r w' =>
  r=.returned (.int .i64 0)∧Ac w' g M t∧But g w w':=by
 obtain ⟨tn,tu,td,tm,tp,ta⟩:=t;simp only [Sp.agg];have HR:Aside (Ac w g L s∧L.length=133∧Wf M∧M.length=133∧bey (val M)=false):=⟨hA,hl,hM,hm,hb⟩;clear hA hl hM hm hb;go_enter Tryz.func70,Tryz.ntmps70;go_wp2_with fail;obtain ⟨w2,hw2⟩:∃ w2,w2=((w.alloc (Obj.cells (M.map U).toArray 83)).alloc (Obj.cells #[.int .i64 tn,.int .i64 tu,.int .i64 td,.int .i64 tm,.int .i64 tp,.int .i64 ta] 85)):=⟨_,rfl⟩;rw [←hw2]
 have H2:Aside (Ac w2 g L s∧Wb w2 w.heap.size M∧Bl w2 (w.heap.size+1) 85 [.int .i64 tn,.int .i64 tu,.int .i64 td,.int .i64 tm,.int .i64 tp,.int .i64 ta]∧Below w.heap.size w w2∧g<w.heap.size):=by
  subst hw2;refine ⟨(HR.out.1.alloc _).alloc _,((Bl.new w 83 (M.map U)).alloc _).wb,Bl.new' _ 85 _ [_,_,_,_,_,_] (by simp),(bel_alloc w _).trans ((bel_alloc _ _).mono (by simp)),HR.out.1.lt⟩
 clear hw2;refine Calls.mono (beyond_any w.heap.size M w2 HR.out.2.2.2.1 HR.out.2.2.1 H2.out.2.1.hd) ?_;rintro r w3 ⟨rfl,rfl⟩;rw [HR.out.2.2.2.2];go_wp2;have hne1:g≠w.heap.size:=Nat.ne_of_lt H2.out.2.2.2.2;have hne2:g≠w.heap.size+1:=by have:=H2.out.2.2.2.2;omega
 have hu:=Tryz.desc_words;have hsz:(Tryz.prog.info? 83).map (·.size)=some (M.map U).length:=by rw [Tryz.size_words,List.length_map,HR.out.2.2.2.1]
 have hlen:(M.map U).length=133:=by rw [List.length_map,HR.out.2.2.2.1]
 have hone:=oneCell_Ul M;obtain ⟨A2,B2,C2,_,hlt⟩:=H2.out;have hB0:But g w3 (w3.drew):=(But.refl _ _).drew;have hB1:But g w3 (w3.drew.setCells g 0 (M.map U)):=But.setCells _ _ hB0;have hB2:But g w3 (((((((w3.drew.setCells g 0 (M.map U)).setCell ⟨g,133,none⟩ (.int .i64 tn)).setCell ⟨g,134,none⟩ (.int .i64 tu)).setCell ⟨g,135,none⟩ (.int .i64 td)).setCell ⟨g,136,none⟩ (.int .i64 tm)).setCell ⟨g,137,none⟩ (.int .i64 tp)).setCell ⟨g,138,none⟩ (.int .i64 ta)):=(((((hB1.set _ _).set _ _).set _ _).set _ _).set _ _).set _ _
 have hA1:Bl (w3.drew.setCells g 0 (M.map U)) g 87 (M.map U++s.cells):=by
  have:=Bl.setCells (M.map U) 0 A2.drew (by simp [HR.out.2.1,HR.out.2.2.2.1]);rw [List.take_zero,List.nil_append,Nat.zero_add,List.drop_left' (by simp [HR.out.2.1,HR.out.2.2.2.1])] at this;exact this
 have hA2:Bl (((((((w3.drew.setCells g 0 (M.map U)).setCell ⟨g,133,none⟩ (.int .i64 tn)).setCell ⟨g,134,none⟩ (.int .i64 tu)).setCell ⟨g,135,none⟩ (.int .i64 td)).setCell ⟨g,136,none⟩ (.int .i64 tm)).setCell ⟨g,137,none⟩ (.int .i64 tp)).setCell ⟨g,138,none⟩ (.int .i64 ta)) g 87 (M.map U++[.int .i64 tn,.int .i64 tu,.int .i64 td,.int .i64 tm,.int .i64 tp,.int .i64 ta]):=by
  have:=(((((hA1.set 133 (.int .i64 tn)).set 134 (.int .i64 tu)).set 135 (.int .i64 td)).set 136 (.int .i64 tm)).set 137 (.int .i64 tp)).set 138 (.int .i64 ta);have hm:=HR.out.2.2.2.1;simpa [List.set_append,hm,Sp.cells] using this
 have kS0:Aside ((w3.drew).rangeAt w.heap.size 0 (M.map U)∧(w3.drew).there g 0 133∧(w3.drew).cell? ⟨w.heap.size+1,0,none⟩=some (.int .i64 tn)∧(w3.drew).cell? ⟨w.heap.size+1,1,none⟩=some (.int .i64 tu)∧(w3.drew).cell? ⟨w.heap.size+1,2,none⟩=some (.int .i64 td)∧(w3.drew).cell? ⟨w.heap.size+1,3,none⟩=some (.int .i64 tm)∧(w3.drew).cell? ⟨w.heap.size+1,4,none⟩=some (.int .i64 tp)∧(w3.drew).cell? ⟨w.heap.size+1,5,none⟩=some (.int .i64 ta)) :=
  ⟨(Bl.but B2.bl hB0 (by omega)).range 0 _ (fun j v hv=>by simpa using hv),A2.drew.there HR.out.2.1,(Bl.but C2 hB0 (by omega)).cell 0 _ rfl,(Bl.but C2 hB0 (by omega)).cell 1 _ rfl,(Bl.but C2 hB0 (by omega)).cell 2 _ rfl,(Bl.but C2 hB0 (by omega)).cell 3 _ rfl,(Bl.but C2 hB0 (by omega)).cell 4 _ rfl,(Bl.but C2 hB0 (by omega)).cell 5 _ rfl⟩
 have kS1:Aside ((w3.drew.setCells g 0 (M.map U)).rangeAt w.heap.size 0 (M.map U)∧(w3.drew.setCells g 0 (M.map U)).there g 0 133∧(w3.drew.setCells g 0 (M.map U)).cell? ⟨w.heap.size+1,0,none⟩=some (.int .i64 tn)∧(w3.drew.setCells g 0 (M.map U)).cell? ⟨w.heap.size+1,1,none⟩=some (.int .i64 tu)∧(w3.drew.setCells g 0 (M.map U)).cell? ⟨w.heap.size+1,2,none⟩=some (.int .i64 td)∧(w3.drew.setCells g 0 (M.map U)).cell? ⟨w.heap.size+1,3,none⟩=some (.int .i64 tm)∧(w3.drew.setCells g 0 (M.map U)).cell? ⟨w.heap.size+1,4,none⟩=some (.int .i64 tp)∧(w3.drew.setCells g 0 (M.map U)).cell? ⟨w.heap.size+1,5,none⟩=some (.int .i64 ta)) :=
  ⟨(Bl.but B2.bl hB1 (by omega)).range 0 _ (fun j v hv=>by simpa using hv),Bl.there hA1 0 133 (by simp [HR.out.2.2.2.1]),(Bl.but C2 hB1 (by omega)).cell 0 _ rfl,(Bl.but C2 hB1 (by omega)).cell 1 _ rfl,(Bl.but C2 hB1 (by omega)).cell 2 _ rfl,(Bl.but C2 hB1 (by omega)).cell 3 _ rfl,(Bl.but C2 hB1 (by omega)).cell 4 _ rfl,(Bl.but C2 hB1 (by omega)).cell 5 _ rfl⟩
 have kS2:Aside (((((((((w3.drew.setCells g 0 (M.map U)).setCell ⟨g,133,none⟩ (.int .i64 tn)).setCell ⟨g,134,none⟩ (.int .i64 tu)).setCell ⟨g,135,none⟩ (.int .i64 td)).setCell ⟨g,136,none⟩ (.int .i64 tm)).setCell ⟨g,137,none⟩ (.int .i64 tp)).setCell ⟨g,138,none⟩ (.int .i64 ta))).rangeAt w.heap.size 0 (M.map U)∧((((((((w3.drew.setCells g 0 (M.map U)).setCell ⟨g,133,none⟩ (.int .i64 tn)).setCell ⟨g,134,none⟩ (.int .i64 tu)).setCell ⟨g,135,none⟩ (.int .i64 td)).setCell ⟨g,136,none⟩ (.int .i64 tm)).setCell ⟨g,137,none⟩ (.int .i64 tp)).setCell ⟨g,138,none⟩ (.int .i64 ta))).there g 0 133∧((((((((w3.drew.setCells g 0 (M.map U)).setCell ⟨g,133,none⟩ (.int .i64 tn)).setCell ⟨g,134,none⟩ (.int .i64 tu)).setCell ⟨g,135,none⟩ (.int .i64 td)).setCell ⟨g,136,none⟩ (.int .i64 tm)).setCell ⟨g,137,none⟩ (.int .i64 tp)).setCell ⟨g,138,none⟩ (.int .i64 ta))).cell? ⟨w.heap.size+1,0,none⟩=some (.int .i64 tn)∧((((((((w3.drew.setCells g 0 (M.map U)).setCell ⟨g,133,none⟩ (.int .i64 tn)).setCell ⟨g,134,none⟩ (.int .i64 tu)).setCell ⟨g,135,none⟩ (.int .i64 td)).setCell ⟨g,136,none⟩ (.int .i64 tm)).setCell ⟨g,137,none⟩ (.int .i64 tp)).setCell ⟨g,138,none⟩ (.int .i64 ta))).cell? ⟨w.heap.size+1,1,none⟩=some (.int .i64 tu)∧((((((((w3.drew.setCells g 0 (M.map U)).setCell ⟨g,133,none⟩ (.int .i64 tn)).setCell ⟨g,134,none⟩ (.int .i64 tu)).setCell ⟨g,135,none⟩ (.int .i64 td)).setCell ⟨g,136,none⟩ (.int .i64 tm)).setCell ⟨g,137,none⟩ (.int .i64 tp)).setCell ⟨g,138,none⟩ (.int .i64 ta))).cell? ⟨w.heap.size+1,2,none⟩=some (.int .i64 td)∧((((((((w3.drew.setCells g 0 (M.map U)).setCell ⟨g,133,none⟩ (.int .i64 tn)).setCell ⟨g,134,none⟩ (.int .i64 tu)).setCell ⟨g,135,none⟩ (.int .i64 td)).setCell ⟨g,136,none⟩ (.int .i64 tm)).setCell ⟨g,137,none⟩ (.int .i64 tp)).setCell ⟨g,138,none⟩ (.int .i64 ta))).cell? ⟨w.heap.size+1,3,none⟩=some (.int .i64 tm)∧((((((((w3.drew.setCells g 0 (M.map U)).setCell ⟨g,133,none⟩ (.int .i64 tn)).setCell ⟨g,134,none⟩ (.int .i64 tu)).setCell ⟨g,135,none⟩ (.int .i64 td)).setCell ⟨g,136,none⟩ (.int .i64 tm)).setCell ⟨g,137,none⟩ (.int .i64 tp)).setCell ⟨g,138,none⟩ (.int .i64 ta))).cell? ⟨w.heap.size+1,4,none⟩=some (.int .i64 tp)∧((((((((w3.drew.setCells g 0 (M.map U)).setCell ⟨g,133,none⟩ (.int .i64 tn)).setCell ⟨g,134,none⟩ (.int .i64 tu)).setCell ⟨g,135,none⟩ (.int .i64 td)).setCell ⟨g,136,none⟩ (.int .i64 tm)).setCell ⟨g,137,none⟩ (.int .i64 tp)).setCell ⟨g,138,none⟩ (.int .i64 ta))).cell? ⟨w.heap.size+1,5,none⟩=some (.int .i64 ta)) :=
  ⟨(Bl.but B2.bl hB2 (by omega)).range 0 _ (fun j v hv=>by simpa using hv),Bl.there hA2 0 133 (by simp [HR.out.2.2.2.1]),(Bl.but C2 hB2 (by omega)).cell 0 _ rfl,(Bl.but C2 hB2 (by omega)).cell 1 _ rfl,(Bl.but C2 hB2 (by omega)).cell 2 _ rfl,(Bl.but C2 hB2 (by omega)).cell 3 _ rfl,(Bl.but C2 hB2 (by omega)).cell 4 _ rfl,(Bl.but C2 hB2 (by omega)).cell 5 _ rfl⟩
 have o0:=hA1.cell 133 _ (by rw [List.getElem?_append_right (by simp [HR.out.2.2.2.1])];simp [HR.out.2.2.2.1,Sp.cells];rfl);have f0:=hA1.frozen 133;have o1:=hA1.cell 134 _ (by rw [List.getElem?_append_right (by simp [HR.out.2.2.2.1])];simp [HR.out.2.2.2.1,Sp.cells];rfl);have f1:=hA1.frozen 134;have o2:=hA1.cell 135 _ (by rw [List.getElem?_append_right (by simp [HR.out.2.2.2.1])];simp [HR.out.2.2.2.1,Sp.cells];rfl);have f2:=hA1.frozen 135;have o3:=hA1.cell 136 _ (by rw [List.getElem?_append_right (by simp [HR.out.2.2.2.1])];simp [HR.out.2.2.2.1,Sp.cells];rfl);have f3:=hA1.frozen 136;have o4:=hA1.cell 137 _ (by rw [List.getElem?_append_right (by simp [HR.out.2.2.2.1])];simp [HR.out.2.2.2.1,Sp.cells];rfl);have f4:=hA1.frozen 137;have o5:=hA1.cell 138 _ (by rw [List.getElem?_append_right (by simp [HR.out.2.2.2.1])];simp [HR.out.2.2.2.1,Sp.cells];rfl);have f5:=hA1.frozen 138;have fw0:=H2.out.1.frozen 133;have fw1:=H2.out.1.frozen 134;have fw2:=H2.out.1.frozen 135;have fw3:=H2.out.1.frozen 136;have fw4:=H2.out.1.frozen 137;have fw5:=H2.out.1.frozen 138;have HE:Aside (Ac (((((((w3.drew.setCells g 0 (M.map U)).setCell ⟨g,133,none⟩ (.int .i64 tn)).setCell ⟨g,134,none⟩ (.int .i64 tu)).setCell ⟨g,135,none⟩ (.int .i64 td)).setCell ⟨g,136,none⟩ (.int .i64 tm)).setCell ⟨g,137,none⟩ (.int .i64 tp)).setCell ⟨g,138,none⟩ (.int .i64 ta)) g M ⟨tn,tu,td,tm,tp,ta⟩∧But g w3 (((((((w3.drew.setCells g 0 (M.map U)).setCell ⟨g,133,none⟩ (.int .i64 tn)).setCell ⟨g,134,none⟩ (.int .i64 tu)).setCell ⟨g,135,none⟩ (.int .i64 td)).setCell ⟨g,136,none⟩ (.int .i64 tm)).setCell ⟨g,137,none⟩ (.int .i64 tp)).setCell ⟨g,138,none⟩ (.int .i64 ta))):=⟨hA2,hB2⟩;clear A2 B2 C2 hB0 hB1 hB2 hA1 hA2
 go_region_held (fun w'=>(w').rangeAt w.heap.size 0 (M.map U)∧(w').there g 0 133∧(w').cell? ⟨w.heap.size+1,0,none⟩=some (.int .i64 tn)∧(w').cell? ⟨w.heap.size+1,1,none⟩=some (.int .i64 tu)∧(w').cell? ⟨w.heap.size+1,2,none⟩=some (.int .i64 td)∧(w').cell? ⟨w.heap.size+1,3,none⟩=some (.int .i64 tm)∧(w').cell? ⟨w.heap.size+1,4,none⟩=some (.int .i64 tp)∧(w').cell? ⟨w.heap.size+1,5,none⟩=some (.int .i64 ta)) (first | with_reducible exact kS2.out | with_reducible exact kS1.out | with_reducible exact kS0.out) (fail)
 clear kS0 kS1 kS2 o0 o1 o2 o3 o4 o5 f0 f1 f2 f3 f4 f5 fw0 fw1 fw2 fw3 fw4 fw5 hsz hone hlen hu;go_wp2;go_ret;exact ⟨rfl,HE.out.1,((But.refl g w).of_bel H2.out.2.2.2.1).trans HE.out.2⟩
theorem become_no (g:Nat) (L M:List Nat) (s t:Sp) (w:World) (hA:Ac w g L s) (hM:Wf M) (hm:M.length=133) (hb:bey (val M)=true) :
 Calls Tryz.prog 70 #[.pointer (some ⟨g,0,none⟩),.agg (M.map U).toArray,t.agg] w fun r w' =>
  r=.returned (.int .i64 2)∧Below w.heap.size w w':=by
 obtain ⟨tn,tu,td,tm,tp,ta⟩:=t;simp only [Sp.agg];have HR:Aside (Wf M∧M.length=133∧bey (val M)=true):=⟨hM,hm,hb⟩;clear hA hM hm hb;go_enter Tryz.func70,Tryz.ntmps70;go_wp2_with fail;obtain ⟨w2,hw2⟩:∃ w2,w2=((w.alloc (Obj.cells (M.map U).toArray 83)).alloc (Obj.cells #[.int .i64 tn,.int .i64 tu,.int .i64 td,.int .i64 tm,.int .i64 tp,.int .i64 ta] 85)):=⟨_,rfl⟩;rw [←hw2]
 have H2:Aside (Wb w2 w.heap.size M∧Below w.heap.size w w2):=by
  subst hw2;exact ⟨((Bl.new w 83 (M.map U)).alloc _).wb,(bel_alloc w _).trans ((bel_alloc _ _).mono (by simp))⟩
 clear hw2;refine Calls.mono (beyond_any w.heap.size M w2 HR.out.2.1 HR.out.1 H2.out.1.hd) ?_;rintro r w3 ⟨rfl,rfl⟩;rw [HR.out.2.2];go_wp2;go_ret;exact ⟨rfl,H2.out.2⟩
end
section
open Go.RowKit
def Sp.ok (s:Sp):Prop:=(-4398046511104≤s.n∧s.n≤4398046511104)∧(-4398046511104≤s.u∧s.u≤4398046511104)∧(-4398046511104≤s.d∧s.d≤4398046511104)∧(-4398046511104≤s.m∧s.m≤4398046511104)∧(-4398046511104≤s.p∧s.p≤4398046511104)∧(-4398046511104≤s.a∧s.a≤4398046511104)
def Sp.cnt (s:Sp) (k:Nat) (c:Int):Sp :=
 ⟨if k=1 then s.n+c else s.n,if k=2 then s.u+c else s.u,if k=3 then s.d+c else s.d,if k=4 then s.m+c else s.m,if k=5 then s.p+c else s.p,s.a+c⟩
theorem signed_any (b:Bool) (x y:Int) (w:World):Calls Tryz.prog 100 #[.bool b,.int .i64 x,.int .i64 y] w fun r w'=>r=.returned (.int .i64 (if b then x else y))∧w'=w:=by
 cases b
 · go_enter Tryz.func100,Tryz.ntmps100;go_wp2;go_ret;exact ⟨rfl,rfl⟩
 · go_enter Tryz.func100,Tryz.ntmps100;go_wp2;go_ret;exact ⟨rfl,rfl⟩
theorem counted_any (s:Sp) (k:Nat) (c:Int) (w:World) (hk:k≤5) (hs:s.ok) (hc0:-1≤c) (hc1:c≤1):Calls Tryz.prog 72 #[s.agg,.int .i64 (k:Nat),.int .i64 c] w fun r w'=>r=.returned (s.cnt k c).agg∧Below w.heap.size w w':=by
 obtain ⟨n,u,d,m,p,a⟩:=s;obtain ⟨h0,h1,h2,h3,h4,h5⟩:=hs;simp only [Sp.agg] at *;have hc:k=0∨k=1∨k=2∨k=3∨k=4∨k=5:=by omega
 rcases hc with rfl|rfl|rfl|rfl|rfl|rfl
 all_goals (
  go_enter Tryz.func72,Tryz.ntmps72;go_wp2
  exact bodyPost_ret (v:=(Sp.cnt ⟨n,u,d,m,p,a⟩ _ c).agg) (by simp [results,Tryz.results72,go_sem,Sp.agg,Sp.cnt]) rfl ⟨rfl,(bel_alloc _ _).trans ((bel_alloc _ _).mono (by simp))⟩)
end
end Go.Proofs.YtepkabljmpbmaaaGreatDoor
