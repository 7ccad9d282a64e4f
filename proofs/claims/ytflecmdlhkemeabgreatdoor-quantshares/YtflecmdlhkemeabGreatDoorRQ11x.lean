import Derived.Test.YtflecmdlhkemeabGreatDoorRQ4x
import Derived.Test.YtflecmdlhkemeabGreatDoorD30x
import Derived.BigQuiet
import Derived.Test.YtflecmdlhkemeabGreatDoorF11x
import Derived.Test.YtflecmdlhkemeabGreatDoorRS9x
set_option linter.unusedVariables false
set_option linter.unusedSimpArgs false
set_option maxHeartbeats 16000000
set_option maxRecDepth 20000
namespace Go.Proofs.YtflecmdlhkemeabGreatDoor
namespace J
end J
section
open Go Go.RowKit J
theorem g_parts16 {u k:Nat}{V:Int}(hu:u≤100000) (hV:V≠0) (hk:k≤90000) (hb:Bd k V):∃ X e,gV u V=some (decide (V<0),X,e)∧X%2=1∧-(u:Int)≤e∧e≤200000∧X*2^(e+(u:Int)).toNat=V.natAbs∧bl X≤262144∧Frm (decide (V<0)) X e:=by
 obtain ⟨n,X,e,ho,F,hx⟩:=g_iv (u:=u) hu (by omega) hb
 have hm:mkS (decide (V<0)) V.natAbs (-(u:Int))=some (n,X,e):=ho;have hz:=zv_mkS hm (-(u:Int)) (.inr (by omega))
 unfold zv at hz;simp only at hz;rw [show (-(u:Int) - -(u:Int)).toNat=0 by omega,Nat.pow_zero,Nat.mul_one] at hz
 have hX0:X≠0:=by
  rintro rfl;simp [sg1] at hz
  split at hz <;> omega
 have hp:0<X*2^(e - -(u:Int)).toNat:=Nat.mul_pos (by omega) (Nat.two_pow_pos _)
 rcases hx with h|⟨h1,h2⟩
 · exact absurd h hX0
 have hn:n=decide (V<0):=by
  by_cases hs:V<0
  · rw [decide_eq_true hs] at hz ⊢
    cases n with
    | true=>rfl
    | false=>simp only [sg1,if_true,Bool.false_eq_true,if_false] at hz;omega
  · rw [decide_eq_false hs] at hz ⊢
    cases n with
    | false=>rfl
    | true=>simp only [sg1,if_true,Bool.false_eq_true,if_false] at hz;omega
 rw [hn] at hz ho F
 have hv:X*2^(e - -(u:Int)).toNat=V.natAbs:=by
  by_cases hs:V<0
  · rw [decide_eq_true hs] at hz;simp only [sg1,if_true] at hz;omega
  · rw [decide_eq_false hs] at hz;simp only [sg1,Bool.false_eq_true,if_false] at hz;omega
 refine ⟨X,e,ho,?_,h1,by omega,?_,by omega,F⟩
 · rcases F.odd with q | q
   · exact q
   · exact absurd q.1 hX0
 · rw [show (e+(u:Int)).toNat=(e - -(u:Int)).toNat by congr 1;omega]
   exact hv
theorem rat16 {x S V S' V':Nat}(hS:0<S) (hS':0<S') (e:V*S'=V'*S):(x*S<V↔x*S'<V')∧(x*S=V↔x*S'=V')∧(V<x*S↔V'<x*S'):=by
 have a1:x*S*S'=x*S'*S:=by rw [Nat.mul_assoc,Nat.mul_comm S,←Nat.mul_assoc]
 have t1:x*S<V↔x*S*S'<V*S':=(Nat.mul_lt_mul_right hS').symm;have t2:x*S'<V'↔x*S'*S<V'*S:=(Nat.mul_lt_mul_right hS).symm;have t3:V<x*S↔V*S'<x*S*S':=(Nat.mul_lt_mul_right hS').symm;have t4:V'<x*S'↔V'*S<x*S'*S:=(Nat.mul_lt_mul_right hS).symm;rw [t1,t2,t3,t4,a1,e];refine ⟨Iff.rfl,?_,Iff.rfl⟩;rw [a1,e] at t1;rw [a1,e] at t3;omega
theorem LiesG.ratio16 {v:Nat→Nat}{top n K:Nat}{t:Bool}{m:Int}{V S V' S':Nat}(h:LiesG v top n K t m V S) (hS':0<S') (e:V*S'=V'*S):LiesG v top n K t m V' S':=by
 obtain ⟨h1,h2,h3,h4,h5,h6⟩:=h;have e2:(2^n*V)*S'=(2^n*V')*S:=by rw [Nat.mul_assoc,e,Nat.mul_assoc]
 refine ⟨h1,hS',fun a=>((rat16 h2 hS' e).2.1.1 (h3 a).symm).symm,fun a=>(rat16 h2 hS' e).1.1 (h4 a),fun a b=>?_,fun a=>?_⟩
 · have:=h5 a ((rat16 h2 hS' e).2.2.2 b)
   obtain ⟨r1,r2,r3⟩:=rat16 (x:=(v K+v (K+1))^n) h2 hS' e2
   rcases this with ⟨q,r⟩|⟨q,r⟩|⟨q,r⟩
   · exact .inl ⟨q,r3.1 r⟩
   · exact .inr (.inl ⟨q,(r2.1 r.symm).symm⟩)
   · exact .inr (.inr ⟨q,r1.1 r⟩)
 · rcases h6 a with q | q
   · exact .inl ((rat16 h2 hS' e).2.2.1 q)
   · exact .inr q
theorem qR_ok16 {u v k:Nat}{V D:Int}(hu:u≤100000) (hv:v≤100000) (hk:k≤90000) (hV:V≠0) (hD:0<D) (bV:Bd k V) (bD:Bd k D) :
 ∃ K t m,(∀ j,j=1074→LiesG vK 9218868437227405312 1 K t m (V.natAbs*2^(j+v)) (D.natAbs*2^u))∧∀ mode:Int,0≤mode→mode≤4→qR16 (gV u V) (gV v D) mode=(rK mode (decide (V<0)) K t m+(if V<0 then 9223372036854775808 else 0),0):=by
 obtain ⟨Y,f,ho2,hY,hf0,hf1,hv2,hbl2,F2⟩:=g_parts16 (u:=v) (V:=D) hv (by omega) hk bD
 rw [decide_eq_false (by omega)] at ho2 F2
 obtain ⟨X,e,ho,hX,he0,he1,hvv,hbl,F⟩:=g_parts16 (u:=u) (V:=V) hu hV hk bV;have hm1:mkS (decide (V<0)) X e=some (decide (V<0),X,e):=mkS_idem F;have hm2:mkS false Y f=some (false,Y,f):=mkS_idem F2;obtain ⟨K,t,m,hL,hR⟩:=quo64 (decide (V<0)) X e Y f hX (by omega) hbl hbl2
 refine ⟨K,t,m,fun j hj=>?_,fun mode hm0 hm4=>?_⟩
 · refine hL.ratio16 (Nat.mul_pos (by omega) (Nat.two_pow_pos _)) ?_
   unfold rV11 rS11;rw [←hvv,←hv2]
   have e1:X*2^(e-f+((1*1074:Nat):Int)).toNat*(Y*2^(f+(v:Int)).toNat*2^u)=X*Y*(2^((e-f+((1*1074:Nat):Int)).toNat+((f+(v:Int)).toNat+u))):=by
    rw [Nat.pow_add,Nat.pow_add,Nat.mul_assoc Y,Nat.mul_mul_mul_comm]
   have e2:X*2^(e+(u:Int)).toNat*2^(j+v)*(Y*2^(-(e-f+((1*1074:Nat):Int))).toNat)=X*Y*(2^((e+(u:Int)).toNat+(j+v)+(-(e-f+((1*1074:Nat):Int))).toNat)):=by
    rw [Nat.pow_add _ (_+_),Nat.pow_add _ (e+(u:Int)).toNat,Nat.mul_assoc X,Nat.mul_mul_mul_comm]
   rw [e1,e2]
   congr 2
   omega
 · unfold qR16
   rw [ho,ho2]
   show quoR rndS ⟨decide (V<0),.bool false,X,e,false,.bool false,Y,f⟩ mode=_
   unfold quoR;rw [if_neg (by omega),if_pos (by rw [errL_one];show errN X (decide (V<0)) e Y false f=0;unfold errN;rw [if_neg (by unfold sgn;simp;split <;> omega),hm1,hm2];simp [dX];omega),hm1,hm2]
   have:=hR mode hm0 hm4;simp only [decide_eq_true_eq] at this;exact this
theorem own13 {V W:Int}(hV:V≠0) (hW:0<W) (k:Nat) (hk:k≤90000) (hb:V.natAbs<2^k) (hb2:W.natAbs<2^k) (L:Nat) (hL:L<9218868437227405312) (e:∀ j,j=1074→V.natAbs*2^j=vK L*W.natAbs) (mode:Int) (hm0:0≤mode) (hm4:mode≤4) :
 qvR V W mode=(L+(if V<0 then 9223372036854775808 else 0),0):=by
 obtain ⟨K,t,m,hL1,hR⟩:=quot_lies hV hW k hk hb hb2;rw [hR mode hm0 hm4,rK_own mode _ (hL1 1074 rfl) L hL (e 1074 rfl)]
theorem lev_own {xs:List Nat}{s:Sp}{mode:Int}(hW:W64 xs) (hl:xs.length≤65536) (hne:xs≠[]) (hV:vS xs≠0) (hm0:0≤mode) (hm4:mode≤4) (L:Nat) (hL:L<9218868437227405312) (e:∀ j k,j=1074→k=2148→(vS xs).natAbs*2^j=vK L*(xs.length*2^k)) :
 levR xs s mode=(L+(if vS xs<0 then 9223372036854775808 else 0),0):=by
 unfold levR;obtain ⟨k,hk⟩:∃ k:Nat,k=2148:=⟨_,rfl⟩;obtain ⟨j,hj,hb⟩:=vS_bd hW hl;obtain ⟨j2,hj2,hb2⟩:=lenW_bd xs.length hl k hk;rw [if_neg hne,if_neg hV,qn_qv _ _ _ k hk];have hp:0<xs.length:=List.length_pos_iff.2 hne;have hpk:=Nat.two_pow_pos k;refine own13 hV ?_ j (by omega) hb (by rw [hj,←hj2];exact hb2) L hL ?_ mode hm0 hm4
 · rw [←Int.natCast_mul];have:=Nat.mul_pos hp hpk;omega
 · intro i hi
   rw [←Int.natCast_mul,Int.natAbs_natCast];exact e i k hi hk
theorem lit13 (w:World) (xs:List Nat) (g:Nat) (hg:g=w.heap.size):Fs (w.alloc (Obj.cells (xs.map fun x=>Value.float .f64 x).toArray 30)).heap.size (w.alloc (Obj.cells (xs.map fun x=>Value.float .f64 x).toArray 30)) (some ⟨g,0,none⟩) xs:=by
 intro _;refine ⟨g,0,by simp;omega,rfl,fun i hi=>?_⟩
 have hB:=Bl.new w 30 (xs.map fun x=>Value.float .f64 x)
 rw [hg];refine (hB.cell (0+i) (.float .f64 (xs.getD i 0)) ?_);rw [Nat.zero_add,List.getElem?_map,List.getD_eq_getElem?_getD,List.getElem?_eq_getElem hi]
 rfl
theorem mid2030:midR 4626322717216342016 4629137466983448576 0=(4627730092099895296,0):=by
 have e1:askE 0=0:=by decide
 have e2:plE [4626322717216342016,4629137466983448576]=0:=by decide +kernel
 have hp:decide (0<vS [4626322717216342016,4629137466983448576])=true:=by decide +kernel
 have hp:=of_decide_eq_true hp;have e5:=lev_own (xs:=[4626322717216342016,4629137466983448576]) (s:=sS [4626322717216342016,4629137466983448576]) (mode:=0) (by unfold W64;decide) (by decide) (by decide) (by omega) (by decide) (by decide) 4627730092099895296 (by decide) (fun j k hj hk=>by subst hj hk;decide +kernel)
 unfold midR plnR;rw [e1,if_pos rfl,e2,if_pos rfl,e5,if_neg (by omega)]
 rfl
theorem lnV_bd16 {low high rest den:Nat}(hl:low<18446744073709551616) (fl:finW low) (hh:high<18446744073709551616) (fh:finW high) (hd:den≤2147483648) (hr:rest≤den):∃ k:Nat,k=2130∧Bd k (lnV low high rest den):=by
 obtain ⟨z,hz⟩:∃ z,z=2098:=⟨_,rfl⟩;obtain ⟨k,hk⟩:∃ z,z=31:=⟨_,rfl⟩;have b1:=bd_fv16 hl fl z hz;have b2:=bd_fv16 hh fh z hz;have bn:∀ n:Nat,n≤2147483648→Bd k (n:Int):=fun n hn=>by unfold Bd;rw [Int.natAbs_natCast,hk];exact hn
 exact ⟨_,by omega,(b1.mul (bn (den-rest) (by omega))).add (b2.mul (bn rest (by omega)))⟩
theorem ln1020:lnR 4621819117588971520 4626322717216342016 3 4 0=4625619029774565376:=by
 obtain ⟨V,hV⟩:∃ V,V=lnV 4621819117588971520 4626322717216342016 3 4:=⟨_,rfl⟩;have hp:decide (0<lnV 4621819117588971520 4626322717216342016 3 4)=true:=by decide +kernel
 have hp:=of_decide_eq_true hp;obtain ⟨k,hk,hb⟩:=lnV_bd16 (low:=4621819117588971520) (high:=4626322717216342016) (rest:=3) (den:=4) (by decide) (by unfold finW magW;decide) (by decide) (by unfold finW magW;decide) (by decide) (by decide)
 have hq:∀ j,j=1074→V.natAbs*2^(j+0)=vK 4625619029774565376*((4:Int).natAbs*2^1074):=fun j hj=>by subst hj hV;decide +kernel
 rw [←hV] at hp hb;obtain ⟨K,t,m,h1,h2⟩:=qR_ok16 (u:=1074) (v:=0) (k:=k) (V:=V) (D:=4) (by omega) (by omega) (by omega) (by omega) (by decide) hb (by unfold Bd;exact Nat.le_trans (by decide) (Nat.pow_le_pow_right (n:=2) (by decide) (show 2≤k by omega)))
 unfold lnR;rw [←hV,if_neg (by omega),show ((4:Nat):Int)=4 from rfl,h2 0 (by decide) (by decide),if_neg (by omega)]
 have:=rK_own 0 (decide (V<0)) (h1 1074 rfl).lies 4625619029774565376 (by decide) (hq 1074 rfl)
 rw [this]
theorem row_eq16 {xs M:List Nat}(hP:M.Perm (List.range xs.length)) (hU:M.Pairwise (fun a b=>leI xs a b=true)):M=rowL xs :=
 List.Perm.eq_of_pairwise (le:=fun a b=>leI xs a b=true) (fun a b ha hb h1 h2=>leI_anti xs a b h1 h2) hU (rowI_sorted xs _) (hP.trans (rowL_perm xs).symm)
theorem sort16:sortL [4621819117588971520,4630826316843712512,4626322717216342016,4629137466983448576]=[4621819117588971520,4626322717216342016,4629137466983448576,4630826316843712512]:=by
 have e:[0,2,3,1]=rowL [4621819117588971520,4630826316843712512,4626322717216342016,4629137466983448576]:=row_eq16 (by decide) (by decide +kernel)
 unfold sortL;rw [←e]
 decide +kernel
theorem am16:amE [4621819117588971520,4630826316843712512,4626322717216342016,4629137466983448576] false=0:=by decide +kernel
theorem qu16:quR [4621819117588971520,4630826316843712512,4626322717216342016,4629137466983448576] 1 4 4 0=(4625619029774565376,0):=by
 unfold quR;rw [if_neg (by decide),am16,if_pos rfl,sort16]
 unfold telR;rw [if_neg (by decide),if_neg (by decide),if_neg (by decide),if_neg (by decide),if_neg (by decide)]
 show (lnR 4621819117588971520 4626322717216342016 3 4 0,(0:Int))=_
 rw [ln1020]
theorem sv16:(sevTo [4621819117588971520,4630826316843712512,4626322717216342016,4629137466983448576] 2 3 0 3).getD 1 0=4627730092099895296:=by
 unfold sevTo
 show telR (sortL [4621819117588971520,4630826316843712512,4626322717216342016,4629137466983448576]) 1 2 3 0=_
 rw [sort16];unfold telR;rw [if_neg (by decide),if_neg (by decide),if_neg (by decide),if_neg (by decide),if_pos rfl]
 show (midR 4626322717216342016 4629137466983448576 0).1=_
 rw [mid2030]
theorem ct16:cntS [4621819117588971520,4630826316843712512,4626322717216342016,4629137466983448576] 4626322717216342016=2:=by decide +kernel
end
section
open Go Go.RowKit J
open Go.Proofs.YtflecmdlhkemeabGreatDoor.B (f64bits f64frombits)
attribute [local go_sem] st_float f64bits f64frombits
abbrev l16:List Nat:=[4621819117588971520,4630826316843712512,4626322717216342016,4629137466983448576]
theorem live16 (w:World) (hT:Tab w):Calls Tryz.prog 9 #[] w fun r w'=>r=.returned (.bool true)∧Below w.heap.size w w':=by
 have o1:(FloatKind.f64.format.order 4625619029774565376 4625619029774565376==some .eq)=true:=by decide +kernel
 have o2:(FloatKind.f64.format.order 4627730092099895296 4627730092099895296==some .eq)=true:=by decide +kernel
 obtain ⟨W1,hW1⟩:∃ W,W=w.alloc (Obj.cells #[.float .f64 4621819117588971520,.float .f64 4630826316843712512,.float .f64 4626322717216342016,.float .f64 4629137466983448576] 30):=⟨_,rfl⟩;obtain ⟨g,hg⟩:∃ g,g=w.heap.size:=⟨_,rfl⟩
 have B1:Aside (Below w.heap.size w W1∧Fs W1.heap.size W1 (some ⟨g,0,none⟩) l16):=by
  rw [hW1];exact ⟨bel_alloc _ _,lit13 w [_,_,_,_] _ hg⟩
 have hW:W64 l16:=by unfold W64;decide
 have HT:=(qsd (ai hT hW));have C1:=hid (Quantile16 l16 (some ⟨g,0,none⟩) 4 4 1 4 4 0 W1 (hT.belows B1.out.1) B1.out.2 rfl (by decide) hW _ qu16)
 have HW1:=(qsd (ai hW1 hg));clear hW1 hT hg hW;go_enter Tryz.func9,Tryz.ntmps9
 go_wp2_with fail
 rw [←HW1.out.1,←HW1.out.2];clear HW1;refine C1.out.mono ?_;rintro r u1 ⟨rfl,hb1⟩;have B2:Aside (Below w.heap.size w u1∧Fs u1.heap.size u1 (some ⟨g,0,none⟩) l16):=⟨B1.out.1.trans (hb1.mono B1.out.1.size),(B1.out.2.below hb1).mono hb1.size⟩;clear hb1 C1 B1;have C2:=hid (Share16 l16 4626322717216342016 (some ⟨g,0,none⟩) 4 4 u1 (by decide) B2.out.2 rfl (by decide) HT.out.2)
 rw [show amE l16 (nanW 4626322717216342016)=0 by decide +kernel,if_pos rfl,if_pos rfl,show cntS l16 4626322717216342016=2 from ct16,show l16.length=4 from rfl] at C2
 go_wp2_with fail
 refine C2.out.mono ?_;rintro r u2 ⟨rfl,hb2⟩;have B3:Aside (Below w.heap.size w u2∧Fs u2.heap.size u2 (some ⟨g,0,none⟩) l16):=⟨B2.out.1.trans (hb2.mono B2.out.1.size),(B2.out.2.below hb2).mono hb2.size⟩;clear hb2 C2 B2;have C3:=hid (Several_ok16 l16 (some ⟨g,0,none⟩) 4 4 2 3 0 u2 (HT.out.1.belows B3.out.1) B3.out.2 rfl HT.out.2 (by decide) (by decide) (by decide) am16)
 go_wp2_with fail
 refine C3.out.mono ?_;rintro r u3 ⟨gs,rfl,hO,hg,hb3⟩;have B4:=qsd (B3.out.1.trans (hb3.mono B3.out.1.size));have c1:=hO.cell 1 (by rw [sevTo_len _ _ _ _ _ (by decide)];decide)
 rw [show (sevTo l16 2 3 0 (2+1)).getD 1 0=4627730092099895296 from sv16] at c1
 clear hb3 C3 B3 hO hg;simp only;go_wp2;go_ret;exact ⟨rfl,B4.out⟩
end
section
open Go Go.RowKit J
theorem wd_own16 (x:Nat) (hx:x<18446744073709551616):wd64 (negW x) (magW x)=x:=by
 unfold wd64 negW magW
 by_cases h:9223372036854775808≤x
 · rw [decide_eq_true h];simp;omega
 · rw [decide_eq_false h];simp;omega
end
section
open Go Go.RowKit J
def naB (y x:Nat):Bool:=(decide (clx x=0)&&decide (clx y=0)) || decide (tk y≤tk x)
theorem clx_zero {x:Nat}(hx:x<18446744073709551616):clx x=0↔magW x=0:=by
 unfold clx B.cls
 by_cases a:magW x/4503599627370496=2047
 · rw [if_pos a];split <;> (constructor <;> intro h <;> omega)
 · rw [if_neg a]
   by_cases b:magW x/4503599627370496=0
   · rw [if_pos b];split <;> (constructor <;> intro h <;> omega)
   · rw [if_neg b];constructor <;> intro h <;> omega
theorem leF_na {x y:Nat}(hx:x<18446744073709551616) (hy:y<18446744073709551616) (fy:finW y) (nx:nanW x=false):leF x y=naB y x:=by
 have mx:magW x≤9218868437227405312:=by
  unfold nanW at nx;have:=of_decide_eq_false nx;unfold magW;omega
 have my:=Nat.le_of_lt fy;have h1:=lt64 (negW y) (negW x) (magW y) (magW x) my mx;have h2:=eq64 (negW y) (negW x) (magW y) (magW x) my mx;rw [wd_own16 x hx,wd_own16 y hy] at h1 h2;unfold leF naB;rw [h1,h2,Bool.eq_iff_iff,Bool.or_eq_true,Bool.or_eq_true,Bool.and_eq_true,decide_eq_true_eq,decide_eq_true_eq,decide_eq_true_eq,decide_eq_true_eq,decide_eq_true_eq,clx_zero hx,clx_zero hy];have tx:tk x=if negW x then -1-(magW x:Int) else magW x:=by unfold tk;rw [if_neg (by omega)]
 have ty:tk y=if negW y then -1-(magW y:Int) else magW y:=by unfold tk;rw [if_neg (by omega)]
 rw [tx,ty];unfold sK
 cases negW x <;> cases negW y <;> simp <;> omega
theorem notAbove16 {y x:Nat}(hy:y<18446744073709551616) (hx:x<18446744073709551616) (w:World):Calls Tryz.prog 35 #[.float .f64 y,.float .f64 x] w fun r w'=>r=.returned (.bool (naB y x))∧Below w.heap.size w w':=by
 have CX:=hid (rclass16 hx w);have CY:=hid (fun u:World=>rclass16 hy u)
 have CO:=hid (fun u:World=>rorder15 hy hx u)
 obtain ⟨z,hz⟩:∃ z,z=naB y x:=⟨_,rfl⟩;rw [←hz];unfold naB at hz;obtain ⟨cx,hcx⟩:∃ c,c=clx x:=⟨_,rfl⟩;obtain ⟨cy,hcy⟩:∃ c,c=clx y:=⟨_,rfl⟩;obtain ⟨o,ho⟩:∃ c,c=B.oc (tk y) (tk x):=⟨_,rfl⟩;rw [←hcx] at CX hz;simp only [←hcy] at CY hz;simp only [←ho] at CO;have hole:decide (tk y≤tk x)=decide (o≤0):=by rw [ho,decide_eq_decide];exact oc_le.symm
 rw [hole] at hz;have HZ:=qsd hz;clear hcx hcy ho hole hz
 by_cases h1:cx=0
 · subst h1
   by_cases h2:cy=0
   · subst h2
     replace HZ:Aside (z=true):=qsd (by rw [HZ.out];rfl)
     go_enter Tryz.func35,Tryz.ntmps35
     go_wp2_with fail
     refine CX.out.mono ?_;rintro r v ⟨rfl,hv⟩;have C:=hid (CY.out v)
     go_wp2_with fail
     refine C.out.mono ?_;rintro r v2 ⟨rfl,hv2⟩;have HB:=qsd (hv.trans (hv2.mono hv.size));clear hv hv2 C;go_wp2;go_ret;exact ⟨by rw [HZ.out];rfl,HB.out⟩
   · have k1:(cy==0)=false:=by simp [h2]
     have k2:decide (cy=0)=false:=by simp [h2]
     replace HZ:Aside (z=decide (o≤0)):=qsd (by rw [HZ.out,k2];simp)
     go_enter Tryz.func35,Tryz.ntmps35
     go_wp2_with fail
     refine CX.out.mono ?_;rintro r v ⟨rfl,hv⟩;have C:=hid (CY.out v)
     go_wp2_with fail
     refine C.out.mono ?_;rintro r v2 ⟨rfl,hv2⟩;have HB:=qsd (hv.trans (hv2.mono hv.size));clear hv hv2 C;have C:=hid (CO.out v2)
     go_wp2_with fail
     refine C.out.mono ?_;rintro r v3 ⟨rfl,hu⟩;rw [hu];clear hu C;go_wp2;go_ret;exact ⟨by rw [HZ.out];rfl,HB.out⟩
 · have k1:(cx==0)=false:=by simp [h1]
   have k2:decide (cx=0)=false:=by simp [h1]
   replace HZ:Aside (z=decide (o≤0)):=qsd (by rw [HZ.out,k2];simp)
   go_enter Tryz.func35,Tryz.ntmps35
   go_wp2_with fail
   refine CX.out.mono ?_;rintro r v ⟨rfl,hv⟩;have HB:=qsd hv;clear hv;have C:=hid (CO.out v)
   go_wp2_with fail
   refine C.out.mono ?_;rintro r v3 ⟨rfl,hu⟩;rw [hu];clear hu C;go_wp2;go_ret;exact ⟨by rw [HZ.out];rfl,HB.out⟩
theorem rShare16 (xs:List Nat) (x:Nat) (ao:Option Addr) (n cap:Nat) (w:World) (hx:x<18446744073709551616) (hF:Fs w.heap.size w ao xs) (hn:n=xs.length) (hb:n≤17592186044416) (hW:W64 xs) :
 Calls Tryz.prog 18 #[.slice ao n cap,.float .f64 x] w fun r w'=>r=.returned (.tuple #[.int .i64 (if amE xs (nanW x)=0 then (cntS xs x:Int) else 0),.int .i64 (if amE xs (nanW x)=0 then (xs.length:Int) else 0),.int .i64 (amE xs (nanW x))])∧Below w.heap.size w w':=by
 have CR:=hid (rRefused16 xs ao n cap w hF hn hb hW);have CC:=hid (fun u:World=>rclass16 hx u)
 have hcn:=clx_nan hx;have hfin:amE xs (nanW x)=0→nanW x=false∧∀ y ∈ xs,finW y:=fun h=>by have:=amE_fin h;exact ⟨this.1,this.2.2.2⟩
 have hrel:(amE xs false=2∧amE xs (nanW x)=2)∨(amE xs false=30∧amE xs (nanW x)=30)∨((amE xs false=3∨amE xs false=0)∧((clx x=4∧amE xs (nanW x)=30)∨(clx x≠4∧amE xs (nanW x)=amE xs false))):=by
  unfold amE
  by_cases h1:65536<xs.length
  · simp [h1]
  · simp only [h1,if_false]
    cases hany:xs.any byB
    · cases hnn:nanW x
      · have:clx x≠4:=fun e=>by rw [hcn,hnn] at e;cases e
        by_cases h3:xs.length=0 <;> simp [h3,this]
      · have:clx x=4:=hcn.2 hnn
        by_cases h3:xs.length=0 <;> simp [h3,this]
    · simp
 obtain ⟨e,he⟩:∃ e,e=amE xs (nanW x):=⟨_,rfl⟩;obtain ⟨e0,he0⟩:∃ e,e=amE xs false:=⟨_,rfl⟩;obtain ⟨c,hc⟩:∃ c,c=clx x:=⟨_,rfl⟩;rw [←he] at hfin hrel ⊢;rw [←he0] at CR hrel;simp only [←hc] at CC hrel;rw [←hn];have HY:=(qsd (ai hF (ai hn (ai hW (ai hx hfin)))));clear hF hn hW hfin hcn he he0 hc hx
 rcases hrel with ⟨rfl,rfl⟩|⟨rfl,rfl⟩|⟨h0,h1⟩
 · rw [if_neg (by decide),if_neg (by decide)]
   go_enter Tryz.func18,Tryz.ntmps18
   go_wp2_with fail
   refine CR.out.mono ?_;rintro r v ⟨rfl,hv⟩;go_wp2;refine bodyPost_ret (v:=.tuple #[.int .i64 0,.int .i64 0,.int .i64 2]) (by simp [results,Tryz.results18,go_sem]) rfl ?_
   exact ⟨rfl,hv⟩
 · rw [if_neg (by decide),if_neg (by decide)]
   go_enter Tryz.func18,Tryz.ntmps18
   go_wp2_with fail
   refine CR.out.mono ?_;rintro r v ⟨rfl,hv⟩;go_wp2;refine bodyPost_ret (v:=.tuple #[.int .i64 0,.int .i64 0,.int .i64 30]) (by simp [results,Tryz.results18,go_sem]) rfl ?_
   exact ⟨rfl,hv⟩
 · have a1:(e0==2)=false:=by simp;omega
   have a2:decide (e0=2)=false:=by simp;omega
   have a3:(e0==30)=false:=by simp;omega
   have a4:decide (e0=30)=false:=by simp;omega
   rcases h1 with ⟨rfl,rfl⟩|⟨h4,rfl⟩
   · rw [if_neg (by decide),if_neg (by decide)]
     go_enter Tryz.func18,Tryz.ntmps18
     go_wp2_with fail
     refine CR.out.mono ?_;rintro r v ⟨rfl,hv⟩;have C:=hid (CC.out v)
     go_wp2_with fail
     refine C.out.mono ?_;rintro r v2 ⟨rfl,hv2⟩;have HB:=qsd (hv.trans (hv2.mono hv.size));clear hv hv2 C;go_wp2;refine bodyPost_ret (v:=.tuple #[.int .i64 0,.int .i64 0,.int .i64 30]) (by simp [results,Tryz.results18,go_sem]) rfl ?_
     exact ⟨rfl,HB.out⟩
   · have b1:(c==4)=false:=by simp [h4]
     have b2:decide (c=4)=false:=by simp [h4]
     rcases h0 with rfl|rfl
     · rw [if_neg (by decide),if_neg (by decide)]
       go_enter Tryz.func18,Tryz.ntmps18
       go_wp2_with fail
       refine CR.out.mono ?_;rintro r v ⟨rfl,hv⟩;have C:=hid (CC.out v)
       go_wp2_with fail
       refine C.out.mono ?_;rintro r v2 ⟨rfl,hv2⟩;have HB:=qsd (hv.trans (hv2.mono hv.size));clear hv hv2 C;go_wp2;refine bodyPost_ret (v:=.tuple #[.int .i64 0,.int .i64 0,.int .i64 3]) (by simp [results,Tryz.results18,go_sem]) rfl ?_
       exact ⟨rfl,HB.out⟩
     · rw [if_pos rfl,if_pos rfl]
       go_enter Tryz.func18,Tryz.ntmps18
       go_wp2_with fail
       refine CR.out.mono ?_;rintro r v ⟨rfl,hv⟩;have C:=hid (CC.out v)
       go_wp2_with fail
       refine C.out.mono ?_;rintro r v2 ⟨rfl,hv2⟩;have HB:=qsd (hv.trans (hv2.mono hv.size));clear hv hv2 C CC CR;go_wp2
       go_loopg [8,9] n (fun gk cv iv wr=>∃ k:Nat,gk+k=n∧cv=.int .i64 (cntS (xs.take k) x:Nat)∧iv=.int .i64 (k:Nat)∧Aside (Below w.heap.size w wr))
       case atStart=>exact ⟨0,rfl,by simp [cntS],by first | rfl | simp,HB.out⟩
       case round =>
        clear HB;obtain ⟨k,hgk,hcv,rfl,HA⟩:=hrel;obtain ⟨d,hd⟩:∃ c,c=cntS (xs.take k) x:=⟨_,rfl⟩
        have hcl:d≤n:=by
         rw [hd];refine Nat.le_trans (cntS_le _ _) ?_;rw [List.length_take];have:=HY.out.2.1;omega
        rw [←hd] at hcv;subst hcv
        by_cases hk:k<n
        · have hdk:decide ((k:Int)<(n:Int))=true:=by simp;omega
          have bk:(k:Int)<(n:Int):=by omega
          obtain ⟨k1,hk1⟩:∃ y,y=k+1:=⟨_,rfl⟩;have wk:IntKind.i64.wrap ((k:Int)+1)=(k1:Int):=wrapZ (by omega) (by omega)
          obtain ⟨cp,hcp⟩:∃ y,y=d+1:=⟨_,rfl⟩;have wc1:IntKind.i64.wrap ((d:Int)+1)=(cp:Int):=wrapZ (by omega) (by omega)
          obtain ⟨hF,hn,hW,hx,hfin⟩:=HY.out;obtain ⟨b,off,rfl,c2⟩:=hF.at HA.out k (by omega)
          have hst:=cntS_take (xs:=xs) (x:=x) (k:=k) (by omega)
          rw [←hd] at hst;have hm:xs.getD k 0 ∈ xs:=getD_mem15 (by omega)
          obtain ⟨y,hy⟩:∃ y,y=xs.getD k 0:=⟨_,rfl⟩;rw [←hy] at c2 hst hm;have C:=hid (notAbove16 (hW y hm) hx wr);have e5:=hfin (by first | rfl | trivial)
          rw [←leF_na hx (hW y hm) (e5.2 y hm) e5.1] at C;have HK:=(qsd (ai hk1 (ai hcp (ai hst hd))));obtain ⟨t,ht⟩:∃ t,t=leF x y:=⟨_,rfl⟩;rw [←ht] at C;have HT:=qsd ht;clear hk1 hcp hst hd hy ht hF hn hW hx hfin hm e5
          go_wp2_with fail
          refine C.out.mono ?_;rintro r u ⟨rfl,hu⟩;have HB:=qsd (HA.out.trans (hu.mono HA.out.size));clear C hu
          cases t
          · go_wp2
            go_roundg (n-k1)
            case measure=>have:=HK.out;omega
            case rel=>exact ⟨k1,by have:=HK.out;omega,by rw [HK.out.1,HK.out.2.2.1,←HT.out];rfl,by first | rfl | simp,HB.out⟩
          · go_wp2
            go_roundg (n-k1)
            case measure=>have:=HK.out;omega
            case rel=>exact ⟨k1,by have:=HK.out;omega,by rw [HK.out.1,HK.out.2.2.1,←HT.out,HK.out.2.1];rfl,by first | rfl | simp,HB.out⟩
        · have hdk:decide ((k:Int)<(n:Int))=false:=by simp;omega
          have HE:Aside (d=cntS xs x):=qsd (by rw [hd,List.take_of_length_le (by have:=HY.out.2.1;omega)])
          clear hd;go_wp2;refine bodyPost_ret (v:=.tuple #[.int .i64 (d:Nat),.int .i64 (n:Nat),.int .i64 0]) (by simp [results,Tryz.results18,go_sem]) rfl ?_
          exact ⟨by rw [HE.out],HA.out⟩
end
section
open Go Go.RowKit J
theorem wf64f13 {a:Nat}(h:(Lit.float .f64 a).wf=true):a<18446744073709551616:=by
 simpa [Lit.wf] using h
theorem lent8_fs {w:World}{g:Nat}{xs:List Nat}(h:OwnF w g (xs++List.replicate 8 mrk10)):Fs w.heap.size w (some ⟨g,0,none⟩) xs:=by
 have:=h.fs h.lt xs.length;rw [show (xs++List.replicate 8 mrk10).take xs.length=xs by simp] at this
 exact this
set_option maxRecDepth 100000 in
theorem walk2_QuantShares (a:Option Addr) (n c:Nat) (xs:List Nat) (x:Nat) (w:World) (hT:Tab w) (hC:CameF w a n c xs) (hx:x<18446744073709551616) (hm:n≤17592186043904) :
 Calls Tryz.prog 4 #[.slice a n c,.float .f64 x] w fun r w'=>r=.returned (.bool true)∧Below w.heap.size w w':=by
 obtain ⟨hl1,_,hW1,hF1,_⟩:=hC;have up:∀ u:World,Below w.heap.size w u→Fs u.heap.size u a xs∧Tab u∧Fs w.heap.size u a xs:=fun u hb=>⟨(hF1.below hb).mono hb.size,hT.belows hb,hF1.below hb⟩
 obtain ⟨e1,h1⟩:∃ r:Int,r=if amE xs (nanW x)=0 then (cntS xs x:Int) else 0:=⟨_,rfl⟩
 obtain ⟨e2,h2⟩:∃ r:Int,r=if amE xs (nanW x)=0 then (xs.length:Int) else 0:=⟨_,rfl⟩
 obtain ⟨e3,h3⟩:∃ r:Int,r=amE xs (nanW x):=⟨_,rfl⟩;have HA:=hid (fun (u:World) (hb:Below w.heap.size w u)=>live16 u (up u hb).2.1)
 have HL:=hid (fun (u:World) (hb:Below w.heap.size w u)=>rLent10 xs a n c u.heap.size u hl1 hm (up u hb).1 (Nat.le_refl _))
 have HE:Hid (∀ (u:World) (g:Nat),Below w.heap.size w u→OwnF u g (xs++List.replicate 8 mrk10)→Calls Tryz.prog 17 #[.slice (some ⟨g,0,none⟩) n (n+8),.float .f64 x] u fun r w'=>r=.returned (.tuple #[.int .i64 e1,.int .i64 e2,.int .i64 e3])∧Below u.heap.size u w'):=fun u g hb ho=>by
  rw [h1,h2,h3];exact Share16 xs x (some ⟨g,0,none⟩) n (n+8) u hx (lent8_fs ho) hl1 (by omega) hW1
 have HK:=hid (fun (u:World) (g:Nat) (hb:Below w.heap.size w u) (ho:OwnF u g (xs++List.replicate 8 mrk10))=>rAsLent10 xs a n c u.heap.size g u hl1 hm (up u hb).1 (Nat.le_refl _) ho)
 have HQ:Hid (∀ u:World,Below w.heap.size w u→Calls Tryz.prog 18 #[.slice a n c,.float .f64 x] u fun r w'=>r=.returned (.tuple #[.int .i64 e1,.int .i64 e2,.int .i64 e3])∧Below u.heap.size u w'):=fun u hb=>by
  rw [h1,h2,h3];exact rShare16 xs x a n c u hx (up u hb).1 hl1 (by omega) hW1
 clear hl1 hW1 hF1 up h1 h2 h3 hT hm hx;go_enter Tryz.func4,Tryz.ntmps4
 go_wp2_with fail
 refine (HA.out _ (Below.refl _ _)).mono ?_;rintro r u1 ⟨rfl,hb⟩;have B1:=qsd hb;clear hb HA
 go_wp2_with fail
 refine (HL.out _ B1.out).mono ?_;rintro r u2 ⟨rfl,ho,hb⟩;obtain ⟨g,hg⟩:∃ g,g=u1.heap.size:=⟨_,rfl⟩;rw [←hg] at ho ⊢;have B2:Aside (Below w.heap.size w u2∧OwnF u2 g (xs++List.replicate 8 mrk10)):=⟨B1.out.trans (hb.mono B1.out.size),ho⟩;clear hb ho hg B1 HL
 go_wp2_with fail
 refine (HE.out _ g B2.out.1 B2.out.2).mono ?_;rintro r u3 ⟨rfl,hb⟩;have B3:Aside (Below w.heap.size w u3∧OwnF u3 g (xs++List.replicate 8 mrk10)):=⟨B2.out.1.trans (hb.mono B2.out.1.size),B2.out.2.below hb B2.out.2.lt⟩;clear hb B2 HE
 go_wp2_with fail
 refine (HK.out _ g B3.out.1 B3.out.2).mono ?_;rintro r u4 ⟨rfl,hb⟩;have B4:=qsd (B3.out.1.trans (hb.mono B3.out.1.size));clear hb B3 HK
 go_wp2_with fail
 refine (HQ.out _ B4.out).mono ?_;rintro r u5 ⟨rfl,hb⟩;have B5:=qsd (B4.out.trans (hb.mono B4.out.size));clear hb B4 HQ;have k1:(e1==e1)=true:=by simp
 have k2:(e2==e2)=true:=by simp
 have k3:(e3==e3)=true:=by simp
 go_wp2;go_ret;exact ⟨rfl,B5.out⟩
end
end Go.Proofs.YtflecmdlhkemeabGreatDoor
