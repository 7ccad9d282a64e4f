import Derived.Test.YtgfemeencgjneaaGreatDoorRS13x
import Derived.Test.YtgfemeencgjneaaGreatDoorF2x
import Derived.Test.YtgfemeencgjneaaGreatDoorZ14x
import Derived.Test.YtgfemeencgjneaaGreatDoorS6x
import Derived.Test.YtgfemeencgjneaaGreatDoorM1x
import Derived.ProofKit
import Derived.OpenShut
import Derived.ChangeOld
import Derived.ChangeArms
import Derived.SizedLaws
import Derived.Laws.Cover2
set_option linter.unusedVariables false
set_option linter.unusedSimpArgs false
set_option maxHeartbeats 16000000
set_option maxRecDepth 20000
namespace Go.Proofs.YtgfemeencgjneaaGreatDoor
namespace J
end J
section
open Go.RowKit J
attribute [local go_sem] st_float
noncomputable def sevTo (xs:List Nat) (p:Nat) (rule mode:Int) (k:Nat):List Nat:=(List.range k).map (fun i=>telR (sortL xs) i p rule mode)++List.replicate (p+1-k) 0
theorem sevTo_zero (xs:List Nat) (p:Nat) (rule mode:Int):sevTo xs p rule mode 0=List.replicate (p+1) 0:=by simp [sevTo]
theorem sevTo_len (xs:List Nat) (p:Nat) (rule mode:Int) (k:Nat) (h:k≤p+1):(sevTo xs p rule mode k).length=p+1:=by simp [sevTo];omega
theorem sevTo_succ (xs:List Nat) (p:Nat) (rule mode:Int) (k:Nat) (h:k<p+1):(sevTo xs p rule mode k).set k (telR (sortL xs) k p rule mode)=sevTo xs p rule mode (k+1):=by
 unfold sevTo;rw [List.set_append_right _ _ (by simp),List.length_map,List.length_range,Nat.sub_self,show p+1-k=(p+1-(k+1))+1 by omega,List.replicate_succ,List.set_cons_zero,List.range_succ,List.map_append,List.append_assoc]
 rfl
theorem Several_ok16 (xs:List Nat) (ao:Option Addr) (n cap p:Nat) (rule mode:Int) (w:World) (hT:Tab w) (hF:Fs w.heap.size w ao xs) (hn:n=xs.length) (hW:W64 xs) (hk:knB rule mode=true) (hp1:1≤p) (hp2:p≤65536) (ha:amE xs false=0) :
 Calls Tryz.prog 71 #[.slice ao n cap,.int .i64 (p:Nat),.int .i64 rule,.int .i64 mode] w fun r w'=>∃ g,r=.returned (.tuple #[.slice (some ⟨g,0,none⟩) (p+1) (p+1),.int .i64 0])∧OwnF w' g (sevTo xs p rule mode (p+1))∧w.heap.size≤g∧Below w.heap.size w w':=by
 obtain ⟨_,hl,hne,hf⟩:=amE_fin ha;have hpos:0<xs.length:=List.length_pos_iff.2 hne;have CK:=hid (known16 rule mode w);rw [hk] at CK
 have hkn:0≤rule∧rule≤4:=by
  unfold knB at hk;have:=of_decide_eq_true hk;exact ⟨this.1,this.2.1⟩
 have CA:=hid (amiss16 xs false ao n cap w hF hn (by omega) hW)
 rw [ha] at CA;obtain ⟨p1,hp⟩:∃ x,x=p+1:=⟨_,rfl⟩;rw [←hp];have wp:IntKind.i64.wrap ((p:Int)+1)=(p1:Int):=wrapZ (by omega) (by omega)
 have d1:decide ((p:Int)<1)=false:=by simp;omega
 have d2:decide ((65536:Int)<(p:Int))=false:=by simp;omega
 have mk:=make_floats p1 p1 rfl (by omega)
 have HY:=(qsd (ai hF (ai hn (ai hT (ai hW (ai hl (ai hpos (ai hf (ai hkn hp)))))))));clear hF hn hT hW hl hpos hf hkn hk ha hne hp;go_enter Tryz.func71,Tryz.ntmps71
 go_wp2_with fail
 refine CK.out.mono ?_;rintro r v ⟨rfl,rfl⟩
 go_wp2_with fail
 refine CA.out.mono ?_;rintro r v2 ⟨rfl,hb2⟩;have HB:=qsd hb2;have C:=hid (Sort15 xs ao n cap v2 ((HY.out.1.below hb2).mono hb2.size) HY.out.2.1 (by have:=HY.out;omega) HY.out.2.2.2.1)
 clear hb2 CK CA
 go_wp2_with fail
 refine C.out.mono ?_;rintro r v3 ⟨rfl,hO,hb3⟩;obtain ⟨V,hV⟩:∃ V,V=v3.alloc (.cells (madeCells #[.float .f64 0] p1) 27):=⟨_,rfl⟩;obtain ⟨g,hg⟩:∃ g,g=v3.heap.size:=⟨_,rfl⟩;obtain ⟨gs,hgs⟩:∃ g,g=v2.heap.size:=⟨_,rfl⟩
 have HA:Aside (OwnF V g (sevTo xs p rule mode 0)∧OwnF V gs (sortL xs)∧Below v.heap.size v V):=by
  rw [hV,hg,hgs,sevTo_zero];have hb4:=HB.out.trans (hb3.mono HB.out.size);refine ⟨?_,hO.below ((Below.refl _ _).alloc (Nat.le_refl _) _) hO.lt,hb4.trans ((below_alloc _ _).mono hb4.size)⟩;rw [←HY.out.2.2.2.2.2.2.2.2];exact OwnF.made v3 p1
 have HG:Aside (v.heap.size≤g∧gs<g∧v.heap.size≤gs):=by
  have h1:=hO.lt;have h2:=HB.out.size;have h3:=hb3.size;exact ⟨by omega,by omega,by omega⟩
 have HV:=(qsd (ai hV (ai hg hgs)));clear C hO hb3 hV hg hgs HB
 go_upto_region 8 with fail
 rw [←HV.out.1,←HV.out.2.1,←HV.out.2.2];clear HV mk;go_wp2
 go_loopg [38] p1 (fun gk iv wr=>∃ k:Nat,gk+k=p1∧iv=.int .i64 (k:Nat)∧Aside (OwnF wr g (sevTo xs p rule mode k)∧OwnF wr gs (sortL xs)∧Below v.heap.size v wr))
 case atStart=>exact ⟨0,rfl,by first | rfl | simp,HA.out⟩
 case round =>
  clear HA;obtain ⟨k,hgk,rfl,HA⟩:=hrel
  by_cases hk:k<p1
  · have hdk:decide ((k:Int)<(p1:Int))=true:=by simp;omega
    have bk:(k:Int)<(p1:Int):=by omega
    obtain ⟨k1,hk1⟩:∃ x,x=k+1:=⟨_,rfl⟩;have wk:IntKind.i64.wrap ((k:Int)+1)=(k1:Int):=wrapZ (by omega) (by have:=HY.out.2.2.2.2.2.2.2.2;omega)
    obtain ⟨a1,a2,a3⟩:=HA.out;obtain ⟨hF,hn,hT,hW,hl,hpos,hf,hkn,hp⟩:=HY.out;have hsl:=sortL_len xs
    have hFs:Fs wr.heap.size wr (some ⟨gs,0,none⟩) (sortL xs):=by
     have:=a2.fs a2.lt n;rw [List.take_of_length_le (by omega)] at this
     exact this
    have C:=hid (tell16 (sortL xs) gs n n k p rule mode wr (hT.belows a3) hFs (by omega) (by omega) (by omega) (fun x hx=>hW x (sortL_mem hf x hx)) (fun x hx=>hf x (sortL_mem hf x hx)) (by omega) hp1 (by omega) hkn.1 hkn.2)
    obtain ⟨y,hy⟩:∃ y,y=telR (sortL xs) k p rule mode:=⟨_,rfl⟩;rw [←hy] at C
    have HX:Aside (∀ u,Below wr.heap.size wr u→u.cell? ⟨g,k,none⟩=some (.float .f64 ((sevTo xs p rule mode k).getD k 0))∧u.frozen? ⟨g,k,none⟩=false∧OwnF (u.setCell ⟨g,k,none⟩ (.float .f64 y)) g (sevTo xs p rule mode k1)∧OwnF (u.setCell ⟨g,k,none⟩ (.float .f64 y)) gs (sortL xs)∧Below v.heap.size v (u.setCell ⟨g,k,none⟩ (.float .f64 y))):=fun u hu=>by
     have a1':=a1.below hu a1.lt;have a2':=a2.below hu a2.lt;have hG:=HG.out;refine ⟨a1'.cell k (by rw [sevTo_len _ _ _ _ _ (by omega)];omega),a1'.frozen k,?_,?_,?_⟩
     · rw [hk1,←sevTo_succ xs p rule mode k (by omega),←hy];exact a1'.set k y
     · have hne:gs≠g:=by omega
       unfold OwnF at a2' ⊢;simp only [World.setCell,Array.getElem?_modify];rw [if_neg (fun e=>hne e.symm)];exact a2'
     · exact (a3.trans (hu.mono a3.size)).setCell (show v.heap.size≤g by omega) _
    have HK:=qsd hk1;clear HA a1 a2 a3 hF hn hT hW hl hpos hf hkn hp hsl hFs hy hk1
    go_wp2_with fail
    refine C.out.mono ?_;rintro r u ⟨rfl,hu⟩;obtain ⟨x1,x2,x3⟩:=HX.out u hu;have HR:=qsd x3;clear C HX x3 hu;obtain ⟨z,hz⟩:∃ z,z=(sevTo xs p rule mode k).getD k 0:=⟨_,rfl⟩;rw [←hz] at x1;clear hz;go_wp2
    go_roundg (p1-k1)
    case measure=>have:=HK.out;omega
    case rel=>exact ⟨k1,by have:=HK.out;omega,by first | rfl | simp,HR.out⟩
  · have hdk:decide ((k:Int)<(p1:Int))=false:=by simp;omega
    have hkp:k=p1:=by omega
    subst hkp;go_wp2;refine bodyPost_ret (v:=.tuple #[.slice (some ⟨g,0,none⟩) k k,.int .i64 0]) (by simp [results,Tryz.results71,go_sem]) rfl ?_
    exact ⟨g,rfl,HA.out.1,HG.out.1,HA.out.2.2⟩
end
section
open Go.RowKit J
theorem ratio_lt {x S V S' V':Nat}(hS:0<S) (hS':0<S') (e:V*S'=V'*S):(x*S<V↔x*S'<V')∧(x*S=V↔x*S'=V')∧(V<x*S↔V'<x*S'):=by
 have a1:x*S*S'=x*S'*S:=by rw [Nat.mul_assoc,Nat.mul_comm S,←Nat.mul_assoc]
 have t1:x*S<V↔x*S*S'<V*S':=(Nat.mul_lt_mul_right hS').symm;have t2:x*S'<V'↔x*S'*S<V'*S:=(Nat.mul_lt_mul_right hS).symm;have t3:V<x*S↔V*S'<x*S*S':=(Nat.mul_lt_mul_right hS').symm;have t4:V'<x*S'↔V'*S<x*S'*S:=(Nat.mul_lt_mul_right hS).symm;rw [t1,t2,t3,t4,a1,e];refine ⟨Iff.rfl,?_,Iff.rfl⟩;rw [a1,e] at t1;rw [a1,e] at t3;omega
theorem Lies.ratio {K:Nat}{t:Bool}{m:Int}{V S V' S':Nat}(h:Lies K t m V S) (hS':0<S') (e:V*S'=V'*S):Lies K t m V' S':=by
 obtain ⟨h1,h2,h3,h4,h5,h6⟩:=h;have e2:(2*V)*S'=(2*V')*S:=by rw [Nat.mul_assoc,e,Nat.mul_assoc]
 refine ⟨h1,hS',fun a=>((ratio_lt h2 hS' e).2.1.1 (h3 a).symm).symm,fun a=>(ratio_lt h2 hS' e).1.1 (h4 a),fun a b=>?_,fun a=>?_⟩
 · have:=h5 a ((ratio_lt h2 hS' e).2.2.2 b)
   rw [←Nat.add_mul] at this ⊢;obtain ⟨r1,r2,r3⟩:=ratio_lt (x:=vK K+vK (K+1)) h2 hS' e2
   rcases this with ⟨q,r⟩|⟨q,r⟩|⟨q,r⟩
   · exact .inl ⟨q,r3.1 r⟩
   · exact .inr (.inl ⟨q,(r2.1 r.symm).symm⟩)
   · exact .inr (.inr ⟨q,r1.1 r⟩)
 · rcases h6 a with q | q
   · exact .inl ((ratio_lt h2 hS' e).2.2.1 q)
   · exact .inr q
noncomputable def qvR (V W mode:Int):Nat×Int:=quoR rndS ⟨dN (exV V),.bool false,dX (exV V),dE (exV V),dN (exV W),.bool false,dX (exV W),dE (exV W)⟩ mode
theorem quot_lies {V W:Int}(hV:V≠0) (hW:0<W) (k:Nat) (hk:k≤90000) (hb:V.natAbs<2^k) (hb2:W.natAbs<2^k) :
 ∃ K t m,(∀ j,j=1074→Lies K t m (V.natAbs*2^j) W.natAbs)∧∀ mode:Int,0≤mode→mode≤4→qvR V W mode=(rK mode (decide (V<0)) K t m+(if V<0 then 9223372036854775808 else 0),0):=by
 obtain ⟨X,e,ho,hX,he0,he1,hv,hbl,F⟩:=ex_parts13 hV k hk hb;obtain ⟨Y,f,ho2,hY,hf0,hf1,hv2,hbl2,F2⟩:=ex_parts13 (V:=W) (by omega) k hk hb2
 rw [decide_eq_false (by omega)] at ho2 F2
 obtain ⟨K,t,m,hL,hR⟩:=quo64 (decide (V<0)) X e Y f hX (by omega) hbl hbl2
 refine ⟨K,t,m,fun j hj=>?_,fun mode hm0 hm4=>?_⟩
 · refine hL.lies.ratio (by omega) ?_
   unfold rV11 rS11;rw [←hv,←hv2]
   have e1:X*2^(e-f+((1*1074:Nat):Int)).toNat*(Y*2^(f+2148).toNat)=X*Y*(2^((e-f+((1*1074:Nat):Int)).toNat+(f+2148).toNat)):=by
    rw [Nat.pow_add,Nat.mul_mul_mul_comm]
   have e2:X*2^(e+2148).toNat*2^j*(Y*2^(-(e-f+((1*1074:Nat):Int))).toNat)=X*Y*(2^((e+2148).toNat+j+(-(e-f+((1*1074:Nat):Int))).toNat)):=by
    rw [Nat.pow_add,Nat.pow_add,Nat.mul_assoc X,Nat.mul_mul_mul_comm]
   rw [e1,e2]
   congr 2
   omega
 · have hm1:mkS (decide (V<0)) X e=some (decide (V<0),X,e):=mkS_idem F
   have hm2:mkS false Y f=some (false,Y,f):=mkS_idem F2;unfold qvR;rw [ho,ho2]
   show quoR rndS ⟨decide (V<0),.bool false,X,e,false,.bool false,Y,f⟩ mode=_
   unfold quoR;rw [if_neg (by omega),if_pos (by rw [errL_one];show errN X (decide (V<0)) e Y false f=0;unfold errN;rw [if_neg (by unfold sgn;simp;split <;> omega),hm1,hm2];simp [dX];omega),hm1,hm2]
   show rndS (quoZ (decide (V<0)) X e Y f) mode=_
   rw [hR mode hm0 hm4];simp
theorem lenW_bd (N:Nat) (h:N≤65536) (k:Nat) (hk:k=2148):∃ j:Nat,j=4238∧((N:Int)*((2^k:Nat):Int)).natAbs<2^j:=by
 obtain ⟨j,hj⟩:∃ j:Nat,j=4238:=⟨_,rfl⟩;refine ⟨j,hj,?_⟩;rw [←Int.natCast_mul,Int.natAbs_natCast];have h1:N*2^k<2^17*2^k:=Nat.mul_lt_mul_of_pos_right (by omega) (Nat.two_pow_pos k)
 rw [←Nat.pow_add] at h1;exact Nat.lt_of_lt_of_le h1 (Nat.pow_le_pow_right (by decide) (by omega))
theorem qn_qv (V:Int) (N:Nat) (mode:Int) (k:Nat) (hk:k=2148):qnR V N mode=qvR V ((N:Int)*((2^k:Nat):Int)) mode:=by
 unfold qnR qvR;rw [int_ex N k hk]
end
section
open Go Go.RowKit J
theorem g_parts16 {u k:Nat}{V:Int}(hu:u≤100000) (hV:V≠0) (hk:k≤90000) (hb:Bd k V):∃ X e,gV u V=some (decide (V<0),X,e)∧X%2=1∧-(u:Int)≤e∧e≤200000∧X*2^(e+(u:Int)).toNat=V.natAbs∧bl X≤262144∧Frm (decide (V<0)) X e:=by
 obtain ⟨n,X,e,ho,F,hx⟩:=g_iv (u:=u) hu (by omega) hb
 have hm:mkS (decide (V<0)) V.natAbs (-(u:Int))=some (n,X,e):=ho;have hz:=zv_mkS hm (-(u:Int)) (.inr (by omega))
 unfold zv at hz;simp only at hz;rw [show (-(u:Int) - -(u:Int)).toNat=0 by omega,Nat.pow_zero,Nat.mul_one] at hz
 have hX0:X≠0:=by
  rintro rfl;simp [sg1] at hz
  split at hz <;> omega
 have hp:0<X*2^(e - -(u:Int)).toNat:=Nat.mul_pos (by omega) (Nat.two_pow_pos _)
 rcases hx with h|⟨h1,h2⟩
 · exact absurd h hX0
 have hn:n=decide (V<0):=by
  by_cases hs:V<0
  · rw [decide_eq_true hs] at hz ⊢
    cases n with
    | true=>rfl
    | false=>simp only [sg1,if_true,Bool.false_eq_true,if_false] at hz;omega
  · rw [decide_eq_false hs] at hz ⊢
    cases n with
    | false=>rfl
    | true=>simp only [sg1,if_true,Bool.false_eq_true,if_false] at hz;omega
 rw [hn] at hz ho F
 have hv:X*2^(e - -(u:Int)).toNat=V.natAbs:=by
  by_cases hs:V<0
  · rw [decide_eq_true hs] at hz;simp only [sg1,if_true] at hz;omega
  · rw [decide_eq_false hs] at hz;simp only [sg1,Bool.false_eq_true,if_false] at hz;omega
 refine ⟨X,e,ho,?_,h1,by omega,?_,by omega,F⟩
 · rcases F.odd with q | q
   · exact q
   · exact absurd q.1 hX0
 · rw [show (e+(u:Int)).toNat=(e - -(u:Int)).toNat by congr 1;omega]
   exact hv
theorem rat16 {x S V S' V':Nat}(hS:0<S) (hS':0<S') (e:V*S'=V'*S):(x*S<V↔x*S'<V')∧(x*S=V↔x*S'=V')∧(V<x*S↔V'<x*S'):=by
 have a1:x*S*S'=x*S'*S:=by rw [Nat.mul_assoc,Nat.mul_comm S,←Nat.mul_assoc]
 have t1:x*S<V↔x*S*S'<V*S':=(Nat.mul_lt_mul_right hS').symm;have t2:x*S'<V'↔x*S'*S<V'*S:=(Nat.mul_lt_mul_right hS).symm;have t3:V<x*S↔V*S'<x*S*S':=(Nat.mul_lt_mul_right hS').symm;have t4:V'<x*S'↔V'*S<x*S'*S:=(Nat.mul_lt_mul_right hS).symm;rw [t1,t2,t3,t4,a1,e];refine ⟨Iff.rfl,?_,Iff.rfl⟩;rw [a1,e] at t1;rw [a1,e] at t3;omega
theorem LiesG.ratio16 {v:Nat→Nat}{top n K:Nat}{t:Bool}{m:Int}{V S V' S':Nat}(h:LiesG v top n K t m V S) (hS':0<S') (e:V*S'=V'*S):LiesG v top n K t m V' S':=by
 obtain ⟨h1,h2,h3,h4,h5,h6⟩:=h;have e2:(2^n*V)*S'=(2^n*V')*S:=by rw [Nat.mul_assoc,e,Nat.mul_assoc]
 refine ⟨h1,hS',fun a=>((rat16 h2 hS' e).2.1.1 (h3 a).symm).symm,fun a=>(rat16 h2 hS' e).1.1 (h4 a),fun a b=>?_,fun a=>?_⟩
 · have:=h5 a ((rat16 h2 hS' e).2.2.2 b)
   obtain ⟨r1,r2,r3⟩:=rat16 (x:=(v K+v (K+1))^n) h2 hS' e2
   rcases this with ⟨q,r⟩|⟨q,r⟩|⟨q,r⟩
   · exact .inl ⟨q,r3.1 r⟩
   · exact .inr (.inl ⟨q,(r2.1 r.symm).symm⟩)
   · exact .inr (.inr ⟨q,r1.1 r⟩)
 · rcases h6 a with q | q
   · exact .inl ((rat16 h2 hS' e).2.2.1 q)
   · exact .inr q
theorem qR_ok16 {u v k:Nat}{V D:Int}(hu:u≤100000) (hv:v≤100000) (hk:k≤90000) (hV:V≠0) (hD:0<D) (bV:Bd k V) (bD:Bd k D) :
 ∃ K t m,(∀ j,j=1074→LiesG vK 9218868437227405312 1 K t m (V.natAbs*2^(j+v)) (D.natAbs*2^u))∧∀ mode:Int,0≤mode→mode≤4→qR16 (gV u V) (gV v D) mode=(rK mode (decide (V<0)) K t m+(if V<0 then 9223372036854775808 else 0),0):=by
 obtain ⟨Y,f,ho2,hY,hf0,hf1,hv2,hbl2,F2⟩:=g_parts16 (u:=v) (V:=D) hv (by omega) hk bD
 rw [decide_eq_false (by omega)] at ho2 F2
 obtain ⟨X,e,ho,hX,he0,he1,hvv,hbl,F⟩:=g_parts16 (u:=u) (V:=V) hu hV hk bV;have hm1:mkS (decide (V<0)) X e=some (decide (V<0),X,e):=mkS_idem F;have hm2:mkS false Y f=some (false,Y,f):=mkS_idem F2;obtain ⟨K,t,m,hL,hR⟩:=quo64 (decide (V<0)) X e Y f hX (by omega) hbl hbl2
 refine ⟨K,t,m,fun j hj=>?_,fun mode hm0 hm4=>?_⟩
 · refine hL.ratio16 (Nat.mul_pos (by omega) (Nat.two_pow_pos _)) ?_
   unfold rV11 rS11;rw [←hvv,←hv2]
   have e1:X*2^(e-f+((1*1074:Nat):Int)).toNat*(Y*2^(f+(v:Int)).toNat*2^u)=X*Y*(2^((e-f+((1*1074:Nat):Int)).toNat+((f+(v:Int)).toNat+u))):=by
    rw [Nat.pow_add,Nat.pow_add,Nat.mul_assoc Y,Nat.mul_mul_mul_comm]
   have e2:X*2^(e+(u:Int)).toNat*2^(j+v)*(Y*2^(-(e-f+((1*1074:Nat):Int))).toNat)=X*Y*(2^((e+(u:Int)).toNat+(j+v)+(-(e-f+((1*1074:Nat):Int))).toNat)):=by
    rw [Nat.pow_add _ (_+_),Nat.pow_add _ (e+(u:Int)).toNat,Nat.mul_assoc X,Nat.mul_mul_mul_comm]
   rw [e1,e2]
   congr 2
   omega
 · unfold qR16
   rw [ho,ho2]
   show quoR rndS ⟨decide (V<0),.bool false,X,e,false,.bool false,Y,f⟩ mode=_
   unfold quoR;rw [if_neg (by omega),if_pos (by rw [errL_one];show errN X (decide (V<0)) e Y false f=0;unfold errN;rw [if_neg (by unfold sgn;simp;split <;> omega),hm1,hm2];simp [dX];omega),hm1,hm2]
   have:=hR mode hm0 hm4;simp only [decide_eq_true_eq] at this;exact this
theorem own13 {V W:Int}(hV:V≠0) (hW:0<W) (k:Nat) (hk:k≤90000) (hb:V.natAbs<2^k) (hb2:W.natAbs<2^k) (L:Nat) (hL:L<9218868437227405312) (e:∀ j,j=1074→V.natAbs*2^j=vK L*W.natAbs) (mode:Int) (hm0:0≤mode) (hm4:mode≤4) :
 qvR V W mode=(L+(if V<0 then 9223372036854775808 else 0),0):=by
 obtain ⟨K,t,m,hL1,hR⟩:=quot_lies hV hW k hk hb hb2;rw [hR mode hm0 hm4,rK_own mode _ (hL1 1074 rfl) L hL (e 1074 rfl)]
theorem lev_own {xs:List Nat}{s:Sp}{mode:Int}(hW:W64 xs) (hl:xs.length≤65536) (hne:xs≠[]) (hV:vS xs≠0) (hm0:0≤mode) (hm4:mode≤4) (L:Nat) (hL:L<9218868437227405312) (e:∀ j k,j=1074→k=2148→(vS xs).natAbs*2^j=vK L*(xs.length*2^k)) :
 levR xs s mode=(L+(if vS xs<0 then 9223372036854775808 else 0),0):=by
 unfold levR;obtain ⟨k,hk⟩:∃ k:Nat,k=2148:=⟨_,rfl⟩;obtain ⟨j,hj,hb⟩:=vS_bd hW hl;obtain ⟨j2,hj2,hb2⟩:=lenW_bd xs.length hl k hk;rw [if_neg hne,if_neg hV,qn_qv _ _ _ k hk];have hp:0<xs.length:=List.length_pos_iff.2 hne;have hpk:=Nat.two_pow_pos k;refine own13 hV ?_ j (by omega) hb (by rw [hj,←hj2];exact hb2) L hL ?_ mode hm0 hm4
 · rw [←Int.natCast_mul];have:=Nat.mul_pos hp hpk;omega
 · intro i hi
   rw [←Int.natCast_mul,Int.natAbs_natCast];exact e i k hi hk
theorem lit13 (w:World) (xs:List Nat) (g:Nat) (hg:g=w.heap.size):Fs (w.alloc (Obj.cells (xs.map fun x=>Value.float .f64 x).toArray 27)).heap.size (w.alloc (Obj.cells (xs.map fun x=>Value.float .f64 x).toArray 27)) (some ⟨g,0,none⟩) xs:=by
 intro _;refine ⟨g,0,by simp;omega,rfl,fun i hi=>?_⟩
 have hB:=Bl.new w 27 (xs.map fun x=>Value.float .f64 x)
 rw [hg];refine (hB.cell (0+i) (.float .f64 (xs.getD i 0)) ?_);rw [Nat.zero_add,List.getElem?_map,List.getD_eq_getElem?_getD,List.getElem?_eq_getElem hi]
 rfl
theorem mid2030:midR 4626322717216342016 4629137466983448576 0=(4627730092099895296,0):=by
 have e1:askE 0=0:=by decide
 have e2:plE [4626322717216342016,4629137466983448576]=0:=by decide +kernel
 have hp:decide (0<vS [4626322717216342016,4629137466983448576])=true:=by decide +kernel
 have hp:=of_decide_eq_true hp;have e5:=lev_own (xs:=[4626322717216342016,4629137466983448576]) (s:=sS [4626322717216342016,4629137466983448576]) (mode:=0) (by unfold W64;decide) (by decide) (by decide) (by omega) (by decide) (by decide) 4627730092099895296 (by decide) (fun j k hj hk=>by subst hj hk;decide +kernel)
 unfold midR plnR;rw [e1,if_pos rfl,e2,if_pos rfl,e5,if_neg (by omega)]
 rfl
theorem lnV_bd16 {low high rest den:Nat}(hl:low<18446744073709551616) (fl:finW low) (hh:high<18446744073709551616) (fh:finW high) (hd:den≤2147483648) (hr:rest≤den):∃ k:Nat,k=2130∧Bd k (lnV low high rest den):=by
 obtain ⟨z,hz⟩:∃ z,z=2098:=⟨_,rfl⟩;obtain ⟨k,hk⟩:∃ z,z=31:=⟨_,rfl⟩;have b1:=bd_fv16 hl fl z hz;have b2:=bd_fv16 hh fh z hz;have bn:∀ n:Nat,n≤2147483648→Bd k (n:Int):=fun n hn=>by unfold Bd;rw [Int.natAbs_natCast,hk];exact hn
 exact ⟨_,by omega,(b1.mul (bn (den-rest) (by omega))).add (b2.mul (bn rest (by omega)))⟩
theorem ln1020:lnR 4621819117588971520 4626322717216342016 3 4 0=4625619029774565376:=by
 obtain ⟨V,hV⟩:∃ V,V=lnV 4621819117588971520 4626322717216342016 3 4:=⟨_,rfl⟩;have hp:decide (0<lnV 4621819117588971520 4626322717216342016 3 4)=true:=by decide +kernel
 have hp:=of_decide_eq_true hp;obtain ⟨k,hk,hb⟩:=lnV_bd16 (low:=4621819117588971520) (high:=4626322717216342016) (rest:=3) (den:=4) (by decide) (by unfold finW magW;decide) (by decide) (by unfold finW magW;decide) (by decide) (by decide)
 have hq:∀ j,j=1074→V.natAbs*2^(j+0)=vK 4625619029774565376*((4:Int).natAbs*2^1074):=fun j hj=>by subst hj hV;decide +kernel
 rw [←hV] at hp hb;obtain ⟨K,t,m,h1,h2⟩:=qR_ok16 (u:=1074) (v:=0) (k:=k) (V:=V) (D:=4) (by omega) (by omega) (by omega) (by omega) (by decide) hb (by unfold Bd;exact Nat.le_trans (by decide) (Nat.pow_le_pow_right (n:=2) (by decide) (show 2≤k by omega)))
 unfold lnR;rw [←hV,if_neg (by omega),show ((4:Nat):Int)=4 from rfl,h2 0 (by decide) (by decide),if_neg (by omega)]
 have:=rK_own 0 (decide (V<0)) (h1 1074 rfl).lies 4625619029774565376 (by decide) (hq 1074 rfl)
 rw [this]
theorem row_eq16 {xs M:List Nat}(hP:M.Perm (List.range xs.length)) (hU:M.Pairwise (fun a b=>leI xs a b=true)):M=rowL xs :=
 List.Perm.eq_of_pairwise (le:=fun a b=>leI xs a b=true) (fun a b ha hb h1 h2=>leI_anti xs a b h1 h2) hU (rowI_sorted xs _) (hP.trans (rowL_perm xs).symm)
theorem sort16:sortL [4621819117588971520,4630826316843712512,4626322717216342016,4629137466983448576]=[4621819117588971520,4626322717216342016,4629137466983448576,4630826316843712512]:=by
 have e:[0,2,3,1]=rowL [4621819117588971520,4630826316843712512,4626322717216342016,4629137466983448576]:=row_eq16 (by decide) (by decide +kernel)
 unfold sortL;rw [←e]
 decide +kernel
theorem am16:amE [4621819117588971520,4630826316843712512,4626322717216342016,4629137466983448576] false=0:=by decide +kernel
theorem qu16:quR [4621819117588971520,4630826316843712512,4626322717216342016,4629137466983448576] 1 4 4 0=(4625619029774565376,0):=by
 unfold quR;rw [if_neg (by decide),am16,if_pos rfl,sort16]
 unfold telR;rw [if_neg (by decide),if_neg (by decide),if_neg (by decide),if_neg (by decide),if_neg (by decide)]
 show (lnR 4621819117588971520 4626322717216342016 3 4 0,(0:Int))=_
 rw [ln1020]
theorem sv16:(sevTo [4621819117588971520,4630826316843712512,4626322717216342016,4629137466983448576] 2 3 0 3).getD 1 0=4627730092099895296:=by
 unfold sevTo
 show telR (sortL [4621819117588971520,4630826316843712512,4626322717216342016,4629137466983448576]) 1 2 3 0=_
 rw [sort16];unfold telR;rw [if_neg (by decide),if_neg (by decide),if_neg (by decide),if_neg (by decide),if_pos rfl]
 show (midR 4626322717216342016 4629137466983448576 0).1=_
 rw [mid2030]
theorem ct16:cntS [4621819117588971520,4630826316843712512,4626322717216342016,4629137466983448576] 4626322717216342016=2:=by decide +kernel
end
section
open Go Go.RowKit J
open Go.Proofs.YtgfemeencgjneaaGreatDoor.B (f64bits f64frombits)
attribute [local go_sem] st_float f64bits f64frombits
abbrev l16:List Nat:=[4621819117588971520,4630826316843712512,4626322717216342016,4629137466983448576]
theorem live16 (w:World) (hT:Tab w):Calls Tryz.prog 35 #[] w fun r w'=>r=.returned (.bool true)∧Below w.heap.size w w':=by
 have o1:(FloatKind.f64.format.order 4625619029774565376 4625619029774565376==some .eq)=true:=by decide +kernel
 have o2:(FloatKind.f64.format.order 4627730092099895296 4627730092099895296==some .eq)=true:=by decide +kernel
 obtain ⟨W1,hW1⟩:∃ W,W=w.alloc (Obj.cells #[.float .f64 4621819117588971520,.float .f64 4630826316843712512,.float .f64 4626322717216342016,.float .f64 4629137466983448576] 27):=⟨_,rfl⟩;obtain ⟨g,hg⟩:∃ g,g=w.heap.size:=⟨_,rfl⟩
 have B1:Aside (Below w.heap.size w W1∧Fs W1.heap.size W1 (some ⟨g,0,none⟩) l16):=by
  rw [hW1];exact ⟨bel_alloc _ _,lit13 w [_,_,_,_] _ hg⟩
 have hW:W64 l16:=by unfold W64;decide
 have HT:=(qsd (ai hT hW));have C1:=hid (Quantile16 l16 (some ⟨g,0,none⟩) 4 4 1 4 4 0 W1 (hT.belows B1.out.1) B1.out.2 rfl (by decide) hW _ qu16)
 have HW1:=(qsd (ai hW1 hg));clear hW1 hT hg hW;go_enter Tryz.func35,Tryz.ntmps35
 go_wp2_with fail
 rw [←HW1.out.1,←HW1.out.2];clear HW1;refine C1.out.mono ?_;rintro r u1 ⟨rfl,hb1⟩;have B2:Aside (Below w.heap.size w u1∧Fs u1.heap.size u1 (some ⟨g,0,none⟩) l16):=⟨B1.out.1.trans (hb1.mono B1.out.1.size),(B1.out.2.below hb1).mono hb1.size⟩;clear hb1 C1 B1;have C2:=hid (Share16 l16 4626322717216342016 (some ⟨g,0,none⟩) 4 4 u1 (by decide) B2.out.2 rfl (by decide) HT.out.2)
 rw [show amE l16 (nanW 4626322717216342016)=0 by decide +kernel,if_pos rfl,if_pos rfl,show cntS l16 4626322717216342016=2 from ct16,show l16.length=4 from rfl] at C2
 go_wp2_with fail
 refine C2.out.mono ?_;rintro r u2 ⟨rfl,hb2⟩;have B3:Aside (Below w.heap.size w u2∧Fs u2.heap.size u2 (some ⟨g,0,none⟩) l16):=⟨B2.out.1.trans (hb2.mono B2.out.1.size),(B2.out.2.below hb2).mono hb2.size⟩;clear hb2 C2 B2;have C3:=hid (Several_ok16 l16 (some ⟨g,0,none⟩) 4 4 2 3 0 u2 (HT.out.1.belows B3.out.1) B3.out.2 rfl HT.out.2 (by decide) (by decide) (by decide) am16)
 go_wp2_with fail
 refine C3.out.mono ?_;rintro r u3 ⟨gs,rfl,hO,hg,hb3⟩;have B4:=qsd (B3.out.1.trans (hb3.mono B3.out.1.size));have c1:=hO.cell 1 (by rw [sevTo_len _ _ _ _ _ (by decide)];decide)
 rw [show (sevTo l16 2 3 0 (2+1)).getD 1 0=4627730092099895296 from sv16] at c1
 clear hb3 C3 B3 hO hg;simp only;go_wp2;go_ret;exact ⟨rfl,B4.out⟩
theorem exact16 (x y:Nat) (w:World):Calls Tryz.prog 38 #[.float .f64 x,.float .f64 y] w fun r w'=>r=.returned (.bool (decide (x=y)))∧w'=w:=by
 go_enter Tryz.func38,Tryz.ntmps38;go_wp2;go_ret;refine ⟨congrArg (fun z=>Ending.returned (Value.bool z)) ?_,rfl⟩
 first | rfl | (rw [Bool.eq_iff_iff];simp;done) | (rw [Bool.eq_iff_iff];simp;omega)
end
section
open Go Go.RowKit J
attribute [local go_sem] st_float
theorem fs_take10 {B:Nat}{w:World}{a:Option Addr}{xs:List Nat}(h:Fs B w a xs) (k:Nat):Fs B w a (xs.take k):=by
 intro hne;obtain ⟨b,off,h1,h2,h3⟩:=h (by rintro rfl;simp at hne)
 refine ⟨b,off,h1,h2,fun i hi=>?_⟩
 rw [List.length_take] at hi;rw [h3 i (by omega),List.getD_eq_getElem?_getD,List.getD_eq_getElem?_getD,List.getElem?_take,if_pos (by omega)]
theorem Is7.mono10 {B:Nat}{w w':World}{a:Option Addr}{xs:List Int}(h:Is7 B w a xs) (hb:Below B w w') (hs:B≤w'.heap.size):Is7 w'.heap.size w' a xs:=by
 intro hne;obtain ⟨b,off,h1,h2,h3⟩:=h hne;exact ⟨b,off,by omega,h2,fun i hi=>(hb.cell (p:=⟨b,off+i,none⟩) h1).trans (h3 i hi)⟩
theorem turn_perm (O R:List Nat) (p:Nat) (hp:p<R.length):((O++[R.getD p 0])++(R.take p++R.drop (p+1))).Perm (O++R):=by
 have e:R=R.take p++R.getD p 0::R.drop (p+1):=by
  have h1:R.drop p=R.getD p 0::R.drop (p+1):=by rw [List.drop_eq_getElem_cons hp,List.getD_eq_getElem?_getD,List.getElem?_eq_getElem hp];rfl
  rw [←h1,List.take_append_drop]
 have h2:(R.getD p 0::(R.take p++R.drop (p+1))).Perm R:=by
  have:=(List.perm_middle (a:=R.getD p 0) (l₁:=R.take p) (l₂:=R.drop (p+1))).symm;rw [←e] at this;exact this
 rw [List.append_assoc,List.singleton_append];exact h2.append_left O
abbrev askO (num den rule mode:Int):Obj:=Obj.cells #[.int .i64 num,.int .i64 den,.int .i64 rule,.int .i64 mode] 80
theorem walk2_QuantOrder (a1:Option Addr) (N1 c1:Nat) (ls:List Nat) (a2:Option Addr) (n2 c2:Nat) (os:List Int) (num den rule mode:Int) (w0:World) (hT:Tab w0) (hC:CameF w0 a1 N1 c1 ls) (hD:CameI w0 a2 n2 c2 os) (hm1:N1≤17592186043904) (hm2:n2≤17592186043904) :
 Calls Tryz.prog 8 #[.slice a1 N1 c1,.slice a2 n2 c2,.agg #[.int .i64 num,.int .i64 den,.int .i64 rule,.int .i64 mode]] w0 fun r w'=>r=.returned (.bool true)∧Below w0.heap.size w0 w':=by
 obtain ⟨hl1,hcap1,hW1,hF1,hnil⟩:=hC;obtain ⟨hl2,hcap2,hI6',hI',_⟩:=hD;obtain ⟨W,hWW⟩:∃ W,W=w0.alloc (askO num den rule mode):=⟨_,rfl⟩;obtain ⟨g,hg⟩:∃ g,g=w0.heap.size:=⟨_,rfl⟩;have hb0:Below w0.heap.size w0 W:=by rw [hWW];exact below_alloc _ _
 have hbl:Bl W g 80 [.int .i64 num,.int .i64 den,.int .i64 rule,.int .i64 mode]:=by rw [hWW,hg];exact Bl.new _ _ [_,_,_,_]
 obtain ⟨xs,hxs⟩:∃ zs,zs=ls.take 300:=⟨_,rfl⟩;have hxl:xs.length=min 300 N1:=by rw [hxs,List.length_take,hl1]
 have hxW:W64 xs:=fun x hx=>hW1 x (by rw [hxs] at hx;exact List.mem_of_mem_take hx)
 have HL:=hid (live16 W (hT.belows hb0));have HEx:=hid (fun (q:Nat) (u:World)=>exact16 q q u)
 simp only [decide_true] at HEx;have HWW:=(qsd (ai hWW hg));have HT:=(qsd (ai hT (ai hxW hb0)))
 have HXF:Aside (∀ u:World,Below W.heap.size W u→Fs u.heap.size u a1 xs∧Is7 u.heap.size u a2 os∧Bl u g 80 [.int .i64 num,.int .i64 den,.int .i64 rule,.int .i64 mode]):=fun u hu=>by
  have hb:=hb0.trans (hu.mono hb0.size);exact ⟨by rw [hxs];exact fs_take10 ((hF1.below hb).mono hb.size) 300,hI'.mono10 hb hb.size,hbl.below hu hbl.lt⟩
 have HC1:=(qsd (ai hcap1 (ai hxl (ai hI6' hl2))));clear hWW hT hb0 hxW hxs hF1 hI' hbl hW1 hl1 hxl hI6' hcap1 hl2 hcap2;go_enter Tryz.func8,Tryz.ntmps8
 go_wp2_with fail
 try rw [←HWW.out.1]
 try rw [←hg]
 refine HL.out.mono ?_;rintro r w ⟨rfl,hbw⟩;have BW:=qsd hbw;clear hbw HL HWW hg
 by_cases h3:300<N1
 · have d3:decide ((300:Int)<(N1:Nat))=true:=by simp;omega
   have hle:300≤c1:=by have:=HC1.out.1;omega
   have hn:300=xs.length:=by have:=HC1.out.2.1;omega
   have hF:Fs w.heap.size w a1 xs:=(HXF.out w BW.out).1;have hI:Is7 w.heap.size w a2 os:=(HXF.out w BW.out).2.1;have hl:300≤300:=by omega
   have ho:n2=os.length:=HC1.out.2.2.2;have hI6:I64 os:=HC1.out.2.2.1
   obtain ⟨v1,W1,hrun,hR1,hbl1⟩:∃ v1 W1,(Builtin.append_ #[23,23] 23 #[.slice (some ⟨w.heap.size,0,none⟩) 0 0,.slice a1 300 c1]).run Tryz.prog (w.alloc (Obj.cells #[] 27))=.ok v1 W1∧Rf w.heap.size W1 v1 xs∧Below w.heap.size w W1:=by
    obtain ⟨i0,hi,hz0,hz1,hz2⟩:=info_parts Tryz.info_f64;have hm0:(w.alloc (Obj.cells #[] 27)).ownsRow w.heap.size 27 1 (.slice (some ⟨w.heap.size,0,none⟩) 0 0) 0 []:=World.ownsRow_made w #[] 0 (Nat.le_refl _) (Nat.zero_le _) (by simp)
    have hal:Below w.heap.size w (w.alloc (Obj.cells #[] 27)):=(Below.refl _ _).alloc (Nat.le_refl _) _
    cases a1 with
    | none =>
      have hx:xs=[]:=by
       by_cases h:xs=[]
       · exact h
       · obtain ⟨_,_,_,e,_⟩:=hF h;cases e
      subst hx;obtain rfl:=hnil rfl;simp only [List.length_nil] at hn;exact absurd hn (by decide)
    | some ad =>
      obtain ⟨v1,W1,h1,h2,h3,_⟩:=append_flts (w.alloc (Obj.cells #[] 27)) w.heap.size (.slice (some ⟨w.heap.size,0,none⟩) 0 0) [] xs (some ad) 300 c1 23 hm0 hn
       (fun hne=>by
        obtain ⟨b,off,hb,e,hc⟩:=hF hne;exact ⟨b,off,e,fun i hi=>Lib.cell?_alloc_some _ (hc i hi)⟩) (by simp) (by first | (simp;done) | (simp;omega)) (by simp)
      exact ⟨v1,W1,h1,h2,hal.grown h3 (by simp) (fun k e=>by simp [Value.ownBlock] at e;omega)⟩
   have HXS:=(qsd (ai hn (ai hF (ai hl (ai ho (ai hI hI6))))));have H1:=(qsd (ai hR1 hbl1));have HR:=qsd hrun;have hn2b:n2<4611686018427387904:=by omega
   clear hn hF hl ho hI hI6 hrun hR1 hbl1 hm2 hnil
   go_wp2_with (at_builtin;refine wpList_append_flt rfl _ _ rfl _ _ rfl rfl v1 W1 HR.out ?_)
   go_loopg [8,9,10] xs.length (fun gk vr vo i wr=>∃ (q:Nat) (O R:List Nat),gk=R.length∧q+R.length=xs.length∧i=.int .i64 (q:Nat)∧Aside (Rf w.heap.size wr vo O∧Rf w.heap.size wr vr R∧(O++R).Perm xs∧(∀ b,vr.ownBlock=some b→vo.ownBlock≠some b)∧Below w.heap.size w wr))
   case atStart=>exact ⟨0,[],xs,rfl,by omega,by simp,Rf.nil _ _,H1.out.1,List.Perm.refl _,fun b _=>by simp [Value.ownBlock],H1.out.2⟩
   case round =>
    clear H1;obtain ⟨q,O,R,hgR,hqR,rfl,HL⟩:=hrel;obtain ⟨ao,co,rfl,hco⟩:=HL.out.1.shape0
    by_cases hR:0<R.length
    · obtain ⟨gR,cap,rfl,hgl,hgh,hcap,hmx,hcells⟩:=HL.out.2.1.shape hR
      have hl300:R.length≤300:=by have:=HXS.out.2.2.1;have:=HXS.out.1;omega
      have hcmax:cap≤9223372036854775807:=by unfold maxLen at hmx;omega
      have HCE:=qsd hcells;clear hcells hgl hgh hmx
      by_cases ho:q<n2
      · obtain ⟨b4,off4,rfl,hc4⟩:=HXS.out.2.2.2.2.1.at HL.out.2.2.2.2 q (by rw [←HXS.out.2.2.2.1];exact ho)
        have hob:=HXS.out.2.2.2.2.2 q;obtain ⟨oq,hoq⟩:∃ z,z=os.getD q 0:=⟨_,rfl⟩;rw [←hoq] at hc4 hob;clear hoq;have hd:decide ((q:Int)<n2)=true:=by simp;omega
        go_wp2_with fail
        refine (pick10 oq R.length wr hob.1 hob.2 hR (by omega)).mono ?_
        rintro r u ⟨p,rfl,hp,rfl⟩;clear hc4 hob ho hd;obtain ⟨x,hx⟩:∃ x,x=R.getD p 0:=⟨_,rfl⟩;have hcx:u.cell? ⟨gR,p,none⟩=some (.float .f64 x):=by rw [hx];exact HCE.out p hp
        obtain ⟨v2,W2,hrun0,hO2,hg2,hb2⟩:=append_flts (u.alloc (Obj.cells #[.float .f64 x] 27)) w.heap.size (.slice ao O.length co) O [x] (some ⟨u.heap.size,0,none⟩) 1 1 23 (HL.out.1.alloc _) rfl
         (fun _=>⟨u.heap.size,0,rfl,fun i hi=>by
          obtain rfl:i=0:=by simp at hi;omega
          unfold World.cell?;simp only [heap_alloc_new];rfl⟩) (by simp) (by have:=HL.out.2.2.1.length_eq;have:=HXS.out.2.2.1;have:=HXS.out.1;simp at *;omega) (by have:=HL.out.2.2.2.2.size;simp;omega)
        have hgs:gR<u.heap.size:=(HL.out.2.1.lt gR rfl).2;have hR2:Rf w.heap.size W2 (.slice (some ⟨gR,0,none⟩) R.length cap) R:=(HL.out.2.1.alloc _).grown hg2 (fun b hb e=>HL.out.2.2.2.1 b hb e)
        have hs2:u.heap.size<W2.heap.size:=by have:=hg2.size;simp at this;omega
        have hdj:v2.ownBlock≠some gR:=by
         rcases hb2 with e|e
         · rw [e];exact HL.out.2.2.2.1 gR rfl
         · rw [e];simp;omega
        have hbl2:Below w.heap.size w W2:=(HL.out.2.2.2.2.alloc HL.out.2.2.2.2.size _).grown hg2 (by have:=HL.out.2.2.2.2.size;simp;omega) (fun k e=>(HL.out.1.lt k e).1)
        have hc2:∀ i,i<R.length→W2.cell? ⟨gR,i,none⟩=some (.float .f64 (R.getD i 0)):=fun i hi=>by
         obtain ⟨g',cap',e,_,_,_,_,h⟩:=hR2.shape hR
         cases e
         exact h i hi
        obtain ⟨v3,W3,hru300,hR3,hgr3,hb3⟩:=append_flts (W2.drew.alloc (Obj.cells #[] 27)) w.heap.size (.slice (some ⟨W2.heap.size,0,none⟩) 0 0) [] (R.take p) (some ⟨gR,0,none⟩) p cap 23 (World.ownsRow_made W2.drew #[] 0 hbl2.size (Nat.zero_le _) (by simp)) (by simp;omega)
         (fun _=>⟨gR,0,rfl,fun i hi=>by
          have hi2:i<p:=by simp at hi;omega
          rw [Nat.zero_add,show (R.take p).getD i 0=R.getD i 0 by rw [List.getD_eq_getElem?_getD,List.getD_eq_getElem?_getD,List.getElem?_take,if_pos hi2]]
          exact Lib.cell?_alloc_some _ (hc2 i (by omega))⟩) (by simp) (by simp;omega) (by have:=hbl2.size;simp;omega)
        have hWc:∀ i,i<R.length→W3.cell? ⟨gR,i,none⟩=some (.float .f64 (R.getD i 0)):=fun i hi=>hgr3.cell (Lib.cell?_alloc_some _ (hc2 i hi)) (by simp [Value.ownBlock];omega)
        obtain ⟨ao2,hao2⟩:∃ a:Option Addr,a=if cap=p+1 then some ⟨gR,0,none⟩ else some ⟨gR,p+1,none⟩:=⟨_,rfl⟩
        have hs3:W2.heap.size<W3.heap.size:=by have:=hgr3.size;simp at this;omega
        obtain ⟨v4,W4,hrun2,hR4,hgr4,hb4⟩:=append_flts W3 w.heap.size v3 ([]++R.take p) (R.drop (p+1)) ao2 (R.length-(p+1)) (cap-(p+1)) 23 hR3 (by simp)
         (fun hne=>⟨gR,p+1,by rw [hao2,if_neg (fun e=>hne (List.drop_eq_nil_of_le (by omega)))],fun i hi=>by
          have hi2:p+1+i<R.length:=by simp at hi;omega
          rw [show (R.drop (p+1)).getD i 0=R.getD (p+1+i) 0 by rw [List.getD_eq_getElem?_getD,List.getD_eq_getElem?_getD,List.getElem?_drop]]
          exact hWc _ hi2⟩) (by rw [hao2];split <;> simp) (by simp;omega) (by have:=hbl2.size;omega)
        have b3:∀ b,v3.ownBlock=some b→W2.heap.size≤b:=fun b e=>by
         rcases hb3 with q|q
         · rw [q] at e;simp [Value.ownBlock] at e;omega
         · rw [q] at e;simp at e;omega
        have b4:∀ b,v4.ownBlock=some b→W2.heap.size≤b:=fun b e=>by
         rcases hb4 with q|q
         · exact b3 b (by rw [←q];exact e)
         · rw [q] at e;simp at e;omega
        have HN:Aside (Rf w.heap.size W4 v2 (O++[x])∧Rf w.heap.size W4 v4 (R.take p++R.drop (p+1))∧((O++[x])++(R.take p++R.drop (p+1))).Perm xs∧(∀ b,v4.ownBlock=some b→v2.ownBlock≠some b)∧Below w.heap.size w W4):=by
         have o3:Rf w.heap.size W3 v2 (O++[x]):=(hO2.drew.alloc _).grown hgr3 (fun b hb e=>by have:=(hO2.lt b hb).2;simp [Value.ownBlock] at e;omega)
         have o4:Rf w.heap.size W4 v2 (O++[x]):=o3.grown hgr4 (fun b hb e=>by have:=(hO2.lt b hb).2;have:=b3 b e;omega)
         refine ⟨o4,?_,?_,fun b hb e=>?_,?_⟩
         · rw [List.nil_append] at hR4;exact hR4
         · refine List.Perm.trans ?_ HL.out.2.2.1
           rw [hx];exact turn_perm O R p hp
         · have h1:=b4 b hb
           have h2:=(hO2.lt b e).2;omega
         · have q1:Below w.heap.size w (W2.drew.alloc (Obj.cells #[] 27)):=hbl2.drew.alloc hbl2.size _
           have q2:=q1.grown hgr3 q1.size (fun k e=>by simp [Value.ownBlock] at e;have:=hbl2.size;omega)
           exact q2.grown hgr4 q2.size (fun k e=>by have:=b3 k e;have:=hbl2.size;omega)
        have HJ:=qsd (ai hrun0 (ai hru300 hrun2));have hu:IntKind.i64.wrap ((p:Int)+1)=((p+1:Nat):Int):=by rw [IntKind.wrap_i64];omega
        have hif:(if cap=p+1 then (some ⟨gR,0,none⟩:Option Addr) else some ⟨gR,p+1,none⟩)=ao2:=hao2.symm
        have hpc:p≤cap:=by omega
        have hp1:p+1≤R.length:=by omega
        have hb0:(0:Int)≤(p:Int)+1:=by omega
        have hb1:(p:Int)+1≤(R.length:Int):=by omega
        have hqb:q<4611686018427387904:=by have:=HXS.out.2.2.1;have:=HXS.out.1;omega
        have hlt:(R.take p++R.drop (p+1)).length+1=R.length:=by simp;omega
        clear hx hrun0 hru300 hrun2 hO2 hg2 hb2 hR2 hs2 hdj hbl2 hc2 hR3 hgr3 hb3 hWc hao2 hs3 hR4 hgr4 hb4 b3 b4 hgs HL HCE
        go_wp2_with (at_builtin;refine wpList_append_flt rfl _ _ rfl _ _ rfl rfl v2 W2 HJ.out.1 ?_)
        refine until_region (fun _=>True) 11 (by kernel_rfl) ?_
        refine until_take (i:=1) [] (v:=?_) rfl (by kernel_rfl) (by kernel_rfl) (by kernel_rfl) (by kernel_rfl) (by kernel_rfl) (fun _ _ _ h=>h) (Or.inl ⟨by rfl,?_⟩) trivial ?_
        rotate_left
        · intro u hSu
          first | (go_simp;done) | (go_simp;with_reducible rfl)
        try simp only [Act.put,List.setIfInBounds_toArray,List.set_cons_zero,List.set_cons_succ]
        refine until_take (i:=2) [] (v:=?_) rfl (by kernel_rfl) (by kernel_rfl) (by kernel_rfl) (by kernel_rfl) (by kernel_rfl) (fun _ _ _ h=>h) (Or.inl ⟨by rfl,?_⟩) trivial ?_
        rotate_left
        · intro u hSu
          first | (go_simp;done) | (go_simp;with_reducible rfl)
        try simp only [Act.put,List.setIfInBounds_toArray,List.set_cons_zero,List.set_cons_succ]
        refine until_take (i:=3) [] (v:=?_) rfl (by kernel_rfl) (by kernel_rfl) (by kernel_rfl) (by kernel_rfl) (by kernel_rfl) (fun _ _ _ h=>h) (Or.inl ⟨by rfl,?_⟩) trivial ?_
        rotate_left
        · intro u hSu
          first | (go_simp;done) | (go_simp;with_reducible rfl)
        try simp only [Act.put,List.setIfInBounds_toArray,List.set_cons_zero,List.set_cons_succ]
        refine until_take (i:=5) [] (v:=?_) rfl (by kernel_rfl) (by kernel_rfl) (by kernel_rfl) (by kernel_rfl) (by kernel_rfl) (fun _ _ _ h=>h) (Or.inl ⟨by rfl,?_⟩) trivial ?_
        rotate_left
        · intro u hSu
          first | (go_simp;done) | (go_simp;with_reducible rfl)
        try simp only [Act.put,List.setIfInBounds_toArray,List.set_cons_zero,List.set_cons_succ]
        refine until_take (i:=6) [] (v:=?_) rfl (by kernel_rfl) (by kernel_rfl) (by kernel_rfl) (by kernel_rfl) (by kernel_rfl) (fun _ _ _ h=>h) (Or.inl ⟨by rfl,?_⟩) trivial ?_
        rotate_left
        · intro u hSu
          first | (go_simp;done) | (go_simp;with_reducible rfl)
        try simp only [Act.put,List.setIfInBounds_toArray,List.set_cons_zero,List.set_cons_succ]
        refine until_take (i:=7) [] (v:=?_) rfl (by kernel_rfl) (by kernel_rfl) (by kernel_rfl) (by kernel_rfl) (by kernel_rfl) (fun _ _ _ h=>h) (Or.inl ⟨by rfl,?_⟩) trivial ?_
        rotate_left
        · intro u hSu
          first | (go_simp;done) | (go_simp;with_reducible rfl)
        try simp only [Act.put,List.setIfInBounds_toArray,List.set_cons_zero,List.set_cons_succ]
        refine until_take (i:=8) [] (v:=?_) rfl (by kernel_rfl) (by kernel_rfl) (by kernel_rfl) (by kernel_rfl) (by kernel_rfl) (fun _ _ _ h=>h) (Or.inl ⟨by rfl,?_⟩) trivial ?_
        rotate_left
        · intro u hSu
          first | (go_simp;done) | (go_simp;with_reducible rfl)
        try simp only [Act.put,List.setIfInBounds_toArray,List.set_cons_zero,List.set_cons_succ]
        refine until_one (i:=0) (by kernel_rfl) rfl (fun K' hK=>?_)
        go_simp
        refine hK.out _ _ (fun _=>trivial) ?_
        clear hK K'
        try simp only [Act.put,List.setIfInBounds_toArray,List.set_cons_zero,List.set_cons_succ]
        refine until_one (i:=4) (by kernel_rfl) rfl (fun K' hK=>?_)
        rw [if_pos (by rfl)]
        refine wp_append_flt _ _ rfl _ _ rfl rfl v3 W3 HJ.out.2.1 ?_;refine hK.out _ _ (fun _=>trivial) ?_
        clear hK K'
        try simp only [Act.put,List.setIfInBounds_toArray,List.set_cons_zero,List.set_cons_succ]
        refine until_one (i:=9) (by kernel_rfl) rfl (fun K' hK=>?_)
        rw [if_pos (by rfl)]
        refine wp_append_flt _ _ rfl _ _ rfl rfl v4 W4 HJ.out.2.2 ?_;refine hK.out _ _ (fun _=>trivial) ?_
        clear hK K'
        try simp only [Act.put,List.setIfInBounds_toArray,List.set_cons_zero,List.set_cons_succ]
        refine until_one (i:=10) (by kernel_rfl) rfl (fun K' hK=>?_)
        go_simp
        refine hK.out _ _ (fun _=>trivial) ?_
        clear hK K';refine until_done (by kernel_rfl) ?_ _
        go_wp2
        go_roundg (R.take p++R.drop (p+1)).length
        case measure=>omega
        case rel=>exact ⟨q+1,O++[x],R.take p++R.drop (p+1),rfl,by omega,by first | rfl | simp,HN.out⟩
      · have hd:decide ((q:Int)<n2)=false:=by simp;omega
        obtain ⟨u,hu⟩:∃ u,u=wr:=⟨_,rfl⟩;subst hu;obtain ⟨p,hp0⟩:∃ p:Nat,p=0:=⟨_,rfl⟩;have hp:p<R.length:=by omega
        go_upto_region 12 with fail
        rw [show (0:Int)=((p:Nat):Int) by rw [hp0];rfl]
        clear hp0 ho hd;obtain ⟨x,hx⟩:∃ x,x=R.getD p 0:=⟨_,rfl⟩;have hcx:u.cell? ⟨gR,p,none⟩=some (.float .f64 x):=by rw [hx];exact HCE.out p hp
        obtain ⟨v2,W2,hrun0,hO2,hg2,hb2⟩:=append_flts (u.alloc (Obj.cells #[.float .f64 x] 27)) w.heap.size (.slice ao O.length co) O [x] (some ⟨u.heap.size,0,none⟩) 1 1 23 (HL.out.1.alloc _) rfl
         (fun _=>⟨u.heap.size,0,rfl,fun i hi=>by
          obtain rfl:i=0:=by simp at hi;omega
          unfold World.cell?;simp only [heap_alloc_new];rfl⟩) (by simp) (by have:=HL.out.2.2.1.length_eq;have:=HXS.out.2.2.1;have:=HXS.out.1;simp at *;omega) (by have:=HL.out.2.2.2.2.size;simp;omega)
        have hgs:gR<u.heap.size:=(HL.out.2.1.lt gR rfl).2;have hR2:Rf w.heap.size W2 (.slice (some ⟨gR,0,none⟩) R.length cap) R:=(HL.out.2.1.alloc _).grown hg2 (fun b hb e=>HL.out.2.2.2.1 b hb e)
        have hs2:u.heap.size<W2.heap.size:=by have:=hg2.size;simp at this;omega
        have hdj:v2.ownBlock≠some gR:=by
         rcases hb2 with e|e
         · rw [e];exact HL.out.2.2.2.1 gR rfl
         · rw [e];simp;omega
        have hbl2:Below w.heap.size w W2:=(HL.out.2.2.2.2.alloc HL.out.2.2.2.2.size _).grown hg2 (by have:=HL.out.2.2.2.2.size;simp;omega) (fun k e=>(HL.out.1.lt k e).1)
        have hc2:∀ i,i<R.length→W2.cell? ⟨gR,i,none⟩=some (.float .f64 (R.getD i 0)):=fun i hi=>by
         obtain ⟨g',cap',e,_,_,_,_,h⟩:=hR2.shape hR
         cases e
         exact h i hi
        obtain ⟨v3,W3,hru300,hR3,hgr3,hb3⟩:=append_flts (W2.drew.alloc (Obj.cells #[] 27)) w.heap.size (.slice (some ⟨W2.heap.size,0,none⟩) 0 0) [] (R.take p) (some ⟨gR,0,none⟩) p cap 23 (World.ownsRow_made W2.drew #[] 0 hbl2.size (Nat.zero_le _) (by simp)) (by simp;omega)
         (fun _=>⟨gR,0,rfl,fun i hi=>by
          have hi2:i<p:=by simp at hi;omega
          rw [Nat.zero_add,show (R.take p).getD i 0=R.getD i 0 by rw [List.getD_eq_getElem?_getD,List.getD_eq_getElem?_getD,List.getElem?_take,if_pos hi2]]
          exact Lib.cell?_alloc_some _ (hc2 i (by omega))⟩) (by simp) (by simp;omega) (by have:=hbl2.size;simp;omega)
        have hWc:∀ i,i<R.length→W3.cell? ⟨gR,i,none⟩=some (.float .f64 (R.getD i 0)):=fun i hi=>hgr3.cell (Lib.cell?_alloc_some _ (hc2 i hi)) (by simp [Value.ownBlock];omega)
        obtain ⟨ao2,hao2⟩:∃ a:Option Addr,a=if cap=p+1 then some ⟨gR,0,none⟩ else some ⟨gR,p+1,none⟩:=⟨_,rfl⟩
        have hs3:W2.heap.size<W3.heap.size:=by have:=hgr3.size;simp at this;omega
        obtain ⟨v4,W4,hrun2,hR4,hgr4,hb4⟩:=append_flts W3 w.heap.size v3 ([]++R.take p) (R.drop (p+1)) ao2 (R.length-(p+1)) (cap-(p+1)) 23 hR3 (by simp)
         (fun hne=>⟨gR,p+1,by rw [hao2,if_neg (fun e=>hne (List.drop_eq_nil_of_le (by omega)))],fun i hi=>by
          have hi2:p+1+i<R.length:=by simp at hi;omega
          rw [show (R.drop (p+1)).getD i 0=R.getD (p+1+i) 0 by rw [List.getD_eq_getElem?_getD,List.getD_eq_getElem?_getD,List.getElem?_drop]]
          exact hWc _ hi2⟩) (by rw [hao2];split <;> simp) (by simp;omega) (by have:=hbl2.size;omega)
        have b3:∀ b,v3.ownBlock=some b→W2.heap.size≤b:=fun b e=>by
         rcases hb3 with q|q
         · rw [q] at e;simp [Value.ownBlock] at e;omega
         · rw [q] at e;simp at e;omega
        have b4:∀ b,v4.ownBlock=some b→W2.heap.size≤b:=fun b e=>by
         rcases hb4 with q|q
         · exact b3 b (by rw [←q];exact e)
         · rw [q] at e;simp at e;omega
        have HN:Aside (Rf w.heap.size W4 v2 (O++[x])∧Rf w.heap.size W4 v4 (R.take p++R.drop (p+1))∧((O++[x])++(R.take p++R.drop (p+1))).Perm xs∧(∀ b,v4.ownBlock=some b→v2.ownBlock≠some b)∧Below w.heap.size w W4):=by
         have o3:Rf w.heap.size W3 v2 (O++[x]):=(hO2.drew.alloc _).grown hgr3 (fun b hb e=>by have:=(hO2.lt b hb).2;simp [Value.ownBlock] at e;omega)
         have o4:Rf w.heap.size W4 v2 (O++[x]):=o3.grown hgr4 (fun b hb e=>by have:=(hO2.lt b hb).2;have:=b3 b e;omega)
         refine ⟨o4,?_,?_,fun b hb e=>?_,?_⟩
         · rw [List.nil_append] at hR4;exact hR4
         · refine List.Perm.trans ?_ HL.out.2.2.1
           rw [hx];exact turn_perm O R p hp
         · have h1:=b4 b hb
           have h2:=(hO2.lt b e).2;omega
         · have q1:Below w.heap.size w (W2.drew.alloc (Obj.cells #[] 27)):=hbl2.drew.alloc hbl2.size _
           have q2:=q1.grown hgr3 q1.size (fun k e=>by simp [Value.ownBlock] at e;have:=hbl2.size;omega)
           exact q2.grown hgr4 q2.size (fun k e=>by have:=b3 k e;have:=hbl2.size;omega)
        have HJ:=qsd (ai hrun0 (ai hru300 hrun2));have hu:IntKind.i64.wrap ((p:Int)+1)=((p+1:Nat):Int):=by rw [IntKind.wrap_i64];omega
        have hif:(if cap=p+1 then (some ⟨gR,0,none⟩:Option Addr) else some ⟨gR,p+1,none⟩)=ao2:=hao2.symm
        have hpc:p≤cap:=by omega
        have hp1:p+1≤R.length:=by omega
        have hb0:(0:Int)≤(p:Int)+1:=by omega
        have hb1:(p:Int)+1≤(R.length:Int):=by omega
        have hqb:q<4611686018427387904:=by have:=HXS.out.2.2.1;have:=HXS.out.1;omega
        have hlt:(R.take p++R.drop (p+1)).length+1=R.length:=by simp;omega
        clear hx hrun0 hru300 hrun2 hO2 hg2 hb2 hR2 hs2 hdj hbl2 hc2 hR3 hgr3 hb3 hWc hao2 hs3 hR4 hgr4 hb4 b3 b4 hgs HL HCE
        go_wp2_with (at_builtin;refine wpList_append_flt rfl _ _ rfl _ _ rfl rfl v2 W2 HJ.out.1 ?_)
        refine until_region (fun _=>True) 11 (by kernel_rfl) ?_
        refine until_take (i:=1) [] (v:=?_) rfl (by kernel_rfl) (by kernel_rfl) (by kernel_rfl) (by kernel_rfl) (by kernel_rfl) (fun _ _ _ h=>h) (Or.inl ⟨by rfl,?_⟩) trivial ?_
        rotate_left
        · intro u hSu
          first | (go_simp;done) | (go_simp;with_reducible rfl)
        try simp only [Act.put,List.setIfInBounds_toArray,List.set_cons_zero,List.set_cons_succ]
        refine until_take (i:=2) [] (v:=?_) rfl (by kernel_rfl) (by kernel_rfl) (by kernel_rfl) (by kernel_rfl) (by kernel_rfl) (fun _ _ _ h=>h) (Or.inl ⟨by rfl,?_⟩) trivial ?_
        rotate_left
        · intro u hSu
          first | (go_simp;done) | (go_simp;with_reducible rfl)
        try simp only [Act.put,List.setIfInBounds_toArray,List.set_cons_zero,List.set_cons_succ]
        refine until_take (i:=3) [] (v:=?_) rfl (by kernel_rfl) (by kernel_rfl) (by kernel_rfl) (by kernel_rfl) (by kernel_rfl) (fun _ _ _ h=>h) (Or.inl ⟨by rfl,?_⟩) trivial ?_
        rotate_left
        · intro u hSu
          first | (go_simp;done) | (go_simp;with_reducible rfl)
        try simp only [Act.put,List.setIfInBounds_toArray,List.set_cons_zero,List.set_cons_succ]
        refine until_take (i:=5) [] (v:=?_) rfl (by kernel_rfl) (by kernel_rfl) (by kernel_rfl) (by kernel_rfl) (by kernel_rfl) (fun _ _ _ h=>h) (Or.inl ⟨by rfl,?_⟩) trivial ?_
        rotate_left
        · intro u hSu
          first | (go_simp;done) | (go_simp;with_reducible rfl)
        try simp only [Act.put,List.setIfInBounds_toArray,List.set_cons_zero,List.set_cons_succ]
        refine until_take (i:=6) [] (v:=?_) rfl (by kernel_rfl) (by kernel_rfl) (by kernel_rfl) (by kernel_rfl) (by kernel_rfl) (fun _ _ _ h=>h) (Or.inl ⟨by rfl,?_⟩) trivial ?_
        rotate_left
        · intro u hSu
          first | (go_simp;done) | (go_simp;with_reducible rfl)
        try simp only [Act.put,List.setIfInBounds_toArray,List.set_cons_zero,List.set_cons_succ]
        refine until_take (i:=7) [] (v:=?_) rfl (by kernel_rfl) (by kernel_rfl) (by kernel_rfl) (by kernel_rfl) (by kernel_rfl) (fun _ _ _ h=>h) (Or.inl ⟨by rfl,?_⟩) trivial ?_
        rotate_left
        · intro u hSu
          first | (go_simp;done) | (go_simp;with_reducible rfl)
        try simp only [Act.put,List.setIfInBounds_toArray,List.set_cons_zero,List.set_cons_succ]
        refine until_take (i:=8) [] (v:=?_) rfl (by kernel_rfl) (by kernel_rfl) (by kernel_rfl) (by kernel_rfl) (by kernel_rfl) (fun _ _ _ h=>h) (Or.inl ⟨by rfl,?_⟩) trivial ?_
        rotate_left
        · intro u hSu
          first | (go_simp;done) | (go_simp;with_reducible rfl)
        try simp only [Act.put,List.setIfInBounds_toArray,List.set_cons_zero,List.set_cons_succ]
        refine until_one (i:=0) (by kernel_rfl) rfl (fun K' hK=>?_)
        go_simp
        refine hK.out _ _ (fun _=>trivial) ?_
        clear hK K'
        try simp only [Act.put,List.setIfInBounds_toArray,List.set_cons_zero,List.set_cons_succ]
        refine until_one (i:=4) (by kernel_rfl) rfl (fun K' hK=>?_)
        rw [if_pos (by rfl)]
        refine wp_append_flt _ _ rfl _ _ rfl rfl v3 W3 HJ.out.2.1 ?_;refine hK.out _ _ (fun _=>trivial) ?_
        clear hK K'
        try simp only [Act.put,List.setIfInBounds_toArray,List.set_cons_zero,List.set_cons_succ]
        refine until_one (i:=9) (by kernel_rfl) rfl (fun K' hK=>?_)
        rw [if_pos (by rfl)]
        refine wp_append_flt _ _ rfl _ _ rfl rfl v4 W4 HJ.out.2.2 ?_;refine hK.out _ _ (fun _=>trivial) ?_
        clear hK K'
        try simp only [Act.put,List.setIfInBounds_toArray,List.set_cons_zero,List.set_cons_succ]
        refine until_one (i:=10) (by kernel_rfl) rfl (fun K' hK=>?_)
        go_simp
        refine hK.out _ _ (fun _=>trivial) ?_
        clear hK K';refine until_done (by kernel_rfl) ?_ _
        go_wp2
        go_roundg (R.take p++R.drop (p+1)).length
        case measure=>omega
        case rel=>exact ⟨q+1,O++[x],R.take p++R.drop (p+1),rfl,by omega,by first | rfl | simp,HN.out⟩
    · have hR0:R=[]:=List.eq_nil_of_length_eq_zero (by omega)
      subst hR0;obtain ⟨ar,cr,rfl,_⟩:=HL.out.2.1.shape0;have hp:=HL.out.2.2.1;rw [List.append_nil] at hp;have HF:=(qsd (ai HL.out.1.fs (ai hp (BW.out.trans (HL.out.2.2.2.2.mono BW.out.size)))));clear HL hR hp;obtain ⟨Z,G,hZ⟩:∃ (Z:Nat) (G:Int),quR xs num den rule mode=(Z,G):=⟨_,_,rfl⟩;have hb1:=HT.out.2.2.trans (HF.out.2.2.mono HT.out.2.2.size);have C:=hid (Quantile16 xs a1 300 c1 num den rule mode wr (HT.out.1.belows hb1) (HXF.out wr HF.out.2.2).1 HXS.out.1 (by have:=HXS.out.2.2.1;omega) HT.out.2.1 _ hZ)
      have f:=(HXF.out wr HF.out.2.2).2.2;have k0:=f.cell 0 _ rfl;have k1:=f.cell 1 _ rfl;have k2:=f.cell 2 _ rfl;have k3:=f.cell 3 _ rfl;clear f hb1
      go_wp2_with fail
      refine C.out.mono ?_;rintro r u2 ⟨rfl,hb⟩;have B2:=qsd (HF.out.2.2.trans (hb.mono HF.out.2.2.size));have F2:=qsd ((HF.out.1.below hb).mono hb.size);clear hb C k0 k1 k2 k3;have hb1:=HT.out.2.2.trans (B2.out.mono HT.out.2.2.size);have C:=hid (Quantile16 O ao O.length co num den rule mode u2 (HT.out.1.belows hb1) F2.out rfl (by have:=HF.out.2.1.length_eq;have:=HXS.out.1;have:=HXS.out.2.2.1;omega) (fun x hx=>HT.out.2.1 x (HF.out.2.1.mem_iff.1 hx)) _ ((quR_any HT.out.2.1 HF.out.2.1.symm num den rule mode).symm.trans hZ))
      have f:=(HXF.out u2 B2.out).2.2;have k0:=f.cell 0 _ rfl;have k1:=f.cell 1 _ rfl;have k2:=f.cell 2 _ rfl;have k3:=f.cell 3 _ rfl;clear f hb1 hZ
      go_wp2_with fail
      refine C.out.mono ?_;rintro r u3 ⟨rfl,hb⟩;have B3:=qsd (HT.out.2.2.trans ((B2.out.trans (hb.mono B2.out.size)).mono HT.out.2.2.size));clear hb C k0 k1 k2 k3;simp only
      go_wp2_with (go_at_call 38;refine (HEx.out _ _).mono ?_;rintro r u7 ⟨rfl,hu⟩;rw [hu];clear hu)
      go_ret;exact ⟨rfl,B3.out⟩
 · have d3:decide ((300:Int)<(N1:Nat))=false:=by simp;omega
   have hn:N1=xs.length:=by have:=HC1.out.2.1;omega
   have hF:Fs w.heap.size w a1 xs:=(HXF.out w BW.out).1;have hI:Is7 w.heap.size w a2 os:=(HXF.out w BW.out).2.1;have hl:N1≤300:=by omega
   have ho:n2=os.length:=HC1.out.2.2.2;have hI6:I64 os:=HC1.out.2.2.1
   obtain ⟨v1,W1,hrun,hR1,hbl1⟩:∃ v1 W1,(Builtin.append_ #[23,23] 23 #[.slice (some ⟨w.heap.size,0,none⟩) 0 0,.slice a1 N1 c1]).run Tryz.prog (w.alloc (Obj.cells #[] 27))=.ok v1 W1∧Rf w.heap.size W1 v1 xs∧Below w.heap.size w W1:=by
    obtain ⟨i0,hi,hz0,hz1,hz2⟩:=info_parts Tryz.info_f64;have hm0:(w.alloc (Obj.cells #[] 27)).ownsRow w.heap.size 27 1 (.slice (some ⟨w.heap.size,0,none⟩) 0 0) 0 []:=World.ownsRow_made w #[] 0 (Nat.le_refl _) (Nat.zero_le _) (by simp)
    have hal:Below w.heap.size w (w.alloc (Obj.cells #[] 27)):=(Below.refl _ _).alloc (Nat.le_refl _) _
    cases a1 with
    | none =>
      have hx:xs=[]:=by
       by_cases h:xs=[]
       · exact h
       · obtain ⟨_,_,_,e,_⟩:=hF h;cases e
      subst hx;obtain rfl:=hnil rfl;simp only [List.length_nil] at hn;subst hn;exact ⟨_,_,run_append_owned_none (w.alloc (Obj.cells #[] 27)) w.heap.size 23 23 27 i0 1 Tryz.und_floats hi _ 0 [] hm0,hm0,hal⟩
    | some ad =>
      obtain ⟨v1,W1,h1,h2,h3,_⟩:=append_flts (w.alloc (Obj.cells #[] 27)) w.heap.size (.slice (some ⟨w.heap.size,0,none⟩) 0 0) [] xs (some ad) N1 c1 23 hm0 hn
       (fun hne=>by
        obtain ⟨b,off,hb,e,hc⟩:=hF hne;exact ⟨b,off,e,fun i hi=>Lib.cell?_alloc_some _ (hc i hi)⟩) (by simp) (by simp;omega) (by simp)
      exact ⟨v1,W1,h1,h2,hal.grown h3 (by simp) (fun k e=>by simp [Value.ownBlock] at e;omega)⟩
   have HXS:=(qsd (ai hn (ai hF (ai hl (ai ho (ai hI hI6))))));have H1:=(qsd (ai hR1 hbl1));have HR:=qsd hrun;have hn2b:n2<4611686018427387904:=by omega
   clear hn hF hl ho hI hI6 hrun hR1 hbl1 hm2 hnil
   go_wp2_with (at_builtin;refine wpList_append_flt rfl _ _ rfl _ _ rfl rfl v1 W1 HR.out ?_)
   go_loopg [8,9,10] xs.length (fun gk vr vo i wr=>∃ (q:Nat) (O R:List Nat),gk=R.length∧q+R.length=xs.length∧i=.int .i64 (q:Nat)∧Aside (Rf w.heap.size wr vo O∧Rf w.heap.size wr vr R∧(O++R).Perm xs∧(∀ b,vr.ownBlock=some b→vo.ownBlock≠some b)∧Below w.heap.size w wr))
   case atStart=>exact ⟨0,[],xs,rfl,by omega,by simp,Rf.nil _ _,H1.out.1,List.Perm.refl _,fun b _=>by simp [Value.ownBlock],H1.out.2⟩
   case round =>
    clear H1;obtain ⟨q,O,R,hgR,hqR,rfl,HL⟩:=hrel;obtain ⟨ao,co,rfl,hco⟩:=HL.out.1.shape0
    by_cases hR:0<R.length
    · obtain ⟨gR,cap,rfl,hgl,hgh,hcap,hmx,hcells⟩:=HL.out.2.1.shape hR
      have hl300:R.length≤300:=by have:=HXS.out.2.2.1;have:=HXS.out.1;omega
      have hcmax:cap≤9223372036854775807:=by unfold maxLen at hmx;omega
      have HCE:=qsd hcells;clear hcells hgl hgh hmx
      by_cases ho:q<n2
      · obtain ⟨b4,off4,rfl,hc4⟩:=HXS.out.2.2.2.2.1.at HL.out.2.2.2.2 q (by rw [←HXS.out.2.2.2.1];exact ho)
        have hob:=HXS.out.2.2.2.2.2 q;obtain ⟨oq,hoq⟩:∃ z,z=os.getD q 0:=⟨_,rfl⟩;rw [←hoq] at hc4 hob;clear hoq;have hd:decide ((q:Int)<n2)=true:=by simp;omega
        go_wp2_with fail
        refine (pick10 oq R.length wr hob.1 hob.2 hR (by omega)).mono ?_
        rintro r u ⟨p,rfl,hp,rfl⟩;clear hc4 hob ho hd;obtain ⟨x,hx⟩:∃ x,x=R.getD p 0:=⟨_,rfl⟩;have hcx:u.cell? ⟨gR,p,none⟩=some (.float .f64 x):=by rw [hx];exact HCE.out p hp
        obtain ⟨v2,W2,hrun0,hO2,hg2,hb2⟩:=append_flts (u.alloc (Obj.cells #[.float .f64 x] 27)) w.heap.size (.slice ao O.length co) O [x] (some ⟨u.heap.size,0,none⟩) 1 1 23 (HL.out.1.alloc _) rfl
         (fun _=>⟨u.heap.size,0,rfl,fun i hi=>by
          obtain rfl:i=0:=by simp at hi;omega
          unfold World.cell?;simp only [heap_alloc_new];rfl⟩) (by simp) (by have:=HL.out.2.2.1.length_eq;have:=HXS.out.2.2.1;have:=HXS.out.1;simp at *;omega) (by have:=HL.out.2.2.2.2.size;simp;omega)
        have hgs:gR<u.heap.size:=(HL.out.2.1.lt gR rfl).2;have hR2:Rf w.heap.size W2 (.slice (some ⟨gR,0,none⟩) R.length cap) R:=(HL.out.2.1.alloc _).grown hg2 (fun b hb e=>HL.out.2.2.2.1 b hb e)
        have hs2:u.heap.size<W2.heap.size:=by have:=hg2.size;simp at this;omega
        have hdj:v2.ownBlock≠some gR:=by
         rcases hb2 with e|e
         · rw [e];exact HL.out.2.2.2.1 gR rfl
         · rw [e];simp;omega
        have hbl2:Below w.heap.size w W2:=(HL.out.2.2.2.2.alloc HL.out.2.2.2.2.size _).grown hg2 (by have:=HL.out.2.2.2.2.size;simp;omega) (fun k e=>(HL.out.1.lt k e).1)
        have hc2:∀ i,i<R.length→W2.cell? ⟨gR,i,none⟩=some (.float .f64 (R.getD i 0)):=fun i hi=>by
         obtain ⟨g',cap',e,_,_,_,_,h⟩:=hR2.shape hR
         cases e
         exact h i hi
        obtain ⟨v3,W3,hruN1,hR3,hgr3,hb3⟩:=append_flts (W2.drew.alloc (Obj.cells #[] 27)) w.heap.size (.slice (some ⟨W2.heap.size,0,none⟩) 0 0) [] (R.take p) (some ⟨gR,0,none⟩) p cap 23 (World.ownsRow_made W2.drew #[] 0 hbl2.size (Nat.zero_le _) (by simp)) (by simp;omega)
         (fun _=>⟨gR,0,rfl,fun i hi=>by
          have hi2:i<p:=by simp at hi;omega
          rw [Nat.zero_add,show (R.take p).getD i 0=R.getD i 0 by rw [List.getD_eq_getElem?_getD,List.getD_eq_getElem?_getD,List.getElem?_take,if_pos hi2]]
          exact Lib.cell?_alloc_some _ (hc2 i (by omega))⟩) (by simp) (by simp;omega) (by have:=hbl2.size;simp;omega)
        have hWc:∀ i,i<R.length→W3.cell? ⟨gR,i,none⟩=some (.float .f64 (R.getD i 0)):=fun i hi=>hgr3.cell (Lib.cell?_alloc_some _ (hc2 i hi)) (by simp [Value.ownBlock];omega)
        obtain ⟨ao2,hao2⟩:∃ a:Option Addr,a=if cap=p+1 then some ⟨gR,0,none⟩ else some ⟨gR,p+1,none⟩:=⟨_,rfl⟩
        have hs3:W2.heap.size<W3.heap.size:=by have:=hgr3.size;simp at this;omega
        obtain ⟨v4,W4,hrun2,hR4,hgr4,hb4⟩:=append_flts W3 w.heap.size v3 ([]++R.take p) (R.drop (p+1)) ao2 (R.length-(p+1)) (cap-(p+1)) 23 hR3 (by simp)
         (fun hne=>⟨gR,p+1,by rw [hao2,if_neg (fun e=>hne (List.drop_eq_nil_of_le (by omega)))],fun i hi=>by
          have hi2:p+1+i<R.length:=by simp at hi;omega
          rw [show (R.drop (p+1)).getD i 0=R.getD (p+1+i) 0 by rw [List.getD_eq_getElem?_getD,List.getD_eq_getElem?_getD,List.getElem?_drop]]
          exact hWc _ hi2⟩) (by rw [hao2];split <;> simp) (by simp;omega) (by have:=hbl2.size;omega)
        have b3:∀ b,v3.ownBlock=some b→W2.heap.size≤b:=fun b e=>by
         rcases hb3 with q|q
         · rw [q] at e;simp [Value.ownBlock] at e;omega
         · rw [q] at e;simp at e;omega
        have b4:∀ b,v4.ownBlock=some b→W2.heap.size≤b:=fun b e=>by
         rcases hb4 with q|q
         · exact b3 b (by rw [←q];exact e)
         · rw [q] at e;simp at e;omega
        have HN:Aside (Rf w.heap.size W4 v2 (O++[x])∧Rf w.heap.size W4 v4 (R.take p++R.drop (p+1))∧((O++[x])++(R.take p++R.drop (p+1))).Perm xs∧(∀ b,v4.ownBlock=some b→v2.ownBlock≠some b)∧Below w.heap.size w W4):=by
         have o3:Rf w.heap.size W3 v2 (O++[x]):=(hO2.drew.alloc _).grown hgr3 (fun b hb e=>by have:=(hO2.lt b hb).2;simp [Value.ownBlock] at e;omega)
         have o4:Rf w.heap.size W4 v2 (O++[x]):=o3.grown hgr4 (fun b hb e=>by have:=(hO2.lt b hb).2;have:=b3 b e;omega)
         refine ⟨o4,?_,?_,fun b hb e=>?_,?_⟩
         · rw [List.nil_append] at hR4;exact hR4
         · refine List.Perm.trans ?_ HL.out.2.2.1
           rw [hx];exact turn_perm O R p hp
         · have h1:=b4 b hb
           have h2:=(hO2.lt b e).2;omega
         · have q1:Below w.heap.size w (W2.drew.alloc (Obj.cells #[] 27)):=hbl2.drew.alloc hbl2.size _
           have q2:=q1.grown hgr3 q1.size (fun k e=>by simp [Value.ownBlock] at e;have:=hbl2.size;omega)
           exact q2.grown hgr4 q2.size (fun k e=>by have:=b3 k e;have:=hbl2.size;omega)
        have HJ:=qsd (ai hrun0 (ai hruN1 hrun2));have hu:IntKind.i64.wrap ((p:Int)+1)=((p+1:Nat):Int):=by rw [IntKind.wrap_i64];omega
        have hif:(if cap=p+1 then (some ⟨gR,0,none⟩:Option Addr) else some ⟨gR,p+1,none⟩)=ao2:=hao2.symm
        have hpc:p≤cap:=by omega
        have hp1:p+1≤R.length:=by omega
        have hb0:(0:Int)≤(p:Int)+1:=by omega
        have hb1:(p:Int)+1≤(R.length:Int):=by omega
        have hqb:q<4611686018427387904:=by have:=HXS.out.2.2.1;have:=HXS.out.1;omega
        have hlt:(R.take p++R.drop (p+1)).length+1=R.length:=by simp;omega
        clear hx hrun0 hruN1 hrun2 hO2 hg2 hb2 hR2 hs2 hdj hbl2 hc2 hR3 hgr3 hb3 hWc hao2 hs3 hR4 hgr4 hb4 b3 b4 hgs HL HCE
        go_wp2_with (at_builtin;refine wpList_append_flt rfl _ _ rfl _ _ rfl rfl v2 W2 HJ.out.1 ?_)
        refine until_region (fun _=>True) 11 (by kernel_rfl) ?_
        refine until_take (i:=1) [] (v:=?_) rfl (by kernel_rfl) (by kernel_rfl) (by kernel_rfl) (by kernel_rfl) (by kernel_rfl) (fun _ _ _ h=>h) (Or.inl ⟨by rfl,?_⟩) trivial ?_
        rotate_left
        · intro u hSu
          first | (go_simp;done) | (go_simp;with_reducible rfl)
        try simp only [Act.put,List.setIfInBounds_toArray,List.set_cons_zero,List.set_cons_succ]
        refine until_take (i:=2) [] (v:=?_) rfl (by kernel_rfl) (by kernel_rfl) (by kernel_rfl) (by kernel_rfl) (by kernel_rfl) (fun _ _ _ h=>h) (Or.inl ⟨by rfl,?_⟩) trivial ?_
        rotate_left
        · intro u hSu
          first | (go_simp;done) | (go_simp;with_reducible rfl)
        try simp only [Act.put,List.setIfInBounds_toArray,List.set_cons_zero,List.set_cons_succ]
        refine until_take (i:=3) [] (v:=?_) rfl (by kernel_rfl) (by kernel_rfl) (by kernel_rfl) (by kernel_rfl) (by kernel_rfl) (fun _ _ _ h=>h) (Or.inl ⟨by rfl,?_⟩) trivial ?_
        rotate_left
        · intro u hSu
          first | (go_simp;done) | (go_simp;with_reducible rfl)
        try simp only [Act.put,List.setIfInBounds_toArray,List.set_cons_zero,List.set_cons_succ]
        refine until_take (i:=5) [] (v:=?_) rfl (by kernel_rfl) (by kernel_rfl) (by kernel_rfl) (by kernel_rfl) (by kernel_rfl) (fun _ _ _ h=>h) (Or.inl ⟨by rfl,?_⟩) trivial ?_
        rotate_left
        · intro u hSu
          first | (go_simp;done) | (go_simp;with_reducible rfl)
        try simp only [Act.put,List.setIfInBounds_toArray,List.set_cons_zero,List.set_cons_succ]
        refine until_take (i:=6) [] (v:=?_) rfl (by kernel_rfl) (by kernel_rfl) (by kernel_rfl) (by kernel_rfl) (by kernel_rfl) (fun _ _ _ h=>h) (Or.inl ⟨by rfl,?_⟩) trivial ?_
        rotate_left
        · intro u hSu
          first | (go_simp;done) | (go_simp;with_reducible rfl)
        try simp only [Act.put,List.setIfInBounds_toArray,List.set_cons_zero,List.set_cons_succ]
        refine until_take (i:=7) [] (v:=?_) rfl (by kernel_rfl) (by kernel_rfl) (by kernel_rfl) (by kernel_rfl) (by kernel_rfl) (fun _ _ _ h=>h) (Or.inl ⟨by rfl,?_⟩) trivial ?_
        rotate_left
        · intro u hSu
          first | (go_simp;done) | (go_simp;with_reducible rfl)
        try simp only [Act.put,List.setIfInBounds_toArray,List.set_cons_zero,List.set_cons_succ]
        refine until_take (i:=8) [] (v:=?_) rfl (by kernel_rfl) (by kernel_rfl) (by kernel_rfl) (by kernel_rfl) (by kernel_rfl) (fun _ _ _ h=>h) (Or.inl ⟨by rfl,?_⟩) trivial ?_
        rotate_left
        · intro u hSu
          first | (go_simp;done) | (go_simp;with_reducible rfl)
        try simp only [Act.put,List.setIfInBounds_toArray,List.set_cons_zero,List.set_cons_succ]
        refine until_one (i:=0) (by kernel_rfl) rfl (fun K' hK=>?_)
        go_simp
        refine hK.out _ _ (fun _=>trivial) ?_
        clear hK K'
        try simp only [Act.put,List.setIfInBounds_toArray,List.set_cons_zero,List.set_cons_succ]
        refine until_one (i:=4) (by kernel_rfl) rfl (fun K' hK=>?_)
        rw [if_pos (by rfl)]
        refine wp_append_flt _ _ rfl _ _ rfl rfl v3 W3 HJ.out.2.1 ?_;refine hK.out _ _ (fun _=>trivial) ?_
        clear hK K'
        try simp only [Act.put,List.setIfInBounds_toArray,List.set_cons_zero,List.set_cons_succ]
        refine until_one (i:=9) (by kernel_rfl) rfl (fun K' hK=>?_)
        rw [if_pos (by rfl)]
        refine wp_append_flt _ _ rfl _ _ rfl rfl v4 W4 HJ.out.2.2 ?_;refine hK.out _ _ (fun _=>trivial) ?_
        clear hK K'
        try simp only [Act.put,List.setIfInBounds_toArray,List.set_cons_zero,List.set_cons_succ]
        refine until_one (i:=10) (by kernel_rfl) rfl (fun K' hK=>?_)
        go_simp
        refine hK.out _ _ (fun _=>trivial) ?_
        clear hK K';refine until_done (by kernel_rfl) ?_ _
        go_wp2
        go_roundg (R.take p++R.drop (p+1)).length
        case measure=>omega
        case rel=>exact ⟨q+1,O++[x],R.take p++R.drop (p+1),rfl,by omega,by first | rfl | simp,HN.out⟩
      · have hd:decide ((q:Int)<n2)=false:=by simp;omega
        obtain ⟨u,hu⟩:∃ u,u=wr:=⟨_,rfl⟩;subst hu;obtain ⟨p,hp0⟩:∃ p:Nat,p=0:=⟨_,rfl⟩;have hp:p<R.length:=by omega
        go_upto_region 12 with fail
        rw [show (0:Int)=((p:Nat):Int) by rw [hp0];rfl]
        clear hp0 ho hd;obtain ⟨x,hx⟩:∃ x,x=R.getD p 0:=⟨_,rfl⟩;have hcx:u.cell? ⟨gR,p,none⟩=some (.float .f64 x):=by rw [hx];exact HCE.out p hp
        obtain ⟨v2,W2,hrun0,hO2,hg2,hb2⟩:=append_flts (u.alloc (Obj.cells #[.float .f64 x] 27)) w.heap.size (.slice ao O.length co) O [x] (some ⟨u.heap.size,0,none⟩) 1 1 23 (HL.out.1.alloc _) rfl
         (fun _=>⟨u.heap.size,0,rfl,fun i hi=>by
          obtain rfl:i=0:=by simp at hi;omega
          unfold World.cell?;simp only [heap_alloc_new];rfl⟩) (by simp) (by have:=HL.out.2.2.1.length_eq;have:=HXS.out.2.2.1;have:=HXS.out.1;simp at *;omega) (by have:=HL.out.2.2.2.2.size;simp;omega)
        have hgs:gR<u.heap.size:=(HL.out.2.1.lt gR rfl).2;have hR2:Rf w.heap.size W2 (.slice (some ⟨gR,0,none⟩) R.length cap) R:=(HL.out.2.1.alloc _).grown hg2 (fun b hb e=>HL.out.2.2.2.1 b hb e)
        have hs2:u.heap.size<W2.heap.size:=by have:=hg2.size;simp at this;omega
        have hdj:v2.ownBlock≠some gR:=by
         rcases hb2 with e|e
         · rw [e];exact HL.out.2.2.2.1 gR rfl
         · rw [e];simp;omega
        have hbl2:Below w.heap.size w W2:=(HL.out.2.2.2.2.alloc HL.out.2.2.2.2.size _).grown hg2 (by have:=HL.out.2.2.2.2.size;simp;omega) (fun k e=>(HL.out.1.lt k e).1)
        have hc2:∀ i,i<R.length→W2.cell? ⟨gR,i,none⟩=some (.float .f64 (R.getD i 0)):=fun i hi=>by
         obtain ⟨g',cap',e,_,_,_,_,h⟩:=hR2.shape hR
         cases e
         exact h i hi
        obtain ⟨v3,W3,hruN1,hR3,hgr3,hb3⟩:=append_flts (W2.drew.alloc (Obj.cells #[] 27)) w.heap.size (.slice (some ⟨W2.heap.size,0,none⟩) 0 0) [] (R.take p) (some ⟨gR,0,none⟩) p cap 23 (World.ownsRow_made W2.drew #[] 0 hbl2.size (Nat.zero_le _) (by simp)) (by simp;omega)
         (fun _=>⟨gR,0,rfl,fun i hi=>by
          have hi2:i<p:=by simp at hi;omega
          rw [Nat.zero_add,show (R.take p).getD i 0=R.getD i 0 by rw [List.getD_eq_getElem?_getD,List.getD_eq_getElem?_getD,List.getElem?_take,if_pos hi2]]
          exact Lib.cell?_alloc_some _ (hc2 i (by omega))⟩) (by simp) (by simp;omega) (by have:=hbl2.size;simp;omega)
        have hWc:∀ i,i<R.length→W3.cell? ⟨gR,i,none⟩=some (.float .f64 (R.getD i 0)):=fun i hi=>hgr3.cell (Lib.cell?_alloc_some _ (hc2 i hi)) (by simp [Value.ownBlock];omega)
        obtain ⟨ao2,hao2⟩:∃ a:Option Addr,a=if cap=p+1 then some ⟨gR,0,none⟩ else some ⟨gR,p+1,none⟩:=⟨_,rfl⟩
        have hs3:W2.heap.size<W3.heap.size:=by have:=hgr3.size;simp at this;omega
        obtain ⟨v4,W4,hrun2,hR4,hgr4,hb4⟩:=append_flts W3 w.heap.size v3 ([]++R.take p) (R.drop (p+1)) ao2 (R.length-(p+1)) (cap-(p+1)) 23 hR3 (by simp)
         (fun hne=>⟨gR,p+1,by rw [hao2,if_neg (fun e=>hne (List.drop_eq_nil_of_le (by omega)))],fun i hi=>by
          have hi2:p+1+i<R.length:=by simp at hi;omega
          rw [show (R.drop (p+1)).getD i 0=R.getD (p+1+i) 0 by rw [List.getD_eq_getElem?_getD,List.getD_eq_getElem?_getD,List.getElem?_drop]]
          exact hWc _ hi2⟩) (by rw [hao2];split <;> simp) (by simp;omega) (by have:=hbl2.size;omega)
        have b3:∀ b,v3.ownBlock=some b→W2.heap.size≤b:=fun b e=>by
         rcases hb3 with q|q
         · rw [q] at e;simp [Value.ownBlock] at e;omega
         · rw [q] at e;simp at e;omega
        have b4:∀ b,v4.ownBlock=some b→W2.heap.size≤b:=fun b e=>by
         rcases hb4 with q|q
         · exact b3 b (by rw [←q];exact e)
         · rw [q] at e;simp at e;omega
        have HN:Aside (Rf w.heap.size W4 v2 (O++[x])∧Rf w.heap.size W4 v4 (R.take p++R.drop (p+1))∧((O++[x])++(R.take p++R.drop (p+1))).Perm xs∧(∀ b,v4.ownBlock=some b→v2.ownBlock≠some b)∧Below w.heap.size w W4):=by
         have o3:Rf w.heap.size W3 v2 (O++[x]):=(hO2.drew.alloc _).grown hgr3 (fun b hb e=>by have:=(hO2.lt b hb).2;simp [Value.ownBlock] at e;omega)
         have o4:Rf w.heap.size W4 v2 (O++[x]):=o3.grown hgr4 (fun b hb e=>by have:=(hO2.lt b hb).2;have:=b3 b e;omega)
         refine ⟨o4,?_,?_,fun b hb e=>?_,?_⟩
         · rw [List.nil_append] at hR4;exact hR4
         · refine List.Perm.trans ?_ HL.out.2.2.1
           rw [hx];exact turn_perm O R p hp
         · have h1:=b4 b hb
           have h2:=(hO2.lt b e).2;omega
         · have q1:Below w.heap.size w (W2.drew.alloc (Obj.cells #[] 27)):=hbl2.drew.alloc hbl2.size _
           have q2:=q1.grown hgr3 q1.size (fun k e=>by simp [Value.ownBlock] at e;have:=hbl2.size;omega)
           exact q2.grown hgr4 q2.size (fun k e=>by have:=b3 k e;have:=hbl2.size;omega)
        have HJ:=qsd (ai hrun0 (ai hruN1 hrun2));have hu:IntKind.i64.wrap ((p:Int)+1)=((p+1:Nat):Int):=by rw [IntKind.wrap_i64];omega
        have hif:(if cap=p+1 then (some ⟨gR,0,none⟩:Option Addr) else some ⟨gR,p+1,none⟩)=ao2:=hao2.symm
        have hpc:p≤cap:=by omega
        have hp1:p+1≤R.length:=by omega
        have hb0:(0:Int)≤(p:Int)+1:=by omega
        have hb1:(p:Int)+1≤(R.length:Int):=by omega
        have hqb:q<4611686018427387904:=by have:=HXS.out.2.2.1;have:=HXS.out.1;omega
        have hlt:(R.take p++R.drop (p+1)).length+1=R.length:=by simp;omega
        clear hx hrun0 hruN1 hrun2 hO2 hg2 hb2 hR2 hs2 hdj hbl2 hc2 hR3 hgr3 hb3 hWc hao2 hs3 hR4 hgr4 hb4 b3 b4 hgs HL HCE
        go_wp2_with (at_builtin;refine wpList_append_flt rfl _ _ rfl _ _ rfl rfl v2 W2 HJ.out.1 ?_)
        refine until_region (fun _=>True) 11 (by kernel_rfl) ?_
        refine until_take (i:=1) [] (v:=?_) rfl (by kernel_rfl) (by kernel_rfl) (by kernel_rfl) (by kernel_rfl) (by kernel_rfl) (fun _ _ _ h=>h) (Or.inl ⟨by rfl,?_⟩) trivial ?_
        rotate_left
        · intro u hSu
          first | (go_simp;done) | (go_simp;with_reducible rfl)
        try simp only [Act.put,List.setIfInBounds_toArray,List.set_cons_zero,List.set_cons_succ]
        refine until_take (i:=2) [] (v:=?_) rfl (by kernel_rfl) (by kernel_rfl) (by kernel_rfl) (by kernel_rfl) (by kernel_rfl) (fun _ _ _ h=>h) (Or.inl ⟨by rfl,?_⟩) trivial ?_
        rotate_left
        · intro u hSu
          first | (go_simp;done) | (go_simp;with_reducible rfl)
        try simp only [Act.put,List.setIfInBounds_toArray,List.set_cons_zero,List.set_cons_succ]
        refine until_take (i:=3) [] (v:=?_) rfl (by kernel_rfl) (by kernel_rfl) (by kernel_rfl) (by kernel_rfl) (by kernel_rfl) (fun _ _ _ h=>h) (Or.inl ⟨by rfl,?_⟩) trivial ?_
        rotate_left
        · intro u hSu
          first | (go_simp;done) | (go_simp;with_reducible rfl)
        try simp only [Act.put,List.setIfInBounds_toArray,List.set_cons_zero,List.set_cons_succ]
        refine until_take (i:=5) [] (v:=?_) rfl (by kernel_rfl) (by kernel_rfl) (by kernel_rfl) (by kernel_rfl) (by kernel_rfl) (fun _ _ _ h=>h) (Or.inl ⟨by rfl,?_⟩) trivial ?_
        rotate_left
        · intro u hSu
          first | (go_simp;done) | (go_simp;with_reducible rfl)
        try simp only [Act.put,List.setIfInBounds_toArray,List.set_cons_zero,List.set_cons_succ]
        refine until_take (i:=6) [] (v:=?_) rfl (by kernel_rfl) (by kernel_rfl) (by kernel_rfl) (by kernel_rfl) (by kernel_rfl) (fun _ _ _ h=>h) (Or.inl ⟨by rfl,?_⟩) trivial ?_
        rotate_left
        · intro u hSu
          first | (go_simp;done) | (go_simp;with_reducible rfl)
        try simp only [Act.put,List.setIfInBounds_toArray,List.set_cons_zero,List.set_cons_succ]
        refine until_take (i:=7) [] (v:=?_) rfl (by kernel_rfl) (by kernel_rfl) (by kernel_rfl) (by kernel_rfl) (by kernel_rfl) (fun _ _ _ h=>h) (Or.inl ⟨by rfl,?_⟩) trivial ?_
        rotate_left
        · intro u hSu
          first | (go_simp;done) | (go_simp;with_reducible rfl)
        try simp only [Act.put,List.setIfInBounds_toArray,List.set_cons_zero,List.set_cons_succ]
        refine until_take (i:=8) [] (v:=?_) rfl (by kernel_rfl) (by kernel_rfl) (by kernel_rfl) (by kernel_rfl) (by kernel_rfl) (fun _ _ _ h=>h) (Or.inl ⟨by rfl,?_⟩) trivial ?_
        rotate_left
        · intro u hSu
          first | (go_simp;done) | (go_simp;with_reducible rfl)
        try simp only [Act.put,List.setIfInBounds_toArray,List.set_cons_zero,List.set_cons_succ]
        refine until_one (i:=0) (by kernel_rfl) rfl (fun K' hK=>?_)
        go_simp
        refine hK.out _ _ (fun _=>trivial) ?_
        clear hK K'
        try simp only [Act.put,List.setIfInBounds_toArray,List.set_cons_zero,List.set_cons_succ]
        refine until_one (i:=4) (by kernel_rfl) rfl (fun K' hK=>?_)
        rw [if_pos (by rfl)]
        refine wp_append_flt _ _ rfl _ _ rfl rfl v3 W3 HJ.out.2.1 ?_;refine hK.out _ _ (fun _=>trivial) ?_
        clear hK K'
        try simp only [Act.put,List.setIfInBounds_toArray,List.set_cons_zero,List.set_cons_succ]
        refine until_one (i:=9) (by kernel_rfl) rfl (fun K' hK=>?_)
        rw [if_pos (by rfl)]
        refine wp_append_flt _ _ rfl _ _ rfl rfl v4 W4 HJ.out.2.2 ?_;refine hK.out _ _ (fun _=>trivial) ?_
        clear hK K'
        try simp only [Act.put,List.setIfInBounds_toArray,List.set_cons_zero,List.set_cons_succ]
        refine until_one (i:=10) (by kernel_rfl) rfl (fun K' hK=>?_)
        go_simp
        refine hK.out _ _ (fun _=>trivial) ?_
        clear hK K';refine until_done (by kernel_rfl) ?_ _
        go_wp2
        go_roundg (R.take p++R.drop (p+1)).length
        case measure=>omega
        case rel=>exact ⟨q+1,O++[x],R.take p++R.drop (p+1),rfl,by omega,by first | rfl | simp,HN.out⟩
    · have hR0:R=[]:=List.eq_nil_of_length_eq_zero (by omega)
      subst hR0;obtain ⟨ar,cr,rfl,_⟩:=HL.out.2.1.shape0;have hp:=HL.out.2.2.1;rw [List.append_nil] at hp;have HF:=(qsd (ai HL.out.1.fs (ai hp (BW.out.trans (HL.out.2.2.2.2.mono BW.out.size)))));clear HL hR hp;obtain ⟨Z,G,hZ⟩:∃ (Z:Nat) (G:Int),quR xs num den rule mode=(Z,G):=⟨_,_,rfl⟩;have hb1:=HT.out.2.2.trans (HF.out.2.2.mono HT.out.2.2.size);have C:=hid (Quantile16 xs a1 N1 c1 num den rule mode wr (HT.out.1.belows hb1) (HXF.out wr HF.out.2.2).1 HXS.out.1 (by have:=HXS.out.2.2.1;omega) HT.out.2.1 _ hZ)
      have f:=(HXF.out wr HF.out.2.2).2.2;have k0:=f.cell 0 _ rfl;have k1:=f.cell 1 _ rfl;have k2:=f.cell 2 _ rfl;have k3:=f.cell 3 _ rfl;clear f hb1
      go_wp2_with fail
      refine C.out.mono ?_;rintro r u2 ⟨rfl,hb⟩;have B2:=qsd (HF.out.2.2.trans (hb.mono HF.out.2.2.size));have F2:=qsd ((HF.out.1.below hb).mono hb.size);clear hb C k0 k1 k2 k3;have hb1:=HT.out.2.2.trans (B2.out.mono HT.out.2.2.size);have C:=hid (Quantile16 O ao O.length co num den rule mode u2 (HT.out.1.belows hb1) F2.out rfl (by have:=HF.out.2.1.length_eq;have:=HXS.out.1;have:=HXS.out.2.2.1;omega) (fun x hx=>HT.out.2.1 x (HF.out.2.1.mem_iff.1 hx)) _ ((quR_any HT.out.2.1 HF.out.2.1.symm num den rule mode).symm.trans hZ))
      have f:=(HXF.out u2 B2.out).2.2;have k0:=f.cell 0 _ rfl;have k1:=f.cell 1 _ rfl;have k2:=f.cell 2 _ rfl;have k3:=f.cell 3 _ rfl;clear f hb1 hZ
      go_wp2_with fail
      refine C.out.mono ?_;rintro r u3 ⟨rfl,hb⟩;have B3:=qsd (HT.out.2.2.trans ((B2.out.trans (hb.mono B2.out.size)).mono HT.out.2.2.size));clear hb C k0 k1 k2 k3;simp only
      go_wp2_with (go_at_call 38;refine (HEx.out _ _).mono ?_;rintro r u7 ⟨rfl,hu⟩;rw [hu];clear hu)
      go_ret;exact ⟨rfl,B3.out⟩
end
section
open Go.ChangeShapes Go.WideShapes Go.ChangeAt Go.RowKit
theorem ints_of12 {H:Type}{enc:TypeId×Value→H}{W:World}{k:Nat}{c:Value}{x:Option (DataW H×List MemPlace)}{y:DataW H×List MemPlace}(h:DataW.trod enc Tryz.prog W 0 (fun _=>true) true k 3 [c]=x) (hx:x=some y):∃ n:Int,c=.int .i64 n∧y.1=.lit (.int .i64 n)∧-9223372036854775808≤n∧n≤9223372036854775807:=by
 subst hx;obtain ⟨e,e2,rfl,hw⟩:=DataW.trod_int Tryz.underlying3 h
 cases e2
 have hw':-9223372036854775808≤e∧e≤9223372036854775807:=by
  simp [Lit.wf,IntKind.min,IntKind.max,IntKind.signed,IntKind.bits] at hw;omega
 exact ⟨e,rfl,rfl,hw'.1,hw'.2⟩
end
section
open Go.ChangeShapes Go.WideShapes Go.ChangeAt Go.RowKit
theorem ask_of16 {H:Type}{enc:TypeId×Value→H}{W:World}{r:Reach}{b0:Nat}{v:Value}{d:DataW H}{p:List MemPlace}(hv:Value.okWide Tryz.prog W r b0 80 v) (h:DataW.Trod enc Tryz.prog W 0 (fun _=>true) true 80 v d p) :
 ∃ a b c e:Int,v=.agg #[.int .i64 a,.int .i64 b,.int .i64 c,.int .i64 e]:=by
 obtain ⟨cs,rfl,hsz⟩:=okWide_struct Tryz.underlying80 hv;obtain ⟨fuel,hf⟩:=h;have hC:Tryz.prog.cellsOf 80=4:=by kernel_rfl
 have c3:Tryz.prog.cellsOf 3=1:=by kernel_rfl
 obtain ⟨xs,k,rfl,hx,hl,hxl,hfs⟩:=DataW.trod_struct Tryz.underlying80 hf;rw [hC] at hsz
 obtain ⟨c0,c1,c2,c4,rfl⟩:∃ c0 c1 c2 c3,cs=#[c0,c1,c2,c3]:=by
  obtain ⟨l⟩:=cs
  match l,hsz with
  | [a,b,c,e],_=>exact ⟨a,b,c,e,rfl⟩
 have h0:DataW.trod enc Tryz.prog W 0 (fun _=>true) true k 3 (List.take (Tryz.prog.cellsOf 3) (List.drop 0 [c0,c1,c2,c4]))=xs[0]?:=hfs 0 _ rfl
 have h1:DataW.trod enc Tryz.prog W 0 (fun _=>true) true k 3 (List.take (Tryz.prog.cellsOf 3) (List.drop 1 [c0,c1,c2,c4]))=xs[1]?:=hfs 1 _ rfl
 have h2:DataW.trod enc Tryz.prog W 0 (fun _=>true) true k 3 (List.take (Tryz.prog.cellsOf 3) (List.drop 2 [c0,c1,c2,c4]))=xs[2]?:=hfs 2 _ rfl
 have h3:DataW.trod enc Tryz.prog W 0 (fun _=>true) true k 3 (List.take (Tryz.prog.cellsOf 3) (List.drop 3 [c0,c1,c2,c4]))=xs[3]?:=hfs 3 _ rfl
 rw [c3] at h0 h1 h2 h3
 match xs,hxl with
 | [x0,x1,x2,x3],_ =>
   obtain ⟨a,rfl,_⟩:=ints_of12 (c:=c0) h0 rfl;obtain ⟨b,rfl,_⟩:=ints_of12 (c:=c1) h1 rfl;obtain ⟨c,rfl,_⟩:=ints_of12 (c:=c2) h2 rfl;obtain ⟨e,rfl,_⟩:=ints_of12 (c:=c4) h3 rfl;exact ⟨a,b,c,e,rfl⟩
end
end Go.Proofs.YtgfemeencgjneaaGreatDoor
