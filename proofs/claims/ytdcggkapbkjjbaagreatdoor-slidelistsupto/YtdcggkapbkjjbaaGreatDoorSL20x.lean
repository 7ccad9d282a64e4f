import Derived.Test.YtdcggkapbkjjbaaGreatDoorMO11x
import Derived.Test.YtdcggkapbkjjbaaGreatDoorF9x
import Derived.Test.YtdcggkapbkjjbaaGreatDoorM1x
import Derived.ProofKit
import Derived.OpenShut
import Derived.ChangeOld
import Derived.ChangeArms
import Derived.SizedLaws
import Derived.Laws.Cover2
import Derived.Test.YtdcggkapbkjjbaaGreatDoorZ9x
import Derived.Test.YtdcggkapbkjjbaaGreatDoorMO7x
import Derived.Maps.AppendAt
import Derived.Laws.OwnMore
import Derived.BigQuiet
set_option linter.unusedVariables false
set_option linter.unusedSimpArgs false
set_option maxHeartbeats 16000000
set_option maxRecDepth 20000
namespace Go.Proofs.YtdcggkapbkjjbaaGreatDoor
namespace J
end J
section
open Go Go.RowKit J
theorem Exact20 (xs:List Nat) (a:Option Addr) (n c:Nat) (mode pa pb:Int) (w:World) (hn:n=xs.length) (hF:Fs w.heap.size w a xs) (hW:W64 xs) (hT:Tab w) (hl:n≤65536) (z:Nat×Int) (hz:exR xs mode pa pb=z) :
 Calls Tryz.prog 48 #[.slice a n c,.int .i64 mode,.agg #[.int .i64 pa,.int .i64 pb]] w fun r w'=>r=.returned (.tuple #[.float .f64 z.1,.int .i64 z.2])∧Below w.heap.size w w':=by
 unfold exR at hz
 by_cases hm:mode<0∨4<mode∨may pa pb=false
 · rw [if_pos hm] at hz
   subst hz;exact Exact10_arg a n c mode pa pb w hm
 · rw [if_neg hm,if_neg (by omega)] at hz
   subst hz;exact Exact10_any xs a n c mode pa pb w hn hF hW hT (by omega) (by omega) (by cases q:may pa pb with | true=>rfl | false=>exact absurd (.inr (.inr q)) hm) hl
set_option maxRecDepth 100000 in
theorem alike20 {w:World}{lo hi g n:Nat}{xs:List Nat}(al:Option Addr) (m c:Nat) (less mode a b:Int) (h:Sl w lo hi g n xs) (hT:Tab w) (hm:m=xs.length) (hF:Fs w.heap.size w al xs) (hW:W64 xs) (hl:m≤4096) :
 Calls Tryz.prog 21 #[.pointer (some ⟨g,0,none⟩),.slice al m c,.int .i64 less,.int .i64 mode,.agg #[.int .i64 a,.int .i64 b]] w fun r w'=>r=.returned (.bool true)∧Below w.heap.size w w':=by
 obtain ⟨W,hWW⟩:∃ W,W=w.alloc (Obj.cells #[.int .i64 a,.int .i64 b] 26):=⟨_,rfl⟩;have hb0:Below w.heap.size w W:=by rw [hWW];exact bel_alloc _ _
 have hP:Bl W w.heap.size 26 [.int .i64 a,.int .i64 b]:=by rw [hWW];exact Bl.new _ _ [_,_]
 obtain ⟨⟨x1,e1⟩,z1⟩:∃ z,exR xs mode a b=z:=⟨_,rfl⟩;obtain ⟨⟨x2,e2⟩,z2⟩:∃ z,meanR xs mode a b=z:=⟨_,rfl⟩;obtain ⟨⟨x3,e3⟩,z3⟩:∃ z,varR qR14 xs less mode a b=z:=⟨_,rfl⟩;have K1:=hid (fun (u:World) (hu:Below w.heap.size w u)=>Sum20 mode a b (h.bel hu) (hT.belows hu) _ z1)
 have K2:=hid (fun (u:World) (hu:Below w.heap.size w u)=>Exact20 xs al m c mode a b u hm ((hF.below hu).mono hu.size) hW (hT.belows hu) (by omega) _ z1)
 have K3:=hid (fun (u:World) (hu:Below w.heap.size w u)=>Mean20 mode a b (h.bel hu) (hT.belows hu) _ z2)
 have K4:=hid (fun (u:World) (hu:Below w.heap.size w u)=>Mean13 xs al m c mode a b u hm ((hF.below hu).mono hu.size) hW (hT.belows hu) (by omega) _ z2)
 have K5:=hid (fun (u:World) (hu:Below w.heap.size w u)=>Var20 less mode a b (h.bel hu) (hT.belows hu) _ z3)
 have K6:=hid (fun (u:World) (hu:Below w.heap.size w u)=>Var14 xs al m c less mode a b u hm ((hF.below hu).mono hu.size) hW (hT.belows hu) (by omega) _ z3)
 have S1:=hid (fun u:World=>rSame_w x1 x1 u)
 have S2:=hid (fun u:World=>rSame_w x2 x2 u)
 have S3:=hid (fun u:World=>rSame_w x3 x3 u)
 rw [show (x1==x1)=true by simp] at S1
 rw [show (x2==x2)=true by simp] at S2
 rw [show (x3==x3)=true by simp] at S3
 have HL:=hid (fun (u:World) (hu:Below w.heap.size w u)=>Len20 (h.bel hu))
 rw [←hm] at HL;simp only at K1 K2 K3 K4 K5 K6;have A:=(qsd (ai hb0 hP));have HW:=qsd hWW;clear h hT hm hF hW hl z1 z2 z3 hb0 hP hWW;go_enter Tryz.func21,Tryz.ntmps21
 go_upto_region 1 with fail
 rw [←HW.out];clear HW;have p0:=A.out.2.cell 0 _ rfl;have p1:=A.out.2.cell 1 _ rfl;have C:=hid (K1.out _ A.out.1)
 go_wp2_with fail
 refine C.out.mono ?_;rintro r v1 ⟨rfl,hb⟩;replace A:=qsd (ai (A.out.1.trans (hb.mono A.out.1.size)) (A.out.2.below hb A.out.2.lt));clear hb C p0 p1 K1;have p0:=A.out.2.cell 0 _ rfl;have p1:=A.out.2.cell 1 _ rfl;have C:=hid (K2.out _ A.out.1)
 go_wp2_with fail
 refine C.out.mono ?_;rintro r v2 ⟨rfl,hb⟩;replace A:=qsd (ai (A.out.1.trans (hb.mono A.out.1.size)) (A.out.2.below hb A.out.2.lt));clear hb C p0 p1 K2;have p0:=A.out.2.cell 0 _ rfl;have p1:=A.out.2.cell 1 _ rfl;have C:=hid (K3.out _ A.out.1)
 go_wp2_with fail
 refine C.out.mono ?_;rintro r v3 ⟨rfl,hb⟩;replace A:=qsd (ai (A.out.1.trans (hb.mono A.out.1.size)) (A.out.2.below hb A.out.2.lt));clear hb C p0 p1 K3;have p0:=A.out.2.cell 0 _ rfl;have p1:=A.out.2.cell 1 _ rfl;have C:=hid (K4.out _ A.out.1)
 go_wp2_with fail
 refine C.out.mono ?_;rintro r v4 ⟨rfl,hb⟩;replace A:=qsd (ai (A.out.1.trans (hb.mono A.out.1.size)) (A.out.2.below hb A.out.2.lt));clear hb C p0 p1 K4;have p0:=A.out.2.cell 0 _ rfl;have p1:=A.out.2.cell 1 _ rfl;have C:=hid (K5.out _ A.out.1)
 go_wp2_with fail
 refine C.out.mono ?_;rintro r v5 ⟨rfl,hb⟩;replace A:=qsd (ai (A.out.1.trans (hb.mono A.out.1.size)) (A.out.2.below hb A.out.2.lt));clear hb C p0 p1 K5;have p0:=A.out.2.cell 0 _ rfl;have p1:=A.out.2.cell 1 _ rfl;have C:=hid (K6.out _ A.out.1)
 go_wp2_with fail
 refine C.out.mono ?_;rintro r v6 ⟨rfl,hb⟩;replace A:=qsd (ai (A.out.1.trans (hb.mono A.out.1.size)) (A.out.2.below hb A.out.2.lt));clear hb C p0 p1 K6
 go_wp2_with fail
 refine (S1.out _).mono ?_;rintro r u ⟨rfl,hu⟩;rw [hu];clear hu u S1
 go_wp2_with fail
 refine (S2.out _).mono ?_;rintro r u ⟨rfl,hu⟩;rw [hu];clear hu u S2
 go_wp2_with fail
 refine (S3.out _).mono ?_;rintro r u ⟨rfl,hu⟩;rw [hu];clear hu u S3
 go_wp2_with fail
 refine (HL.out _ A.out.1).mono ?_;rintro r u ⟨rfl,hu⟩;rw [hu];clear hu u HL;go_wp2;go_ret;exact ⟨rfl,A.out.1⟩
end
section
open Go.ChangeShapes Go.WideShapes Go.ChangeAt Go.RowKit
theorem trodF {H:Type}{enc:TypeId×Value→H}{P:Program}{w:World}{base:Nat}{spare:Nat→Bool}{held:Bool}{fuel:Nat}{t:TypeId}{cs:List Value}{x:DataW H×List MemPlace}{k:FloatKind}(ht:P.underlying t=some (.float k)) (h:DataW.trod enc P w base spare held fuel t cs=some x):∃ n,cs=[.float k n]∧x=(.lit (.float k n),[])∧(Lit.float k n).wf=true:=by
 cases fuel with
 | zero=>simp [DataW.trod] at h
 | succ m =>
   simp only [DataW.trod,ht] at h
   split at h <;> simp_all
structure CameF (w:World) (a:Option Addr) (n c:Nat) (xs:List Nat):Prop where
 len:n=xs.length
 cap:n≤c
 wf:W64 xs
 rd:Fs w.heap.size w a xs
 nil:a=none→c=0
theorem add_noneF (b off i:Nat):(⟨b,off,none⟩:Addr).add i=⟨b,off+i,none⟩:=by unfold Addr.add;split <;> simp_all
def numF {H:Type} (y:DataW H×List MemPlace):Nat:=match y.1 with | .lit (.float _ n)=>n | _=>0
theorem Tryz.cellsF:Tryz.prog.cellsOf 27=1:=by kernel_rfl
theorem cameF_of {H:Type}{enc:TypeId×Value→H}{W:World}{a:Option Addr}{n c:Nat}{d:DataW H}{p:List MemPlace}(h:DataW.Trod enc Tryz.prog W 0 (fun _=>true) true 51 (.slice a n c) d p) :
 ∃ xs,CameF W a n c xs∧((d=.nil∧c=0)∨∃ elems spare:List (DataW H),d=.slice elems spare∧elems.length+spare.length=c):=by
 obtain ⟨fuel,hf⟩:=h
 rcases DataW.trod_slice Tryz.underlying51 hf with ⟨hcs,hx⟩|⟨x,l,cp,elems,rest,m,_,hcs,hx,hb,hl,hm,hlen,hel,hsp,hns⟩
 · simp [Value.cells] at hcs
   obtain ⟨rfl,rfl,rfl⟩:=hcs;exact ⟨[],⟨rfl,Nat.le_refl _,(fun x hx=>by cases hx),(fun h=>absurd rfl h),fun _=>rfl⟩,.inl ⟨(Prod.mk.inj hx).1,rfl⟩⟩
 · simp [Value.cells] at hcs
   obtain ⟨rfl,rfl,rfl⟩:=hcs
   have each:∀ i y,i<n→elems[i]?=some y→y=(.lit (.float .f64 (numF y)),[])∧(Lit.float .f64 (numF y)).wf=true∧W.cell? (x.add i)=some (.float .f64 (numF y)):=by
    intro i y hi hy;have hb':=hel i hi;rw [hy,Tryz.cellsF,Nat.mul_one,Option.bind_eq_some_iff] at hb';obtain ⟨cs',hcs,hy'⟩:=hb';obtain ⟨k,rfl,rfl,hw⟩:=trodF Tryz.underlying27 hy';exact ⟨rfl,hw,cell_of_cells?_one hcs⟩
   refine ⟨elems.map numF,⟨by simp [hlen],hl,?_,?_,fun e=>by cases e⟩,.inr ⟨_,_,(Prod.mk.inj hx).1,?_⟩⟩
   · intro y hy
     obtain ⟨z,hz,rfl⟩:=List.mem_map.1 hy;obtain ⟨i,hi⟩:=List.getElem?_of_mem hz;have hil:=(List.getElem?_eq_some_iff.1 hi).1;have:=(each i z (by omega) hi).2.1
     exact of_decide_eq_true this
   · intro hne
     obtain ⟨b,off,spot⟩:=x
     have hn0:0<n:=by
      rcases Nat.eq_zero_or_pos n with h0|h0
      · rw [h0] at hlen;have:=List.eq_nil_of_length_eq_zero hlen;subst this;simp at hne
      · exact h0
     have hc0:=(each 0 (elems[0]'(by omega)) hn0 (List.getElem?_eq_getElem _)).2.2
     have hspot:spot=none:=by simpa [Addr.add] using World.cell?_spot hc0
     subst hspot;refine ⟨b,off,World.block_lt_of_cell? W _ (by simpa [Addr.add] using hc0),rfl,fun i hi=>?_⟩
     rw [List.length_map] at hi;have hadd:=add_noneF b off i;have:=(each i (elems[i]'hi) (by omega) (List.getElem?_eq_getElem _)).2.2
     rw [hadd] at this;rw [this];simp [List.getD_eq_getElem?_getD,hi]
   · have hr:=(hsp rfl).1
     simp only [List.length_map];omega
end
section
open Go Go.RowKit J
abbrev Rw20 (lo:Nat) (w:World) (v:Value) (R:List Nat):Prop:=w.ownsRow lo 27 1 v R.length (R.map Fw10)
theorem append20 {B:Nat}(lo:Nat) (v:Value) (R xs:List Nat) (ao:Option Addr) (m c:Nat) (w:World) (hR:Rw20 lo w v R) (hm:m=xs.length) (hF:Fs B w ao xs) (hnil:ao=none→c=0) (hlo:lo≤w.heap.size) (hk:R.length+xs.length≤4000000) (hmc:m≤c) :
 ∃ v' w',(Builtin.append_ #[51,51] 51 #[v,.slice ao m c]).run Tryz.prog w=.ok v' w'∧Rw20 lo w' v' (R++xs)∧Below lo w w':=by
 obtain ⟨i0,hi,hz0,hz1,hz2⟩:=info_parts Tryz.info_f64
 cases ao with
 | none =>
   obtain rfl:=hnil rfl;obtain rfl:m=0:=by omega
   have e:xs=[]:=List.eq_nil_of_length_eq_zero hm.symm;subst e;exact ⟨v,w,run_append_owned_none w lo 51 51 27 i0 1 Tryz.und_floats hi v _ _ hR,by rw [List.append_nil];exact hR,Below.refl _ _⟩
 | some a =>
   subst hm
   obtain ⟨v',w',r1,r2,r3,_,r5⟩:=run_append_own_at (P:=Tryz.prog) w lo 51 51 27 i0 (.float .f64 0) 1 8 Tryz.und_floats hi hz0 hz1 hz2 rfl (by decide) v R.length (R.map Fw10) hR a xs.length c (xs.map Fw10) (by simp) (by
    intro j u hj;have hj2:j<xs.length:=by have:=(List.getElem?_eq_some_iff.1 hj).1;simpa using this
    obtain ⟨b,off,e,hc⟩:=hF.at (Below.refl _ _) j hj2
    cases e
    have hadd:(⟨b,off,none⟩:Addr).add j=⟨b,off+j,none⟩:=by unfold Addr.add;split <;> simp_all
    rw [hadd,hc];rw [List.getElem?_map,List.getElem?_eq_getElem hj2] at hj
    rw [List.getD_eq_getElem?_getD,List.getElem?_eq_getElem hj2]
    exact hj) (by
    intro u hu;obtain ⟨x,_,rfl⟩:=List.mem_map.1 hu
    rfl) (by unfold maxLen;omega) (by omega) hlo
   refine ⟨v',w',r1,?_,⟨r3.os,r3.tape,r3.output,r3.size,fun k hkl=>r3.block k (by omega) (fun e=>?_)⟩⟩
   · show w'.ownsRow lo 27 1 v' (R++xs).length ((R++xs).map Fw10)
     rw [List.length_append,List.map_append];exact r2
   · rcases hR.2 with ⟨e2,_⟩ | ⟨g,cap,cur,e2,hlo2,_⟩
     · rw [e2] at e;simp [Value.ownBlock] at e
     · rw [e2] at e;simp [Value.ownBlock] at e;omega
abbrev lst20 (n k:Nat) (R:List Nat):List Nat:=(R.take k).drop (k-n)
theorem psh_lst {n k:Nat}{R:List Nat}(h1:1≤n) (hk:k<R.length):psh n (lst20 n k R) (R.getD k 0)=lst20 n (k+1) R:=by
 unfold psh lst20;have hl:(R.take k).length=k:=by rw [List.length_take];omega
 rw [List.length_drop,hl,take_snoc10 R k hk]
 by_cases h:n≤k
 · rw [if_pos (by omega),List.tail_drop,List.drop_append_of_le_length (by omega),show k-n+1=k+1-n by omega]
 · rw [if_neg (by omega),show k-n=0 by omega,show k+1-n=0 by omega];rfl
theorem lst_all (n:Nat) (R:List Nat):lst20 n R.length R=R.drop (R.length-n):=by unfold lst20;rw [List.take_length]
theorem lst_short {n:Nat}{R:List Nat}(h:R.length≤n):lst20 n R.length R=R:=by rw [lst_all,show R.length-n=0 by omega];rfl
theorem W64.drop {R:List Nat}(h:W64 R) (k:Nat):W64 (R.drop k):=fun x hx=>h x (List.mem_of_mem_drop hx)
theorem Fs.drop {B:Nat}{w:World}{b off:Nat}{R:List Nat}(h:Fs B w (some ⟨b,off,none⟩) R) (i:Nat) (hi:i≤R.length):Fs B w (some ⟨b,off+i,none⟩) (R.drop i):=by
 have:=h.piece i (R.length-i) (by omega)
 rw [List.take_of_length_le (by rw [List.length_drop];omega)] at this
 exact this
theorem pick20 (c:Int) (m:Nat) (w:World) (h0:-9223372036854775808≤c) (h1:c≤9223372036854775807) (hm:0<m) (hm2:m≤1000000) :
 Calls Tryz.prog 20 #[.int .i64 c,.int .i64 (m:Nat)] w fun r w'=>∃ p:Nat,r=.returned (.int .i64 (p:Nat))∧p<m∧w'=w:=by
 by_cases h:c<0
 · go_enter Tryz.func20,Tryz.ntmps20
   go_wp2;have e1:(-(c+1)).tmod (m:Int)=-(c+1)%(m:Int):=Int.tmod_eq_emod_of_nonneg (by omega)
   rw [Int.neg_tmod] at e1;have e2:=Int.emod_nonneg (-(c+1)) (b:=(m:Int)) (by omega)
   have e3:=Int.emod_lt_of_pos (-(c+1)) (b:=(m:Int)) (by omega)
   obtain ⟨p,hp⟩:∃ p:Nat,(p:Int)=-(c+1)%(m:Int):=⟨(-(c+1)%(m:Int)).toNat,by omega⟩
   rw [e1,←hp];exact bodyPost_ret (v:=.int .i64 (p:Nat)) (by simp [results,Tryz.results20,go_sem]) rfl ⟨p,rfl,by omega,rfl⟩
 · go_enter Tryz.func20,Tryz.ntmps20
   go_wp2;have e2:=Int.emod_nonneg c (b:=(m:Int)) (by omega)
   have e3:=Int.emod_lt_of_pos c (b:=(m:Int)) (by omega)
   obtain ⟨p,hp⟩:∃ p:Nat,(p:Int)=c%(m:Int):=⟨(c%(m:Int)).toNat,by omega⟩
   rw [←hp];exact bodyPost_ret (v:=.int .i64 (p:Nat)) (by simp [results,Tryz.results20,go_sem]) rfl ⟨p,rfl,by omega,rfl⟩
theorem pick50 (c:Int) (w:World) (h0:-9223372036854775808≤c) (h1:c≤9223372036854775807) :
 Calls Tryz.prog 20 #[.int .i64 c,.int .i64 50] w fun r w'=>∃ p:Nat,r=.returned (.int .i64 (p:Nat))∧p<50∧w'=w:=pick20 c 50 w h0 h1 (by decide) (by decide)
theorem int_hi20 {k:Int}(h:(Lit.int IntKind.i64 k).wf=true):k≤9223372036854775807:=by
 simp [Lit.wf,IntKind.min,IntKind.max,IntKind.signed,IntKind.bits] at h;omega
theorem int_lo20 {k:Int}(h:(Lit.int IntKind.i64 k).wf=true):-9223372036854775808≤k:=by
 simp [Lit.wf,IntKind.min,IntKind.max,IntKind.signed,IntKind.bits] at h;omega
theorem end_nil (K:Nat→Int):endR K []=(0,3):=rfl
theorem end_ok {K:Nat→Int}{xs:List Nat}(h:xs≠[]):(endR K xs).2=0:=by
 unfold endR;rw [if_neg h]
 split <;> rfl
theorem stL_none {K:Nat→Int}{xs:List Nat}(h:stL K xs=[]):∀ i,i<xs.length→nanW (xs.getD i 0)=true:=by
 intro i hi
 cases hn:nanW (xs.getD i 0)
 · exact absurd h (end_least (K:=K) (xs:=xs) _ i (Nat.le_refl _) hi hn).1
 · rfl
theorem nan_iff20 (x:Nat):nanW x=true↔9218868437227405312<magW x:=by
 show decide (9218868437227405312<magW x)=true↔_
 rw [decide_eq_true_eq]
theorem cmp20 {L:List Nat}(hW:W64 L) {x z:Nat}{e g:Int}(hx:endR tk20 L=(x,e)) (hz:endR hk20 L=(z,g)) {i:Nat}(hi:i<L.length) :
 (FloatKind.f64.format.order (L.getD i 0) x==some .lt)=false∧(FloatKind.f64.format.order (L.getD i 0) z==some .gt)=false ∧
  ((FloatKind.f64.format.order x z==some .lt || FloatKind.f64.format.order x z==some .eq)=true∨((FloatKind.f64.format.order x z==some .lt || FloatKind.f64.format.order x z==some .eq)=false∧(FloatKind.f64.format.order (L.getD i 0) (L.getD i 0)==some .eq)=false)):=by
 have hne:L≠[]:=by rintro rfl;simp at hi
 have hi64:=hW.get i;unfold endR at hx hz;rw [if_neg hne] at hx hz
 by_cases h1:stL tk20 L=[]
 · have hall:=stL_none h1
   have h2:stL hk20 L=[]:=by
    by_cases c:stL hk20 L=[]
    · exact c
    · obtain ⟨a,b⟩:=end_nn c
      rw [hall _ a] at b;cases b
   rw [if_pos h1] at hx;rw [if_pos h2] at hz;have ex:=(Prod.mk.inj hx).1;have ez:=(Prod.mk.inj hz).1;have nx:9218868437227405312<magW x:=by rw [←ex];decide
   have ni:=(nan_iff20 _).1 (hall i hi);exact ⟨nanL20 _ _ ni _,nanL20 _ _ ni _,.inr ⟨by rw [nanL20 _ _ nx,nanL20 _ _ nx];rfl,nanL20 _ _ ni _⟩⟩
 · have h2:stL hk20 L≠[]:=by
    obtain ⟨a,b⟩:=end_nn h1;exact (end_least (K:=hk20) (xs:=L) _ _ (Nat.le_refl _) a b).1
   rw [if_neg h1] at hx;rw [if_neg h2] at hz;have ex:=(Prod.mk.inj hx).1;have ez:=(Prod.mk.inj hz).1;obtain ⟨a1,b1⟩:=end_nn h1;obtain ⟨a2,b2⟩:=end_nn h2;have q1:=hW.get ((stL tk20 L).getD 0 0);have q2:=hW.get ((stL hk20 L).getD 0 0)
   have key:∀ j,j<L.length→nanW (L.getD j 0)=false→tk20 x≤tk20 (L.getD j 0)∧tk20 (L.getD j 0)≤tk20 z:=by
    intro j hj hn;have k1:=(end_least (K:=tk20) (xs:=L) _ j (Nat.le_refl _) hj hn).2;have k2:=(end_least (K:=hk20) (xs:=L) _ j (Nat.le_refl _) hj hn).2;rw [ex] at k1;rw [ez] at k2;exact ⟨k1,by unfold hk20 at k2;omega⟩
   rw [ex] at b1 q1;rw [ez] at b2 q2;have fx:=(nn_iff20 x).1 b1;have fz:=(nn_iff20 z).1 b2
   have hxz:sP20 x≤sP20 z:=by
    have k1:=(end_least (K:=tk20) (xs:=L) _ _ (Nat.le_refl _) a2 (by rw [ez];exact b2)).2
    rw [ex,ez] at k1;exact tk_sP20 fx fz k1
   have hle:(FloatKind.f64.format.order x z==some .lt || FloatKind.f64.format.order x z==some .eq)=true:=by
    rw [lt20 q1 q2 fx fz,eq20 q1 q2 fx fz];simp;omega
   cases hn:nanW (L.getD i 0)
   · have fi:=(nn_iff20 _).1 hn
     obtain ⟨k1,k2⟩:=key i hi hn;have s1:=tk_sP20 fx fi k1;have s2:=tk_sP20 fi fz k2;refine ⟨?_,?_,.inl hle⟩
     · rw [lt20 hi64 q1 fi fx];exact decide_eq_false (by omega)
     · rw [gt20 hi64 q2 fi fz];exact decide_eq_false (by omega)
   · have ni:=(nan_iff20 _).1 hn
     exact ⟨nanL20 _ _ ni _,nanL20 _ _ ni _,.inl hle⟩
end
section
open Go Go.RowKit J
structure Wo20 (w u:World) (l1 h1 g1 l2 h2 g2 n:Nat) (X Y:List Nat) (pa pb:Int) (al:Option Addr) (L:List Nat):Prop where
 s1:Sl u l1 h1 g1 n X
 s2:Sl u l2 h2 g2 n Y
 pl:Bl u w.heap.size 26 [.int .i64 pa,.int .i64 pb]
 bw:Below w.heap.size w u
 o1:w.heap.size<l1
 o2:h1≤l2
 o3:l2≤h2
 fs:Fs u.heap.size u al L
 hb:∀ b o p,al=some ⟨b,o,p⟩→h2≤b
theorem Wo20.bel {w u u':World}{l1 h1 g1 l2 h2 g2 n:Nat}{X Y:List Nat}{pa pb:Int}{al:Option Addr}{L:List Nat}(h:Wo20 w u l1 h1 g1 l2 h2 g2 n X Y pa pb al L) (hb:Below u.heap.size u u'):Wo20 w u' l1 h1 g1 l2 h2 g2 n X Y pa pb al L :=
 ⟨h.s1.bel hb,h.s2.bel hb,h.pl.below hb h.pl.lt,h.bw.trans (hb.mono h.bw.size),h.o1,h.o2,h.o3,(h.fs.below hb).mono hb.size,h.hb⟩
theorem Fs.fr {lo hi:Nat}{w w':World}{ao:Option Addr}{xs:List Nat}(h:Fs w.heap.size w ao xs) (hb:Fr20 lo hi w w') (hg:∀ b o p,ao=some ⟨b,o,p⟩→hi≤b):Fs w'.heap.size w' ao xs:=by
 intro hne;obtain ⟨b,off,h1,h2,h3⟩:=h hne;have q:=hg b off none h2;exact ⟨b,off,Nat.lt_of_lt_of_le h1 hb.size,h2,fun i hi=>by rw [World.cell?_of_block (a:=⟨b,off+i,none⟩) (hb.block b h1 (by omega))];exact h3 i hi⟩
theorem Wo20.push1 {w u u':World}{l1 h1 g1 l2 h2 g2 n:Nat}{X X' Y:List Nat}{pa pb:Int}{al:Option Addr}{L:List Nat}(h:Wo20 w u l1 h1 g1 l2 h2 g2 n X Y pa pb al L) (hs:Sl u' l1 h1 g1 n X') (hf:Fr20 l1 h1 u u'):Wo20 w u' l1 h1 g1 l2 h2 g2 n X' Y pa pb al L:=by
 have o1:=h.o1;have o2:=h.o2;have o3:=h.o3;refine ⟨hs,h.s2.keep (fun k k1 k2 k3=>hf.block k k3 (by omega)),h.pl.blk (hf.block _ h.pl.lt (by omega)),Fr20.below h.bw hf h.bw.size (by omega),o1,o2,o3,h.fs.fr hf (fun b o p e=>by have:=h.hb b o p e;omega),h.hb⟩
theorem Wo20.push2 {w u u':World}{l1 h1 g1 l2 h2 g2 n:Nat}{X Y Y':List Nat}{pa pb:Int}{al:Option Addr}{L:List Nat}(h:Wo20 w u l1 h1 g1 l2 h2 g2 n X Y pa pb al L) (hs:Sl u' l2 h2 g2 n Y') (hf:Fr20 l2 h2 u u'):Wo20 w u' l1 h1 g1 l2 h2 g2 n X Y' pa pb al L:=by
 have o1:=h.o1;have o2:=h.o2;have o3:=h.o3;have l3:=h.s1.lt;refine ⟨h.s1.keep (fun k k1 k2 k3=>hf.block k k3 (by omega)),hs,h.pl.blk (hf.block _ h.pl.lt (by omega)),Fr20.below h.bw hf h.bw.size (by omega),o1,o2,o3,h.fs.fr hf (fun b o p e=>h.hb b o p e),h.hb⟩
theorem own_fs20 {w:World}{lo:Nat}{v:Value}{xs:List Nat}(h:Rw20 lo w v xs):∃ a c,v=.slice a xs.length c∧xs.length≤c∧Fs w.heap.size w a xs∧∀ b o p,a=some ⟨b,o,p⟩→lo≤b:=by
 obtain ⟨a,c,rfl,h1,h2⟩:=own_fs10 h rfl;refine ⟨a,c,rfl,h1,h2,fun b o p e=>?_⟩
 subst e
 rcases h.2 with ⟨e,_⟩|⟨g,cap,cur,e,hlo,_⟩
 · cases e
 · cases e;exact hlo
set_option maxRecDepth 100000 in
theorem walk_SlideLists (size:Int) (a1:Option Addr) (n1 c1:Nat) (xs:List Nat) (a2:Option Addr) (n2 c2:Nat) (ys:List Nat) (less mode pa pb:Int) (w:World) (hT:Tab w) (hz0:-9223372036854775808≤size) (hz1:size≤9223372036854775807) (hC:CameF w a1 n1 c1 xs) (hD:CameF w a2 n2 c2 ys) (hm1:n1≤1048576) (hm2:n2≤1048576) :
 Calls Tryz.prog 5 #[.int .i64 size,.slice a1 n1 c1,.slice a2 n2 c2,.int .i64 less,.int .i64 mode,.agg #[.int .i64 pa,.int .i64 pb]] w fun r w'=>r=.returned (.bool true)∧Below w.heap.size w w':=by
 obtain ⟨W,hWW⟩:∃ W,W=w.alloc (Obj.cells #[.int .i64 pa,.int .i64 pb] 26):=⟨_,rfl⟩;have hb0:Below w.heap.size w W:=by rw [hWW];exact bel_alloc _ _
 have hP:Bl W w.heap.size 26 [.int .i64 pa,.int .i64 pb]:=by rw [hWW];exact Bl.new _ _ [_,_]
 have CA:=hid (awake20 W (hT.belows hb0));have CP:=hid (fun u:World=>pick50 size u hz0 hz1)
 have A:=(qsd (ai hb0 (ai hP hT)));have HC:=(qsd (ai hC (ai hD (ai hm1 hm2))));have HW:=qsd hWW;clear hT hC hD hm1 hm2 hb0 hP hWW hz0 hz1;go_enter Tryz.func5,Tryz.ntmps5
 go_upto_region 1 with fail
 rw [←HW.out];clear HW
 go_wp2_with fail
 refine CA.out.mono ?_;rintro r u1 ⟨rfl,hb⟩;have A1:=qsd (ai (A.out.1.trans (hb.mono A.out.1.size)) (A.out.2.1.below hb A.out.2.1.lt));clear hb CA
 go_wp2_with fail
 refine (CP.out _).mono ?_;rintro r u ⟨p,rfl,hp,hu⟩;rw [hu];clear hu u CP;obtain ⟨n,hn⟩:∃ n:Nat,n=p+1:=⟨_,rfl⟩;have hwn:IntKind.i64.wrap (1+(p:Int))=(n:Int):=wrapY20 (by omega) (by omega)
 have hpn:(1+(p:Int))=(n:Int):=by omega
 have hn1:1≤n:=by omega
 have hn2:n≤50:=by omega
 clear hn hp;have CN:=hid (fun u:World=>New20 n hn1 (by omega) u)
 have HN:=(qsd (ai hn1 hn2));have hw64:RowKit.wrap64 (n:Int)=(n:Int):=IntWalk.wrap64_in _ (by omega)
 clear hn1 hn2
 go_wp2_with fail
 refine (CN.out _).mono ?_;rintro r u2 ⟨g1,rfl,hs,hb⟩;have A2:=(qsd (ai hs hb));clear hs hb
 go_wp2_with fail
 refine (CN.out _).mono ?_;rintro r u3 ⟨g2,rfl,hs,hb⟩;obtain ⟨hC,hD,hm1,hm2⟩:=HC.out;have z0:w.heap.size<u1.heap.size:=A1.out.2.lt;have z1:=A2.out.2.size;have z2:=hb.size;have b3:Below w.heap.size w u3:=(A1.out.1.trans (A2.out.2.mono (by omega))).trans (hb.mono (by omega))
 have S1:=A2.out.1.bel hb;have P3:=(A1.out.2.below A2.out.2 (by omega)).below hb (by omega)
 have hl1:=hC.len;have hl2:=hD.len;obtain ⟨v1,u4,ap1,rw1,bb1⟩:=append20 u3.heap.size (.slice none 0 0) [] xs a1 n1 c1 u3 (World.ownsRow_nil _ _ _ _) hC.len (hC.rd.below b3) hC.nil (Nat.le_refl _) (by simp;omega) hC.cap
 obtain ⟨v2,u5,ap2,rw2,bb2⟩:=append20 u3.heap.size v1 ([]++xs) ys a2 n2 c2 u4 rw1 hD.len ((hD.rd.below (b3.trans (bb1.mono (by omega))))) hD.nil bb1.size (by simp;omega) hD.cap
 rw [List.nil_append] at rw2;obtain ⟨R,hR⟩:∃ R,R=xs++ys:=⟨_,rfl⟩
 have RW:W64 R:=by
  rw [hR];intro x hx
  rcases List.mem_append.1 hx with h|h
  · exact hC.wf x h
  · exact hD.wf x h
 have RL:R.length≤2097152:=by rw [hR,List.length_append];omega
 rw [←hR] at rw2;obtain ⟨al,cc,rfl,hcc,hFs,hgl⟩:=own_fs20 rw2
 have o5:Wo20 w u5 u1.heap.size u2.heap.size g1 u2.heap.size u3.heap.size g2 n [] [] pa pb al R :=
  ⟨(S1.keep (fun k k1 k2 k3=>bb1.block k (by omega))).keep (fun k k1 k2 k3=>bb2.block k (by omega)),(hs.keep (fun k k1 k2 k3=>bb1.block k (by omega))).keep (fun k k1 k2 k3=>bb2.block k (by omega)),(P3.below bb1 (by omega)).below bb2 (by omega),(b3.trans (bb1.mono (by omega))).trans (bb2.mono (by omega)),z0,Nat.le_refl _,z2,hFs,hgl⟩
 obtain ⟨N,hN⟩:∃ N,N=R.length:=⟨_,rfl⟩;rw [←hN] at hcc ap2;obtain ⟨l1,e1⟩:∃ l,l=u1.heap.size:=⟨_,rfl⟩;obtain ⟨h1,e2⟩:∃ l,l=u2.heap.size:=⟨_,rfl⟩;obtain ⟨h2,e3⟩:∃ l,l=u3.heap.size:=⟨_,rfl⟩;rw [←e1,←e2,←e3] at o5;have HR:=(qsd (ai RW (ai RL (ai hN (ai A.out.2.2 hcc)))));have O5:=qsd o5;have P1:=qsd ap1;have P2:=qsd ap2;have hNb:N≤2097152:=by omega
 clear hs hb hC hD hm1 hm2 z0 z1 z2 b3 S1 P3 hl1 hl2 ap1 rw1 bb1 ap2 rw2 bb2 hR RW RL hN hcc hFs hgl o5 e1 e2 e3 A A1 A2 HC CN hNb
 go_upto_region 9 with (at_builtin;refine wpList_append10 rfl (.tmp 52) (.tmp 53) 51 rfl _ _ rfl rfl _ _ P1.out ?_)
 go_wp2_with (at_builtin;refine wpList_append10 rfl (.tmp 55) (.tmp 56) 51 rfl _ _ rfl rfl _ _ P2.out ?_)
 clear P1 P2
 go_loopg [18] N (fun gk iv wr=>∃ k:Nat,gk+k=N∧iv=.int .i64 (k:Nat)∧Aside (Wo20 w wr l1 h1 g1 h1 h2 g2 n (lst20 n k R) [] pa pb al R))
 case atStart=>exact ⟨0,by omega,by simp,qsd (by rw [show lst20 n 0 R=[] by simp];exact O5.out)⟩
 case round =>
  clear O5;obtain ⟨k,hgk,rfl,HA⟩:=hrel
  by_cases hk:k<N
  · have hkR:k<R.length:=by rw [←HR.out.2.2.1];exact hk
    obtain ⟨b,off,rfl,hc⟩:=HA.out.fs.at (Below.refl _ _) k hkR;obtain ⟨x,hx⟩:∃ x,x=R.getD k 0:=⟨_,rfl⟩;rw [←hx] at hc;have hx6:x<18446744073709551616:=by rw [hx];exact HR.out.1.get k
    have C:=hid (Push20 x HA.out.s1 hx6 HN.out.1);rw [hx,psh_lst HN.out.1 hkR,←hx] at C;have hd:decide ((k:Int)<N)=true:=by simp;omega
    have hkb:k<4611686018427387904:=by have:=HR.out.2.1;omega
    clear hx hx6 hkR
    go_wp2_with fail
    refine C.out.mono ?_;rintro r v ⟨rfl,hs,hf⟩;have HB:=qsd (HA.out.push1 hs hf);clear HA C hs hf;go_wp2
    go_roundg (gk-1)
    case measure=>omega
    case rel=>exact ⟨k+1,by omega,by first | rfl | simp,HB.out⟩
  · obtain rfl:N=k:=by omega
    have hd:decide ((N:Int)<N)=false:=by simp
    clear hgk hk;obtain ⟨L,hL⟩:∃ L,L=R.drop (R.length-n):=⟨_,rfl⟩;have e0:lst20 n N R=L:=by rw [hL,←lst_all,←HR.out.2.2.1]
    rw [e0] at HA;have LW:W64 L:=by rw [hL];exact HR.out.1.drop _
    have LL:L.length≤n:=by rw [hL,List.length_drop];omega
    have HL:=(qsd (ai hL (ai LW LL)));have hNb:N≤2097152:=by have:=HR.out.2.1;have:=HR.out.2.2.1;omega
    have hnb:n≤50:=HN.out.2;clear hL LW LL e0
    go_upto_if 74 with fail
    go_cut [19] from 71 to 80 (fun v wx=>∃ (a':Option Addr) (m c':Nat),v=.slice a' m c'∧wr=wx∧Aside (m=L.length∧m≤c'∧Wo20 w wr l1 h1 g1 h1 h2 g2 n L [] pa pb a' L))
    case first =>
     by_cases hnN:n<N
     · have d1:decide ((n:Int)<(N:Int))=true:=by simp;omega
       obtain ⟨b,off,rfl,_⟩:=HA.out.fs.at (Below.refl _ _) 0 (by rw [←HR.out.2.2.1];omega)
       obtain ⟨i,hi⟩:∃ i:Nat,(N:Int)-(n:Int)=(i:Int):=⟨N-n,by omega⟩
       have hcc:=HR.out.2.2.2.2;have hn1:=HN.out.1;have hcp:cc≠i:=by omega
       have hiN:i≤N:=by omega
       have hic:i≤cc:=by omega
       have HF:Aside (N-i=L.length∧N-i≤cc-i∧Wo20 w wr l1 h1 g1 h1 h2 g2 n L [] pa pb (some ⟨b,off+i,none⟩) L):=by
        have o:=HA.out;have q:=HL.out.1;have hR:=HR.out.2.2.1;rw [←hR,show N-n=i by omega] at q
        refine ⟨by rw [q,List.length_drop,←hR],by omega,o.s1,o.s2,o.pl,o.bw,o.o1,o.o2,o.o3,?_,?_⟩
        · rw [q];exact o.fs.drop i (by rw [←hR];omega)
        · intro b' o' p' e
          cases e
          exact o.hb b off none rfl
       clear HA hcc hn1;go_wp2
       go_meet
       case rel=>exact ⟨_,_,_,rfl,rfl,HF.out⟩
     · have d1:decide ((n:Int)<(N:Int))=false:=by simp;omega
       have HF:Aside (N=L.length∧N≤cc∧Wo20 w wr l1 h1 g1 h1 h2 g2 n L [] pa pb al L):=by
        have o:=HA.out;have q:=HL.out.1;have hR:=HR.out.2.2.1;rw [←hR,show N-n=0 by omega,List.drop_zero] at q
        refine ⟨by rw [q,←hR],HR.out.2.2.2.2,o.s1,o.s2,o.pl,o.bw,o.o1,o.o2,o.o3,?_,o.hb⟩
        rw [q];exact o.fs
       go_wp2
       go_meet
       case rel=>exact ⟨_,_,_,rfl,rfl,HF.out⟩
    clear HA hNb;obtain ⟨a',m,c',rfl,rfl,HA⟩:=hcut;have hm50:m≤50:=by have:=HA.out.1;have:=HL.out.2.2;omega
    go_wp2
    go_loopg [20] m (fun gk iv wr=>∃ k:Nat,gk+k=m∧iv=.int .i64 (k:Nat)∧Aside (Wo20 w wr l1 h1 g1 h1 h2 g2 n L (lst20 n k L) pa pb a' L))
    case atStart=>exact ⟨0,by omega,by simp,qsd (by rw [show lst20 n 0 L=[] by simp];exact HA.out.2.2)⟩
    case round =>
     have HM:=qsd HA.out.1;clear HA;obtain ⟨k,hgk,rfl,HA⟩:=hrel
     by_cases hk:k<m
     · have hkR:k<L.length:=by rw [←HM.out];exact hk
       obtain ⟨b,off,rfl,hc⟩:=HA.out.fs.at (Below.refl _ _) k hkR;obtain ⟨x,hx⟩:∃ x,x=L.getD k 0:=⟨_,rfl⟩;rw [←hx] at hc;have hx6:x<18446744073709551616:=by rw [hx];exact HL.out.2.1.get k
       have C:=hid (Push20 x HA.out.s2 hx6 HN.out.1);rw [hx,psh_lst HN.out.1 hkR,←hx] at C;have hd:decide ((k:Int)<m)=true:=by simp;omega
       have hkb:k<4611686018427387904:=by omega
       clear hx hx6 hkR
       go_wp2_with fail
       refine C.out.mono ?_;rintro r v ⟨rfl,hs,hf⟩;have HB:=qsd (HA.out.push2 hs hf);clear HA C hs hf;go_wp2
       go_roundg (gk-1)
       case measure=>omega
       case rel=>exact ⟨k+1,by omega,by first | rfl | simp,HB.out⟩
     · obtain rfl:m=k:=by omega
       have hd:decide ((m:Int)<m)=false:=by simp
       clear hgk hk;have e0:lst20 n m L=L:=by rw [HM.out];exact lst_short HL.out.2.2
       rw [e0] at HA;clear e0;obtain ⟨⟨x,e⟩,hx⟩:∃ q,endR tk20 L=q:=⟨_,rfl⟩;obtain ⟨⟨z,g⟩,hz⟩:∃ q,endR hk20 L=q:=⟨_,rfl⟩;have HE:=(qsd (ai hx hz));have K1:=hid (fun (u:World) (o:Wo20 w u l1 h1 g1 h1 h2 g2 n L L pa pb a' L)=>alike20 a' m c' less mode pa pb o.s1 (HR.out.2.2.2.1.belows o.bw) HM.out o.fs HL.out.2.1 (by omega))
       have K2:=hid (fun (u:World) (o:Wo20 w u l1 h1 g1 h1 h2 g2 n L L pa pb a' L)=>alike20 a' m c' less mode pa pb o.s2 (HR.out.2.2.2.1.belows o.bw) HM.out o.fs HL.out.2.1 (by omega))
       have K3:=hid (fun (u:World) (o:Wo20 w u l1 h1 g1 h1 h2 g2 n L L pa pb a' L)=>Least20 o.s1 _ hx)
       have K4:=hid (fun (u:World) (o:Wo20 w u l1 h1 g1 h1 h2 g2 n L L pa pb a' L)=>Least20 o.s2 _ hx)
       have K5:=hid (fun (u:World) (o:Wo20 w u l1 h1 g1 h1 h2 g2 n L L pa pb a' L)=>Most20 o.s1 _ hz)
       have K6:=hid (fun (u:World) (o:Wo20 w u l1 h1 g1 h1 h2 g2 n L L pa pb a' L)=>Most20 o.s2 _ hz)
       have S1:=hid (fun u:World=>rSame_w x x u)
       have S2:=hid (fun u:World=>rSame_w z z u)
       rw [show (x==x)=true by simp] at S1
       rw [show (z==z)=true by simp] at S2
       simp only at K3 K4 K5 K6;clear hx hz hm50 hnb;have p0:=HA.out.pl.cell 0 _ rfl;have p1:=HA.out.pl.cell 1 _ rfl;have C:=hid (K1.out _ HA.out)
       go_wp2_with fail
       refine C.out.mono ?_;rintro r v ⟨rfl,hb⟩;replace HA:=qsd (HA.out.bel hb);clear hb C p0 p1 K1;have p0:=HA.out.pl.cell 0 _ rfl;have p1:=HA.out.pl.cell 1 _ rfl;have C:=hid (K2.out _ HA.out)
       go_wp2_with fail
       refine C.out.mono ?_;rintro r v ⟨rfl,hb⟩;replace HA:=qsd (HA.out.bel hb);clear hb C p0 p1 K2;have C:=hid (K3.out _ HA.out)
       go_wp2_with fail
       refine C.out.mono ?_;rintro r v ⟨rfl,hb⟩;replace HA:=qsd (HA.out.bel hb);clear hb C K3;have C:=hid (K4.out _ HA.out)
       go_wp2_with fail
       refine C.out.mono ?_;rintro r v ⟨rfl,hb⟩;replace HA:=qsd (HA.out.bel hb);clear hb C K4;have C:=hid (K5.out _ HA.out)
       go_wp2_with fail
       refine C.out.mono ?_;rintro r v ⟨rfl,hb⟩;replace HA:=qsd (HA.out.bel hb);clear hb C K5;have C:=hid (K6.out _ HA.out)
       go_wp2_with fail
       refine C.out.mono ?_;rintro r v ⟨rfl,hb⟩;replace HA:=qsd (HA.out.bel hb);clear hb C K6
       go_wp2_with fail
       refine (S1.out _).mono ?_;rintro r u ⟨rfl,hu⟩;rw [hu];clear hu u S1
       go_wp2_with fail
       refine (S2.out _).mono ?_;rintro r u ⟨rfl,hu⟩;rw [hu];clear hu u S2
       by_cases h0:m=0
       · have e1:L=[]:=List.eq_nil_of_length_eq_zero (by rw [←HM.out];exact h0)
         obtain rfl:e=3:=by have:=HE.out.1;rw [e1,end_nil] at this;exact (Prod.mk.inj this).2.symm
         obtain rfl:g=3:=by have:=HE.out.2;rw [e1,end_nil] at this;exact (Prod.mk.inj this).2.symm
         clear e1;subst h0;go_wp2;go_ret;exact ⟨rfl,HA.out.bw⟩
       · have hne:L≠[]:=by rintro rfl;have:=HM.out;simp at this;omega
         obtain rfl:e=0:=by have:=end_ok (K:=tk20) hne;rw [HE.out.1] at this;exact this
         obtain rfl:g=0:=by have:=end_ok (K:=hk20) hne;rw [HE.out.2] at this;exact this
         have d0:((m:Int)==0)=false:=by simp;omega
         have hmb:m≤50:=by have:=HM.out;have:=HL.out.2.2;have:=HN.out.2;omega
         clear hne;go_wp2
         go_loopg [33] m (fun gk iv wr=>∃ k:Nat,gk+k=m∧iv=.int .i64 (k:Nat)∧Aside (Below w.heap.size w wr∧Fs wr.heap.size wr a' L))
         case atStart=>exact ⟨0,by omega,by simp,HA.out.bw,HA.out.fs⟩
         case round =>
          clear HA;obtain ⟨k,hgk,rfl,HA⟩:=hrel
          by_cases hk:k<m
          · have hkR:k<L.length:=by rw [←HM.out];exact hk
            obtain ⟨b,off,rfl,hc⟩:=HA.out.2.at (Below.refl _ _) k hkR;obtain ⟨d1,d2,d3⟩:=cmp20 HL.out.2.1 HE.out.1 HE.out.2 hkR;obtain ⟨y,hy⟩:∃ y,y=L.getD k 0:=⟨_,rfl⟩;rw [←hy] at hc d1 d2 d3;have hd:decide ((k:Int)<m)=true:=by simp;omega
            have hkb:k<4611686018427387904:=by omega
            clear hy hkR
            rcases d3 with d3|⟨d3,d4⟩
            · go_wp2_with fail
              go_quiet (fail)
              have hbd:Below w.heap.size w (wr.drewN nq):=⟨HA.out.1.os,HA.out.1.tape,HA.out.1.output,HA.out.1.size,HA.out.1.block⟩;have hfd:Fs (wr.drewN nq).heap.size (wr.drewN nq) (some ⟨b,off,none⟩) L:=HA.out.2;obtain ⟨W',hW'⟩:∃ W',W'=wr.drewN nq:=⟨_,rfl⟩;rw [←hW'] at hbd hfd ⊢;have HB:=(qsd (ai hbd hfd));clear hbd hfd hW' HA;go_wp2
              go_roundg (gk-1)
              case measure=>omega
              case rel=>exact ⟨k+1,by omega,by first | rfl | simp,HB.out⟩
            · go_wp2_with fail
              go_quiet (fail)
              have hbd:Below w.heap.size w (wr.drewN nq):=⟨HA.out.1.os,HA.out.1.tape,HA.out.1.output,HA.out.1.size,HA.out.1.block⟩;have hfd:Fs (wr.drewN nq).heap.size (wr.drewN nq) (some ⟨b,off,none⟩) L:=HA.out.2;obtain ⟨W',hW'⟩:∃ W',W'=wr.drewN nq:=⟨_,rfl⟩;rw [←hW'] at hbd hfd ⊢;have HB:=(qsd (ai hbd hfd));clear hbd hfd hW' HA;go_wp2
              go_roundg (gk-1)
              case measure=>omega
              case rel=>exact ⟨k+1,by omega,by first | rfl | simp,HB.out⟩
          · obtain rfl:m=k:=by omega
            have hd:decide ((m:Int)<m)=false:=by simp
            clear hgk hk;go_wp2;go_ret;exact ⟨rfl,HA.out.1⟩
end
section
open Go.ChangeShapes Go.WideShapes Go.ChangeAt Go.RowKit
theorem ints_of12 {H:Type}{enc:TypeId×Value→H}{W:World}{k:Nat}{c:Value}{x:Option (DataW H×List MemPlace)}{y:DataW H×List MemPlace}(h:DataW.trod enc Tryz.prog W 0 (fun _=>true) true k 3 [c]=x) (hx:x=some y):∃ n:Int,c=.int .i64 n∧y.1=.lit (.int .i64 n)∧-9223372036854775808≤n∧n≤9223372036854775807:=by
 subst hx;obtain ⟨e,e2,rfl,hw⟩:=DataW.trod_int Tryz.underlying3 h
 cases e2
 have hw':-9223372036854775808≤e∧e≤9223372036854775807:=by
  simp [Lit.wf,IntKind.min,IntKind.max,IntKind.signed,IntKind.bits] at hw;omega
 exact ⟨e,rfl,rfl,hw'.1,hw'.2⟩
theorem pol_of12 {H:Type}{enc:TypeId×Value→H}{W:World}{r:Reach}{b0:Nat}{v:Value}{d:DataW H}{p:List MemPlace}(hv:Value.okWide Tryz.prog W r b0 26 v) (h:DataW.Trod enc Tryz.prog W 0 (fun _=>true) true 26 v d p) :
 ∃ a b:Int,v=.agg #[.int .i64 a,.int .i64 b]:=by
 obtain ⟨cs,rfl,hsz⟩:=okWide_struct Tryz.underlying26 hv;obtain ⟨fuel,hf⟩:=h;have hC:Tryz.prog.cellsOf 26=2:=by kernel_rfl
 have c3:Tryz.prog.cellsOf 3=1:=by kernel_rfl
 obtain ⟨xs,k,rfl,hx,hl,hxl,hfs⟩:=DataW.trod_struct Tryz.underlying26 hf;rw [hC] at hsz
 obtain ⟨c0,c1,rfl⟩:∃ c0 c1,cs=#[c0,c1]:=by
  obtain ⟨l⟩:=cs
  match l,hsz with
  | [a,b],_=>exact ⟨a,b,rfl⟩
 have h0:DataW.trod enc Tryz.prog W 0 (fun _=>true) true k 3 (List.take (Tryz.prog.cellsOf 3) (List.drop 0 [c0,c1]))=xs[0]?:=hfs 0 _ rfl
 have h1:DataW.trod enc Tryz.prog W 0 (fun _=>true) true k 3 (List.take (Tryz.prog.cellsOf 3) (List.drop 1 [c0,c1]))=xs[1]?:=hfs 1 _ rfl
 rw [c3] at h0 h1
 match xs,hxl with
 | [x0,x1],_ =>
   obtain ⟨a,rfl,_⟩:=ints_of12 (c:=c0) h0 rfl;obtain ⟨b,rfl,_⟩:=ints_of12 (c:=c1) h1 rfl;exact ⟨a,b,rfl⟩
end
end Go.Proofs.YtdcggkapbkjjbaaGreatDoor
