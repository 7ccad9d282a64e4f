import Derived.Test.YtmkmndlpjenemaaGreatDoorF10x
import Derived.Test.YtmkmndlpjenemaaGreatDoorBW6x
import Derived.Test.YtmkmndlpjenemaaGreatDoorD24x
import Derived.Test.YtmkmndlpjenemaaGreatDoorM1x
import Derived.Test.YtmkmndlpjenemaaGreatDoorBIeeex
import Derived.Test.YtmkmndlpjenemaaGreatDoorW14x
import Derived.BigQuiet
import Derived.OwnWalk
import Derived.ArgAppend
import Derived.Maps.AppendAt
import Derived.WalkMore
import Derived.ProofKit
import Derived.OpenShut
import Derived.ChangeOld
import Derived.ChangeArms
import Derived.SizedLaws
import Derived.Laws.Cover2
import Derived.Deep.RegionHeld
import Derived.Shelf.SlSortCmp.NoneTotal
import Derived.Ground.SlsfProg
import Derived.Lib.RowBridge
import Derived.Lib.SortBridge
import Derived.WalkKit
import Derived.Deep.RegionHeld3
set_option linter.unusedVariables false
set_option linter.unusedSimpArgs false
set_option maxHeartbeats 16000000
set_option maxRecDepth 20000
namespace Go.Proofs.YtmkmndlpjenemaaGreatDoor
namespace J
end J
section
open Go.RowKit J
def sPl (x:Nat):Int:=sK (negW x) (magW x)
theorem wd_own (x:Nat) (hx:x<18446744073709551616):wd64 (negW x) (magW x)=x:=by
 unfold wd64 negW magW
 by_cases h:9223372036854775808≤x <;> simp [h] <;> omega
theorem eq13 {x y:Nat}(hx:x<18446744073709551616) (hy:y<18446744073709551616) (fx:finW x) (fy:finW y):(FloatKind.f64.format.order x y==some .eq)=decide (sPl x=sPl y):=by
 have h:=eq64 (negW x) (negW y) (magW x) (magW y) (Nat.le_of_lt fx) (Nat.le_of_lt fy);rw [wd_own x hx,wd_own y hy] at h;exact h
theorem fv_mono {x y:Nat}(h:sPl x≤sPl y):fvW x≤fvW y:=by
 unfold sPl sK at h;unfold fvW B.sg
 cases h1:negW x <;> cases h2:negW y <;> simp only [h1,h2,Bool.false_eq_true,if_false,if_true] at h ⊢
 · have:=vK_le (show magW x≤magW y by omega);omega
 · have e1:magW x=0:=by omega
   have e2:magW y=0:=by omega
   rw [e1,e2,grid64.zero];omega
 · have:=Int.natCast_nonneg (vK (magW x));have:=Int.natCast_nonneg (vK (magW y));omega
 · have:=vK_le (show magW y≤magW x by omega);omega
theorem fS_le (c:Int):∀ {xs:List Nat},(∀ x ∈ xs,fvW x≤c)→fS xs≤c*xs.length
 | [],_=>by simp [fS]
 | x::xs,h=>by
   have h1:=h x List.mem_cons_self;have h2:=fS_le c (xs:=xs) fun z hz=>h z (List.mem_cons_of_mem _ hz)
   rw [fS_cons,List.length_cons,Int.natCast_add,Int.mul_add];omega
theorem fS_ge (c:Int):∀ {xs:List Nat},(∀ x ∈ xs,c≤fvW x)→c*xs.length≤fS xs
 | [],_=>by simp [fS]
 | x::xs,h=>by
   have h1:=h x List.mem_cons_self;have h2:=fS_ge c (xs:=xs) fun z hz=>h z (List.mem_cons_of_mem _ hz)
   rw [fS_cons,List.length_cons,Int.natCast_add,Int.mul_add];omega
theorem rK_at (mode:Int) (n:Bool) (L:Nat):rK mode n L true 0=L:=by unfold rK;rw [if_pos rfl]
theorem vK_pos {L:Nat}(h:0<L):0<vK L:=by have:=grid64.mono h;omega
theorem mean_between {xs:List Nat}(hW:W64 xs) (hf:∀ x ∈ xs,finW x) (hne:xs≠[]) (hl:xs.length≤65536) (s:Sp) (mode:Int) (hm0:0≤mode) (hm4:mode≤4) (lo hi:Nat) (flo:finW lo) (fhi:finW hi) (h1:∀ x ∈ xs,sPl lo≤sPl x) (h2:∀ x ∈ xs,sPl x≤sPl hi) :
 ∃ X,levR xs s mode=(X,0)∧X<18446744073709551616∧finW X∧sPl lo≤sPl X∧sPl X≤sPl hi:=by
 obtain ⟨j,hj⟩:∃ k:Nat,k=1074:=⟨_,rfl⟩;have hp:0<xs.length:=List.length_pos_iff.2 hne;have bl:=fS_ge (fvW lo) (xs:=xs) fun x hx=>fv_mono (h1 x hx)
 have bh:=fS_le (fvW hi) (xs:=xs) fun x hx=>fv_mono (h2 x hx)
 have cn:∀ L:Nat,((vK L*xs.length:Nat):Int)=(vK L:Int)*xs.length:=fun L=>Int.natCast_mul _ _
 have pn:∀ L:Nat,0≤(vK L:Int)*xs.length:=fun L=>by rw [←cn];exact Int.natCast_nonneg _
 have pp:∀ L:Nat,0<L→0<(vK L:Int)*xs.length:=fun L h=>by rw [←cn];exact Int.natCast_pos.2 (Nat.mul_pos (vK_pos h) hp)
 unfold fvW B.sg at bl bh
 by_cases h0:fS xs=0
 · have hV:vS xs=0:=by rw [vS_fS j hj hW hf,h0,Int.zero_mul]
   have e:levR xs s mode=(nt (snd s.n s.u s.d s.m s.p s.a) s.n s.u s.d s.m s.p s.a mode,0):=by unfold levR;rw [if_neg hne,if_pos hV]
   have z:∀ q,sPl q=0→sPl lo≤sPl q∧sPl q≤sPl hi:=by
    intro q hq;rw [hq];rw [h0] at bl bh;unfold sPl sK
    constructor
    · cases hn:negW lo
      · simp only [hn,Bool.false_eq_true,if_false] at bl ⊢
        rcases Nat.eq_zero_or_pos (magW lo) with q|q
        · omega
        · have:=pp _ q;omega
      · simp only [if_true];omega
    · cases hn:negW hi
      · simp only [Bool.false_eq_true,if_false];omega
      · simp only [hn,if_true,Int.neg_mul] at bh ⊢
        rcases Nat.eq_zero_or_pos (magW hi) with q|q
        · omega
        · have:=pp _ q;omega
   rcases nt_nought (snd s.n s.u s.d s.m s.p s.a) s.n s.u s.d s.m s.p s.a mode with q|q
   · exact ⟨0,by rw [e,q],by decide,by decide,z 0 (by decide)⟩
   · exact ⟨9223372036854775808,by rw [e,q],by decide,by decide,z _ (by decide)⟩
 · obtain ⟨K,t,m,hL,hR⟩:=mean_lies hW hf hne hl h0
   have ht:=mean_top mode (decide (fS xs<0)) hL 9218868437227405311 (by decide) (fun x hx=>by have:magW x<9218868437227405312:=hf x hx;omega)
   have up:∀ L:Nat,L<9218868437227405312→(fS xs).natAbs≤vK L*xs.length→rK mode (decide (fS xs<0)) K t m≤L:=fun L hL2 h=>by
    have:=rK_mono mode (decide (fS xs<0)) hL (lies_own L xs.length hL2 hL.pos) h;rwa [rK_at] at this
   have dn:∀ L:Nat,L<9218868437227405312→vK L*xs.length≤(fS xs).natAbs→L≤rK mode (decide (fS xs<0)) K t m:=fun L hL2 h=>by
    have:=rK_mono mode (decide (fS xs<0)) (lies_own L xs.length hL2 hL.pos) hL h;rwa [rK_at] at this
   rw [hR mode hm0 hm4 s];obtain ⟨r,hr⟩:∃ r,rK mode (decide (fS xs<0)) K t m=r:=⟨_,rfl⟩;rw [hr] at ht up dn ⊢;have eb:(if fS xs<0 then 9223372036854775808 else 0)=(if decide (fS xs<0) then 9223372036854775808 else 0):=by by_cases q:fS xs<0 <;> simp [q]
   rw [eb];obtain ⟨v1,v2,v3⟩:=fv_sum (r:=r) (b:=decide (fS xs<0)) (by omega)
   refine ⟨_,rfl,by split <;> omega,by show magW _<_;rw [v2];omega,?_⟩
   have es:sPl (r+(if decide (fS xs<0) then 9223372036854775808 else 0))=sK (decide (fS xs<0)) r:=by unfold sPl;rw [v2,v3]
   rw [es];unfold sPl sK;have ul:=dn (magW lo) flo;have ul2:=up (magW lo) flo;have uh:=up (magW hi) fhi;have uh2:=dn (magW hi) fhi;have c1:=cn (magW lo);have c2:=cn (magW hi);have q1:=pn (magW lo);have q2:=pn (magW hi)
   by_cases q:fS xs<0
   · rw [decide_eq_true q]
     simp only [if_true]
     constructor
     · cases hn:negW lo
       · simp only [hn,Bool.false_eq_true,if_false] at bl;omega
       · simp only [hn,if_true,Int.neg_mul] at bl ⊢
         have:=ul2 (by omega);omega
     · cases hn:negW hi
       · simp only [Bool.false_eq_true,if_false];omega
       · simp only [hn,if_true,Int.neg_mul] at bh ⊢
         have:=uh2 (by omega);omega
   · rw [decide_eq_false q]
     simp only [Bool.false_eq_true,if_false]
     constructor
     · cases hn:negW lo
       · simp only [hn,Bool.false_eq_true,if_false] at bl ⊢
         have:=ul (by omega);omega
       · simp only [if_true];omega
     · cases hn:negW hi
       · simp only [hn,Bool.false_eq_true,if_false] at bh ⊢
         have:=uh (by omega);omega
       · simp only [hn,if_true,Int.neg_mul] at bh;omega
theorem fS_rep (x:Nat):∀ k:Nat,fS (List.replicate k x)=fvW x*k
 | 0=>by simp [fS]
 | k+1=>by
   rw [List.replicate_succ,fS_cons,fS_rep x k,Int.natCast_add,Int.mul_add];omega
end
section
open Go.RowKit J
def kW (x:Nat):Int:=if negW x then -1-(magW x:Int) else magW x
theorem kW_inj {x y:Nat}(hx:x<18446744073709551616) (hy:y<18446744073709551616) (h:kW x=kW y):x=y:=by
 unfold kW negW magW at h
 by_cases a:9223372036854775808≤x <;> by_cases b:9223372036854775808≤y <;> simp only [a,b,decide_true,decide_false,if_true,Bool.false_eq_true,if_false] at h <;> omega
def leK (x y:Nat):Bool:=decide (kW x≤kW y)
def srt (xs:List Nat):List Nat:=xs.mergeSort leK
theorem srt_perm (xs:List Nat):(srt xs).Perm xs:=List.mergeSort_perm xs leK
theorem srt_len (xs:List Nat):(srt xs).length=xs.length:=(srt_perm xs).length_eq
def trm (xs:List Nat) (k:Nat):List Nat:=((srt xs).drop k).take (xs.length-2*k)
theorem trm_len (xs:List Nat) (k:Nat):(trm xs k).length=xs.length-2*k:=by
 unfold trm;rw [List.length_take,List.length_drop,srt_len];omega
theorem trm_mem {xs:List Nat}{k:Nat}{x:Nat}(h:x ∈ trm xs k):x ∈ xs:=(srt_perm xs).mem_iff.1 (List.mem_of_mem_drop (List.mem_of_mem_take h))
theorem trm_get {xs:List Nat}{k i:Nat}(hi:i<(trm xs k).length):(trm xs k).getD i 0=(srt xs).getD (k+i) 0:=by
 rw [trm_len] at hi;unfold trm;rw [List.getD_eq_getElem?_getD,List.getD_eq_getElem?_getD,List.getElem?_take,if_pos hi,List.getElem?_drop]
theorem ky_kW {x:Nat}(hx:x<18446744073709551616) (fx:finW x):∃ s e f,e<2048∧f<4503599627370496∧x=B.bw s e f∧B.ky s e f=kW x:=by
 have hm:magW x<9218868437227405312:=fx;refine ⟨negW x,magW x/4503599627370496,magW x%4503599627370496,by omega,by omega,?_,?_⟩
 · unfold B.bw negW magW at *
   by_cases h:9223372036854775808≤x
   · rw [decide_eq_true h];simp only [Bool.toNat_true];omega
   · rw [decide_eq_false h];simp only [Bool.toNat_false];omega
 · unfold B.ky kW
   rw [if_neg (by omega)]
   have e:((magW x/4503599627370496:Nat):Int)*4503599627370496+(magW x%4503599627370496:Nat)=(magW x:Int):=by omega
   rw [e]
theorem order13s {x y:Nat}(hx:x<18446744073709551616) (hy:y<18446744073709551616) (fx:finW x) (fy:finW y) (w:World) :
 Calls Tryz.prog 81 #[.float .f64 x,.float .f64 y] w fun r w'=>r=.returned (.int .i64 (B.oc (kW x) (kW y)))∧w'=w:=by
 obtain ⟨s,e,f,h1,h2,h3,h4⟩:=ky_kW hx fx;obtain ⟨t,u,v,i1,i2,i3,i4⟩:=ky_kW hy fy;have h:=B.order_any s t e f u v h1 h2 i1 i2 w;rw [h4,i4,←h3,←i3] at h;exact h
end
section
open Go.RowKit J
attribute [local go_sem] st_float
def Fw10 (n:Nat):Value:=.float .f64 n
theorem Tryz.und_floats:Tryz.prog.underlying 24=some (.slice 22):=by kernel_rfl
theorem Tryz.info_f64:(Tryz.prog.info? 22).map (fun i=>(i.zero,i.size,i.bytes))=some (some (.float .f64 0),1,8):=by kernel_rfl
end
section
open Go.RowKit J
attribute [local go_sem] st_float
theorem wpList_append10 {w:World}{ops:Array Oper}{rest:List Oper}{o:Oper}{a:Act}{Q:Exit→Act→World→Prop}(hgd:o.guard=none) (s x:Operand) (t:TypeId)
 (ho:o.op=.call { callee:=.builtin .append,args:=#[s,x],argTypes:=#[t,t] }) (v u:Value) (hs:a.eval s=v) (hx:a.eval x=u) (v':Value) (w':World)
 (hrun:(Builtin.append_ #[t,t] o.type #[v,u]).run Tryz.prog w=.ok v' w') (h:wpList Tryz.prog ops Q rest (a.put o.dst v') w'):wpList Tryz.prog ops Q (o::rest) a w:=by
 refine wpList_plain hgd fun K hK=>?_
 unfold Oper.wp;simp [execOp,ho,resolve,invoke,builtin,hs,hx,hrun,Result.andThen];exact hK _ _ h
theorem append10 (lo:Nat) (v:Value) (K:List Nat) (x:Nat) (w:World) (hb:w.ownsRow lo 22 1 v K.length (K.map Fw10)) (hlo:lo≤w.heap.size) (hk:K.length≤1000000) :
 ∃ v' w',(Builtin.append_ #[24,24] 24 #[v,.slice (some ⟨w.heap.size,0,none⟩) 1 1]).run Tryz.prog (w.alloc (.cells #[.float .f64 x] 22))=.ok v' w'∧w'.ownsRow lo 22 1 v' (K++[x]).length ((K++[x]).map Fw10)∧Below lo w w'∧w.heap.size≤w'.heap.size:=by
 obtain ⟨i0,hi,hz0,hz1,hz2⟩:=info_parts Tryz.info_f64;obtain ⟨W,hW⟩:∃ W,W=w.alloc (.cells #[.float .f64 x] 22):=⟨_,rfl⟩;have hcx:W.cell? ⟨w.heap.size,0,none⟩=some (.float .f64 x):=by subst hW;unfold World.cell?;simp only [heap_alloc_new];rfl
 have hWb:W.ownsRow lo 22 1 v K.length (K.map Fw10):=by subst hW;exact World.ownsRow.alloc hb _
 have hWs:w.heap.size≤W.heap.size:=by subst hW;simp
 obtain ⟨v',w',r1,r2,r3,_,r5⟩:=run_append_own_at (P:=Tryz.prog) W lo 24 24 22 i0 (.float .f64 0) 1 8 Tryz.und_floats hi hz0 hz1 hz2 rfl (by decide) v K.length (K.map Fw10) hWb ⟨w.heap.size,0,none⟩ 1 1 [.float .f64 x] rfl (by
  intro j u hj
  match j,hj with
  | 0,hj=>simp at hj;subst hj;simpa [Addr.add] using hcx) (by intro u hu;simp at hu;subst hu;rfl) (by unfold maxLen;omega) (by omega) (by omega)
 rw [←hW];refine ⟨v',w',r1,?_,?_,?_⟩
 · rw [List.length_append,List.map_append];exact r2
 · have hlw:Below lo w W:=by subst hW;exact (Below.refl _ _).alloc hlo _
   refine ⟨r3.os.trans hlw.os,r3.tape.trans hlw.tape,r3.output.trans hlw.output,Nat.le_trans hlw.size r3.size,fun k hkl=>?_⟩
   rw [r3.block k (by omega) (fun e=>by
    rcases hWb.2 with ⟨e2,_⟩|⟨g,cap,cur,e2,hlo2,_⟩
    · rw [e2] at e;simp [Value.ownBlock] at e
    · rw [e2] at e;simp [Value.ownBlock] at e;omega)]
   exact hlw.block k hkl
 · exact Nat.le_trans hWs r3.size
theorem own_fs10 {w:World}{lo n:Nat}{v:Value}{xs:List Nat}(h:w.ownsRow lo 22 1 v n (xs.map Fw10)) (hn:n=xs.length):∃ a c,v=.slice a n c∧n≤c∧Fs w.heap.size w a xs:=by
 have h':=h
 rcases h.2 with ⟨rfl,hn0⟩|⟨g,cap,cur,rfl,hlo,hg,hn1,hm,hs,ht⟩
 · have e:xs=[]:=List.eq_nil_of_length_eq_zero (by rw [←hn];simpa using hn0)
   subst e;have:n=0:=by simpa using hn
   subst this;exact ⟨none,0,rfl,Nat.le_refl _,Fs.nil _ _ _⟩
 · refine ⟨some ⟨g,0,none⟩,cap,rfl,hn1,fun _=>⟨g,0,(Array.getElem?_eq_some_iff.1 hg).1,rfl,fun i hi=>?_⟩⟩
   have:=World.ownsRow.cellAt h' i (by omega)
   rw [Nat.zero_add,this,List.getElem?_map,List.getElem?_eq_getElem hi,List.getD_eq_getElem?_getD,List.getElem?_eq_getElem hi]
   rfl
end
section
open Go.ChangeShapes Go.WideShapes Go.ChangeAt Go.RowKit
theorem trodF {H:Type}{enc:TypeId×Value→H}{P:Program}{w:World}{base:Nat}{spare:Nat→Bool}{held:Bool}{fuel:Nat}{t:TypeId}{cs:List Value}{x:DataW H×List MemPlace}{k:FloatKind}(ht:P.underlying t=some (.float k)) (h:DataW.trod enc P w base spare held fuel t cs=some x):∃ n,cs=[.float k n]∧x=(.lit (.float k n),[])∧(Lit.float k n).wf=true:=by
 cases fuel with
 | zero=>simp [DataW.trod] at h
 | succ m =>
   simp only [DataW.trod,ht] at h
   split at h <;> simp_all
structure CameF (w:World) (a:Option Addr) (n c:Nat) (xs:List Nat):Prop where
 len:n=xs.length
 cap:n≤c
 wf:W64 xs
 rd:Fs w.heap.size w a xs
 nil:a=none→c=0
theorem add_noneF (b off i:Nat):(⟨b,off,none⟩:Addr).add i=⟨b,off+i,none⟩:=by unfold Addr.add;split <;> simp_all
def numF {H:Type} (y:DataW H×List MemPlace):Nat:=match y.1 with | .lit (.float _ n)=>n | _=>0
theorem Tryz.cellsF:Tryz.prog.cellsOf 22=1:=by kernel_rfl
theorem Tryz.bytesF:Tryz.prog.bytesOf 22=8:=by kernel_rfl
theorem cameF_of {H:Type}{enc:TypeId×Value→H}{W:World}{a:Option Addr}{n c:Nat}{d:DataW H}{p:List MemPlace}(h:DataW.Trod enc Tryz.prog W 0 (fun _=>true) true 24 (.slice a n c) d p) :
 ∃ xs,CameF W a n c xs∧((d=.nil∧c=0)∨∃ elems spare:List (DataW H),d=.slice elems spare∧elems.length+spare.length=c):=by
 obtain ⟨fuel,hf⟩:=h
 rcases DataW.trod_slice Tryz.underlying24 hf with ⟨hcs,hx⟩|⟨x,l,cp,elems,rest,m,_,hcs,hx,hb,hl,hm,hlen,hel,hsp,hns⟩
 · simp [Value.cells] at hcs
   obtain ⟨rfl,rfl,rfl⟩:=hcs;exact ⟨[],⟨rfl,Nat.le_refl _,(fun x hx=>by cases hx),(fun h=>absurd rfl h),fun _=>rfl⟩,.inl ⟨(Prod.mk.inj hx).1,rfl⟩⟩
 · simp [Value.cells] at hcs
   obtain ⟨rfl,rfl,rfl⟩:=hcs
   have each:∀ i y,i<n→elems[i]?=some y→y=(.lit (.float .f64 (numF y)),[])∧(Lit.float .f64 (numF y)).wf=true∧W.cell? (x.add i)=some (.float .f64 (numF y)):=by
    intro i y hi hy;have hb':=hel i hi;rw [hy,Tryz.cellsF,Nat.mul_one,Option.bind_eq_some_iff] at hb';obtain ⟨cs',hcs,hy'⟩:=hb';obtain ⟨k,rfl,rfl,hw⟩:=trodF Tryz.underlying22 hy';exact ⟨rfl,hw,cell_of_cells?_one hcs⟩
   refine ⟨elems.map numF,⟨by simp [hlen],hl,?_,?_,fun e=>by cases e⟩,.inr ⟨_,_,(Prod.mk.inj hx).1,?_⟩⟩
   · intro y hy
     obtain ⟨z,hz,rfl⟩:=List.mem_map.1 hy;obtain ⟨i,hi⟩:=List.getElem?_of_mem hz;have hil:=(List.getElem?_eq_some_iff.1 hi).1;have:=(each i z (by omega) hi).2.1
     exact of_decide_eq_true this
   · intro hne
     obtain ⟨b,off,spot⟩:=x
     have hn0:0<n:=by
      rcases Nat.eq_zero_or_pos n with h0|h0
      · rw [h0] at hlen;have:=List.eq_nil_of_length_eq_zero hlen;subst this;simp at hne
      · exact h0
     have hc0:=(each 0 (elems[0]'(by omega)) hn0 (List.getElem?_eq_getElem _)).2.2
     have hspot:spot=none:=by simpa [Addr.add] using World.cell?_spot hc0
     subst hspot;refine ⟨b,off,World.block_lt_of_cell? W _ (by simpa [Addr.add] using hc0),rfl,fun i hi=>?_⟩
     rw [List.length_map] at hi;have hadd:=add_noneF b off i;have:=(each i (elems[i]'hi) (by omega) (List.getElem?_eq_getElem _)).2.2
     rw [hadd] at this;rw [this];simp [List.getD_eq_getElem?_getD,hi]
   · have hr:=(hsp rfl).1
     simp only [List.length_map];omega
theorem cameF_reach {H:Type}{ts:List TypeId}{ds:List (DataW H)}(h:(DataW.weightsEach Tryz.prog ts ds).all (·≤reachBytes)=true) {j:Nat}{d:DataW H}{c n:Nat}(ht:ts[j]?=some 24) (hd:ds[j]?=some d) (hn:n≤c)
 (hc:(d=.nil∧c=0)∨∃ elems spare:List (DataW H),d=.slice elems spare∧elems.length+spare.length=c):n≤17592186043904:=by
 rcases hc with ⟨_,rfl⟩|⟨elems,spare,rfl,hl⟩
 · omega
 · have:=sized_slice h ht hd Tryz.underlying24
   rw [Tryz.bytesF,hl] at this;simp only [reachBytes] at this;omega
end
section
open Go.RowKit J
attribute [local go_sem] st_float
theorem clone10 (xs:List Nat) (a:Option Addr) (n c:Nat) (w:World) (hn:n=xs.length) (hF:Fs w.heap.size w a xs) (hm:n≤17592186043904) :
 Calls Tryz.prog 79 #[.slice a n c] w fun r w'=>(∃ v',r=.returned v'∧w'.ownsRow w.heap.size 22 1 v' n (xs.map Fw10))∧Below w.heap.size w w':=by
 obtain ⟨i0,hi,hz0,hz1,hz2⟩:=info_parts Tryz.info_f64;have q25:∀ (w:World) (a:Option Addr) (n c n' c':Nat),(binOp .eql 24 (.slice a n c) (.slice none n' c')).run Tryz.prog w=.ok (.bool a.isNone) w:=fun w a n c n' c'=>Lib.run_eql_slice_nil w _ _ a n c n' c' Tryz.und_floats
 cases a with
 | none =>
   have hx:xs=[]:=by
    by_cases h:xs=[]
    · exact h
    · obtain ⟨_,_,_,e,_⟩:=hF h;cases e
   subst hx;simp only [List.length_nil] at hn;subst hn;clear hF hm;go_enter Tryz.func79,Tryz.ntmps79;go_wp2;go_ret;exact ⟨⟨_,rfl,World.ownsRow_nil w w.heap.size 22 1⟩,Below.refl _ _⟩
 | some ad =>
   have A:=qsd (ai hn (ai hF hm));clear hF hm hn;go_enter Tryz.func79,Tryz.ntmps79
   go_wp2_with (at_builtin;refine wpList_append_own _ rfl _ _ 24 rfl w.heap.size 22 i0 (.float .f64 0) 1 8 Tryz.und_floats hi hz0 hz1 hz2 rfl (by decide) _ _ _ rfl (World.ownsRow_made w #[] 0 (Nat.le_refl _) (Nat.zero_le _) (by simp)) ad n c (xs.map Fw10) rfl ?qc1 ?qc2 ?qc3 ?qc4 ?qc5 ?qc6 ?_)
   case qc1=>simp [A.out.1]
   case qc2 =>
    intro j u hj;have hj2:j<xs.length:=by have:=(List.getElem?_eq_some_iff.1 hj).1;simpa using this
    obtain ⟨b,off,e,hc⟩:=A.out.2.1.at (Below.refl _ _) j hj2
    cases e
    rw [Addr.add_lit];refine Lib.cell?_alloc_some _ ?_
    rw [hc,←hj,List.getElem?_map,List.getElem?_eq_getElem hj2,List.getD_eq_getElem?_getD,List.getElem?_eq_getElem hj2]
    rfl
   case qc3=>intro u hu;obtain ⟨x,_,rfl⟩:=List.mem_map.1 hu;rfl
   case qc4=>have:=A.out.1;have:=A.out.2.2;unfold maxLen;omega
   case qc5=>have:=A.out.1;have:=A.out.2.2;omega
   case qc6=>simp
   intro v' w1 hown hgrow hnil;go_wp2;go_ret;refine ⟨⟨v',rfl,?_⟩,?_⟩
   · simpa using hown
   · exact ((Below.refl _ w).alloc (Nat.le_refl _) _).grown hgrow (by simp) (by intro k hk;simp [Value.ownBlock] at hk;omega)
def SortsF:Prop:=∀ (xs:List Nat) (g c:Nat) (w:World),xs≠[]→W64 xs→(∀ x ∈ xs,finW x)→xs.length≤65536→g<w.heap.size→(∀ j,j<xs.length→w.cell? ⟨g,0+j,none⟩=some (.float .f64 (xs.getD j 0)))→(∀ j,j<xs.length→w.frozen? ⟨g,0+j,none⟩=false) →
 Calls Tryz.prog 80 #[.slice (some ⟨g,0,none⟩) xs.length c,.func (.func 81) #[] #[]] w fun r w'=>r=.returned (.tuple #[])∧(g<w'.heap.size∧∀ j,j<xs.length→w'.cell? ⟨g,0+j,none⟩=some (.float .f64 ((srt xs).getD j 0)))∧∀ B,B≤g→B≤w.heap.size→Below B w w'
theorem inner13 (HS:SortsF) (xs:List Nat) (a:Option Addr) (n c:Nat) (k:Int) (w:World) (hn:n=xs.length) (hF:Fs w.heap.size w a xs) (hW:W64 xs) (hf:∀ x ∈ xs,finW x) (hl:n≤65536) (hk:0≤k) (hk2:k≤9223372036854775807) :
 Calls Tryz.prog 40 #[.slice a n c,.int .i64 k] w fun r w'=>(∃ ao co,r=.returned (.slice ao (trm xs k.toNat).length co)∧Fs w'.heap.size w' ao (trm xs k.toNat)∧∀ b o p,ao=some ⟨b,o,p⟩→w.heap.size≤b)∧Below w.heap.size w w':=by
 have hw:IntKind.i64.wrap ((n:Int)-k)=n-k:=by rw [IntKind.wrap_i64];omega
 by_cases hs:(n:Int)-k≤k
 · have hd:decide ((n:Int)-k≤k)=true:=by simp [hs]
   have e:trm xs k.toNat=[]:=List.eq_nil_of_length_eq_zero (by rw [trm_len];omega)
   rw [e];clear hF hW hf e;go_enter Tryz.func40,Tryz.ntmps40;go_wp2;go_ret;exact ⟨⟨none,0,rfl,fun h=>absurd rfl h,fun _ _ _ h=>by cases h⟩,Below.refl _ _⟩
 · have hd:decide ((n:Int)-k≤k)=false:=by simp;omega
   have HC:=hid (clone10 xs a n c w hn hF (by omega))
   have HX:=(qsd (ai hn (ai hW (ai hf hl))));clear hF hW hf hn hl;go_enter Tryz.func40,Tryz.ntmps40
   go_wp2_with fail
   refine HC.out.mono ?_;rintro r u ⟨⟨v',rfl,hO⟩,hb⟩;clear HC
   rcases hO.2 with ⟨rfl,hn0⟩|⟨g,cap,cur,rfl,hlo,hg,hn1,hm,hsz,ht⟩
   · exfalso;omega
   · have hgs:g<u.heap.size:=(Array.getElem?_eq_some_iff.1 hg).1
     have hcl:∀ j,j<xs.length→u.cell? ⟨g,0+j,none⟩=some (.float .f64 (xs.getD j 0))∧u.frozen? ⟨g,0+j,none⟩=false:=by
      intro j hj
      have hu:cur.toList[j]?=some (.float .f64 (xs.getD j 0)):=by
       have h1:(cur.toList.take (n*1))[j]?=((xs.map Fw10))[j]?:=by rw [ht]
       rw [List.getElem?_take,if_pos (by have:=HX.out.1;omega),List.getElem?_map,List.getElem?_eq_getElem hj] at h1
       rw [h1,List.getD_eq_getElem?_getD,List.getElem?_eq_getElem hj]
       rfl
      have hu2:cur[j]?=some (.float .f64 (xs.getD j 0)):=by rw [←hu];simp
      refine ⟨?_,?_⟩
      · unfold World.cell?
        simp only [hg,Nat.zero_add];exact hu2
      · unfold World.frozen?
        simp only [hg,Nat.zero_add];simp
     have C:=hid (HS xs g cap u (by have:=HX.out.1;intro h;rw [h] at this;simp at this;omega) HX.out.2.1 HX.out.2.2.1 (by have:=HX.out;omega) hgs (fun j hj=>(hcl j hj).1) (fun j hj=>(hcl j hj).2))
     rw [←HX.out.1] at C;have HB:=qsd (ai hb hlo);have hcap:n≤cap:=hn1;clear hcl hO hb hlo hg hn1 hm hsz ht
     go_wp2_with fail
     refine C.out.mono ?_;rintro r u2 ⟨rfl,⟨hg2,hc2⟩,hb2⟩;have HB2:=qsd (HB.out.1.trans (hb2 w.heap.size HB.out.2 HB.out.1.size));have HC2:=(qsd (ai hg2 hc2));clear hg2 hc2 hb2 C;obtain ⟨m,rfl⟩:∃ m:Nat,k=(m:Int):=⟨k.toNat,by omega⟩
     go_wp2;go_ret;have hlen:(trm xs (m:Int).toNat).length=n-m-m:=by have:=HX.out.1;rw [trm_len,Int.toNat_natCast];omega
     refine ⟨⟨some ⟨g,m,none⟩,cap-m,by rw [hlen];rfl,fun _=>⟨g,m,HC2.out.1,rfl,fun i hi=>?_⟩,fun b o p h=>by cases h;exact HB.out.2⟩,HB2.out⟩
     rw [trm_get hi,Int.toNat_natCast];rw [hlen] at hi;have:=HC2.out.2 (m+i) (by have:=HX.out.1;omega)
     rw [Nat.zero_add] at this;exact this
end
section
open Go.RowKit J
attribute [local go_sem] st_float
theorem sS_smallT {xs:List Nat}(hW:W64 xs) (hl:xs.length≤65536):(0≤(sS xs).n∧(sS xs).n≤65536)∧(0≤(sS xs).u∧(sS xs).u≤65536)∧(0≤(sS xs).d∧(sS xs).d≤65536)∧(sS xs).a=xs.length∧(sS xs).a-(sS xs).n-(sS xs).u-(sS xs).d=(Ps.fin xs).length:=by
 rw [sS_cn hW];have h:=fun k=>List.countP_le_length (p:=fun x=>kd x==k) (l:=xs)
 have h5:=h 5;have h3:=h 3;have h4:=h 4;have hf:=fin_count (xs:=xs);unfold Ps.cn at *;refine ⟨⟨?_,?_⟩,⟨?_,?_⟩,⟨?_,?_⟩,rfl,?_⟩ <;> (simp only;omega)
theorem plE_finT {xs:List Nat}(hW:W64 xs) (hl:xs.length≤65536):(plE xs=0↔∀ x ∈ xs,finW x)∧(plE xs=0∨plE xs=30):=by
 obtain ⟨b1,b2,b3,b4,b5⟩:=sS_smallT hW hl;unfold plE;rw [if_neg (by omega)]
 have key:(0<(sS xs).n∨0<(sS xs).u+(sS xs).d)↔¬ ∀ x ∈ xs,finW x:=by
  have hf:(Ps.fin xs).length=xs.length↔∀ x ∈ xs,finW x:=by
   constructor
   · intro h x hx
     have:Ps.fin xs=xs:=by
      have:=List.filter_sublist (p:=fun x=>decide (kd x≤2)) (l:=xs)
      exact this.eq_of_length h
     exact fin_all hW x (by rw [this];exact hx)
   · intro h;rw [fin_id hW h]
  rw [←hf];omega
 by_cases h:0<(sS xs).n∨0<(sS xs).u+(sS xs).d
 · rw [if_pos h]
   exact ⟨⟨fun q=>absurd q (by decide),fun q=>absurd q (key.1 h)⟩,.inr rfl⟩
 · rw [if_neg h]
   refine ⟨⟨fun _=>?_,fun _=>rfl⟩,.inl rfl⟩
   by_cases q:∀ x ∈ xs,finW x
   · exact q
   · exact absurd (key.2 q) h
noncomputable def trR (xs:List Nat) (k mode:Int):Nat×Int :=
 if askE mode=0 then (if k<0 then (0,1) else if plE xs=0 then (bsd (levR (trm xs k.toNat) (sS (trm xs k.toNat)) mode).2 (levR (trm xs k.toNat) (sS (trm xs k.toNat)) mode).1,(levR (trm xs k.toNat) (sS (trm xs k.toNat)) mode).2) else (0,plE xs)) else (0,askE mode)
theorem plE_len {xs:List Nat}(h:plE xs=0):xs.length≤65536:=by
 unfold plE at h
 by_cases q:65536<xs.length
 · rw [if_pos q] at h;exact absurd h (by decide)
 · omega
theorem Trimmed13 (HS:SortsF) (xs:List Nat) (a:Option Addr) (n c:Nat) (k mode:Int) (w:World) (hn:n=xs.length) (hF:Fs w.heap.size w a xs) (hW:W64 xs) (hl:n≤35184372088832) (hk:k≤9223372036854775807) (hT:Tab w) (z:Nat×Int) (hz:trR xs k mode=z) :
 Calls Tryz.prog 9 #[.slice a n c,.int .i64 k,.int .i64 mode] w fun r w'=>r=.returned (.tuple #[.float .f64 z.1,.int .i64 z.2])∧Below w.heap.size w w':=by
 obtain ⟨X,E⟩:=z;simp only;have hmf:∀ (fn:Fn) (first cap:Array Value) (w:World),(Instr.makeFunc fn first cap).run Tryz.prog w=.ok (.func fn first cap) w:=fun _ _ _ _=>rfl
 have HA:=hid (fun u:World=>asked13 mode u)
 unfold trR at hz;obtain ⟨ea,hea⟩:∃ e,askE mode=e:=⟨_,rfl⟩;rw [hea] at HA hz;obtain ⟨W,hWW⟩:∃ W,W=(w.alloc (Obj.cells #[.float .f64 0] 22)).alloc (Obj.cells #[.int .i64 0] 25):=⟨_,rfl⟩;obtain ⟨gx,hgx⟩:∃ g,g=w.heap.size:=⟨_,rfl⟩;obtain ⟨ge,hge⟩:∃ g,g=w.heap.size+1:=⟨_,rfl⟩;have HG:Aside (gx=w.heap.size∧ge=w.heap.size+1∧w.heap.size≤gx∧w.heap.size≤ge∧ge≠gx):=⟨hgx,hge,by omega,by omega,by omega⟩
 have B0:=two13 w;rw [←hWW,←hge] at B0;have B1:=qsd (seterr13 ea (show Bl W gx 22 [.float .f64 0] by rw [hgx];exact B0.1) B0.2.1 B0.2.2 HG.out.2.2.2.1 HG.out.2.2.2.2)
 have c1:=B0.2.1.cell 0 _ rfl;have f1:=B0.2.1.frozen 0;have HWW:=qsd hWW;have HX:=qsd (ai hn (ai hF (ai hW (ai hl (ai hk hT)))));clear hn hF hW hl hk hT hWW hea hgx hge B0;go_enter_defers Tryz.func9,Tryz.ntmps9
 go_wp2_with fail
 rw [←HWW.out]
 try rw [show w.heap.size+1=ge by have:=HG.out;omega]
 try rw [show w.heap.size=gx by have:=HG.out;omega]
 clear HWW;refine (HA.out _).mono ?_;rintro r v ⟨rfl,hv⟩;rw [hv];clear hv v
 by_cases h0:ea=0
 · subst h0
   rw [if_pos rfl] at hz;obtain ⟨V,hV⟩:∃ V,V=W.setCell ⟨ge,0,none⟩ (.int .i64 0):=⟨_,rfl⟩;rw [←hV] at B1;have r1:=B1.out.2.1.cell 0 _ rfl;have r2:=B1.out.2.1.frozen 0;have HV:=qsd hV;clear hV HA
   by_cases hk0:k<0
   · have hd:decide (k<0)=true:=by simp [hk0]
     rw [if_pos hk0] at hz;have HXE:=qsd (Prod.mk.inj hz);have B2:=qsd (seterr13 1 B1.out.1 B1.out.2.1 B1.out.2.2 HG.out.2.2.2.1 HG.out.2.2.2.2);clear hz
     go_upto_region 3 with fail
     rw [←HV.out];clear HV;go_wp2;refine early13 Tryz.results9 Trimmed1_d B2.out.1 B2.out.2.1 B2.out.2.2 HG.out.2.2.1 HG.out.2.2.2.2 ((bsd_zero _).trans HXE.out.1) HXE.out.2 (by simp [go_sem]) ?_ ?_ <;> rfl
   · have hd:decide (k<0)=false:=by simp;omega
     rw [if_neg hk0] at hz;have hTV:Tab V:=HX.out.2.2.2.2.2.belows B1.out.2.2;have HP:=hid (plain13 xs a n c V HX.out.1 ((HX.out.2.1.below B1.out.2.2).mono B1.out.2.2.size) HX.out.2.2.1 HX.out.2.2.2.1);obtain ⟨ep,hep⟩:∃ e,plE xs=e:=⟨_,rfl⟩;rw [hep] at HP hz;have HEP:=qsd hep;obtain ⟨⟨qn,qu,qd,qm,qp,qa⟩,hqs⟩:∃ s,sS xs=s:=⟨_,rfl⟩;rw [hqs] at HP;simp only [Sp.agg] at HP;have hk1:0≤k:=by omega
     clear hep hqs hTV hk0
     go_upto_region 3 with fail
     rw [←HV.out];clear HV
     go_wp2_with fail
     refine HP.out.mono ?_;rintro r v ⟨hr,hb⟩;have B3:Aside (Bl v gx 22 [.float .f64 0]∧Bl v ge 25 [.int .i64 0]∧Below w.heap.size w v):=⟨B1.out.1.below hb B1.out.1.lt,B1.out.2.1.below hb B1.out.2.1.lt,B1.out.2.2.trans (hb.mono B1.out.2.2.size)⟩;have q1:=B3.out.2.1.cell 0 _ rfl;have q2:=B3.out.2.1.frozen 0;clear hb HP B1 r1 r2 c1 f1
     rcases hr with ⟨he,rfl⟩|⟨he,rfl⟩
     · unfold agg0
       rw [if_neg he] at hz;have HXE:=qsd (Prod.mk.inj hz);have h1:(ep==0)=false:=by simp [he]
       have B4:=qsd (seterr13 ep B3.out.1 B3.out.2.1 B3.out.2.2 HG.out.2.2.2.1 HG.out.2.2.2.2);clear hz;go_wp2;refine early13 Tryz.results9 Trimmed1_d B4.out.1 B4.out.2.1 B4.out.2.2 HG.out.2.2.1 HG.out.2.2.2.2 ((bsd_zero _).trans HXE.out.1) HXE.out.2 (by simp [go_sem]) ?_ ?_ <;> rfl
     · subst he
       rw [if_pos rfl] at hz;have B4:=qsd (seterr13 0 B3.out.1 B3.out.2.1 B3.out.2.2 HG.out.2.2.2.1 HG.out.2.2.2.2);obtain ⟨V2,hV2⟩:∃ V,V=v.setCell ⟨ge,0,none⟩ (.int .i64 0):=⟨_,rfl⟩;rw [←hV2] at B4;have HV2:=qsd hV2;have hlen:=plE_len HEP.out;have HFin:=qsd ((plE_finT HX.out.2.2.1 hlen).1.1 HEP.out);have HI:=hid (inner13 HS xs a n c k V2 HX.out.1 ((HX.out.2.1.below B4.out.2.2).mono B4.out.2.2.size) HX.out.2.2.1 HFin.out (by have:=HX.out.1;omega) hk1 HX.out.2.2.2.2.1)
       obtain ⟨ys,hys⟩:∃ y,trm xs k.toNat=y:=⟨_,rfl⟩
       have HY:Aside (W64 ys∧plE ys=0∧ys.length≤65536):=by
        have hWy:W64 ys:=fun x hx=>HX.out.2.2.1 x (by rw [←hys] at hx;exact trm_mem hx)
        have hly:ys.length≤65536:=by rw [←hys,trm_len];omega
        exact ⟨hWy,(plE_finT hWy hly).1.2 (fun x hx=>HFin.out x (by rw [←hys] at hx;exact trm_mem hx)),hly⟩
       rw [hys] at HI hz;have r1:=B4.out.2.1.cell 0 _ rfl;clear hys hV2 hlen HEP B3
       go_upto_region 7 with fail
       rw [←HV2.out];clear HV2 q1 q2
       go_wp2_with fail
       refine HI.out.mono ?_;rintro r v ⟨⟨ao,co,rfl,hFy,hlo⟩,hb⟩;have B5:Aside (Bl v gx 22 [.float .f64 0]∧Bl v ge 25 [.int .i64 0]∧Below w.heap.size w v∧Fs v.heap.size v ao ys∧∀ b o p,ao=some ⟨b,o,p⟩→b≠ge):=⟨B4.out.1.below hb B4.out.1.lt,B4.out.2.1.below hb B4.out.2.1.lt,B4.out.2.2.trans (hb.mono B4.out.2.2.size),hFy,fun b o p h=>by have:=hlo b o p h;have:=B4.out.2.1.lt;omega⟩
       clear hb HI hFy hlo r1 B4;obtain ⟨ny,hny⟩:∃ m,m=ys.length:=⟨_,rfl⟩;have HP:=hid (plain13 ys ao ny co v hny B5.out.2.2.2.1 HY.out.1 (by have:=HY.out.2.2;omega))
       obtain ⟨⟨sn,su,sd,sm,sp,sa⟩,hs⟩:∃ s,sS ys=s:=⟨_,rfl⟩;rw [HY.out.2.1,hs] at HP;rw [hs] at hz;simp only [Sp.agg] at HP;rw [←hny];have HNY:=qsd hny;clear hny hs
       go_wp2_with fail
       refine HP.out.mono ?_;rintro r v5 ⟨hr,hb⟩
       obtain rfl:r=.returned (.tuple #[.agg #[.int .i64 sn,.int .i64 su,.int .i64 sd,.int .i64 sm,.int .i64 sp,.int .i64 sa],.int .i64 0]):=by
        rcases hr with ⟨he,_⟩|⟨_,hr⟩
        · exact absurd rfl he
        · exact hr
       have B6:Aside (Bl v5 gx 22 [.float .f64 0]∧Bl v5 ge 25 [.int .i64 0]∧Below w.heap.size w v5∧Fs v5.heap.size v5 ao ys∧∀ b o p,ao=some ⟨b,o,p⟩→b≠ge):=⟨B5.out.1.below hb B5.out.1.lt,B5.out.2.1.below hb B5.out.2.1.lt,B5.out.2.2.1.trans (hb.mono B5.out.2.2.1.size),(B5.out.2.2.2.1.below hb).mono hb.size,B5.out.2.2.2.2⟩;clear hb HP B5 hr;have q1:=B6.out.2.1.cell 0 _ rfl;have q2:=B6.out.2.1.frozen 0;have hlt:=B6.out.2.1.lt;obtain ⟨Z,hZ⟩:∃ U,U=(v5.setCell ⟨ge,0,none⟩ (.int .i64 0)).alloc (Obj.cells #[.int .i64 sn,.int .i64 su,.int .i64 sd,.int .i64 sm,.int .i64 sp,.int .i64 sa] 57):=⟨_,rfl⟩;have B7:=qsd (stored13 B6.out.1 B6.out.2.1 B6.out.2.2.1 HG.out.2.2.2.1 HG.out.2.2.2.2 HX.out.2.2.2.2.2 B6.out.2.2.2.1 B6.out.2.2.2.2 0 sn su sd sm sp sa Z hZ);obtain ⟨gs,hgs⟩:∃ g,v5.heap.size=g:=⟨_,rfl⟩;rw [hgs] at B7;have r1:=B7.out.2.1.cell 0 _ rfl;have s0:=B7.out.2.2.1.cell 0 _ rfl;have s1:=B7.out.2.2.1.cell 1 _ rfl;have s2:=B7.out.2.2.1.cell 2 _ rfl;have s3:=B7.out.2.2.1.cell 3 _ rfl;have s4:=B7.out.2.2.1.cell 4 _ rfl;have s5:=B7.out.2.2.1.cell 5 _ rfl;obtain ⟨⟨xl,el⟩,hll⟩:∃ z,levR ys ⟨sn,su,sd,sm,sp,sa⟩ mode=z:=⟨_,rfl⟩;rw [hll] at hz;have hz1:(bsd el xl,el)=(X,E):=hz;obtain ⟨hX,hE⟩:=Prod.mk.inj hz1;have HL:=hid (level13 ys ao ny co sn su sd sm sp sa mode Z HNY.out B7.out.2.2.2.2.2 HY.out.1 B7.out.2.2.2.2.1 (by have:=HY.out.2.2;have:=HNY.out;omega) (xl,el) hll)
       simp only at HL;have HXE:=qsd (ai hX hE);have HZ:=qsd hZ;have HGS:=qsd hgs;clear hZ hz hz1 hX hE hll hgs B6
       go_upto_region 10 with fail
       rw [←HZ.out,HGS.out];clear HZ HGS q1 q2 hlt
       go_wp2_with fail
       refine HL.out.mono ?_;rintro r v4 ⟨rfl,hb⟩
       have B8:Aside (Bl v4 gx 22 [.float .f64 0]∧Bl v4 ge 25 [.int .i64 0]∧Below w.heap.size w v4) :=
        ⟨B7.out.1.below hb B7.out.1.lt,B7.out.2.1.below hb B7.out.2.1.lt,B7.out.2.2.2.1.trans (hb.mono B7.out.2.2.2.1.size)⟩
       have t1:=B8.out.1.cell 0 _ rfl;have t2:=B8.out.1.frozen 0;have t3:=B8.out.2.1.cell 0 _ rfl;have t4:=B8.out.2.1.frozen 0;have hne1:ge≠gx:=HG.out.2.2.2.2;have hne2:gx≠ge:=fun h=>HG.out.2.2.2.2 h.symm
       clear hb B7 HL s0 s1 s2 s3 s4 s5;go_wp2;refine finish13 Tryz.results9 Trimmed1_d B8.out.1 B8.out.2.1 B8.out.2.2 HG.out.2.2.1 HG.out.2.2.2.1 HG.out.2.2.2.2 HXE.out.1 HXE.out.2 (fun _=>by simp [go_sem]) ?_ ?_ <;> rfl
 · rw [if_neg h0] at hz
   have HXE:=qsd (Prod.mk.inj hz);have h1:(ea==0)=false:=by simp [h0]
   clear hz HA;go_wp2;refine early13 Tryz.results9 Trimmed1_d B1.out.1 B1.out.2.1 B1.out.2.2 HG.out.2.2.1 HG.out.2.2.2.2 ((bsd_zero _).trans HXE.out.1) HXE.out.2 (by simp [go_sem]) ?_ ?_ <;> rfl
end
section
open Go.RowKit J
theorem rep_W64 {n x:Nat}(hx:x<18446744073709551616):W64 (List.replicate n x):=fun z hz=>by rw [List.eq_of_mem_replicate hz];exact hx
theorem rep_fin {n x:Nat}(fx:finW x):∀ z ∈ List.replicate n x,finW z:=fun z hz=>by rw [List.eq_of_mem_replicate hz];exact fx
end
section
open Go.RowKit J
attribute [local go_sem] st_float
theorem sub_odd_self {x:Nat}(hx:x<18446744073709551616) (h:¬ finW x):floatBits .sub .f64 x x=none:=by
 rcases Nat.lt_trichotomy 9218868437227405312 (magW x) with q|q|q
 · obtain ⟨s,t,hr⟩:=read_nanW x q
   show ((Ieee.double.read x).sum (Ieee.double.read x).opposite).map Ieee.double.write=none
   rw [hr];rfl
 · have hr:=read_infW x hx q.symm
   show ((Ieee.double.read x).sum (Ieee.double.read x).opposite).map Ieee.double.write=none
   rw [hr]
   cases negW x <;> rfl
 · exact absurd q h
theorem order_nan13 (z:Nat) (h:9218868437227405312<z%9223372036854775808):(FloatKind.f64.format.order z 0==some .eq)=false:=order_nanL z 0 h _
theorem finite13 (xs:List Nat) (a:Option Addr) (n c:Nat) (w:World) (hn:n=xs.length) (hF:Fs w.heap.size w a xs) (hW:W64 xs) (hl:n≤35184372088832) (t:Bool) (ht:t=true↔∀ x ∈ xs,finW x) :
 Calls Tryz.prog 11 #[.slice a n c] w fun r w'=>r=.returned (.bool t)∧Below w.heap.size w w':=by
 have HX:=(qsd (ai hn (ai hF (ai hW ht))));clear hn hF hW ht;go_enter Tryz.func11,Tryz.ntmps11;go_wp2
 go_loopg [3] n (fun gk i wr=>∃ k:Nat,gk+k=n∧i=.int .i64 (k:Nat)∧Aside (Below w.heap.size w wr∧∀ j,j<k→finW (xs.getD j 0)))
 case atStart=>exact ⟨0,by omega,by simp,Below.refl _ _,fun j hj=>absurd hj (by omega)⟩
 case round =>
  obtain ⟨k,hgk,rfl,HA⟩:=hrel
  by_cases hk:k<n
  · obtain ⟨b,off,rfl,hc⟩:=HX.out.2.1.at HA.out.1 k (by rw [←HX.out.1];exact hk)
    obtain ⟨x,hx⟩:∃ x,x=xs.getD k 0:=⟨_,rfl⟩;rw [←hx] at hc;have hx64:x<18446744073709551616:=by rw [hx];exact HX.out.2.2.1.get k
    have HXX:=qsd hx;clear hx;have hkb:k<4611686018427387904:=by omega
    have hd:decide ((k:Int)<n)=true:=by simp;omega
    have HB:=qsd (HA.out.1.trans ((Below.refl wr.heap.size wr).drew.mono HA.out.1.size))
    by_cases fx:finW x
    · have d:=fun W:World=>run_float_arith (P:=Tryz.prog) W .sub 22 .f64 x x 0 (sub_self_fin x hx64 fx)
      have h0:(FloatKind.f64.format.order 0 0==some .eq)=true:=by decide +kernel
      have h0':FloatKind.f64.format.order 0 0=some .eq:=by decide +kernel
      have Hf:=qsd fx;clear fx hx64
      go_upto_region 4 with fail
      go_region
      all_goals
       go_wp2
       go_roundg (gk-1)
       case measure=>omega
       case rel =>
        refine ⟨k+1,by omega,by first | rfl | simp,HB.out,fun j hj=>?_⟩
        by_cases e:j=k
        · subst e;rw [←HXX.out];exact Hf.out
        · exact HA.out.2 j (by omega)
    · obtain ⟨z,hz,d⟩:=run_float_none (P:=Tryz.prog) wr.drew .sub 22 x x (.inr (.inl rfl)) (sub_odd_self hx64 fx)
      have ho:=order_nan13 z hz.1;have ho2:(FloatKind.f64.format.order z 0 != some .eq)=true:=by simp only [bne,ho];rfl
      have ho':¬ FloatKind.f64.format.order z 0=some .eq:=by simpa using ho
      have HT:Aside (t=false):=by
       cases ht:t with
       | false=>rfl
       | true =>
         exfalso
         have:=HX.out.2.2.2.1 ht (xs.getD k 0) (by rw [List.getD_eq_getElem?_getD,List.getElem?_eq_getElem (show k<xs.length by rw [←HX.out.1];exact hk)];exact List.getElem_mem _)
         rw [←HXX.out] at this;exact fx this
      have HB2:=qsd (HB.out.trans ((Below.refl wr.drew.heap.size wr.drew).drew.mono HB.out.size));clear fx hx64 hz
      go_upto_region 4 with fail
      go_region
      all_goals
       go_wp2;go_ret;exact ⟨by rw [HT.out];rfl,HB2.out⟩
  · obtain rfl:n=k:=by omega
    have hd:decide ((n:Int)<n)=false:=by simp
    have HT:Aside (t=true):=by
     refine HX.out.2.2.2.2 fun x hx=>?_
     obtain ⟨j,hj,rfl⟩:=List.mem_iff_getElem.1 hx;have:=HA.out.2 j (by rw [HX.out.1];exact hj)
     rw [List.getD_eq_getElem?_getD,List.getElem?_eq_getElem hj] at this
     exact this
    go_wp2;go_ret;exact ⟨by rw [HT.out];rfl,HA.out.1⟩
end
section
open Go.RowKit J
theorem vI_cons13 (p:Nat×Int) (I:List (Nat×Int)):vI (p::I)=p.2+vI I:=by
 have:=vI_append [p] I;rw [List.singleton_append] at this;rw [this];unfold vI;simp
theorem wS_rep {w:Nat}(hw:w<18446744073709551616) (fw:finW w):∀ {xs:List Nat},W64 xs→(∀ x ∈ xs,finW x)→wS xs (List.replicate xs.length w)=fS xs*fvW w
 | [],_,_=>by simp [wS,pI13,vI,fS]
 | x::xs,hW,hf=>by
   have ih:=wS_rep hw fw (xs:=xs) (fun z hz=>hW z (List.mem_cons_of_mem _ hz)) (fun z hz=>hf z (List.mem_cons_of_mem _ hz))
   have h1:=(pT_mul (hW x List.mem_cons_self) hw (hf x List.mem_cons_self) fw).1;unfold wS pI13 at ih ⊢;rw [List.length_cons,List.replicate_succ,List.zipWith_cons_cons,vI_cons13,ih,fS_cons,Int.add_mul];simp only;rw [h1]
theorem bits_W {k i:Nat}(hk:k=4238) (hi:i=2098) {c:Nat}(hc:c<2^i) {n:Nat}(hn:n≤65536) (j:Nat) (hj:j=1074):c*n*2^j<2^k:=by
 have h0:(65536:Nat)=2^16:=by decide
 have h1:c*n≤c*2^16:=Nat.mul_le_mul_left _ (by omega)
 have h2:c*2^16<2^i*2^16:=Nat.mul_lt_mul_of_pos_right hc (Nat.two_pow_pos 16);rw [←Nat.pow_add] at h2;have h6:c*n*2^j<2^(i+16)*2^j:=Nat.mul_lt_mul_of_pos_right (Nat.lt_of_le_of_lt h1 h2) (Nat.two_pow_pos j);rw [←Nat.pow_add] at h6;exact Nat.lt_of_lt_of_le h6 (Nat.pow_le_pow_right (by decide) (by omega))
theorem q_zero {W mode:Int}(hW:0<W) (k:Nat) (hk:k≤90000) (hb:W.natAbs<2^k) (hm0:0≤mode) (hm4:mode≤4):qvR 0 W mode=(0,0):=by
 obtain ⟨Y,f,ho2,hY,hf0,hf1,hv2,hbl2,F2⟩:=ex_parts13 (V:=W) (by omega) k hk hb
 rw [decide_eq_false (by omega)] at ho2 F2
 have hm2:mkS false Y f=some (false,Y,f):=mkS_idem F2;have hm1:mkS false 0 0=some (false,0,0):=mkS_zero _ _;unfold qvR;rw [ex_zero,ho2]
 show quoR rndS ⟨false,.bool false,0,0,false,.bool false,Y,f⟩ mode=_
 unfold quoR;rw [if_neg (by omega),if_pos (by rw [errL_one];show errN 0 false 0 Y false f=0;unfold errN;rw [if_neg (by unfold sgn;simp;split <;> omega),hm1,hm2];simp [dX];omega),hm1,hm2]
 show rndS (quoZ false 0 0 Y f) mode=_
 rw [quoZ_nought false 0 Y f (by omega) hbl2]
 unfold rndS;rw [if_neg (by omega)]
 simp
theorem q_none {V mode:Int}(k:Nat) (hk:k≤90000) (hb:V.natAbs<2^k) (hm0:0≤mode) (hm4:mode≤4):qvR V 0 mode=(0,21):=by
 have hm2:mkS false 0 0=some (false,0,0):=mkS_zero _ _
 obtain ⟨n,X,e,ho,hm1⟩:∃ n X e,exV V=some (n,X,e)∧mkS n X e=some (n,X,e):=by
  by_cases h:V=0
  · subst h;exact ⟨false,0,0,ex_zero,mkS_zero _ _⟩
  · obtain ⟨X,e,ho,_,_,_,_,_,F⟩:=ex_parts13 h k hk hb
    exact ⟨_,X,e,ho,mkS_idem F⟩
 unfold qvR;rw [ex_zero,ho]
 show quoR rndS ⟨n,.bool false,X,e,false,.bool false,0,0⟩ mode=_
 unfold quoR
 have he:errL (oneI ⟨n,.bool false,X,e,false,.bool false,0,0⟩) 1=21:=by
  rw [errL_one];show errN X n e 0 false 0=21;unfold errN;rw [if_neg (by unfold sgn;simp),hm1,hm2];simp [dX]
 rw [if_neg (by omega),he,if_neg (by decide)]
theorem fv_zero_iff {w:Nat}:fvW w=0↔magW w=0:=by
 have h:=fv_abs w
 constructor
 · intro e
   rw [e] at h
   by_cases q:magW w=0
   · exact q
   · have:=vK_pos (Nat.pos_of_ne_zero q);simp at h;omega
 · intro e
   rw [e,grid64.zero] at h;omega
theorem vS_rep {w:Nat}(hw:w<18446744073709551616) (fw:finW w) (n:Nat) (j:Nat) (hj:j=1074):vS (List.replicate n w)=fvW w*n*((2^j:Nat):Int):=by
 rw [vS_fS j hj (rep_W64 hw) (rep_fin fw),fS_rep]
theorem vK_fin {K:Nat}(h:K<9218868437227405312) (i:Nat) (hi:i=2098):vK K<2^i:=by
 have h1:=vK_le (show K≤9218868437227405311 by omega)
 have h2:vK 9218868437227405311<2^i:=by subst hi;decide +kernel
 exact Nat.lt_of_le_of_lt h1 h2
theorem prE_rep {xs:List Nat}{w:Nat}(hW:W64 xs) (hf:∀ x ∈ xs,finW x) (hne:xs≠[]) (hl:xs.length≤65536) (hw:w<18446744073709551616):prE xs (List.replicate xs.length w)=if finW w then 0 else 30:=by
 have e0:=plE_of_fin hW hf hl;have hlr:(List.replicate xs.length w).length=xs.length:=List.length_replicate;unfold prE;rw [hlr,if_neg (by omega),if_neg (by simp),if_neg (by rw [e0];simp)]
 by_cases fw:finW w
 · rw [if_pos fw,plE_of_fin (rep_W64 hw) (rep_fin fw) (by rw [hlr];exact hl),if_neg (by simp),if_neg hne]
 · have hp:=plE_finT (rep_W64 (n:=xs.length) hw) (by rw [hlr];exact hl)
   have hn:¬ plE (List.replicate xs.length w)=0:=fun h=>fw ((hp.1.1 h) w (List.mem_replicate.2 ⟨by have:=List.length_pos_iff.2 hne;omega,rfl⟩))
   rw [if_neg fw,if_pos hn]
   rcases hp.2 with q|q
   · exact absurd q hn
   · exact q
theorem sgn_scaled {S c:Int}(hc:0<c):(S*c<0↔S<0):=by
 constructor
 · intro h
   rcases Int.lt_or_le S 0 with q|q
   · exact q
   · have:=Int.mul_nonneg q (Int.le_of_lt hc);omega
 · intro h;exact Int.mul_neg_of_neg_of_pos h hc
theorem sPl_nought {q:Nat}(h:q=0∨q=9223372036854775808):sPl q=0:=by rcases h with rfl | rfl <;> decide
theorem wt_same {xs:List Nat}{w:Nat}{mode:Int}(hW:W64 xs) (hf:∀ x ∈ xs,finW x) (hne:xs≠[]) (hl:xs.length≤65536) (hw:w<18446744073709551616) (fw:finW w) (h0:magW w≠0) (hm0:0≤mode) (hm4:mode≤4) (s:Sp) :
 ∃ Z,wtR xs (List.replicate xs.length w) mode=(Z,0)∧Z<18446744073709551616∧finW Z∧sPl Z=sPl (levR xs s mode).1:=by
 obtain ⟨j,hj⟩:∃ k:Nat,k=1074:=⟨_,rfl⟩;obtain ⟨i,hi⟩:∃ k:Nat,k=2098:=⟨_,rfl⟩;obtain ⟨k,hk⟩:∃ k:Nat,k=4238:=⟨_,rfl⟩;have hask:askE mode=0:=if_neg (by omega)
 have hp:0<xs.length:=List.length_pos_iff.2 hne;have hfw:fvW w≠0:=fun h=>h0 (fv_zero_iff.1 h)
 obtain ⟨c,hc⟩:∃ c:Nat,c=vK (magW w):=⟨_,rfl⟩;have hcp:0<c:=by rw [hc];exact vK_pos (Nat.pos_of_ne_zero h0)
 have hcb:c<2^i:=by rw [hc];exact vK_fin fw i hi
 have hWb:=bits_W hk hi hcb hl j hj;have hWp:0<c*xs.length*2^j:=Nat.mul_pos (Nat.mul_pos hcp hp) (Nat.two_pow_pos j)
 have hq:wqR (wS xs (List.replicate xs.length w)) (vS (List.replicate xs.length w)) mode=qvR (fS xs*(c:Int)) ((c*xs.length*2^j:Nat):Int) mode:=by
  rw [wS_rep hw fw hW hf,vS_rep hw fw _ j hj];have ec:((c*xs.length*2^j:Nat):Int)=(c:Int)*xs.length*((2^j:Nat):Int):=by rw [Int.natCast_mul,Int.natCast_mul]
  unfold wqR
  rcases Int.lt_or_le (fvW w) 0 with q|q
  · have e:fvW w=-(c:Int):=by have:=fv_abs w;omega
    rw [e,Int.neg_mul,Int.neg_mul,if_pos (by rw [←ec];omega),Int.neg_neg,Int.mul_neg,Int.neg_neg,ec]
  · have e:fvW w=(c:Int):=by have:=fv_abs w;omega
    rw [e,if_neg (by rw [←ec];omega),ec]
 have hr:wtR xs (List.replicate xs.length w) mode=(bsd (qvR (fS xs*(c:Int)) ((c*xs.length*2^j:Nat):Int) mode).2 (qvR (fS xs*(c:Int)) ((c*xs.length*2^j:Nat):Int) mode).1,(qvR (fS xs*(c:Int)) ((c*xs.length*2^j:Nat):Int) mode).2):=by
  unfold wtR;rw [if_pos hask,prE_rep hW hf hne hl hw,if_pos fw,if_pos rfl,hq]
 by_cases hS:fS xs=0
 · rw [hr,hS,Int.zero_mul,q_zero (by omega) k (by omega) (by rw [Int.natAbs_natCast];exact hWb) hm0 hm4]
   have hV:vS xs=0:=by rw [vS_fS j hj hW hf,hS,Int.zero_mul]
   have e:levR xs s mode=(nt (snd s.n s.u s.d s.m s.p s.a) s.n s.u s.d s.m s.p s.a mode,0):=by unfold levR;rw [if_neg hne,if_pos hV]
   refine ⟨0,rfl,by decide,by decide,?_⟩
   rw [e,sPl_nought (nt_nought _ _ _ _ _ _ _ _)]
   decide
 · obtain ⟨K,t,m,hL,hR⟩:=mean_lies hW hf hne hl hS
   have hVb:(fS xs*(c:Int)).natAbs<2^k:=by
    have h1:=fS_bd 9218868437227405311 (xs:=xs) (fun x hx=>by have:magW x<9218868437227405312:=hf x hx;omega)
    have h2:vK 9218868437227405311<2^i:=vK_fin (by decide) i hi
    rw [Int.natAbs_mul,Int.natAbs_natCast];have h0:xs.length≤2^16:=by omega
    have h3:(fS xs).natAbs≤2^16*2^i:=Nat.le_trans h1 (Nat.mul_le_mul h0 (Nat.le_of_lt h2));have h4:(fS xs).natAbs*c≤2^16*2^i*2^i:=Nat.mul_le_mul h3 (Nat.le_of_lt hcb);rw [←Nat.pow_add,←Nat.pow_add] at h4;exact Nat.lt_of_le_of_lt h4 (Nat.pow_lt_pow_right (by decide) (by omega))
   obtain ⟨K',t',m',hL',hR'⟩:=quot_lies (V:=fS xs*(c:Int)) (W:=((c*xs.length*2^j:Nat):Int)) (by intro h;rcases Int.mul_eq_zero.1 h with q|q;exact hS q;omega) (by omega) k (by omega) hVb (by rw [Int.natAbs_natCast];exact hWb)
   have hL2:Lies K' t' m' (fS xs).natAbs xs.length:=by
    refine (hL' j hj).ratio hp ?_;rw [Int.natAbs_natCast,Int.natAbs_mul,Int.natAbs_natCast,Nat.mul_assoc,Nat.mul_assoc,Nat.mul_assoc c,Nat.mul_comm (2^j)]
   have hkk:=rK_same (mode:=mode) (n:=decide (fS xs<0)) (hL2.same hL);have hsg:=sgn_scaled (S:=fS xs) (c:=(c:Int)) (by omega)
   have he:qvR (fS xs*(c:Int)) ((c*xs.length*2^j:Nat):Int) mode=levR xs s mode:=by
    rw [hR' mode hm0 hm4,hR mode hm0 hm4 s]
    by_cases q:fS xs<0
    · rw [if_pos q,if_pos (hsg.2 q),decide_eq_true q,decide_eq_true (hsg.2 q)]
      rw [decide_eq_true q] at hkk;rw [hkk]
    · rw [if_neg q,if_neg (fun h=>q (hsg.1 h)),decide_eq_false q,decide_eq_false (fun h=>q (hsg.1 h))]
      rw [decide_eq_false q] at hkk;rw [hkk]
   rw [hr,he,lev_bsd hask hW hl,lev_ok hask hW hl hne];have hmax:=mean_top mode (decide (fS xs<0)) hL 9218868437227405311 (by decide) (fun x hx=>by have:magW x<9218868437227405312:=hf x hx;omega)
   have hv:=hR mode hm0 hm4 s;have eb:(if fS xs<0 then 9223372036854775808 else 0)=(if decide (fS xs<0) then 9223372036854775808 else 0):=by by_cases q:fS xs<0 <;> simp [q]
   rw [eb] at hv;obtain ⟨v1,v2,v3⟩:=fv_sum (r:=rK mode (decide (fS xs<0)) K t m) (b:=decide (fS xs<0)) (by omega)
   refine ⟨_,rfl,?_,?_,rfl⟩
   · rw [hv];show _+_<_;split <;> omega
   · rw [hv];show magW _<_;rw [v2];omega
theorem wt_bad {xs:List Nat}{w:Nat}{mode:Int}(hW:W64 xs) (hf:∀ x ∈ xs,finW x) (hne:xs≠[]) (hl:xs.length≤65536) (hw:w<18446744073709551616) (hm0:0≤mode) (hm4:mode≤4) :
 (¬ finW w→wtR xs (List.replicate xs.length w) mode=(0,30))∧(magW w=0→wtR xs (List.replicate xs.length w) mode=(0,21)):=by
 have hask:askE mode=0:=if_neg (by omega)
 refine ⟨fun fw=>?_,fun h0=>?_⟩
 · unfold wtR
   rw [if_pos hask,prE_rep hW hf hne hl hw,if_neg fw,if_neg (by decide)]
 · have fw:finW w:=by show magW w<_;rw [h0];decide
   obtain ⟨j,hj⟩:∃ k:Nat,k=1074:=⟨_,rfl⟩;unfold wtR;rw [if_pos hask,prE_rep hW hf hne hl hw,if_pos fw,if_pos rfl,wS_rep hw fw hW hf,vS_rep hw fw _ j hj,fv_zero_iff.2 h0,Int.mul_zero,Int.zero_mul,Int.zero_mul];unfold wqR;rw [if_neg (by decide),q_none 1 (by decide) (by decide) hm0 hm4]
   rfl
theorem lev_perm {xs ys:List Nat}(h:xs.Perm ys) (mode:Int):levR xs (sS xs) mode=levR ys (sS ys) mode:=by
 unfold levR;rw [vS_perm h,sS_perm h,h.length_eq]
 by_cases q:ys=[]
 · subst q;rw [List.perm_nil.1 h]
 · rw [if_neg q,if_neg (fun e=>q (by subst e;exact List.nil_perm.1 h))]
theorem trm_zero (xs:List Nat):trm xs 0=srt xs:=by
 unfold trm;rw [List.drop_zero,Nat.mul_zero,Nat.sub_zero,List.take_of_length_le (by rw [srt_len];exact Nat.le_refl _)]
theorem tr_zero {xs:List Nat}{mode:Int}(hW:W64 xs) (hf:∀ x ∈ xs,finW x) (hne:xs≠[]) (hl:xs.length≤65536) (hm0:0≤mode) (hm4:mode≤4):trR xs 0 mode=levR xs (sS xs) mode:=by
 have hask:askE mode=0:=if_neg (by omega)
 unfold trR;rw [if_pos hask,if_neg (by decide),plE_of_fin hW hf hl,if_pos rfl,show (0:Int).toNat=0 from rfl,trm_zero,lev_perm (srt_perm xs),lev_bsd hask hW hl]
theorem of_same {xs:List Nat}{mode:Int}(hW:W64 xs) (hf:∀ x ∈ xs,finW x) (hne:xs≠[]) (hl:xs.length≤65536) (hm0:0≤mode) (hm4:mode≤4) :
 ∃ Z,ofR13 (dN (exV (vS xs))) (dX (exV (vS xs))) (dE (exV (vS xs))) (xs.length:Nat) mode=(Z,0)∧Z<18446744073709551616∧finW Z∧sPl Z=sPl (levR xs (sS xs) mode).1:=by
 have hask:askE mode=0:=if_neg (by omega)
 have hp:0<xs.length:=List.length_pos_iff.2 hne;have hq:qoR (dN (exV (vS xs))) (dX (exV (vS xs))) (dE (exV (vS xs))) xs.length mode=qnR (vS xs) xs.length mode:=rfl
 have h1:ofR13 (dN (exV (vS xs))) (dX (exV (vS xs))) (dE (exV (vS xs))) (xs.length:Nat) mode=(bsd (qnR (vS xs) xs.length mode).2 (qnR (vS xs) xs.length mode).1,(qnR (vS xs) xs.length mode).2):=by
  unfold ofR13;rw [if_pos hask,if_neg (by omega),Int.toNat_natCast,hq]
 by_cases hV:vS xs=0
 · obtain ⟨k,hk⟩:∃ k:Nat,k=2148:=⟨_,rfl⟩
   obtain ⟨i2,hi2,hb2⟩:=lenW_bd xs.length hl k hk;have hWp:0<(xs.length:Int)*((2^k:Nat):Int):=by rw [←Int.natCast_mul];have:=Nat.mul_pos hp (Nat.two_pow_pos k);omega
   have e:levR xs (sS xs) mode=(nt (snd (sS xs).n (sS xs).u (sS xs).d (sS xs).m (sS xs).p (sS xs).a) (sS xs).n (sS xs).u (sS xs).d (sS xs).m (sS xs).p (sS xs).a mode,0):=by unfold levR;rw [if_neg hne,if_pos hV]
   rw [h1,hV,qn_qv _ _ _ k hk,q_zero hWp i2 (by omega) hb2 hm0 hm4]
   refine ⟨0,rfl,by decide,by decide,?_⟩
   rw [e,sPl_nought (nt_nought _ _ _ _ _ _ _ _)]
   decide
 · obtain ⟨X,e1,e2,e3,_,_⟩:=mean_between hW hf hne hl (sS xs) mode hm0 hm4 18442240474082181119 9218868437227405311 (by decide) (by decide)
    (fun x hx=>by have:magW x<9218868437227405312:=hf x hx;have e:sPl 18442240474082181119=-9218868437227405311:=by decide
                  rw [e];unfold sPl sK;split <;> omega)
    (fun x hx=>by have:magW x<9218868437227405312:=hf x hx;have e:sPl 9218868437227405311=9218868437227405311:=by decide
                  rw [e];unfold sPl sK;split <;> omega)
   have e:levR xs (sS xs) mode=qnR (vS xs) xs.length mode:=by unfold levR;rw [if_neg hne,if_neg hV]
   rw [h1,←e,e1];exact ⟨X,rfl,e2,e3,rfl⟩
theorem mid_same {x y:Nat}{mode:Int}(hx:x<18446744073709551616) (hy:y<18446744073709551616) (fx:finW x) (fy:finW y) (hm0:0≤mode) (hm4:mode≤4):midR x y mode=meanR [x,y] mode 0 0∧(meanR [x,y] mode 0 0).2=0:=by
 have hask:askE mode=0:=if_neg (by omega)
 have hW:W64 [x,y]:=fun z hz=>by rcases List.mem_cons.1 hz with rfl | hz;exact hx;rw [List.mem_singleton.1 hz];exact hy
 have hf:∀ z ∈ [x,y],finW z:=fun z hz=>by rcases List.mem_cons.1 hz with rfl | hz;exact fx;rw [List.mem_singleton.1 hz];exact fy
 have hl:[x,y].length≤65536:=by simp
 rw [mean_fin hW hf hl hask (by decide)]
 refine ⟨?_,lev_ok hask hW hl (by simp)⟩
 unfold midR plnR;rw [if_pos hask,plE_of_fin hW hf hl,if_pos rfl,lev_bsd hask hW hl]
end
section
open Go.RowKit J Go.Shelf Go.Lib Go.Sort
def sortL_ren:Go.Shelf.Ren:=⟨fun | 6=>80 | 15=>113 | 14=>112 | 28=>107 | 29=>147 | 20=>139 | 21=>140 | 22=>141 | 23=>142 | 24=>143 | 25=>144 | 26=>145 | 27=>146 | 46=>155 | 47=>156 | 48=>157 | 49=>158 | 50=>159 | 57=>166 | n=>n,fun | 22=>24 | 24=>22 | 25=>117 | 3=>3 | 39=>127 | 0=>0 | 53=>76 | 55=>74 | 4=>4 | 46=>178 | 45=>177 | 50=>182 | 5=>5 | 9=>9 | 66=>192 | 70=>196 | 76=>202 | 77=>203 | n=>n,fun | n=>n⟩
theorem sortL:Go.Proofs.SlLaysF.n6 Tryz.prog sortL_ren:={ mixed:=(by kernel_rfl),f6:=⟨Tryz.f80.name,by decide,Tryz.func80.trans (congrArg some (by kernel_rfl))⟩,f14:=⟨Tryz.f112.name,by decide,Tryz.func112.trans (congrArg some (by kernel_rfl))⟩,f15:=Tryz.func113.trans (congrArg some (by kernel_rfl)),f20:=⟨Tryz.f139.name,by decide,Tryz.func139.trans (congrArg some (by kernel_rfl))⟩,f21:=⟨Tryz.f140.name,by decide,Tryz.func140.trans (congrArg some (by kernel_rfl))⟩,f22:=⟨Tryz.f141.name,by decide,Tryz.func141.trans (congrArg some (by kernel_rfl))⟩,f23:=⟨Tryz.f142.name,by decide,Tryz.func142.trans (congrArg some (by kernel_rfl))⟩,f24:=⟨Tryz.f143.name,by decide,Tryz.func143.trans (congrArg some (by kernel_rfl))⟩,f25:=⟨Tryz.f144.name,by decide,Tryz.func144.trans (congrArg some (by kernel_rfl))⟩,f26:=⟨Tryz.f145.name,by decide,Tryz.func145.trans (congrArg some (by kernel_rfl))⟩,f27:=⟨Tryz.f146.name,by decide,Tryz.func146.trans (congrArg some (by kernel_rfl))⟩,f28:=Tryz.func107.trans (congrArg some (by kernel_rfl)),f29:=Tryz.func147.trans (congrArg some (by kernel_rfl)),f46:=⟨Tryz.f155.name,by decide,Tryz.func155.trans (congrArg some (by kernel_rfl))⟩,f47:=Tryz.func156.trans (congrArg some (by kernel_rfl)),f48:=Tryz.func157.trans (congrArg some (by kernel_rfl)),f49:=⟨Tryz.f158.name,by decide,Tryz.func158.trans (congrArg some (by kernel_rfl))⟩,f50:=⟨Tryz.f159.name,by decide,Tryz.func159.trans (congrArg some (by kernel_rfl))⟩,f57:=⟨Tryz.f166.name,by decide,Tryz.func166.trans (congrArg some (by kernel_rfl))⟩,t0:=Tryz.underlying0,a0:=Tryz.isAgg0,z0:=Tryz.sizeOf0,v0:=Tryz.zeroValue0,t3:=Tryz.underlying3,a3:=Tryz.isAgg3,z3:=Tryz.sizeOf3,v3:=Tryz.zeroValue3,t4:=Tryz.underlying4,a4:=Tryz.isAgg4,z4:=Tryz.sizeOf4,v4:=Tryz.zeroValue4,t5:=Tryz.underlying5,a5:=Tryz.isAgg5,z5:=Tryz.sizeOf5,v5:=Tryz.zeroValue5,t9:=Tryz.underlying9,a9:=Tryz.isAgg9,z9:=Tryz.sizeOf9,v9:=Tryz.zeroValue9,t22:=Tryz.underlying24,a22:=Tryz.isAgg24,z22:=Tryz.sizeOf24,v22:=Tryz.zeroValue24,a24:=Tryz.isAgg22,z24:=Tryz.sizeOf22,t25:=Tryz.underlying117,a25:=Tryz.isAgg117,z25:=Tryz.sizeOf117,v25:=Tryz.zeroValue117,t39:=Tryz.underlying127,a39:=Tryz.isAgg127,z39:=Tryz.sizeOf127,v39:=Tryz.zeroValue127,t45:=Tryz.underlying177,a45:=Tryz.isAgg177,z45:=Tryz.sizeOf177,v45:=Tryz.zeroValue177,t46:=Tryz.underlying178,a46:=Tryz.isAgg178,z46:=Tryz.sizeOf178,v46:=Tryz.zeroValue178,t50:=Tryz.underlying182,a50:=Tryz.isAgg182,z50:=Tryz.sizeOf182,v50:=Tryz.zeroValue182,t53:=Tryz.underlying76,a53:=Tryz.isAgg76,z53:=Tryz.sizeOf76,v53:=Tryz.zeroValue76,t55:=Tryz.underlying74,a55:=Tryz.isAgg74,z55:=Tryz.sizeOf74,v55:=Tryz.zeroValue74,t66:=Tryz.underlying192,a66:=Tryz.isAgg192,z66:=Tryz.sizeOf192,v66:=Tryz.zeroValue192,t70:=Tryz.underlying196,a70:=Tryz.isAgg196,z70:=Tryz.sizeOf196,v70:=Tryz.zeroValue196,t76:=Tryz.underlying202,a76:=Tryz.isAgg202,z76:=Tryz.sizeOf202,v76:=Tryz.zeroValue202,t77:=Tryz.underlying203,a77:=Tryz.isAgg203,z77:=Tryz.sizeOf203,v77:=Tryz.zeroValue203 }
abbrev K64:={ x:Nat // x<18446744073709551616∧finW x }
instance : Inhabited K64 := ⟨⟨0, by decide, by decide⟩⟩
def encK (u:K64):Value:=.float .f64 u.1
def cfK (x y:K64):Int:=B.oc (kW x.1) (kW y.1)
theorem ltK (x y:K64):ltOf cfK x y=decide (kW x.1<kW y.1):=by
 unfold ltOf cfK B.oc
 by_cases h1:kW x.1<kW y.1
 · simp [h1]
 · by_cases h2:kW y.1<kW x.1 <;> simp [h1,h2]
theorem swoK:SWO (ltOf cfK) where
 irrefl x:=by rw [ltK];simp
 trans x y z h1 h2:=by rw [ltK] at *;simp at *;omega
 ntrans x y z h1 h2:=by rw [ltK] at *;simp at *;omega
theorem totK (x y:K64) (h1:ltOf cfK x y=false) (h2:ltOf cfK y x=false):x=y:=by
 rw [ltK] at *;simp at h1 h2;exact Subtype.ext (kW_inj x.2.1 y.2.1 (by omega))
theorem geK:(fun x y:K64=>!ltOf cfK y x)=fun x y=>leK x.1 y.1:=by
 funext x y
 rw [ltK];unfold leK
 by_cases h:kW x.1≤kW y.1
 · have h':¬ kW y.1<kW x.1:=by omega
   simp [h,h']
 · have h':kW y.1<kW x.1:=by omega
   simp [h,h']
theorem cmpK (blk off size:Nat) (w:World):CmpReads Tryz.prog 81 #[] encK cfK blk off size w:=fun _ _ _ _ x y=>(order13s x.2.1 y.2.1 x.2.2 y.2.2 _).mono fun e w' ⟨he,hw⟩=>⟨he,0,hw⟩
theorem sortsF:SortsF:=by
 intro xs g c w hne hW hf hl hg hc hz;obtain ⟨L,hL⟩:∃ L:List K64,L=xs.pmap (fun x h=>(⟨x,h⟩:K64)) (fun x hx=>⟨hW x hx,hf x hx⟩):=⟨_,rfl⟩
 have hv:L.map (·.1)=xs:=by rw [hL,List.map_pmap];simp
 have hlen:L.length=xs.length:=by rw [←hv];simp
 have hsz:L.toArray.size=xs.length:=by simpa using hlen
 have hH:Holds encK w g 0 L.toArray:=by
  intro j hj;rw [hsz] at hj;refine ⟨?_,hz j hj⟩;rw [hc j hj];have hjl:j<L.length:=by omega
  have e:L.toArray[j]! = L[j]:=by rw [getElem!_pos _ j (by rw [hsz];exact hj)];simp
  rw [e];unfold encK;have h9:(L.map (·.1))[j]?=xs[j]?:=by rw [hv]
  rw [List.getElem?_map,List.getElem?_eq_getElem hjl] at h9
  rw [List.getD_eq_getElem?_getD,←h9];rfl
 have eg:∀ args w,(callFunc 81 args).run Tryz.prog w=.ok (.enter 81 args) w:=enters_of Tryz.func81 (by kernel_rfl) rfl
 have hS:=Any.slices_SortFunc_total sortL encK (fun _=>rfl) cfK swoK 81 #[] g 0 c L.toArray w eg (cmpK g 0 L.toArray.size w).lays hH hg (by rw [hsz];omega) totK
 rw [geK,hsz] at hS
 change Calls Tryz.prog 80 _ _ _ at hS
 refine hS.mono ?_;rintro e w' ⟨rfl,m,os,hw⟩
 have hys:((L.mergeSort fun x y=>leK x.1 y.1).map (·.1))=srt xs:=by
  unfold srt;rw [←hv];exact List.map_mergeSort (fun a _ b _=>rfl)
 obtain ⟨Y,hY⟩:∃ Y,L.mergeSort (fun x y=>leK x.1 y.1)=Y:=⟨_,rfl⟩
 have hYl:Y.length=xs.length:=by rw [←hY,List.length_mergeSort,hlen]
 have hw2:w'=grow ((w.drewN m).setCells g 0 (Y.map encK)) os:=by
  rw [hw]
  show sortWorld encK w g 0 m (L.mergeSort fun x y=>leK x.1 y.1).toArray os=_
  rw [hY];exact Lib.sorted_world encK w g 0 m L.toArray Y os hH (by rw [hYl,hsz])
 rw [hY] at hys;have hb:But g w ((w.drewN m).setCells g 0 (Y.map encK)):=But.setCells _ _ (show But g w (w.drewN m) from ⟨rfl,rfl,rfl,Nat.le_refl _,fun _ _ _=>rfl⟩)
 have hs2:((w.drewN m).setCells g 0 (Y.map encK)).heap.size=w.heap.size:=Go.Sort.size_setCells g _ 0 (w.drewN m);refine ⟨rfl,⟨by rw [hw2];unfold grow;simp;omega,fun j hj=>?_⟩,fun B hB hB2=>?_⟩
 · rw [hw2,cell?_grow _ os _ (by rw [hs2];exact hg)]
   have hj2:j<(Y.map encK).length:=by rw [List.length_map];omega
   rw [World.cell?_setCells_in g (Y.map encK) 0 (w.drewN m) (fun i hi=>by rw [List.length_map] at hi;rw [World.cell?_drewN,hc i (by omega)];rfl) j hj2]
   have h9:(Y.map (·.1))[j]?=(srt xs)[j]?:=by rw [hys]
   rw [List.getElem?_map,List.getElem?_eq_getElem (show j<Y.length by omega)] at h9
   rw [List.getD_eq_getElem?_getD,←h9,List.getElem_map];rfl
 · have h0:Below B w ((w.drewN m).setCells g 0 (Y.map encK)):=But.below (Below.refl B w) hb hB2 hB
   rw [hw2];refine ⟨h0.os,h0.tape,h0.output,by unfold grow;simp,fun k hk=>?_⟩
   rw [heap_grow_old _ os (by rw [hs2];omega)]
   exact h0.block k hk
end
section
open Go.RowKit J
attribute [local go_sem] st_float
theorem wf64f13 {a:Nat}(h:(Lit.float .f64 a).wf=true):a<18446744073709551616:=by
 simpa [Lit.wf] using h
end
section
open Go.RowKit J
attribute [local go_sem] st_float
theorem al2_13 {u:World}{a b:Addr}{va vb:Value}{o:Obj}(h:u.cell? a=some va∧u.cell? b=some vb):(u.alloc o).cell? a=some va∧(u.alloc o).cell? b=some vb:=⟨Lib.cell?_alloc_some _ h.1,Lib.cell?_alloc_some _ h.2⟩
theorem al2d_13 {u:World}{a b:Addr}{va vb:Value}{o:Obj}(h:u.drew.cell? a=some va∧u.drew.cell? b=some vb):(u.alloc o).drew.cell? a=some va∧(u.alloc o).drew.cell? b=some vb:=al2_13 (u:=u) h
theorem own_but13 {lo g:Nat}{w w':World}{v:Value}{n:Nat}{L:List Value}(h:w.ownsRow lo 22 1 v n L) (hb:But g w w') (hg:g<lo):w'.ownsRow lo 22 1 v n L:=by
 refine ⟨h.1,?_⟩
 rcases h.2 with hn|⟨b,cap,cur,rfl,hlo,hgc,rest⟩
 · exact .inl hn
 · refine .inr ⟨b,cap,cur,rfl,hlo,?_,rest⟩
   rw [hb.block b (Array.getElem?_eq_some_iff.1 hgc).1 (by omega)];exact hgc
theorem rep_snoc13 (k x:Nat):List.replicate (k+1) x=List.replicate k x++[x]:=List.replicate_succ'
theorem sPl_zero {z:Nat}:sPl z=0↔magW z=0:=by unfold sPl sK;split <;> omega
theorem same_wt {xs:List Nat}{z:Nat}{mode:Int}{X:Nat}(hW:W64 xs) (hf:∀ x ∈ xs,finW x) (hne:xs≠[]) (hl:xs.length≤65536) (hz:z<18446744073709551616) (hm0:0≤mode) (hm4:mode≤4) (hX:levR xs (sS xs) mode=(X,0)) (hX2:X<18446744073709551616) (fX:finW X) :
 ∃ Z G,wtR xs (List.replicate xs.length z) mode=(Z,G)∧((¬ finW z∧G=30)∨(finW z∧(FloatKind.f64.format.order z 0==some .eq)=true∧G=21)∨(finW z∧(FloatKind.f64.format.order z 0==some .eq)=false∧G=0∧(FloatKind.f64.format.order Z X==some .eq)=true)):=by
 by_cases fz:finW z
 · by_cases h0:magW z=0
   · exact ⟨0,21,(wt_bad hW hf hne hl hz hm0 hm4).2 h0,.inr (.inl ⟨fz,by rw [eq13 hz (by decide) fz (by decide),sPl_zero.2 h0];decide,rfl⟩)⟩
   · obtain ⟨Z,z1,z2,z3,z4⟩:=wt_same hW hf hne hl hz fz h0 hm0 hm4 (sS xs)
     rw [hX] at z4;refine ⟨Z,0,z1,.inr (.inr ⟨fz,?_,rfl,by rw [eq13 z2 hX2 z3 fX,decide_eq_true z4]⟩)⟩
     rw [eq13 hz (by decide) fz (by decide),decide_eq_false]
     intro e;exact h0 (sPl_zero.1 (by rw [e];decide))
 · exact ⟨0,30,(wt_bad hW hf hne hl hz hm0 hm4).1 fz,.inl ⟨fz,rfl⟩⟩
theorem walk2_MeanSame (a:Option Addr) (n c:Nat) (xs:List Nat) (z:Nat) (mode:Int) (w:World) (hT:Tab w) (hC:CameF w a n c xs) (hz:z<18446744073709551616) (hm:n≤17592186043904) :
 Calls Tryz.prog 4 #[.slice a n c,.float .f64 z,.int .i64 mode] w fun r w'=>r=.returned (.bool true)∧Below w.heap.size w w':=by
 obtain ⟨hl1,_,hW1,hF1,_⟩:=hC;have up:∀ u:World,Below w.heap.size w u→Fs u.heap.size u a xs:=fun u hb=>(hF1.below hb).mono hb.size
 obtain ⟨t,ht⟩:∃ t:Bool,t=true↔∀ x ∈ xs,finW x:=by
  by_cases h:∀ x ∈ xs,finW x
  · exact ⟨true,⟨fun _=>h,fun _=>rfl⟩⟩
  · exact ⟨false,⟨fun q=>(by cases q),fun q=>absurd q h⟩⟩
 have HL:=hid (live13 w hT);have HF:=hid (fun (u:World) (hb:Below w.heap.size w u)=>finite13 xs a n c u hl1 (up u hb) hW1 (by omega) t ht)
 by_cases hgo:t=true∧n≠0∧n≤1000∧0≤mode∧mode≤4
 · obtain ⟨rfl,hn0,hn3,hm0,hm4⟩:=hgo
   have hf:=ht.1 rfl;have hne:xs≠[]:=by rintro rfl;simp at hl1;omega
   have hl6:xs.length≤65536:=by omega
   have hask:askE mode=0:=if_neg (by omega)
   have hgx:∀ k,k<n→xs.getD k 0 ∈ xs:=fun k hk=>by rw [List.getD_eq_getElem?_getD,List.getElem?_eq_getElem (show k<xs.length by omega)];exact List.getElem_mem _
   obtain ⟨X,hlev,hX2,fX,_,_⟩:=mean_between hW1 hf hne hl6 (sS xs) mode hm0 hm4 18442240474082181119 9218868437227405311 (by decide) (by decide)
    (fun x hx=>by have:magW x<9218868437227405312:=hf x hx
                  have e:sPl 18442240474082181119=-9218868437227405311:=by decide
                  rw [e];unfold sPl sK;split <;> omega)
    (fun x hx=>by have:magW x<9218868437227405312:=hf x hx
                  have e:sPl 9218868437227405311=9218868437227405311:=by decide
                  rw [e];unfold sPl sK;split <;> omega)
   have hmr:meanR xs mode 0 0=(X,0):=by rw [mean_fin hW1 hf hl6 hask (by decide),hlev]
   have htr:trR xs 0 mode=(X,0):=by rw [tr_zero hW1 hf hne hl6 hm0 hm4,hlev]
   obtain ⟨Zw,G,hwt,hcase⟩:=same_wt hW1 hf hne hl6 hz hm0 hm4 hlev hX2 fX;obtain ⟨Zo,hof,hZ2,fZ,hoe⟩:=of_same hW1 hf hne hl6 hm0 hm4;rw [hlev] at hoe;have hoo:(FloatKind.f64.format.order Zo X==some .eq)=true:=by rw [eq13 hZ2 hX2 fZ fX,decide_eq_true hoe]
   obtain ⟨m,hmn⟩:∃ m,m=n-1:=⟨_,rfl⟩;obtain ⟨x0,hx0⟩:∃ x,x=xs.getD 0 0:=⟨_,rfl⟩;obtain ⟨x1,hx1⟩:∃ x,x=xs.getD m 0:=⟨_,rfl⟩;have hx64:x0<18446744073709551616:=by rw [hx0];exact hW1.get 0
   have hy64:x1<18446744073709551616:=by rw [hx1];exact hW1.get m
   have fx0:finW x0:=by rw [hx0];exact hf _ (hgx 0 (by omega))
   have fx1:finW x1:=by rw [hx1];exact hf _ (hgx m (by omega))
   obtain ⟨hmid,hm2⟩:=mid_same hx64 hy64 fx0 fx1 hm0 hm4;obtain ⟨Y,hY⟩:∃ Y,(meanR [x0,x1] mode 0 0).1=Y:=⟨_,rfl⟩;have hme:meanR [x0,x1] mode 0 0=(Y,0):=Prod.ext hY hm2;have hW2:W64 [x0,x1]:=fun q hq=>by rcases List.mem_cons.1 hq with rfl | hq;exact hx64;rw [List.mem_singleton.1 hq];exact hy64
   have HM:=hid (fun (u:World) (hb:Below w.heap.size w u)=>Mean13 xs a n c mode 0 0 u hl1 (up u hb) hW1 (hT.belows hb) (by omega) _ hmr)
   have HQ:=hid (fun (u:World) (hb:Below w.heap.size w u)=>Trimmed13 sortsF xs a n c 0 mode u hl1 (up u hb) hW1 (by omega) (by decide) (hT.belows hb) _ htr)
   have HW:Hid (∀ (u:World) (b:Option Addr) (d:Nat),Below w.heap.size w u→Fs u.heap.size u b (List.replicate n z)→Calls Tryz.prog 8 #[.slice a n c,.slice b n d,.int .i64 mode] u fun r w'=>r=.returned (.tuple #[.float .f64 Zw,.int .i64 G])∧Below u.heap.size u w'):=by
    intro u b d hb hg;rw [hl1] at hg ⊢;exact Weighted13 xs (List.replicate xs.length z) a b xs.length xs.length c d mode u rfl List.length_replicate.symm (up u hb) hg hW1 (rep_W64 hz) (hT.belows hb) _ hwt
   have HO:Hid (∀ (u:World) (b:Option Addr) (l d:Nat),Below w.heap.size w u→Nt 0 u (.slice b l d) (dX (exV (vS xs)))→Calls Tryz.prog 14 #[.agg #[.bool (dN (exV (vS xs))),.slice b l d,.int .i64 (dE (exV (vS xs)))],.int .i64 (n:Nat),.int .i64 mode] u fun r w'=>r=.returned (.tuple #[.float .f64 Zo,.int .i64 0])∧Below u.heap.size u w'):=by
    intro u b l d hb hN;have F:=vS_fm hW1 hl6;rw [hl1];exact Of13 (dN (exV (vS xs))) b l d (dX (exV (vS xs))) (dE (exV (vS xs))) (xs.length:Nat) mode u (hT.belows hb) (hN.av (Nat.le_trans F.len (by decide))) F.rng _ hof
   have HI:=hid (fun (u:World) (hb:Below w.heap.size w u)=>Middle13 x0 x1 hx64 hy64 mode u (hT.belows hb) _ (hmid.trans hme))
   have HJ:=hid (fun (u:World) (hb:Below w.heap.size w u)=>Mean13 [x0,x1] (some ⟨u.heap.size,0,none⟩) 2 2 mode 0 0 (u.alloc (Obj.cells #[.float .f64 x0,.float .f64 x1] 22)).drew rfl (fs_two u x0 x1) hW2 (hT.belows (hb.trans ((below_alloc _ _).mono hb.size)).drew) (by decide) _ hme)
   have HX:=(qsd (ai hl1 (ai hW1 (ai hF1 (ai hx0 (ai hx1 (ai hT hmn)))))));have HCs:=(qsd (ai hcase hz));simp only at HM HQ HI HJ;have d0:((n:Int)==0)=false:=by rw [beq_eq_false_iff_ne];omega
   have d3:decide ((1000:Int)<(n:Nat))=false:=by simp;omega
   have d4:decide (mode<0)=false:=by simp;omega
   have d5:decide (4<mode)=false:=by simp;omega
   have hwm:IntKind.i64.wrap ((n:Int)-1)=(m:Int):=by rw [IntKind.wrap_i64];omega
   have hmlt:m<n:=by omega
   have hnp:0<n:=by omega
   have hoo':FloatKind.f64.format.order Zo X=some .eq:=by simpa using hoo
   obtain ⟨oS,hoS⟩:∃ o,exV (vS xs)=o:=⟨_,rfl⟩;have FS:=qsd (vS_fm hW1 hl6);rw [hoS] at HO FS;have HoS:=qsd hoS;clear hl1 hW1 hF1 up ht hT hm hf hne hl6 hlev hmr htr hwt hcase hof hoe hx0 hx1 hx64 hy64 fx0 fx1 hmid hm2 hY hme hW2 hask hgx hX2 fX hZ2 fZ hz hmn hoS;go_enter Tryz.func4,Tryz.ntmps4
   go_wp2_with fail
   refine HL.out.mono ?_;rintro r u1 ⟨rfl,hb⟩;have B1:=qsd hb;clear hb HL
   go_wp2_with fail
   refine (HF.out _ B1.out).mono ?_;rintro r u2 ⟨rfl,hb⟩;have B2:=qsd (B1.out.trans (hb.mono B1.out.size));clear hb HF B1
   go_wp2_with fail
   refine (HM.out _ B2.out).mono ?_;rintro r u3 ⟨rfl,hb⟩;have B3:=qsd (B2.out.trans (hb.mono B2.out.size));clear hb HM B2
   go_wp2_with fail
   refine (HQ.out _ B3.out).mono ?_;rintro r u4 ⟨rfl,hb⟩;have B4:=qsd (B3.out.trans (hb.mono B3.out.size));clear hb HQ B3
   go_wp2_with fail
   refine (New7 _).mono ?_;rintro r u5 ⟨rfl,hA,hb⟩;obtain ⟨g,hg⟩:∃ g,g=u4.heap.size:=⟨_,rfl⟩;rw [←hg] at hA ⊢;have P5:Aside (Acc7 u5 g 0 ⟨0,0,0,0,0,0⟩∧Below w.heap.size w u5∧w.heap.size≤g):=⟨hA,B4.out.trans (hb.mono B4.out.size),by rw [hg];exact B4.out.size⟩
   clear hb hA hg B4;go_wp2
   go_loopg [13,15] n (fun gk tv iv wr=>∃ (k:Nat) (v:Value),gk+k=n∧iv=.int .i64 (k:Nat)∧tv=v∧Aside (wr.ownsRow (g+1) 22 1 v (List.replicate k z).length ((List.replicate k z).map Fw10)∧Acc7 wr g (vS (xs.take k)) (sS (xs.take k))∧Below w.heap.size w wr))
   case atStart=>exact ⟨0,.slice none 0 0,by omega,by simp,rfl,World.ownsRow_nil _ _ _ _,by simpa [vS,sS] using P5.out.1,P5.out.2.1⟩
   case round =>
    obtain ⟨k,v,hgk,rfl,hv,HA⟩:=hrel;have hv':=hv.symm;clear hv;subst hv';have HG:=qsd P5.out.2.2;clear P5
    by_cases hk:k<n
    · clear HW HO HI HJ
      obtain ⟨x,hx⟩:∃ x,x=xs.getD k 0:=⟨_,rfl⟩;obtain ⟨v',w',r1,r2,r3,r4⟩:=append10 (g+1) v (List.replicate k z) z wr HA.out.1 HA.out.2.1.lt (by rw [List.length_replicate];omega)
      have b2:Below w.heap.size w w':=HA.out.2.2.trans (r3.mono (by have:=HG.out;omega))
      have C:Hid (Calls Tryz.prog 13 #[.pointer (some ⟨g,0,none⟩),.float .f64 x] w' (Did g w' (0,vS (xs.take (k+1)),sS (xs.take (k+1))))):=by
       have hk2:k<xs.length:=by rw [←HX.out.1];exact hk
       obtain ⟨p1,p2⟩:=sS_pos xs k (by omega)
       obtain ⟨v1,v2⟩:=vS_bound xs HX.out.2.1 k (by omega)
       have hx64:x<18446744073709551616:=by rw [hx];exact HX.out.2.1.get k
       have hsm:=pT_small x 4607182418800017408 hx64 (by decide)
       have hkq:k*QB≤65536*QB:=Nat.mul_le_mul_right _ (by omega)
       have hQ:=QB_HB;have hqp:=QB_pos;have C:=Add7 g (vS (xs.take k)) (sS (xs.take k)) x w' (HA.out.2.1.below r3 (by omega)) (p1.ok (by omega)) hx64
       rw [put_ok _ _ _ _ (by omega) (by omega) (by omega)] at C
       rw [vS_take xs k hk2,sS_take xs k hk2,←hx];exact C
      obtain ⟨b,off,rfl,hc⟩:=HX.out.2.2.1.at b2 k (by rw [←HX.out.1];exact hk)
      rw [←hx] at hc;have HR:=qsd r1;rw [←rep_snoc13] at r2;have HN:=(qsd (ai r2 b2));have hd:decide ((k:Int)<n)=true:=by simp;omega
      have hkb:k<4611686018427387904:=by omega
      clear r1 r2 r3 r4 HA hx b2
      go_wp2_with (at_builtin;refine wpList_append10 rfl (.tmp 71) (.tmp 73) 24 rfl _ _ rfl rfl _ _ HR.out ?_)
      refine (C.out).mono ?_;rintro r w3 ⟨rfl,hA3,hbut⟩
      have H3:Aside (w3.ownsRow (g+1) 22 1 v' (List.replicate (k+1) z).length ((List.replicate (k+1) z).map Fw10)∧Acc7 w3 g (vS (xs.take (k+1))) (sS (xs.take (k+1)))∧Below w.heap.size w w3) :=
       ⟨own_but13 HN.out.1 hbut (by omega),hA3,But.below HN.out.2 hbut HN.out.2.size HG.out⟩
      clear hA3 hbut C;go_wp2
      go_roundg (gk-1)
      case measure=>omega
      case rel=>exact ⟨k+1,_,by omega,by first | rfl | simp,rfl,H3.out⟩
    · obtain rfl:n=k:=by omega
      have hd:decide ((n:Int)<n)=false:=by simp
      obtain ⟨ao,co,hv2,hc2,hF2⟩:=own_fs10 HA.out.1 rfl;rw [List.length_replicate] at hv2 hc2;subst hv2;have e:xs.take n=xs:=by rw [List.take_of_length_le];rw [←HX.out.1];omega
      have hA:=HA.out.2.1;rw [e] at hA;have P6:=(qsd (ai hA HA.out.2.2));have C:=hid (HW.out wr ao co HA.out.2.2 hF2);clear HA hF2 hc2 HW e hA HG
      go_wp2_with fail
      refine C.out.mono ?_;rintro r u6 ⟨rfl,hb⟩;have P7:=(qsd (ai (P6.out.1.below hb P6.out.1.lt) (P6.out.2.trans (hb.mono P6.out.2.size))));clear hb C P6
      have C:Hid (Calls Tryz.prog 15 #[.pointer (some ⟨g,0,none⟩)] u6 fun r w'=>∃ v,r=.returned (.agg #[.bool (dN oS),v,.int .i64 (dE oS)])∧Nt u6.heap.size w' v (dX oS)∧Below u6.heap.size u6 w'):=by
       rw [←HoS.out];exact Exact7 g _ _ u6 P7.out.1 (HX.out.2.2.2.2.2.1.belows P7.out.2)
      go_wp2_with fail
      refine C.out.mono ?_;rintro r u7 ⟨v,rfl,hN,hb⟩;obtain ⟨a9,c9,rfl,hN0⟩:=Lo.shape (q:=oS) FS.out hN;have B7:=qsd (P7.out.2.trans (hb.mono P7.out.2.size));have C2:=hid (HO.out u7 a9 (ws (dX oS)).length c9 B7.out hN0);clear hb C P7 hN hN0 HO
      go_wp2_with fail
      refine C2.out.mono ?_;rintro r u8 ⟨rfl,hb⟩;have B8:=qsd (B7.out.trans (hb.mono B7.out.size));clear hb C2 B7
      go_upto_region 18 with fail
      have hdr:=(Below.refl u8.heap.size u8).drew;have BD:=qsd (B8.out.trans (hdr.mono B8.out.size));clear hdr B8;obtain ⟨b,off,rfl,hc0⟩:=HX.out.2.2.1.at BD.out 0 (by rw [←HX.out.1];omega)
      rw [←HX.out.2.2.2.1,Nat.add_zero] at hc0
      have cells:∀ u:World,Below w.heap.size w u→u.cell? ⟨b,off,none⟩=some (.float .f64 x0)∧u.cell? ⟨b,off+m,none⟩=some (.float .f64 x1):=by
       intro u hb;obtain ⟨b',off',hab,h0⟩:=HX.out.2.2.1.at hb 0 (by rw [←HX.out.1];omega)
       simp only [Option.some.injEq,Addr.mk.injEq,and_true] at hab;obtain ⟨rfl,rfl⟩:=hab;obtain ⟨b',off',hab,h1⟩:=HX.out.2.2.1.at hb m (by rw [←HX.out.1];omega)
       simp only [Option.some.injEq,Addr.mk.injEq,and_true] at hab;obtain ⟨rfl,rfl⟩:=hab;rw [←HX.out.2.2.2.1,Nat.add_zero] at h0;rw [←HX.out.2.2.2.2.1] at h1;exact ⟨h0,h1⟩
      have CE:=hid cells;clear cells hc0;have kS:=qsd (CE.out _ BD.out)
      go_region_held3 (fun w'=>w'.cell? ⟨b,off,none⟩=some (.float .f64 x0)∧w'.cell? ⟨b,off+m,none⟩=some (.float .f64 x1)) (with_reducible exact kS.out) (first
       | (go_at_call 16
          with_reducible refine (HI.out _ BD.out).mono ?_
          rintro r v ⟨rfl,hb⟩;have BD:=qsd (BD.out.trans (hb.mono BD.out.size));have kS:=qsd (CE.out _ BD.out);clear hb))
      clear kS HI
      go_upto_region 19 with fail
      have BV:=qsd BD.out;clear BD;have kS:=qsd (CE.out v.drew BV.out.drew)
      go_region_held3 (fun w'=>w'.cell? ⟨b,off,none⟩=some (.float .f64 x0)∧w'.cell? ⟨b,off+m,none⟩=some (.float .f64 x1)) (first | with_reducible exact kS.out | with_reducible exact al2d_13 kS.out) (first
       | (go_at_call 7
          with_reducible refine (HJ.out _ BV.out).mono ?_
          rintro r v2 ⟨rfl,hb⟩;have BD:=qsd (((BV.out.trans ((below_alloc _ _).mono BV.out.size)).drew).trans (hb.mono ((BV.out.trans ((below_alloc _ _).mono BV.out.size)).drew).size));have kS:=qsd (CE.out _ BD.out);clear hb))
      clear kS HJ CE;have HE:=hid (fun (q:Nat) (u:World)=>exact_law13 q q u)
      simp only [decide_true] at HE
      rcases HCs.out.1 with ⟨fz,rfl⟩|⟨fz,o1,rfl⟩|⟨fz,o1,rfl,o2⟩
      · obtain ⟨q,hq,d⟩:=run_float_none (P:=Tryz.prog) v2 .sub 22 z z (.inr (.inl rfl)) (sub_odd_self HCs.out.2 fz)
        have ho:=order_nan13 q hq.1;have ho2:(FloatKind.f64.format.order q 0 != some .eq)=true:=by simp only [bne,ho];rfl
        have ho':¬ FloatKind.f64.format.order q 0=some .eq:=by simpa using ho
        have B9:=qsd (BD.out.trans ((Below.refl v2.heap.size v2).drew.mono BD.out.size));clear hq BD fz
        go_wp2_with (go_at_call 10;refine (HE.out _ _).mono ?_;rintro r u3 ⟨rfl,hu⟩;rw [hu];clear hu)
        go_ret;exact ⟨rfl,B9.out⟩
      · have dS:=fun W:World=>run_float_arith (P:=Tryz.prog) W .sub 22 .f64 z z 0 (sub_self_fin z HCs.out.2 fz)
        have z00:(FloatKind.f64.format.order 0 0==some .eq)=true:=by decide +kernel
        have z00':FloatKind.f64.format.order 0 0=some .eq:=by decide +kernel
        have o1':FloatKind.f64.format.order z 0=some .eq:=by simpa using o1
        clear fz
        go_wp2_with (go_at_call 10;refine (HE.out _ _).mono ?_;rintro r u3 ⟨rfl,hu⟩;rw [hu];clear hu)
        go_ret;exact ⟨rfl,BD.out⟩
      · have dS:=fun W:World=>run_float_arith (P:=Tryz.prog) W .sub 22 .f64 z z 0 (sub_self_fin z HCs.out.2 fz)
        have z00:(FloatKind.f64.format.order 0 0==some .eq)=true:=by decide +kernel
        have z00':FloatKind.f64.format.order 0 0=some .eq:=by decide +kernel
        have o1':¬ FloatKind.f64.format.order z 0=some .eq:=by simpa using o1
        have o3:(FloatKind.f64.format.order z 0 != some .eq)=true:=by simp only [bne,o1];rfl
        have o2':FloatKind.f64.format.order Zw X=some .eq:=by simpa using o2
        clear fz
        go_wp2_with (go_at_call 10;refine (HE.out _ _).mono ?_;rintro r u3 ⟨rfl,hu⟩;rw [hu];clear hu)
        go_ret;exact ⟨rfl,BD.out⟩
 · have HX:=qsd hgo
   clear hl1 hW1 hF1 up ht hT hgo hz;go_enter Tryz.func4,Tryz.ntmps4
   go_wp2_with fail
   refine HL.out.mono ?_;rintro r u1 ⟨rfl,hb⟩;have B1:=qsd hb;clear hb HL
   go_wp2_with fail
   refine (HF.out _ B1.out).mono ?_;rintro r u2 ⟨rfl,hb⟩;have B2:=qsd (B1.out.trans (hb.mono B1.out.size));clear hb HF B1
   cases t with
   | false =>
     go_wp2;go_ret;exact ⟨rfl,B2.out⟩
   | true =>
     by_cases hn0:n=0
     · have d0:((n:Int)==0)=true:=by simp [hn0]
       clear HX;go_wp2;go_ret;exact ⟨rfl,B2.out⟩
     · have d0:((n:Int)==0)=false:=by rw [beq_eq_false_iff_ne];omega
       by_cases hn3:n≤1000
       · have d3:decide ((1000:Int)<(n:Nat))=false:=by simp;omega
         by_cases hm0:mode<0
         · have d4:decide (mode<0)=true:=by simp [hm0]
           clear HX;go_wp2;go_ret;exact ⟨rfl,B2.out⟩
         · have d4:decide (mode<0)=false:=by simp;omega
           have d5:decide (4<mode)=true:=by
            have:¬ mode≤4:=fun h=>HX.out ⟨rfl,hn0,hn3,by omega,h⟩
            simp;omega
           clear HX;go_wp2;go_ret;exact ⟨rfl,B2.out⟩
       · have d3:decide ((1000:Int)<(n:Nat))=true:=by simp;omega
         clear HX;go_wp2;go_ret;exact ⟨rfl,B2.out⟩
end
end Go.Proofs.YtmkmndlpjenemaaGreatDoor
