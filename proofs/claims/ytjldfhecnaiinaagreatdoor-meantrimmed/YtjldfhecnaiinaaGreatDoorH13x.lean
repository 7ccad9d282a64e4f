import Derived.Test.YtjldfhecnaiinaaGreatDoorM1x
import Derived.ProofKit
import Derived.OpenShut
import Derived.ChangeOld
import Derived.ChangeArms
import Derived.SizedLaws
import Derived.Laws.Cover2
import Derived.Test.YtjldfhecnaiinaaGreatDoorF10x
import Derived.OwnWalk
import Derived.ArgAppend
import Derived.Maps.AppendAt
import Derived.WalkMore
import Derived.Deep.RegionHeld
import Derived.Shelf.SlSortCmp.NoneTotal
import Derived.Ground.SlsfProg
import Derived.Lib.RowBridge
import Derived.Lib.SortBridge
import Derived.WalkKit
import Derived.Test.YtjldfhecnaiinaaGreatDoorS7x
import Derived.Deep.RegionHeld3
import Derived.Test.YtjldfhecnaiinaaGreatDoorZ9x
import Derived.Test.YtjldfhecnaiinaaGreatDoorD33x
import Derived.Test.YtjldfhecnaiinaaGreatDoorP2x
import Derived.Test.YtjldfhecnaiinaaGreatDoorD19x
import Derived.Deep.RegionWith
import Derived.Deep.CutRange
import Derived.Test.YtjldfhecnaiinaaGreatDoorU1x
import Derived.Test.YtjldfhecnaiinaaGreatDoorS9x
import Derived.Deep.Cut
import Derived.Deep.LoopGhost
import Derived.Test.YtjldfhecnaiinaaGreatDoorW45x
import Derived.BigQuiet
set_option linter.unusedVariables false
set_option linter.unusedSimpArgs false
set_option maxHeartbeats 16000000
set_option maxRecDepth 20000
namespace Go.Proofs.YtjldfhecnaiinaaGreatDoor
namespace J
end J
section
open Go.ChangeShapes Go.WideShapes Go.ChangeAt Go.RowKit
theorem trodF {H:Type}{enc:TypeId×Value→H}{P:Program}{w:World}{base:Nat}{spare:Nat→Bool}{held:Bool}{fuel:Nat}{t:TypeId}{cs:List Value}{x:DataW H×List MemPlace}{k:FloatKind}(ht:P.underlying t=some (.float k)) (h:DataW.trod enc P w base spare held fuel t cs=some x):∃ n,cs=[.float k n]∧x=(.lit (.float k n),[])∧(Lit.float k n).wf=true:=by
 cases fuel with
 | zero=>simp [DataW.trod] at h
 | succ m =>
   simp only [DataW.trod,ht] at h
   split at h <;> simp_all
structure CameF (w:World) (a:Option Addr) (n c:Nat) (xs:List Nat):Prop where
 len:n=xs.length
 cap:n≤c
 wf:W64 xs
 rd:Fs w.heap.size w a xs
 nil:a=none→c=0
theorem add_noneF (b off i:Nat):(⟨b,off,none⟩:Addr).add i=⟨b,off+i,none⟩:=by unfold Addr.add;split <;> simp_all
def numF {H:Type} (y:DataW H×List MemPlace):Nat:=match y.1 with | .lit (.float _ n)=>n | _=>0
theorem Tryz.cellsF:Tryz.prog.cellsOf 24=1:=by kernel_rfl
theorem Tryz.bytesF:Tryz.prog.bytesOf 24=8:=by kernel_rfl
theorem cameF_of {H:Type}{enc:TypeId×Value→H}{W:World}{a:Option Addr}{n c:Nat}{d:DataW H}{p:List MemPlace}(h:DataW.Trod enc Tryz.prog W 0 (fun _=>true) true 23 (.slice a n c) d p) :
 ∃ xs,CameF W a n c xs∧((d=.nil∧c=0)∨∃ elems spare:List (DataW H),d=.slice elems spare∧elems.length+spare.length=c):=by
 obtain ⟨fuel,hf⟩:=h
 rcases DataW.trod_slice Tryz.underlying23 hf with ⟨hcs,hx⟩|⟨x,l,cp,elems,rest,m,_,hcs,hx,hb,hl,hm,hlen,hel,hsp,hns⟩
 · simp [Value.cells] at hcs
   obtain ⟨rfl,rfl,rfl⟩:=hcs;exact ⟨[],⟨rfl,Nat.le_refl _,(fun x hx=>by cases hx),(fun h=>absurd rfl h),fun _=>rfl⟩,.inl ⟨(Prod.mk.inj hx).1,rfl⟩⟩
 · simp [Value.cells] at hcs
   obtain ⟨rfl,rfl,rfl⟩:=hcs
   have each:∀ i y,i<n→elems[i]?=some y→y=(.lit (.float .f64 (numF y)),[])∧(Lit.float .f64 (numF y)).wf=true∧W.cell? (x.add i)=some (.float .f64 (numF y)):=by
    intro i y hi hy;have hb':=hel i hi;rw [hy,Tryz.cellsF,Nat.mul_one,Option.bind_eq_some_iff] at hb';obtain ⟨cs',hcs,hy'⟩:=hb';obtain ⟨k,rfl,rfl,hw⟩:=trodF Tryz.underlying24 hy';exact ⟨rfl,hw,cell_of_cells?_one hcs⟩
   refine ⟨elems.map numF,⟨by simp [hlen],hl,?_,?_,fun e=>by cases e⟩,.inr ⟨_,_,(Prod.mk.inj hx).1,?_⟩⟩
   · intro y hy
     obtain ⟨z,hz,rfl⟩:=List.mem_map.1 hy;obtain ⟨i,hi⟩:=List.getElem?_of_mem hz;have hil:=(List.getElem?_eq_some_iff.1 hi).1;have:=(each i z (by omega) hi).2.1
     exact of_decide_eq_true this
   · intro hne
     obtain ⟨b,off,spot⟩:=x
     have hn0:0<n:=by
      rcases Nat.eq_zero_or_pos n with h0|h0
      · rw [h0] at hlen;have:=List.eq_nil_of_length_eq_zero hlen;subst this;simp at hne
      · exact h0
     have hc0:=(each 0 (elems[0]'(by omega)) hn0 (List.getElem?_eq_getElem _)).2.2
     have hspot:spot=none:=by simpa [Addr.add] using World.cell?_spot hc0
     subst hspot;refine ⟨b,off,World.block_lt_of_cell? W _ (by simpa [Addr.add] using hc0),rfl,fun i hi=>?_⟩
     rw [List.length_map] at hi;have hadd:=add_noneF b off i;have:=(each i (elems[i]'hi) (by omega) (List.getElem?_eq_getElem _)).2.2
     rw [hadd] at this;rw [this];simp [List.getD_eq_getElem?_getD,hi]
   · have hr:=(hsp rfl).1
     simp only [List.length_map];omega
theorem cameF_reach {H:Type}{ts:List TypeId}{ds:List (DataW H)}(h:(DataW.weightsEach Tryz.prog ts ds).all (·≤reachBytes)=true) {j:Nat}{d:DataW H}{c n:Nat}(ht:ts[j]?=some 23) (hd:ds[j]?=some d) (hn:n≤c)
 (hc:(d=.nil∧c=0)∨∃ elems spare:List (DataW H),d=.slice elems spare∧elems.length+spare.length=c):n≤17592186043904:=by
 rcases hc with ⟨_,rfl⟩|⟨elems,spare,rfl,hl⟩
 · omega
 · have:=sized_slice h ht hd Tryz.underlying23
   rw [Tryz.bytesF,hl] at this;simp only [reachBytes] at this;omega
end
section
open Go.RowKit J
attribute [local go_sem] st_float
theorem clone10 (xs:List Nat) (a:Option Addr) (n c:Nat) (w:World) (hn:n=xs.length) (hF:Fs w.heap.size w a xs) (hm:n≤17592186043904) :
 Calls Tryz.prog 104 #[.slice a n c] w fun r w'=>(∃ v',r=.returned v'∧w'.ownsRow w.heap.size 24 1 v' n (xs.map Fw10))∧Below w.heap.size w w':=by
 obtain ⟨i0,hi,hz0,hz1,hz2⟩:=info_parts Tryz.info_f64;have q25:∀ (w:World) (a:Option Addr) (n c n' c':Nat),(binOp .eql 23 (.slice a n c) (.slice none n' c')).run Tryz.prog w=.ok (.bool a.isNone) w:=fun w a n c n' c'=>Lib.run_eql_slice_nil w _ _ a n c n' c' Tryz.und_floats
 cases a with
 | none =>
   have hx:xs=[]:=by
    by_cases h:xs=[]
    · exact h
    · obtain ⟨_,_,_,e,_⟩:=hF h;cases e
   subst hx;simp only [List.length_nil] at hn;subst hn;clear hF hm;go_enter Tryz.func104,Tryz.ntmps104;go_wp2;go_ret;exact ⟨⟨_,rfl,World.ownsRow_nil w w.heap.size 24 1⟩,Below.refl _ _⟩
 | some ad =>
   have A:=qsd (ai hn (ai hF hm));clear hF hm hn;go_enter Tryz.func104,Tryz.ntmps104
   go_wp2_with (at_builtin;refine wpList_append_own _ rfl _ _ 23 rfl w.heap.size 24 i0 (.float .f64 0) 1 8 Tryz.und_floats hi hz0 hz1 hz2 rfl (by decide) _ _ _ rfl (World.ownsRow_made w #[] 0 (Nat.le_refl _) (Nat.zero_le _) (by simp)) ad n c (xs.map Fw10) rfl ?qc1 ?qc2 ?qc3 ?qc4 ?qc5 ?qc6 ?_)
   case qc1=>simp [A.out.1]
   case qc2 =>
    intro j u hj;have hj2:j<xs.length:=by have:=(List.getElem?_eq_some_iff.1 hj).1;simpa using this
    obtain ⟨b,off,e,hc⟩:=A.out.2.1.at (Below.refl _ _) j hj2
    cases e
    rw [Addr.add_lit];refine Lib.cell?_alloc_some _ ?_
    rw [hc,←hj,List.getElem?_map,List.getElem?_eq_getElem hj2,List.getD_eq_getElem?_getD,List.getElem?_eq_getElem hj2]
    rfl
   case qc3=>intro u hu;obtain ⟨x,_,rfl⟩:=List.mem_map.1 hu;rfl
   case qc4=>have:=A.out.1;have:=A.out.2.2;unfold maxLen;omega
   case qc5=>have:=A.out.1;have:=A.out.2.2;omega
   case qc6=>simp
   intro v' w1 hown hgrow hnil;go_wp2;go_ret;refine ⟨⟨v',rfl,?_⟩,?_⟩
   · simpa using hown
   · exact ((Below.refl _ w).alloc (Nat.le_refl _) _).grown hgrow (by simp) (by intro k hk;simp [Value.ownBlock] at hk;omega)
def SortsF:Prop:=∀ (xs:List Nat) (g c:Nat) (w:World),xs≠[]→W64 xs→(∀ x ∈ xs,finW x)→xs.length≤65536→g<w.heap.size→(∀ j,j<xs.length→w.cell? ⟨g,0+j,none⟩=some (.float .f64 (xs.getD j 0)))→(∀ j,j<xs.length→w.frozen? ⟨g,0+j,none⟩=false) →
 Calls Tryz.prog 105 #[.slice (some ⟨g,0,none⟩) xs.length c,.func (.func 106) #[] #[]] w fun r w'=>r=.returned (.tuple #[])∧(g<w'.heap.size∧∀ j,j<xs.length→w'.cell? ⟨g,0+j,none⟩=some (.float .f64 ((srt xs).getD j 0)))∧∀ B,B≤g→B≤w.heap.size→Below B w w'
theorem inner13 (HS:SortsF) (xs:List Nat) (a:Option Addr) (n c:Nat) (k:Int) (w:World) (hn:n=xs.length) (hF:Fs w.heap.size w a xs) (hW:W64 xs) (hf:∀ x ∈ xs,finW x) (hl:n≤65536) (hk:0≤k) (hk2:k≤9223372036854775807) :
 Calls Tryz.prog 62 #[.slice a n c,.int .i64 k] w fun r w'=>(∃ ao co,r=.returned (.slice ao (trm xs k.toNat).length co)∧Fs w'.heap.size w' ao (trm xs k.toNat)∧∀ b o p,ao=some ⟨b,o,p⟩→w.heap.size≤b)∧Below w.heap.size w w':=by
 have hw:IntKind.i64.wrap ((n:Int)-k)=n-k:=by rw [IntKind.wrap_i64];omega
 by_cases hs:(n:Int)-k≤k
 · have hd:decide ((n:Int)-k≤k)=true:=by simp [hs]
   have e:trm xs k.toNat=[]:=List.eq_nil_of_length_eq_zero (by rw [trm_len];omega)
   rw [e];clear hF hW hf e;go_enter Tryz.func62,Tryz.ntmps62;go_wp2;go_ret;exact ⟨⟨none,0,rfl,fun h=>absurd rfl h,fun _ _ _ h=>by cases h⟩,Below.refl _ _⟩
 · have hd:decide ((n:Int)-k≤k)=false:=by simp;omega
   have HC:=hid (clone10 xs a n c w hn hF (by omega))
   have HX:=(qsd (ai hn (ai hW (ai hf hl))));clear hF hW hf hn hl;go_enter Tryz.func62,Tryz.ntmps62
   go_wp2_with fail
   refine HC.out.mono ?_;rintro r u ⟨⟨v',rfl,hO⟩,hb⟩;clear HC
   rcases hO.2 with ⟨rfl,hn0⟩|⟨g,cap,cur,rfl,hlo,hg,hn1,hm,hsz,ht⟩
   · exfalso;omega
   · have hgs:g<u.heap.size:=(Array.getElem?_eq_some_iff.1 hg).1
     have hcl:∀ j,j<xs.length→u.cell? ⟨g,0+j,none⟩=some (.float .f64 (xs.getD j 0))∧u.frozen? ⟨g,0+j,none⟩=false:=by
      intro j hj
      have hu:cur.toList[j]?=some (.float .f64 (xs.getD j 0)):=by
       have h1:(cur.toList.take (n*1))[j]?=((xs.map Fw10))[j]?:=by rw [ht]
       rw [List.getElem?_take,if_pos (by have:=HX.out.1;omega),List.getElem?_map,List.getElem?_eq_getElem hj] at h1
       rw [h1,List.getD_eq_getElem?_getD,List.getElem?_eq_getElem hj]
       rfl
      have hu2:cur[j]?=some (.float .f64 (xs.getD j 0)):=by rw [←hu];simp
      refine ⟨?_,?_⟩
      · unfold World.cell?
        simp only [hg,Nat.zero_add];exact hu2
      · unfold World.frozen?
        simp only [hg,Nat.zero_add];simp
     have C:=hid (HS xs g cap u (by have:=HX.out.1;intro h;rw [h] at this;simp at this;omega) HX.out.2.1 HX.out.2.2.1 (by have:=HX.out;omega) hgs (fun j hj=>(hcl j hj).1) (fun j hj=>(hcl j hj).2))
     rw [←HX.out.1] at C;have HB:=qsd (ai hb hlo);have hcap:n≤cap:=hn1;clear hcl hO hb hlo hg hn1 hm hsz ht
     go_wp2_with fail
     refine C.out.mono ?_;rintro r u2 ⟨rfl,⟨hg2,hc2⟩,hb2⟩;have HB2:=qsd (HB.out.1.trans (hb2 w.heap.size HB.out.2 HB.out.1.size));have HC2:=(qsd (ai hg2 hc2));clear hg2 hc2 hb2 C;obtain ⟨m,rfl⟩:∃ m:Nat,k=(m:Int):=⟨k.toNat,by omega⟩
     go_wp2;go_ret;have hlen:(trm xs (m:Int).toNat).length=n-m-m:=by have:=HX.out.1;rw [trm_len,Int.toNat_natCast];omega
     refine ⟨⟨some ⟨g,m,none⟩,cap-m,by rw [hlen];rfl,fun _=>⟨g,m,HC2.out.1,rfl,fun i hi=>?_⟩,fun b o p h=>by cases h;exact HB.out.2⟩,HB2.out⟩
     rw [trm_get hi,Int.toNat_natCast];rw [hlen] at hi;have:=HC2.out.2 (m+i) (by have:=HX.out.1;omega)
     rw [Nat.zero_add] at this;exact this
end
section
open Go.RowKit J Go.Shelf Go.Lib Go.Sort
def sortL_ren:Go.Shelf.Ren:=⟨fun | 6=>105 | 15=>141 | 14=>140 | 28=>124 | 29=>181 | 20=>173 | 21=>174 | 22=>175 | 23=>176 | 24=>177 | 25=>178 | 26=>179 | 27=>180 | 46=>200 | 47=>201 | 48=>202 | 49=>203 | 50=>204 | 57=>216 | n=>n,fun | 22=>23 | 24=>24 | 25=>125 | 3=>3 | 39=>113 | 0=>0 | 53=>122 | 55=>57 | 4=>4 | 46=>197 | 45=>196 | 50=>201 | 5=>5 | 9=>9 | 66=>211 | 70=>215 | 76=>227 | 77=>228 | n=>n,fun | n=>n⟩
theorem sortL:Go.Proofs.SlLaysF.n6 Tryz.prog sortL_ren:={ mixed:=(by kernel_rfl),f6:=⟨Tryz.f105.name,by decide,Tryz.func105.trans (congrArg some (by kernel_rfl))⟩,f14:=⟨Tryz.f140.name,by decide,Tryz.func140.trans (congrArg some (by kernel_rfl))⟩,f15:=Tryz.func141.trans (congrArg some (by kernel_rfl)),f20:=⟨Tryz.f173.name,by decide,Tryz.func173.trans (congrArg some (by kernel_rfl))⟩,f21:=⟨Tryz.f174.name,by decide,Tryz.func174.trans (congrArg some (by kernel_rfl))⟩,f22:=⟨Tryz.f175.name,by decide,Tryz.func175.trans (congrArg some (by kernel_rfl))⟩,f23:=⟨Tryz.f176.name,by decide,Tryz.func176.trans (congrArg some (by kernel_rfl))⟩,f24:=⟨Tryz.f177.name,by decide,Tryz.func177.trans (congrArg some (by kernel_rfl))⟩,f25:=⟨Tryz.f178.name,by decide,Tryz.func178.trans (congrArg some (by kernel_rfl))⟩,f26:=⟨Tryz.f179.name,by decide,Tryz.func179.trans (congrArg some (by kernel_rfl))⟩,f27:=⟨Tryz.f180.name,by decide,Tryz.func180.trans (congrArg some (by kernel_rfl))⟩,f28:=Tryz.func124.trans (congrArg some (by kernel_rfl)),f29:=Tryz.func181.trans (congrArg some (by kernel_rfl)),f46:=⟨Tryz.f200.name,by decide,Tryz.func200.trans (congrArg some (by kernel_rfl))⟩,f47:=Tryz.func201.trans (congrArg some (by kernel_rfl)),f48:=Tryz.func202.trans (congrArg some (by kernel_rfl)),f49:=⟨Tryz.f203.name,by decide,Tryz.func203.trans (congrArg some (by kernel_rfl))⟩,f50:=⟨Tryz.f204.name,by decide,Tryz.func204.trans (congrArg some (by kernel_rfl))⟩,f57:=⟨Tryz.f216.name,by decide,Tryz.func216.trans (congrArg some (by kernel_rfl))⟩,t0:=Tryz.underlying0,a0:=Tryz.isAgg0,z0:=Tryz.sizeOf0,v0:=Tryz.zeroValue0,t3:=Tryz.underlying3,a3:=Tryz.isAgg3,z3:=Tryz.sizeOf3,v3:=Tryz.zeroValue3,t4:=Tryz.underlying4,a4:=Tryz.isAgg4,z4:=Tryz.sizeOf4,v4:=Tryz.zeroValue4,t5:=Tryz.underlying5,a5:=Tryz.isAgg5,z5:=Tryz.sizeOf5,v5:=Tryz.zeroValue5,t9:=Tryz.underlying9,a9:=Tryz.isAgg9,z9:=Tryz.sizeOf9,v9:=Tryz.zeroValue9,t22:=Tryz.underlying23,a22:=Tryz.isAgg23,z22:=Tryz.sizeOf23,v22:=Tryz.zeroValue23,a24:=Tryz.isAgg24,z24:=Tryz.sizeOf24,t25:=Tryz.underlying125,a25:=Tryz.isAgg125,z25:=Tryz.sizeOf125,v25:=Tryz.zeroValue125,t39:=Tryz.underlying113,a39:=Tryz.isAgg113,z39:=Tryz.sizeOf113,v39:=Tryz.zeroValue113,t45:=Tryz.underlying196,a45:=Tryz.isAgg196,z45:=Tryz.sizeOf196,v45:=Tryz.zeroValue196,t46:=Tryz.underlying197,a46:=Tryz.isAgg197,z46:=Tryz.sizeOf197,v46:=Tryz.zeroValue197,t50:=Tryz.underlying201,a50:=Tryz.isAgg201,z50:=Tryz.sizeOf201,v50:=Tryz.zeroValue201,t53:=Tryz.underlying122,a53:=Tryz.isAgg122,z53:=Tryz.sizeOf122,v53:=Tryz.zeroValue122,t55:=Tryz.underlying57,a55:=Tryz.isAgg57,z55:=Tryz.sizeOf57,v55:=Tryz.zeroValue57,t66:=Tryz.underlying211,a66:=Tryz.isAgg211,z66:=Tryz.sizeOf211,v66:=Tryz.zeroValue211,t70:=Tryz.underlying215,a70:=Tryz.isAgg215,z70:=Tryz.sizeOf215,v70:=Tryz.zeroValue215,t76:=Tryz.underlying227,a76:=Tryz.isAgg227,z76:=Tryz.sizeOf227,v76:=Tryz.zeroValue227,t77:=Tryz.underlying228,a77:=Tryz.isAgg228,z77:=Tryz.sizeOf228,v77:=Tryz.zeroValue228 }
abbrev K64:={ x:Nat // x<18446744073709551616∧finW x }
instance : Inhabited K64 := ⟨⟨0, by decide, by decide⟩⟩
def encK (u:K64):Value:=.float .f64 u.1
def cfK (x y:K64):Int:=B.oc (kW x.1) (kW y.1)
theorem ltK (x y:K64):ltOf cfK x y=decide (kW x.1<kW y.1):=by
 unfold ltOf cfK B.oc
 by_cases h1:kW x.1<kW y.1
 · simp [h1]
 · by_cases h2:kW y.1<kW x.1 <;> simp [h1,h2]
theorem swoK:SWO (ltOf cfK) where
 irrefl x:=by rw [ltK];simp
 trans x y z h1 h2:=by rw [ltK] at *;simp at *;omega
 ntrans x y z h1 h2:=by rw [ltK] at *;simp at *;omega
theorem totK (x y:K64) (h1:ltOf cfK x y=false) (h2:ltOf cfK y x=false):x=y:=by
 rw [ltK] at *;simp at h1 h2;exact Subtype.ext (kW_inj x.2.1 y.2.1 (by omega))
theorem geK:(fun x y:K64=>!ltOf cfK y x)=fun x y=>leK x.1 y.1:=by
 funext x y
 rw [ltK];unfold leK
 by_cases h:kW x.1≤kW y.1
 · have h':¬ kW y.1<kW x.1:=by omega
   simp [h,h']
 · have h':kW y.1<kW x.1:=by omega
   simp [h,h']
theorem cmpK (blk off size:Nat) (w:World):CmpReads Tryz.prog 106 #[] encK cfK blk off size w:=fun _ _ _ _ x y=>(order13s x.2.1 y.2.1 x.2.2 y.2.2 _).mono fun e w' ⟨he,hw⟩=>⟨he,0,hw⟩
theorem sortsF:SortsF:=by
 intro xs g c w hne hW hf hl hg hc hz;obtain ⟨L,hL⟩:∃ L:List K64,L=xs.pmap (fun x h=>(⟨x,h⟩:K64)) (fun x hx=>⟨hW x hx,hf x hx⟩):=⟨_,rfl⟩
 have hv:L.map (·.1)=xs:=by rw [hL,List.map_pmap];simp
 have hlen:L.length=xs.length:=by rw [←hv];simp
 have hsz:L.toArray.size=xs.length:=by simpa using hlen
 have hH:Holds encK w g 0 L.toArray:=by
  intro j hj;rw [hsz] at hj;refine ⟨?_,hz j hj⟩;rw [hc j hj];have hjl:j<L.length:=by omega
  have e:L.toArray[j]! =L[j]:=by rw [getElem!_pos _ j (by rw [hsz];exact hj)];simp
  rw [e];unfold encK;have h9:(L.map (·.1))[j]?=xs[j]?:=by rw [hv]
  rw [List.getElem?_map,List.getElem?_eq_getElem hjl] at h9
  rw [List.getD_eq_getElem?_getD,←h9];rfl
 have eg:∀ args w,(callFunc 106 args).run Tryz.prog w=.ok (.enter 106 args) w:=enters_of Tryz.func106 (by kernel_rfl) rfl
 have hS:=Any.slices_SortFunc_total sortL encK (fun _=>rfl) cfK swoK 106 #[] g 0 c L.toArray w eg (cmpK g 0 L.toArray.size w).lays hH hg (by rw [hsz];omega) totK
 rw [geK,hsz] at hS
 change Calls Tryz.prog 105 _ _ _ at hS
 refine hS.mono ?_;rintro e w' ⟨rfl,m,os,hw⟩
 have hys:((L.mergeSort fun x y=>leK x.1 y.1).map (·.1))=srt xs:=by
  unfold srt;rw [←hv];exact List.map_mergeSort (fun a _ b _=>rfl)
 obtain ⟨Y,hY⟩:∃ Y,L.mergeSort (fun x y=>leK x.1 y.1)=Y:=⟨_,rfl⟩
 have hYl:Y.length=xs.length:=by rw [←hY,List.length_mergeSort,hlen]
 have hw2:w'=grow ((w.drewN m).setCells g 0 (Y.map encK)) os:=by
  rw [hw]
  show sortWorld encK w g 0 m (L.mergeSort fun x y=>leK x.1 y.1).toArray os=_
  rw [hY];exact Lib.sorted_world encK w g 0 m L.toArray Y os hH (by rw [hYl,hsz])
 rw [hY] at hys;have hb:But g w ((w.drewN m).setCells g 0 (Y.map encK)):=But.setCells _ _ (show But g w (w.drewN m) from ⟨rfl,rfl,rfl,Nat.le_refl _,fun _ _ _=>rfl⟩)
 have hs2:((w.drewN m).setCells g 0 (Y.map encK)).heap.size=w.heap.size:=Go.Sort.size_setCells g _ 0 (w.drewN m);refine ⟨rfl,⟨by rw [hw2];unfold grow;simp;omega,fun j hj=>?_⟩,fun B hB hB2=>?_⟩
 · rw [hw2,cell?_grow _ os _ (by rw [hs2];exact hg)]
   have hj2:j<(Y.map encK).length:=by rw [List.length_map];omega
   rw [World.cell?_setCells_in g (Y.map encK) 0 (w.drewN m) (fun i hi=>by rw [List.length_map] at hi;rw [World.cell?_drewN,hc i (by omega)];rfl) j hj2]
   have h9:(Y.map (·.1))[j]?=(srt xs)[j]?:=by rw [hys]
   rw [List.getElem?_map,List.getElem?_eq_getElem (show j<Y.length by omega)] at h9
   rw [List.getD_eq_getElem?_getD,←h9,List.getElem_map];rfl
 · have h0:Below B w ((w.drewN m).setCells g 0 (Y.map encK)):=But.below (Below.refl B w) hb hB2 hB
   rw [hw2];refine ⟨h0.os,h0.tape,h0.output,by unfold grow;simp,fun k hk=>?_⟩
   rw [heap_grow_old _ os (by rw [hs2];omega)]
   exact h0.block k hk
end
section
open Go.RowKit J
attribute [local go_sem] st_float
theorem sS_smallT {xs:List Nat}(hW:W64 xs) (hl:xs.length≤65536):(0≤(sS xs).n∧(sS xs).n≤65536)∧(0≤(sS xs).u∧(sS xs).u≤65536)∧(0≤(sS xs).d∧(sS xs).d≤65536)∧(sS xs).a=xs.length∧(sS xs).a-(sS xs).n-(sS xs).u-(sS xs).d=(Ps.fin xs).length:=by
 rw [sS_cn hW];have h:=fun k=>List.countP_le_length (p:=fun x=>kd x==k) (l:=xs)
 have h5:=h 5;have h3:=h 3;have h4:=h 4;have hf:=fin_count (xs:=xs);unfold Ps.cn at *;refine ⟨⟨?_,?_⟩,⟨?_,?_⟩,⟨?_,?_⟩,rfl,?_⟩ <;> (simp only;omega)
theorem plE_finT {xs:List Nat}(hW:W64 xs) (hl:xs.length≤65536):(plE xs=0↔∀ x ∈ xs,finW x)∧(plE xs=0∨plE xs=30):=by
 obtain ⟨b1,b2,b3,b4,b5⟩:=sS_smallT hW hl;unfold plE;rw [if_neg (by omega)]
 have key:(0<(sS xs).n∨0<(sS xs).u+(sS xs).d)↔¬ ∀ x ∈ xs,finW x:=by
  have hf:(Ps.fin xs).length=xs.length↔∀ x ∈ xs,finW x:=by
   constructor
   · intro h x hx
     have:Ps.fin xs=xs:=by
      have:=List.filter_sublist (p:=fun x=>decide (kd x≤2)) (l:=xs)
      exact this.eq_of_length h
     exact fin_all hW x (by rw [this];exact hx)
   · intro h;rw [fin_id hW h]
  rw [←hf];omega
 by_cases h:0<(sS xs).n∨0<(sS xs).u+(sS xs).d
 · rw [if_pos h]
   exact ⟨⟨fun q=>absurd q (by decide),fun q=>absurd q (key.1 h)⟩,.inr rfl⟩
 · rw [if_neg h]
   refine ⟨⟨fun _=>?_,fun _=>rfl⟩,.inl rfl⟩
   by_cases q:∀ x ∈ xs,finW x
   · exact q
   · exact absurd (key.2 q) h
noncomputable def trR (xs:List Nat) (k mode:Int):Nat×Int :=
 if askE mode=0 then (if k<0 then (0,1) else if plE xs=0 then (bsd (levR (trm xs k.toNat) (sS (trm xs k.toNat)) mode).2 (levR (trm xs k.toNat) (sS (trm xs k.toNat)) mode).1,(levR (trm xs k.toNat) (sS (trm xs k.toNat)) mode).2) else (0,plE xs)) else (0,askE mode)
theorem plE_len {xs:List Nat}(h:plE xs=0):xs.length≤65536:=by
 unfold plE at h
 by_cases q:65536<xs.length
 · rw [if_pos q] at h;exact absurd h (by decide)
 · omega
theorem Trimmed13 (HS:SortsF) (xs:List Nat) (a:Option Addr) (n c:Nat) (k mode:Int) (w:World) (hn:n=xs.length) (hF:Fs w.heap.size w a xs) (hW:W64 xs) (hl:n≤35184372088832) (hk:k≤9223372036854775807) (hT:Tab w) (z:Nat×Int) (hz:trR xs k mode=z) :
 Calls Tryz.prog 23 #[.slice a n c,.int .i64 k,.int .i64 mode] w fun r w'=>r=.returned (.tuple #[.float .f64 z.1,.int .i64 z.2])∧Below w.heap.size w w':=by
 obtain ⟨X,E⟩:=z;simp only;have hmf:∀ (fn:Fn) (first cap:Array Value) (w:World),(Instr.makeFunc fn first cap).run Tryz.prog w=.ok (.func fn first cap) w:=fun _ _ _ _=>rfl
 have HA:=hid (fun u:World=>asked13 mode u)
 unfold trR at hz;obtain ⟨ea,hea⟩:∃ e,askE mode=e:=⟨_,rfl⟩;rw [hea] at HA hz;obtain ⟨W,hWW⟩:∃ W,W=(w.alloc (Obj.cells #[.float .f64 0] 24)).alloc (Obj.cells #[.int .i64 0] 25):=⟨_,rfl⟩;obtain ⟨gx,hgx⟩:∃ g,g=w.heap.size:=⟨_,rfl⟩;obtain ⟨ge,hge⟩:∃ g,g=w.heap.size+1:=⟨_,rfl⟩;have HG:Aside (gx=w.heap.size∧ge=w.heap.size+1∧w.heap.size≤gx∧w.heap.size≤ge∧ge≠gx):=⟨hgx,hge,by omega,by omega,by omega⟩
 have B0:=two13 w;rw [←hWW,←hge] at B0;have B1:=qsd (seterr13 ea (show Bl W gx 24 [.float .f64 0] by rw [hgx];exact B0.1) B0.2.1 B0.2.2 HG.out.2.2.2.1 HG.out.2.2.2.2)
 have c1:=B0.2.1.cell 0 _ rfl;have f1:=B0.2.1.frozen 0;have HWW:=qsd hWW;have HX:=qsd (ai hn (ai hF (ai hW (ai hl (ai hk hT)))));clear hn hF hW hl hk hT hWW hea hgx hge B0;go_enter_defers Tryz.func23,Tryz.ntmps23
 go_wp2_with fail
 rw [←HWW.out]
 try rw [show w.heap.size+1=ge by have:=HG.out;omega]
 try rw [show w.heap.size=gx by have:=HG.out;omega]
 clear HWW;refine (HA.out _).mono ?_;rintro r v ⟨rfl,hv⟩;rw [hv];clear hv v
 by_cases h0:ea=0
 · subst h0
   rw [if_pos rfl] at hz;obtain ⟨V,hV⟩:∃ V,V=W.setCell ⟨ge,0,none⟩ (.int .i64 0):=⟨_,rfl⟩;rw [←hV] at B1;have r1:=B1.out.2.1.cell 0 _ rfl;have r2:=B1.out.2.1.frozen 0;have HV:=qsd hV;clear hV HA
   by_cases hk0:k<0
   · have hd:decide (k<0)=true:=by simp [hk0]
     rw [if_pos hk0] at hz;have HXE:=qsd (Prod.mk.inj hz);have B2:=qsd (seterr13 1 B1.out.1 B1.out.2.1 B1.out.2.2 HG.out.2.2.2.1 HG.out.2.2.2.2);clear hz
     go_upto_region 3 with fail
     rw [←HV.out];clear HV;go_wp2;refine early13 Tryz.results23 Trimmed1_d B2.out.1 B2.out.2.1 B2.out.2.2 HG.out.2.2.1 HG.out.2.2.2.2 ((bsd_zero _).trans HXE.out.1) HXE.out.2 (by simp [go_sem]) ?_ ?_ <;> rfl
   · have hd:decide (k<0)=false:=by simp;omega
     rw [if_neg hk0] at hz;have hTV:Tab V:=HX.out.2.2.2.2.2.belows B1.out.2.2;have HP:=hid (plain13 xs a n c V HX.out.1 ((HX.out.2.1.below B1.out.2.2).mono B1.out.2.2.size) HX.out.2.2.1 HX.out.2.2.2.1);obtain ⟨ep,hep⟩:∃ e,plE xs=e:=⟨_,rfl⟩;rw [hep] at HP hz;have HEP:=qsd hep;obtain ⟨⟨qn,qu,qd,qm,qp,qa⟩,hqs⟩:∃ s,sS xs=s:=⟨_,rfl⟩;rw [hqs] at HP;simp only [Sp.agg] at HP;have hk1:0≤k:=by omega
     clear hep hqs hTV hk0
     go_upto_region 3 with fail
     rw [←HV.out];clear HV
     go_wp2_with fail
     refine HP.out.mono ?_;rintro r v ⟨hr,hb⟩;have B3:Aside (Bl v gx 24 [.float .f64 0]∧Bl v ge 25 [.int .i64 0]∧Below w.heap.size w v):=⟨B1.out.1.below hb B1.out.1.lt,B1.out.2.1.below hb B1.out.2.1.lt,B1.out.2.2.trans (hb.mono B1.out.2.2.size)⟩;have q1:=B3.out.2.1.cell 0 _ rfl;have q2:=B3.out.2.1.frozen 0;clear hb HP B1 r1 r2 c1 f1
     rcases hr with ⟨he,rfl⟩|⟨he,rfl⟩
     · unfold agg0
       rw [if_neg he] at hz;have HXE:=qsd (Prod.mk.inj hz);have h1:(ep==0)=false:=by simp [he]
       have B4:=qsd (seterr13 ep B3.out.1 B3.out.2.1 B3.out.2.2 HG.out.2.2.2.1 HG.out.2.2.2.2);clear hz;go_wp2;refine early13 Tryz.results23 Trimmed1_d B4.out.1 B4.out.2.1 B4.out.2.2 HG.out.2.2.1 HG.out.2.2.2.2 ((bsd_zero _).trans HXE.out.1) HXE.out.2 (by simp [go_sem]) ?_ ?_ <;> rfl
     · subst he
       rw [if_pos rfl] at hz;have B4:=qsd (seterr13 0 B3.out.1 B3.out.2.1 B3.out.2.2 HG.out.2.2.2.1 HG.out.2.2.2.2);obtain ⟨V2,hV2⟩:∃ V,V=v.setCell ⟨ge,0,none⟩ (.int .i64 0):=⟨_,rfl⟩;rw [←hV2] at B4;have HV2:=qsd hV2;have hlen:=plE_len HEP.out;have HFin:=qsd ((plE_finT HX.out.2.2.1 hlen).1.1 HEP.out);have HI:=hid (inner13 HS xs a n c k V2 HX.out.1 ((HX.out.2.1.below B4.out.2.2).mono B4.out.2.2.size) HX.out.2.2.1 HFin.out (by have:=HX.out.1;omega) hk1 HX.out.2.2.2.2.1)
       obtain ⟨ys,hys⟩:∃ y,trm xs k.toNat=y:=⟨_,rfl⟩
       have HY:Aside (W64 ys∧plE ys=0∧ys.length≤65536):=by
        have hWy:W64 ys:=fun x hx=>HX.out.2.2.1 x (by rw [←hys] at hx;exact trm_mem hx)
        have hly:ys.length≤65536:=by rw [←hys,trm_len];omega
        exact ⟨hWy,(plE_finT hWy hly).1.2 (fun x hx=>HFin.out x (by rw [←hys] at hx;exact trm_mem hx)),hly⟩
       rw [hys] at HI hz;have r1:=B4.out.2.1.cell 0 _ rfl;clear hys hV2 hlen HEP B3
       go_upto_region 7 with fail
       rw [←HV2.out];clear HV2 q1 q2
       go_wp2_with fail
       refine HI.out.mono ?_;rintro r v ⟨⟨ao,co,rfl,hFy,hlo⟩,hb⟩;have B5:Aside (Bl v gx 24 [.float .f64 0]∧Bl v ge 25 [.int .i64 0]∧Below w.heap.size w v∧Fs v.heap.size v ao ys∧∀ b o p,ao=some ⟨b,o,p⟩→b≠ge):=⟨B4.out.1.below hb B4.out.1.lt,B4.out.2.1.below hb B4.out.2.1.lt,B4.out.2.2.trans (hb.mono B4.out.2.2.size),hFy,fun b o p h=>by have:=hlo b o p h;have:=B4.out.2.1.lt;omega⟩
       clear hb HI hFy hlo r1 B4;obtain ⟨ny,hny⟩:∃ m,m=ys.length:=⟨_,rfl⟩;have HP:=hid (plain13 ys ao ny co v hny B5.out.2.2.2.1 HY.out.1 (by have:=HY.out.2.2;omega))
       obtain ⟨⟨sn,su,sd,sm,sp,sa⟩,hs⟩:∃ s,sS ys=s:=⟨_,rfl⟩;rw [HY.out.2.1,hs] at HP;rw [hs] at hz;simp only [Sp.agg] at HP;rw [←hny];have HNY:=qsd hny;clear hny hs
       go_wp2_with fail
       refine HP.out.mono ?_;rintro r v5 ⟨hr,hb⟩
       obtain rfl:r=.returned (.tuple #[.agg #[.int .i64 sn,.int .i64 su,.int .i64 sd,.int .i64 sm,.int .i64 sp,.int .i64 sa],.int .i64 0]):=by
        rcases hr with ⟨he,_⟩|⟨_,hr⟩
        · exact absurd rfl he
        · exact hr
       have B6:Aside (Bl v5 gx 24 [.float .f64 0]∧Bl v5 ge 25 [.int .i64 0]∧Below w.heap.size w v5∧Fs v5.heap.size v5 ao ys∧∀ b o p,ao=some ⟨b,o,p⟩→b≠ge):=⟨B5.out.1.below hb B5.out.1.lt,B5.out.2.1.below hb B5.out.2.1.lt,B5.out.2.2.1.trans (hb.mono B5.out.2.2.1.size),(B5.out.2.2.2.1.below hb).mono hb.size,B5.out.2.2.2.2⟩;clear hb HP B5 hr;have q1:=B6.out.2.1.cell 0 _ rfl;have q2:=B6.out.2.1.frozen 0;have hlt:=B6.out.2.1.lt;obtain ⟨Z,hZ⟩:∃ U,U=(v5.setCell ⟨ge,0,none⟩ (.int .i64 0)).alloc (Obj.cells #[.int .i64 sn,.int .i64 su,.int .i64 sd,.int .i64 sm,.int .i64 sp,.int .i64 sa] 51):=⟨_,rfl⟩;have B7:=qsd (stored13 B6.out.1 B6.out.2.1 B6.out.2.2.1 HG.out.2.2.2.1 HG.out.2.2.2.2 HX.out.2.2.2.2.2 B6.out.2.2.2.1 B6.out.2.2.2.2 0 sn su sd sm sp sa Z hZ);obtain ⟨gs,hgs⟩:∃ g,v5.heap.size=g:=⟨_,rfl⟩;rw [hgs] at B7;have r1:=B7.out.2.1.cell 0 _ rfl;have s0:=B7.out.2.2.1.cell 0 _ rfl;have s1:=B7.out.2.2.1.cell 1 _ rfl;have s2:=B7.out.2.2.1.cell 2 _ rfl;have s3:=B7.out.2.2.1.cell 3 _ rfl;have s4:=B7.out.2.2.1.cell 4 _ rfl;have s5:=B7.out.2.2.1.cell 5 _ rfl;obtain ⟨⟨xl,el⟩,hll⟩:∃ z,levR ys ⟨sn,su,sd,sm,sp,sa⟩ mode=z:=⟨_,rfl⟩;rw [hll] at hz;have hz1:(bsd el xl,el)=(X,E):=hz;obtain ⟨hX,hE⟩:=Prod.mk.inj hz1;have HL:=hid (level13 ys ao ny co sn su sd sm sp sa mode Z HNY.out B7.out.2.2.2.2.2 HY.out.1 B7.out.2.2.2.2.1 (by have:=HY.out.2.2;have:=HNY.out;omega) (xl,el) hll)
       simp only at HL;have HXE:=qsd (ai hX hE);have HZ:=qsd hZ;have HGS:=qsd hgs;clear hZ hz hz1 hX hE hll hgs B6
       go_upto_region 10 with fail
       rw [←HZ.out,HGS.out];clear HZ HGS q1 q2 hlt
       go_wp2_with fail
       refine HL.out.mono ?_;rintro r v4 ⟨rfl,hb⟩
       have B8:Aside (Bl v4 gx 24 [.float .f64 0]∧Bl v4 ge 25 [.int .i64 0]∧Below w.heap.size w v4) :=
        ⟨B7.out.1.below hb B7.out.1.lt,B7.out.2.1.below hb B7.out.2.1.lt,B7.out.2.2.2.1.trans (hb.mono B7.out.2.2.2.1.size)⟩
       have t1:=B8.out.1.cell 0 _ rfl;have t2:=B8.out.1.frozen 0;have t3:=B8.out.2.1.cell 0 _ rfl;have t4:=B8.out.2.1.frozen 0;have hne1:ge≠gx:=HG.out.2.2.2.2;have hne2:gx≠ge:=fun h=>HG.out.2.2.2.2 h.symm
       clear hb B7 HL s0 s1 s2 s3 s4 s5;go_wp2;refine finish13 Tryz.results23 Trimmed1_d B8.out.1 B8.out.2.1 B8.out.2.2 HG.out.2.2.1 HG.out.2.2.2.1 HG.out.2.2.2.2 HXE.out.1 HXE.out.2 (fun _=>by simp [go_sem]) ?_ ?_ <;> rfl
 · rw [if_neg h0] at hz
   have HXE:=qsd (Prod.mk.inj hz);have h1:(ea==0)=false:=by simp [h0]
   clear hz HA;go_wp2;refine early13 Tryz.results23 Trimmed1_d B1.out.1 B1.out.2.1 B1.out.2.2 HG.out.2.2.1 HG.out.2.2.2.2 ((bsd_zero _).trans HXE.out.1) HXE.out.2 (by simp [go_sem]) ?_ ?_ <;> rfl
end
namespace B
open Go.RowKit
attribute [local go_sem] f64bits f64frombits
theorem ret_i13 {a b:Int}(h:a=b):Ending.returned (.int .i64 a)=.returned (.int .i64 b):=by rw [h]
theorem place_neg (X:Nat) (b k:Int) (h0:9223372036854775808≤b) (h1:b<18446744073709551616) (hk:Hid (k=-1-(b-9223372036854775808)))
 (H1:Hid (∀ w,Calls Tryz.prog 165 #[.float .f64 X] w fun r w'=>r=.returned (.int .u64 b)∧w'=w)) (w:World) :
 Calls Tryz.prog 145 #[.float .f64 X] w fun r w'=>r=.returned (.int .i64 k)∧w'=w:=by
 go_enter Tryz.func145,Tryz.ntmps145
 go_wp2_with (go_at_call 165;refine (H1.out _).mono ?_;rintro r w1 ⟨rfl,rfl⟩)
 go_ret;exact ⟨ret_i13 (by have:=hk.out;omega),rfl⟩
theorem place_pos (X:Nat) (b k:Int) (h0:0≤b) (h1:b<9223372036854775808) (hk:Hid (k=b))
 (H1:Hid (∀ w,Calls Tryz.prog 165 #[.float .f64 X] w fun r w'=>r=.returned (.int .u64 b)∧w'=w)) (w:World) :
 Calls Tryz.prog 145 #[.float .f64 X] w fun r w'=>r=.returned (.int .i64 k)∧w'=w:=by
 go_enter Tryz.func145,Tryz.ntmps145
 go_wp2_with (go_at_call 165;refine (H1.out _).mono ?_;rintro r w1 ⟨rfl,rfl⟩)
 go_ret;exact ⟨ret_i13 (by have:=hk.out;omega),rfl⟩
theorem place_any (s:Bool) (e f:Nat) (he:e<2048) (hf:f<4503599627370496) (w:World) :
 Calls Tryz.prog 145 #[.float .f64 (bw s e f)] w fun r w'=>r=.returned (.int .i64 (ky s e f))∧w'=w:=by
 have hB:=rBits_any s e f he hf
 cases ho:odd e f
 · rw [cb_else s e f (not_odd e f ho)] at hB
   have hl:=bw_lt s e f he hf;rw [ky_else s e f ho]
   cases s
   · refine place_pos _ _ _ (by omega) ?_ ?_ hB w
     · unfold bw;simp only [Bool.toNat_false];omega
     · show _=_
       unfold bw;simp only [Bool.toNat_false,Bool.false_eq_true,if_false];omega
   · refine place_neg _ _ _ ?_ (by omega) ?_ hB w
     · unfold bw;simp only [Bool.toNat_true];omega
     · show _=_
       unfold bw;simp only [Bool.toNat_true,if_true];omega
 · rw [cb_odd s e f (is_odd e f ho)] at hB
   rw [ky_odd s e f ho];exact place_pos _ 9221120237041090560 _ (by omega) (by omega) rfl hB w
theorem rorder_core (X Y:Nat) (a b c:Int) (hc:a<b∧c=-1∨b<a∧c=1∨a=b∧c=0)
 (H1:Hid (∀ w,Calls Tryz.prog 145 #[.float .f64 X] w fun r w'=>r=.returned (.int .i64 a)∧w'=w))
 (H2:Hid (∀ w,Calls Tryz.prog 145 #[.float .f64 Y] w fun r w'=>r=.returned (.int .i64 b)∧w'=w)) (w:World) :
 Calls Tryz.prog 107 #[.float .f64 X,.float .f64 Y] w fun r w'=>r=.returned (.int .i64 c)∧w'=w:=by
 rcases hc with ⟨h1,rfl⟩|⟨h1,rfl⟩|⟨h1,rfl⟩
 · go_enter Tryz.func107,Tryz.ntmps107
   go_wp2_with fail
   refine (H1.out _).mono ?_;rintro r w1 ⟨rfl,rfl⟩
   go_wp2_with fail
   refine (H2.out _).mono ?_;rintro r w2 ⟨rfl,rfl⟩
   go_wp2_with fail
   go_ret;exact ⟨rfl,rfl⟩
 · have h2:¬ a<b:=by omega
   go_enter Tryz.func107,Tryz.ntmps107
   go_wp2_with fail
   refine (H1.out _).mono ?_;rintro r w1 ⟨rfl,rfl⟩
   go_wp2_with fail
   refine (H2.out _).mono ?_;rintro r w2 ⟨rfl,rfl⟩
   go_wp2_with fail
   go_ret;exact ⟨rfl,rfl⟩
 · subst h1
   go_enter Tryz.func107,Tryz.ntmps107
   go_wp2_with fail
   refine (H1.out _).mono ?_;rintro r w1 ⟨rfl,rfl⟩
   go_wp2_with fail
   refine (H2.out _).mono ?_;rintro r w2 ⟨rfl,rfl⟩
   go_wp2_with fail
   go_ret;exact ⟨rfl,rfl⟩
theorem rorder_any (s t:Bool) (e f u v:Nat) (he:e<2048) (hf:f<4503599627370496) (hu:u<2048) (hv:v<4503599627370496) (w:World) :
 Calls Tryz.prog 107 #[.float .f64 (bw s e f),.float .f64 (bw t u v)] w fun r w'=>r=.returned (.int .i64 (oc (ky s e f) (ky t u v)))∧w'=w:=by
 refine rorder_core _ _ (ky s e f) (ky t u v) _ ?_ (place_any s e f he hf) (place_any t u v hu hv) w;unfold oc
 by_cases h:ky s e f<ky t u v
 · rw [if_pos h];exact Or.inl ⟨h,rfl⟩
 · rw [if_neg h]
   by_cases h2:ky t u v<ky s e f
   · rw [if_pos h2];exact Or.inr (Or.inl ⟨h2,rfl⟩)
   · rw [if_neg h2];exact Or.inr (Or.inr ⟨by omega,rfl⟩)
end B
section
open Go.RowKit J
theorem rorder13 {x y:Nat}(hx:x<18446744073709551616) (hy:y<18446744073709551616) (fx:finW x) (fy:finW y) (w:World) :
 Calls Tryz.prog 107 #[.float .f64 x,.float .f64 y] w fun r w'=>r=.returned (.int .i64 (B.oc (kW x) (kW y)))∧w'=w:=by
 obtain ⟨s,e,f,h1,h2,h3,h4⟩:=ky_kW hx fx;obtain ⟨t,u,v,i1,i2,i3,i4⟩:=ky_kW hy fy;have h:=B.rorder_any s t e f u v h1 h2 i1 i2 w;rw [h4,i4,←h3,←i3] at h;exact h
end
section
open Go.RowKit J
attribute [local go_sem] st_float
theorem srt_one (x:Nat):srt [x]=[x]:=List.mergeSort_singleton x
theorem srt_merge {xs:List Nat}(hW:W64 xs) (h:Nat):List.merge (srt (xs.take h)) (srt (xs.drop h)) leK=srt xs:=by
 have hp:(List.merge (srt (xs.take h)) (srt (xs.drop h)) leK).Perm xs:=by
  refine (List.merge_perm_append leK).trans (((srt_perm _).append (srt_perm _)).trans ?_);rw [List.take_append_drop]
 refine List.Perm.eq_of_pairwise (le:=fun a b=>leK a b=true) (fun a b ha hb h1 h2=>?_) (List.pairwise_merge leK_trans leK_total _ _ (srt_sorted _) (srt_sorted _)) (srt_sorted xs) (hp.trans (srt_perm xs).symm)
 unfold leK at h1 h2;simp only [decide_eq_true_eq] at h1 h2;exact kW_inj (hW a (hp.mem_iff.1 ha)) (hW b ((srt_perm xs).mem_iff.1 hb)) (by omega)
theorem drop_at {A:List Nat}{i:Nat}(h:i<A.length):A.drop i=A.getD i 0::A.drop (i+1):=by
 rw [List.drop_eq_getElem_cons h,List.getD_eq_getElem?_getD,List.getElem?_eq_getElem h];rfl
theorem mgA {A B:List Nat}{i k:Nat}(hi:i<A.length) (h:k=B.length∨(k<B.length∧leK (A.getD i 0) (B.getD k 0)=true)):List.merge (A.drop i) (B.drop k) leK=A.getD i 0::List.merge (A.drop (i+1)) (B.drop k) leK:=by
 rw [drop_at hi]
 rcases h with rfl|⟨hk,h⟩
 · rw [List.drop_length,List.merge_right,List.merge_right]
 · rw [drop_at hk,List.cons_merge_cons,if_pos h]
theorem mgB {A B:List Nat}{i k:Nat}(hk:k<B.length) (h:i=A.length∨(i<A.length∧leK (A.getD i 0) (B.getD k 0)=false)):List.merge (A.drop i) (B.drop k) leK=B.getD k 0::List.merge (A.drop i) (B.drop (k+1)) leK:=by
 rw [drop_at hk]
 rcases h with rfl|⟨hi,h⟩
 · rw [List.drop_length,List.nil_merge,List.nil_merge]
 · rw [drop_at hi,List.cons_merge_cons,if_neg (by rw [h];decide)]
theorem own_base {w:World}{lo lo' n:Nat}{t:TypeId}{v:Value}{L:List Value}(h:w.ownsRow lo t 1 v n L) (hl:lo'≤lo):w.ownsRow lo' t 1 v n L:=by
 refine ⟨h.1,?_⟩
 rcases h.2 with q|⟨g,cap,cur,h1,h2,h3⟩
 · exact .inl q
 · exact .inr ⟨g,cap,cur,h1,by omega,h3⟩
theorem getD_mem {A:List Nat}{i:Nat}(h:i<A.length):A.getD i 0 ∈ A:=by rw [List.getD_eq_getElem?_getD,List.getElem?_eq_getElem h];exact List.getElem_mem _
def SrtD (xs:List Nat):Prop:=∀ (a:Option Addr) (c:Nat) (w:World),xs.length≤c→Fs w.heap.size w a xs →
 Calls Tryz.prog 63 #[.slice a xs.length c] w fun r w'=>(∃ v,r=.returned v∧w'.ownsRow w.heap.size 24 1 v (srt xs).length ((srt xs).map Fw10))∧Below w.heap.size w w'
theorem sorted_one (x:Nat):SrtD [x]:=by
 intro a c w hc hF;obtain ⟨i0,hi,hz0,hz1,hz2⟩:=info_parts Tryz.info_f64;obtain ⟨b,off,hb,rfl,hcell⟩:=hF (by simp)
 have A:=qsd hcell;rw [srt_one];clear hF hcell
 show Calls Tryz.prog 63 #[.slice (some ⟨b,off,none⟩) 1 c] w _
 go_enter Tryz.func63,Tryz.ntmps63
 go_wp2_with (at_builtin;refine wpList_append_own _ rfl _ _ 23 rfl w.heap.size 24 i0 (.float .f64 0) 1 8 Tryz.und_floats hi hz0 hz1 hz2 rfl (by decide) _ _ _ rfl (World.ownsRow_made w #[] 0 (Nat.le_refl _) (Nat.zero_le _) (by simp)) ⟨b,off,none⟩ 1 c ([x].map Fw10) rfl ?qc1 ?qc2 ?qc3 ?qc4 ?qc5 ?qc6 ?_)
 case qc1=>simp
 case qc2 =>
  intro j u hj;have hj2:j<[x].length:=by have:=(List.getElem?_eq_some_iff.1 hj).1;simpa using this
  rw [Addr.add_lit];refine Lib.cell?_alloc_some _ ?_
  rw [A.out j hj2,←hj,List.getElem?_map,List.getElem?_eq_getElem hj2,List.getD_eq_getElem?_getD,List.getElem?_eq_getElem hj2]
  rfl
 case qc3=>intro u hu;obtain ⟨x,_,rfl⟩:=List.mem_map.1 hu;rfl
 case qc4=>unfold maxLen;omega
 case qc5=>omega
 case qc6=>simp
 intro v' w1 hown hgrow hnil;go_wp2;go_ret;refine ⟨⟨v',rfl,?_⟩,?_⟩
 · simpa using hown
 · exact ((Below.refl _ w).alloc (Nat.le_refl _) _).grown hgrow (by simp) (by intro k hk;simp [Value.ownBlock] at hk;omega)
theorem sorted_two (xs:List Nat) (hn2:2≤xs.length) (hl:xs.length≤65536) (hW:W64 xs) (hf:∀ x ∈ xs,finW x) (h:Nat) (hh:h=xs.length/2) (H1:SrtD (xs.take h)) (H2:SrtD (xs.drop h)):SrtD xs:=by
 intro a c w hc hF;obtain ⟨n,hn⟩:∃ n,n=xs.length:=⟨_,rfl⟩;rw [←hn] at hn2 hl hc hh ⊢;obtain ⟨b,off,hb,rfl,hcell⟩:=hF (by intro e;rw [e] at hn;simp at hn;omega)
 have l1:(xs.take h).length=h:=by rw [List.length_take];omega
 have l2:(xs.drop h).length=n-h:=by rw [List.length_drop];omega
 have F1:Fs w.heap.size w (some ⟨b,off,none⟩) (xs.take h):=fun _=>⟨b,off,hb,rfl,fun i hi=>by
  rw [hcell i (by omega),List.getD_eq_getElem?_getD,List.getD_eq_getElem?_getD,List.getElem?_take,if_pos (by omega)]⟩
 have F2:Fs w.heap.size w (some ⟨b,off+h,none⟩) (xs.drop h):=fun _=>⟨b,off+h,hb,rfl,fun i hi=>by
  rw [Nat.add_assoc,hcell (h+i) (by omega),List.getD_eq_getElem?_getD,List.getD_eq_getElem?_getD,List.getElem?_drop]⟩
 have C1:=hid (H1 (some ⟨b,off,none⟩) c w (by omega) F1)
 have C2:=hid (fun (u:World) (hb:Below w.heap.size w u)=>H2 (some ⟨b,off+h,none⟩) (c-h) u (by omega) ((F2.below hb).mono hb.size))
 rw [l1] at C1;rw [l2] at C2
 have HW:Aside (W64 (srt (xs.take h))∧W64 (srt (xs.drop h))∧(∀ x ∈ srt (xs.take h),finW x)∧(∀ x ∈ srt (xs.drop h),finW x)∧List.merge (srt (xs.take h)) (srt (xs.drop h)) leK=srt xs) :=
  ⟨srt_W64 fun x hx=>hW x (List.mem_of_mem_take hx),srt_W64 fun x hx=>hW x (List.mem_of_mem_drop hx),srt_fin fun x hx=>hf x (List.mem_of_mem_take hx),srt_fin fun x hx=>hf x (List.mem_of_mem_drop hx),srt_merge hW h⟩
 have m1:(srt (xs.take h)).length=h:=by rw [srt_len,l1]
 have m2:(srt (xs.drop h)).length=n-h:=by rw [srt_len,l2]
 have m3:(srt xs).length=n:=by rw [srt_len,hn]
 obtain ⟨A,hA⟩:∃ A,srt (xs.take h)=A:=⟨_,rfl⟩;obtain ⟨Bs,hB⟩:∃ Bs,srt (xs.drop h)=Bs:=⟨_,rfl⟩;obtain ⟨R,hR⟩:∃ R,srt xs=R:=⟨_,rfl⟩;obtain ⟨nb,hnb⟩:∃ nb,n-h=nb:=⟨_,rfl⟩;rw [hA] at m1 C1;rw [hB,hnb] at m2;rw [hB,hnb,m2] at C2;rw [m1] at C1;rw [hR] at m3;rw [hA,hB,hR] at HW;rw [hR,m3];have hhc:h<c:=by omega
 have hnc:n≤c:=hc;have d2:decide ((n:Int)<2)=false:=by simp;omega
 have hn6:n<65537:=by omega
 have HM:=(qsd (ai m1 (ai m2 (ai m3 (ai hh (ai hl (ai hnb hn)))))));clear hF hcell F1 F2 l1 l2 m1 m2 m3 hA hB hR H1 H2 hW hf hnb hn hl hc hb hn2;subst hh;go_enter Tryz.func63,Tryz.ntmps63
 go_upto_region 3 with fail
 clear d2
 go_wp2_with fail
 refine C1.out.mono ?_;rintro r u1 ⟨⟨v1,rfl,hO1⟩,hb1⟩;obtain ⟨ao,co,rfl,hco,hFA⟩:=own_fs10 hO1 HM.out.1.symm;have B1:=(qsd (ai hb1 hFA));clear hb1 hFA hO1 C1;replace C2:=hid (C2.out u1 B1.out.1)
 go_upto_region 4 with fail
 go_wp2_with fail
 rw [HM.out.2.2.2.2.2.1];refine C2.out.mono ?_;rintro r u2 ⟨⟨v2,rfl,hO2⟩,hb2⟩;obtain ⟨bo,do',rfl,hdo,hFB⟩:=own_fs10 hO2 HM.out.2.1.symm;have B2:Aside (Below w.heap.size w u2∧Fs u2.heap.size u2 ao A∧Fs u2.heap.size u2 bo Bs):=⟨B1.out.1.trans (hb2.mono B1.out.1.size),(B1.out.2.below hb2).mono hb2.size,hFB⟩;clear hb2 hFB hO2 C2 B1;obtain ⟨na,hna⟩:∃ na,n/2=na:=⟨_,rfl⟩
 have HN:Aside (na+nb=n∧A.length=na∧Bs.length=nb∧R.length=n):=by
  have:=HM.out.2.2.2.2.2.1;exact ⟨by omega,HM.out.1.trans hna,HM.out.2.1,HM.out.2.2.1⟩
 have HNA:=qsd hna;have HBw:=qsd B2.out.1.size;have hnb6:nb<65537:=by have:=HN.out.1;omega
 have hna6:na<65537:=by have:=HN.out.1;omega
 clear hna HM hhc;go_wp2;rw [HNA.out];clear HNA
 go_loopg [5,6,7] n (fun gk ov iv kv wr=>∃ (i k:Nat) (O:List Nat) (v:Value),gk+(i+k)=n∧i≤na∧k≤nb∧iv=.int .i64 (i:Nat)∧kv=.int .i64 (k:Nat)∧ov=v∧Aside (wr.ownsRow u2.heap.size 24 1 v O.length (O.map Fw10)∧Below w.heap.size w wr∧Below u2.heap.size u2 wr∧O++List.merge (A.drop i) (Bs.drop k) leK=R∧O.length=i+k))
 case atStart=>exact ⟨0,0,[],.slice none 0 0,by omega,by omega,by omega,by simp,by simp,rfl,World.ownsRow_nil _ _ _ _,B2.out.1,Below.refl _ _,by simpa using HW.out.2.2.2.2,rfl⟩
 case round =>
  obtain ⟨i,k,O,v,hgk,hi,hk,rfl,rfl,hv,HA⟩:=hrel;have hv':=hv.symm;clear hv;subst hv';have hib:i<4611686018427387904:=by omega
  have hkb:k<4611686018427387904:=by omega
  by_cases hia:i=na
  · by_cases hkn:k=nb
    · obtain rfl:=hia
      obtain rfl:=hkn
      have HR:Aside (O=R∧O.length=n):=by
       have h1:=HA.out.2.2.2.1;rw [List.drop_of_length_le (by have:=HN.out;omega),List.drop_of_length_le (by have:=HN.out;omega),List.nil_merge,List.append_nil] at h1
       exact ⟨h1,by rw [h1];exact HN.out.2.2.2⟩
      have e1:decide ((i:Int)<i)=false:=by simp
      have e2:decide ((k:Int)<k)=false:=by simp
      go_wp2;go_ret;have h1:=HA.out.1;rw [HR.out.2,HR.out.1] at h1;exact ⟨⟨v,rfl,own_base h1 HBw.out⟩,HA.out.2.1⟩
    · have e1:decide ((i:Int)<na)=false:=by simp;omega
      have e9:¬ i<na:=by omega
      have e8:¬ (i:Int)<na:=by omega
      have e7:na≤i:=by omega
      have HK9:Aside (k<nb):=by have:k<nb:=by omega
                                exact this
      have e2:decide ((k:Int)<nb)=true:=by simp;omega
      have e3:((k:Int)==nb)=false:=by rw [beq_eq_false_iff_ne];omega
      obtain ⟨bb,ob,rfl,hcb⟩:=B2.out.2.2.at HA.out.2.2.1 k (by have:=HN.out;omega)
      obtain ⟨y,hy⟩:∃ y,y=Bs.getD k 0:=⟨_,rfl⟩;rw [←hy] at hcb;obtain ⟨v',w',r1,r2,r3,r4⟩:=append10 u2.heap.size v O y wr.drew HA.out.1 HA.out.2.2.1.size (by have:=HA.out.2.2.2.2;omega)
      have HR:=qsd r1
      have HNx:Aside (w'.ownsRow u2.heap.size 24 1 v' (O++[y]).length ((O++[y]).map Fw10)∧Below w.heap.size w w'∧Below u2.heap.size u2 w'∧(O++[y])++List.merge (A.drop i) (Bs.drop (k+1)) leK=R∧(O++[y]).length=i+(k+1)):=by
       have r5:Below u2.heap.size wr w':=(Below.refl u2.heap.size wr).drew.trans r3;refine ⟨r2,HA.out.2.1.trans (r5.mono HBw.out),HA.out.2.2.1.trans r5,?_,by rw [List.length_append,HA.out.2.2.2.2];simp;omega⟩
       have h1:=HA.out.2.2.2.1;rw [mgB (by have:=HN.out;omega) (.inl (by have:=HN.out;omega)),←hy] at h1
       rw [←h1];simp
      clear r1 r2 r3 r4 HA hy hia hkn
      go_upto_region 9 with fail
      go_region
      all_goals
       go_wp2_with (at_builtin;refine wpList_append10 rfl (.tmp 67) (.tmp 72) 23 rfl _ _ rfl rfl _ _ HR.out ?_)
       go_roundg (gk-1)
       case measure=>have:=HN.out;have:=HK9.out;omega
       case rel=>exact ⟨i,k+1,_,_,by have:=HN.out;have:=HK9.out;omega,by have:=HN.out;omega,by have:=HN.out;have:=HK9.out;omega,by first | rfl | simp,by first | rfl | simp,rfl,HNx.out⟩
  · have e1:decide ((i:Int)<na)=true:=by simp;omega
    by_cases hkn:k=nb
    · have e3:((k:Int)==nb)=true:=by rw [hkn];simp
      obtain ⟨ba,oa,rfl,hca⟩:=B2.out.2.1.at HA.out.2.2.1 i (by have:=HN.out;omega)
      obtain ⟨x,hx⟩:∃ x,x=A.getD i 0:=⟨_,rfl⟩;rw [←hx] at hca;obtain ⟨v',w',r1,r2,r3,r4⟩:=append10 u2.heap.size v O x wr.drew HA.out.1 HA.out.2.2.1.size (by have:=HA.out.2.2.2.2;omega)
      have HR:=qsd r1
      have HNx:Aside (w'.ownsRow u2.heap.size 24 1 v' (O++[x]).length ((O++[x]).map Fw10)∧Below w.heap.size w w'∧Below u2.heap.size u2 w'∧(O++[x])++List.merge (A.drop (i+1)) (Bs.drop k) leK=R∧(O++[x]).length=i+1+k):=by
       have r5:Below u2.heap.size wr w':=(Below.refl u2.heap.size wr).drew.trans r3;refine ⟨r2,HA.out.2.1.trans (r5.mono HBw.out),HA.out.2.2.1.trans r5,?_,by rw [List.length_append,HA.out.2.2.2.2];simp;omega⟩
       have h1:=HA.out.2.2.2.1;rw [mgA (by have:=HN.out;omega) (.inl (by have:=HN.out;omega)),←hx] at h1
       rw [←h1];simp
      clear hkn;clear r1 r2 r3 r4 HA hx
      go_upto_region 9 with fail
      go_region
      all_goals
       go_wp2_with (at_builtin;refine wpList_append10 rfl (.tmp 58) (.tmp 63) 23 rfl _ _ rfl rfl _ _ HR.out ?_)
       go_roundg (gk-1)
       case measure=>have:=HN.out;omega
       case rel=>exact ⟨i+1,k,_,_,by have:=HN.out;omega,by have:=HN.out;omega,by have:=HN.out;omega,by first | rfl | simp,by first | rfl | simp,rfl,HNx.out⟩
    · have e2:decide ((k:Int)<nb)=true:=by simp;omega
      have e3:((k:Int)==nb)=false:=by rw [beq_eq_false_iff_ne];omega
      by_cases hle:leK (A.getD i 0) (Bs.getD k 0)=true
      · have hle0:=hle
        obtain ⟨ba,oa,rfl,hca⟩:=B2.out.2.1.at HA.out.2.2.1 i (by have:=HN.out;omega)
        obtain ⟨bb,ob,rfl,hcb⟩:=B2.out.2.2.at HA.out.2.2.1 k (by have:=HN.out;omega)
        obtain ⟨x,hx⟩:∃ x,x=A.getD i 0:=⟨_,rfl⟩;rw [←hx] at hca;obtain ⟨y,hy⟩:∃ y,y=Bs.getD k 0:=⟨_,rfl⟩;rw [←hy] at hcb;rw [←hx,←hy] at hle;have HO:=hid (fun u:World=>rorder13 (x:=x) (y:=y) (by rw [hx];exact HW.out.1.get i) (by rw [hy];exact HW.out.2.1.get k) (by rw [hx];exact HW.out.2.2.1 _ (getD_mem (by have:=HN.out;omega))) (by rw [hy];exact HW.out.2.2.2.1 _ (getD_mem (by have:=HN.out;omega))) u)
        obtain ⟨v',w',r1,r2,r3,r4⟩:=append10 u2.heap.size v O x wr.drew HA.out.1 HA.out.2.2.1.size (by have:=HA.out.2.2.2.2;omega)
        have HR:=qsd r1
        have HNx:Aside (w'.ownsRow u2.heap.size 24 1 v' (O++[x]).length ((O++[x]).map Fw10)∧Below w.heap.size w w'∧Below u2.heap.size u2 w'∧(O++[x])++List.merge (A.drop (i+1)) (Bs.drop k) leK=R∧(O++[x]).length=i+1+k):=by
         have r5:Below u2.heap.size wr w':=(Below.refl u2.heap.size wr).drew.trans r3;refine ⟨r2,HA.out.2.1.trans (r5.mono HBw.out),HA.out.2.2.1.trans r5,?_,by rw [List.length_append,HA.out.2.2.2.2];simp;omega⟩
         have h1:=HA.out.2.2.2.1;rw [mgA (by have:=HN.out;omega) (.inr ⟨by have:=HN.out;omega,hle0⟩),←hx] at h1
         rw [←h1];simp
        have hkk:kW x≤kW y:=by unfold leK at hle;simpa using hle
        have e4:decide (B.oc (kW x) (kW y)≤0)=true:=by
         rw [decide_eq_true_eq];unfold B.oc;split
         · decide
         · rw [if_neg (by omega)];decide
        obtain ⟨o,ho⟩:∃ o,B.oc (kW x) (kW y)=o:=⟨_,rfl⟩;rw [ho] at HO e4;clear ho hle hle0 hkk;have hi9:i<na:=by omega
        have hk9:k<nb:=by omega
        have hi8:(i:Int)<na:=by omega
        have hk8:(k:Int)<nb:=by omega
        have hi7:(0:Int)≤(i:Int):=by omega
        have hk7:(0:Int)≤(k:Int):=by omega
        clear r1 r2 r3 r4 HA hx hy hia hkn hi hk
        go_upto_region 9 with fail
        go_region_held3 (fun w'=>w'.cell? ⟨ba,oa+i,none⟩=some (.float .f64 x)∧w'.cell? ⟨bb,ob+k,none⟩=some (.float .f64 y)) (go_keep) (first | (go_at_call 107;refine (HO.out _).mono ?_;rintro r u ⟨rfl,rfl⟩))
        all_goals
         go_wp2_with (at_builtin;refine wpList_append10 rfl (.tmp 58) (.tmp 63) 23 rfl _ _ rfl rfl _ _ HR.out ?_)
         go_roundg (gk-1)
         case measure=>have:=HN.out;omega
         case rel=>exact ⟨i+1,k,_,_,by have:=HN.out;omega,by have:=HN.out;omega,by have:=HN.out;omega,by first | rfl | simp,by first | rfl | simp,rfl,HNx.out⟩
      · have hle0:leK (A.getD i 0) (Bs.getD k 0)=false:=by simpa using hle
        obtain ⟨ba,oa,rfl,hca⟩:=B2.out.2.1.at HA.out.2.2.1 i (by have:=HN.out;omega)
        obtain ⟨bb,ob,rfl,hcb⟩:=B2.out.2.2.at HA.out.2.2.1 k (by have:=HN.out;omega)
        obtain ⟨y,hy⟩:∃ y,y=Bs.getD k 0:=⟨_,rfl⟩;rw [←hy] at hcb;obtain ⟨x,hx⟩:∃ x,x=A.getD i 0:=⟨_,rfl⟩;rw [←hx] at hca;rw [←hx,←hy] at hle;have HO:=hid (fun u:World=>rorder13 (x:=x) (y:=y) (by rw [hx];exact HW.out.1.get i) (by rw [hy];exact HW.out.2.1.get k) (by rw [hx];exact HW.out.2.2.1 _ (getD_mem (by have:=HN.out;omega))) (by rw [hy];exact HW.out.2.2.2.1 _ (getD_mem (by have:=HN.out;omega))) u)
        obtain ⟨v',w',r1,r2,r3,r4⟩:=append10 u2.heap.size v O y wr.drew HA.out.1 HA.out.2.2.1.size (by have:=HA.out.2.2.2.2;omega)
        have HR:=qsd r1
        have HNx:Aside (w'.ownsRow u2.heap.size 24 1 v' (O++[y]).length ((O++[y]).map Fw10)∧Below w.heap.size w w'∧Below u2.heap.size u2 w'∧(O++[y])++List.merge (A.drop i) (Bs.drop (k+1)) leK=R∧(O++[y]).length=i+(k+1)):=by
         have r5:Below u2.heap.size wr w':=(Below.refl u2.heap.size wr).drew.trans r3;refine ⟨r2,HA.out.2.1.trans (r5.mono HBw.out),HA.out.2.2.1.trans r5,?_,by rw [List.length_append,HA.out.2.2.2.2];simp;omega⟩
         have h1:=HA.out.2.2.2.1;rw [mgB (by have:=HN.out;omega) (.inr ⟨by have:=HN.out;omega,hle0⟩),←hy] at h1
         rw [←h1];simp
        have hkk:¬ kW x≤kW y:=by unfold leK at hle;simpa using hle
        have e4:decide (B.oc (kW x) (kW y)≤0)=false:=by
         unfold B.oc;rw [if_neg (by omega),if_pos (by omega)];rfl
        obtain ⟨o,ho⟩:∃ o,B.oc (kW x) (kW y)=o:=⟨_,rfl⟩;rw [ho] at HO e4;clear ho hle hle0 hkk;have hi9:i<na:=by omega
        have hk9:k<nb:=by omega
        have hi8:(i:Int)<na:=by omega
        have hk8:(k:Int)<nb:=by omega
        have hi7:(0:Int)≤(i:Int):=by omega
        have hk7:(0:Int)≤(k:Int):=by omega
        clear r1 r2 r3 r4 HA hx hy hia hkn hi hk
        go_upto_region 9 with fail
        go_region_held3 (fun w'=>w'.cell? ⟨ba,oa+i,none⟩=some (.float .f64 x)∧w'.cell? ⟨bb,ob+k,none⟩=some (.float .f64 y)) (go_keep) (first | (go_at_call 107;refine (HO.out _).mono ?_;rintro r u ⟨rfl,rfl⟩))
        all_goals
         go_wp2_with (at_builtin;refine wpList_append10 rfl (.tmp 67) (.tmp 72) 23 rfl _ _ rfl rfl _ _ HR.out ?_)
         go_roundg (gk-1)
         case measure=>have:=HN.out;omega
         case rel=>exact ⟨i,k+1,_,_,by have:=HN.out;omega,by have:=HN.out;omega,by have:=HN.out;omega,by first | rfl | simp,by first | rfl | simp,rfl,HNx.out⟩
theorem rSorted13:∀ (N:Nat) (xs:List Nat),xs.length≤N→xs≠[]→xs.length≤65536→W64 xs→(∀ x ∈ xs,finW x)→SrtD xs
 | 0,xs,h,hne,_,_,_=>absurd (List.eq_nil_of_length_eq_zero (by omega)) hne
 | N+1,xs,h,hne,hl,hW,hf=>by
   have hp:=List.length_pos_iff.2 hne
   by_cases h1:xs.length=1
   · obtain ⟨x,rfl⟩:=List.length_eq_one_iff.1 h1
     exact sorted_one x
   · have l1:(xs.take (xs.length/2)).length=xs.length/2:=by rw [List.length_take];omega
     have l2:(xs.drop (xs.length/2)).length=xs.length-xs.length/2:=by rw [List.length_drop]
     exact sorted_two xs (by omega) hl hW hf _ rfl
      (rSorted13 N _ (by omega) (by intro e;rw [e] at l1;simp at l1;omega) (by omega) (fun x hx=>hW x (List.mem_of_mem_take hx)) (fun x hx=>hf x (List.mem_of_mem_take hx)))
      (rSorted13 N _ (by omega) (by intro e;rw [e] at l2;simp at l2;omega) (by omega) (fun x hx=>hW x (List.mem_of_mem_drop hx)) (fun x hx=>hf x (List.mem_of_mem_drop hx)))
end
section
open Go.RowKit
theorem rof8 (x:Nat) (hx:Wd x∧finW x) (w:World) :
 Calls Tryz.prog 48 #[.float .f64 x] w fun r w'=>(∃ v,r=.returned (.tuple #[.agg #[.bool (dN (fo8 (fvW x))),v,.int .i64 (dE (fo8 (fvW x)))],.int .i64 0])∧Nt w.heap.size w' v (dX (fo8 (fvW x))))∧Below w.heap.size w w':=by
 obtain ⟨h1,h2,h3,_⟩:=wd64_bw (negW x) (magW x) (Nat.le_of_lt hx.2);have:=rOf3_any (negW x) (magW x/4503599627370496) (magW x%4503599627370496) h2 h3 w;rw [←h1,←wd_of x hx.1] at this;refine this.mono ?_;rintro r w' ⟨⟨v,rfl,hN⟩,hb⟩;have e:=of_fo8 hx.1 hx.2;unfold ofK at e;rw [e] at hN ⊢;have he:ofE (magW x/4503599627370496)=0:=by unfold ofE;rw [if_neg (by have:=hx.2;omega)]
 rw [he];exact ⟨⟨v,rfl,hN⟩,hb⟩
section
attribute [local go_sem] B.f64bits B.f64frombits
end
end
section
open Go.RowKit J
theorem Fm.two {o:Option (Bool×Nat×Int)}(h:Fm o):(ws (dX o)).length≤2000000:=Nat.le_trans h.len (by decide)
theorem radd12 {U:World}{a b:Option Addr}{c d:Nat}{o p q:Option (Bool×Nat×Int)}(F:Fm o) (G:Fm p) (N1:Nt 0 U (.slice a (ws (dX o)).length c) (dX o)) (N2:Nt 0 U (.slice b (ws (dX p)).length d) (dX p)) (h:addD o p=q) (H:Fm q) :
 Calls Tryz.prog 50 #[.agg #[.bool (dN o),.slice a (ws (dX o)).length c,.int .i64 (dE o)],.agg #[.bool (dN p),.slice b (ws (dX p)).length d,.int .i64 (dE p)]] U fun r w'=>(∃ v,r=.returned (.tuple #[.agg #[.bool (dN q),v,.int .i64 (dE q)],.int .i64 0])∧Nt U.heap.size w' v (dX q))∧Below U.heap.size U w':=by
 have:=rAdd_any3 (F.a12 N1) (G.a12 N2) F.two G.two (dN o) (dN p) (dE o) (dE p) F.rng.1 F.rng.2 G.rng.1 G.rng.2;rw [val_ws,val_ws,F.re,G.re,h] at this;unfold DAns at this;rw [H.er] at this;exact this
theorem rof12 (x:Nat) (hx:x<18446744073709551616) (fx:finW x) (w:World) :
 Calls Tryz.prog 48 #[.float .f64 x] w fun r w'=>(∃ v,r=.returned (.tuple #[.agg #[.bool (dN (oW x)),v,.int .i64 (dE (oW x))],.int .i64 0])∧Nt w.heap.size w' v (dX (oW x)))∧Below w.heap.size w w':=rof8 x ⟨hx,fx⟩ w
end
section
open Go.RowKit J
theorem f1 (k:Nat) (hk:k=1074):fvW 4607182418800017408=((1*2^k:Nat):Int):=by subst hk;decide +kernel
end
section
open Go.RowKit J
noncomputable def oZ (x:Nat):Option (Bool×Nat×Int):=open Classical in if finW x then oW x else o00
theorem oZ_fin {x:Nat}(h:finW x):oZ x=oW x:=if_pos h
theorem oZ_odd {x:Nat}(h:¬ finW x):oZ x=o00:=if_neg h
theorem oZ_iv (x:Nat) (hx:x<18446744073709551616):Iv (oZ x) (-1074) 1024:=by
 by_cases h:finW x
 · rw [oZ_fin h];exact oW_iv x hx h
 · rw [oZ_odd h];exact o00_iv _ _
end
section
open Go.RowKit
theorem Nt.al' {lo:Nat}{w:World}{v:Value}{X:Nat}(h:Nt lo w v X) (hl:(ws X).length≤2000000):Al w v X:=by
 obtain ⟨a,c,rfl,hA⟩:=h.arg (by omega)
 exact ⟨a,_,c,_,rfl,hA,val_ws _,hl⟩
theorem times_al {w:World}{v u:Value}{X Y:Nat}(h1:Al w v X) (h2:Al w u Y):Calls Tryz.prog 93 #[v,u] w fun r w'=>∃ p,r=.returned p∧Nt w.heap.size w' p (X*Y)∧Below w.heap.size w w':=by
 obtain ⟨a,l,c,xs,rfl,hA,rfl,hl⟩:=h1;obtain ⟨b,k,d,ys,rfl,hB,rfl,hk⟩:=h2;exact rTimes_arg hA hB (by omega) rfl
theorem against_al {w:World}{v u:Value}{X Y:Nat}{e f:Int}(h1:Al w v X) (h2:Al w u Y) (be:-9223372036854775808≤e∧e≤9223372036854775807) (bf:-9223372036854775808≤f∧f≤9223372036854775807) :
 Calls Tryz.prog 198 #[v,.int .i64 e,u,.int .i64 f] w fun r w'=>r=.returned (.int .i64 (agV X e Y f))∧Below w.heap.size w w':=by
 obtain ⟨a,l,c,xs,rfl,hA,rfl,hl⟩:=h1;obtain ⟨b,k,d,ys,rfl,hB,rfl,hk⟩:=h2;exact against_any hA hB hl hk e f be.1 be.2 bf.1 bf.2
theorem against11_q {w:World}{n m:Bool}{p a b:Option Addr}{lp cp la ca lb cb A X Y:Nat}{g e f:Int}(hA:Al w (.slice p lp cp) A) (hN:Al w (.slice a la ca) X) (hD:Al w (.slice b lb cb) Y) (he:-9223372036854775808≤e∧e≤9223372036854775807) (h g2:Int) (e2:IntKind.i64.wrap (g+f)=h) (hh:-9223372036854775808≤h∧h≤9223372036854775807) (P:Nat) (hP:A*Y=P) (hl:(ws P).length≤2000000) :
 Calls Tryz.prog 169 #[.slice p lp cp,.int .i64 g,.agg #[.bool n,.slice a la ca,.int .i64 e,.bool m,.slice b lb cb,.int .i64 f],.bool false] w fun r w'=>r=.returned (.int .i64 (agV P h X e))∧Below w.heap.size w w':=by
 obtain ⟨W1,hW1⟩:∃ W,W=w.alloc (.cells #[.bool n,.slice a la ca,.int .i64 e,.bool m,.slice b lb cb,.int .i64 f] 71):=⟨_,rfl⟩;have hB:Below w.heap.size w W1:=by rw [hW1];exact below_alloc _ _
 have QR0:Rq W1 w.heap.size n (.slice a la ca) e m (.slice b lb cb) f:=by rw [hW1];exact Rq.new _ _ _ _ _ _ _
 have S0:=(qsd (ai hB (ai QR0 (ai (hA.below hB) (ai (hN.below hB) (hD.below hB))))));have BD:=(qsd (ai he (ai hh (ai hl hP))));clear hB QR0 hA hN hD he hh hl hP;go_enter Tryz.func169,Tryz.ntmps169
 go_upto_region 1 with fail
 rw [←hW1];clear hW1;obtain ⟨x0,x1,x2,x3,x4,x5⟩:=S0.out.2.1.facts
 go_upto_region 6 with fail
 have dr:Below W1.heap.size W1 W1.drew:=(Below.refl _ _).drew;have T1:=hid (times_al S0.out.2.2.1 S0.out.2.2.2.2);have T2:=hid (times_al (S0.out.2.2.1.below dr) (S0.out.2.2.2.2.below dr));rw [BD.out.2.2.2] at T1 T2;clear dr
 go_region_held3 (fun w'=>w'.cell? ⟨w.heap.size,0,none⟩=some (.bool n)∧w'.cell? ⟨w.heap.size,1,none⟩=some (.slice a la ca)∧w'.cell? ⟨w.heap.size,2,none⟩=some (.int .i64 e)∧w'.cell? ⟨w.heap.size,3,none⟩=some (.bool m)∧w'.cell? ⟨w.heap.size,4,none⟩=some (.slice b lb cb)∧w'.cell? ⟨w.heap.size,5,none⟩=some (.int .i64 f)) (go_keep) (first
  | (go_at_call 93
     first | with_reducible refine T1.out.mono ?_ | with_reducible refine T2.out.mono ?_
     rintro r v1 ⟨pv,rfl,hN,hb⟩;obtain ⟨q1,d1,rfl,-⟩:=hN.shape;have hb1:Below W1.heap.size W1 v1:=by first | exact hb | exact ((Below.refl _ W1).drew).trans (hb.mono (Nat.le_refl _))
     obtain ⟨bel,QR,AX,AN,AD⟩:=S0.out;obtain ⟨m0,m1,m2,m3,m4,m5⟩:=(QR.below hb1).facts;have T3:=hid (against_al (hN.al' BD.out.2.2.1) (AN.below hb1) BD.out.2.1 BD.out.1);have S4:=(qsd (ai (bel.trans (hb1.mono bel.size)) (QR.below hb1)));clear hN hb hb1 bel QR AX AN AD)
  | (go_at_call 198
     with_reducible refine T3.out.mono ?_
     rintro r v2 ⟨rfl,hb⟩;obtain ⟨bel,QR⟩:=S4.out;obtain ⟨k0,k1,k2,k3,k4,k5⟩:=(QR.below hb).facts;have S5:=qsd (bel.trans (hb.mono bel.size));clear hb bel QR))
 all_goals (
  go_wp2;go_ret;exact ⟨rfl,S5.out⟩)
theorem against11_s {w:World}{n m:Bool}{p a b:Option Addr}{lp cp la ca lb cb A X Y:Nat}{g e f:Int}(hA:Al w (.slice p lp cp) A) (hN:Al w (.slice a la ca) X) (hD:Al w (.slice b lb cb) Y) (he:-9223372036854775808≤e∧e≤9223372036854775807) (h g2:Int) (e1:IntKind.i64.wrap (2*g)=g2) (e2:IntKind.i64.wrap (g2+f)=h) (hh:-9223372036854775808≤h∧h≤9223372036854775807) (P:Nat) (hP:(A*A)*Y=P) (hl:(ws P).length≤2000000) (hl2:(ws (A*A)).length≤2000000) :
 Calls Tryz.prog 169 #[.slice p lp cp,.int .i64 g,.agg #[.bool n,.slice a la ca,.int .i64 e,.bool m,.slice b lb cb,.int .i64 f],.bool true] w fun r w'=>r=.returned (.int .i64 (agV P h X e))∧Below w.heap.size w w':=by
 obtain ⟨W1,hW1⟩:∃ W,W=w.alloc (.cells #[.bool n,.slice a la ca,.int .i64 e,.bool m,.slice b lb cb,.int .i64 f] 71):=⟨_,rfl⟩;have hB:Below w.heap.size w W1:=by rw [hW1];exact below_alloc _ _
 have QR0:Rq W1 w.heap.size n (.slice a la ca) e m (.slice b lb cb) f:=by rw [hW1];exact Rq.new _ _ _ _ _ _ _
 have S0:=(qsd (ai hB (ai QR0 (ai (hA.below hB) (ai (hN.below hB) (hD.below hB))))));have BD:=(qsd (ai he (ai hh (ai hl hP))));clear hB QR0 hA hN hD he hh hl hP;go_enter Tryz.func169,Tryz.ntmps169
 go_upto_region 1 with fail
 rw [←hW1];clear hW1;have HC:=hid (times_al S0.out.2.2.1 S0.out.2.2.1);have HL2:=qsd hl2;clear hl2
 go_wp2_with fail
 refine HC.out.mono ?_;rintro r U ⟨v,rfl,hN,hb⟩;obtain ⟨q2,d2,rfl,-⟩:=hN.shape;have S1:=(qsd (ai (S0.out.1.trans (hb.mono S0.out.1.size)) (ai (S0.out.2.1.below hb) (ai (hN.al' HL2.out) (ai (S0.out.2.2.2.1.below hb) (S0.out.2.2.2.2.below hb))))));clear HC hN hb S0 HL2;obtain ⟨x0,x1,x2,x3,x4,x5⟩:=S1.out.2.1.facts
 go_upto_region 6 with fail
 have dr:Below U.heap.size U U.drew:=(Below.refl _ _).drew;have T1:=hid (times_al S1.out.2.2.1 S1.out.2.2.2.2);have T2:=hid (times_al (S1.out.2.2.1.below dr) (S1.out.2.2.2.2.below dr));rw [BD.out.2.2.2] at T1 T2;clear dr
 go_region_held3 (fun w'=>w'.cell? ⟨w.heap.size,0,none⟩=some (.bool n)∧w'.cell? ⟨w.heap.size,1,none⟩=some (.slice a la ca)∧w'.cell? ⟨w.heap.size,2,none⟩=some (.int .i64 e)∧w'.cell? ⟨w.heap.size,3,none⟩=some (.bool m)∧w'.cell? ⟨w.heap.size,4,none⟩=some (.slice b lb cb)∧w'.cell? ⟨w.heap.size,5,none⟩=some (.int .i64 f)) (go_keep) (first
  | (go_at_call 93
     first | with_reducible refine T1.out.mono ?_ | with_reducible refine T2.out.mono ?_
     rintro r v1 ⟨pv,rfl,hN,hb⟩;obtain ⟨q1,d1,rfl,-⟩:=hN.shape;have hb1:Below U.heap.size U v1:=by first | exact hb | exact ((Below.refl _ U).drew).trans (hb.mono (Nat.le_refl _))
     obtain ⟨bel,QR,AX,AN,AD⟩:=S1.out;obtain ⟨m0,m1,m2,m3,m4,m5⟩:=(QR.below hb1).facts;have T3:=hid (against_al (hN.al' BD.out.2.2.1) (AN.below hb1) BD.out.2.1 BD.out.1);have S4:=(qsd (ai (bel.trans (hb1.mono bel.size)) (QR.below hb1)));clear hN hb hb1 bel QR AX AN AD)
  | (go_at_call 198
     with_reducible refine T3.out.mono ?_
     rintro r v2 ⟨rfl,hb⟩;obtain ⟨bel,QR⟩:=S4.out;obtain ⟨k0,k1,k2,k3,k4,k5⟩:=(QR.below hb).facts;have S5:=qsd (bel.trans (hb.mono bel.size));clear hb bel QR))
 all_goals (
  go_wp2;go_ret;exact ⟨rfl,S5.out⟩)
end
section
open Go.RowKit
def nbyD11 (mode:Int) (n:Bool) (k:Nat) (z hv:Int):Nat:=if z=0 then k else if outS mode k hv n then k+1 else k
theorem plus_al {w:World}{v u:Value}{X Y:Nat}(h1:Al w v X) (h2:Al w u Y):Calls Tryz.prog 95 #[v,u] w fun r w'=>∃ p,r=.returned p∧Nt w.heap.size w' p (X+Y)∧Below w.heap.size w w':=by
 obtain ⟨a,l,c,xs,rfl,hA,rfl,hl⟩:=h1;obtain ⟨b,k,d,ys,rfl,hB,rfl,hk⟩:=h2;exact rPlus_arg hA hB (by omega) (by omega) rfl
theorem two_boxes (w:World) (dg ls:Int) (En:Nat) (n:Bool) (v:Value) (e:Int) (m:Bool) (u:Value) (f:Int) (W:World) (hW:W=(w.alloc (.cells #[.int .i64 dg,.int .i64 ls,.int .u64 (En:Nat)] 110)).alloc (.cells #[.bool n,v,.int .i64 e,.bool m,u,.int .i64 f] 71)) :
 Below w.heap.size w W∧Zk W w.heap.size dg ls En∧Rq W (w.heap.size+1) n v e m u f:=by
 rw [hW];refine ⟨(below_alloc w _).alloc (by simp) _,?_,?_⟩
 · have h:Zk (w.alloc (.cells #[.int .i64 dg,.int .i64 ls,.int .u64 (En:Nat)] 110)) w.heap.size dg ls En:=heap_alloc_new _ _
   exact h.below (below_alloc _ _)
 · have:=Rq.new (w.alloc (.cells #[.int .i64 dg,.int .i64 ls,.int .u64 (En:Nat)] 110)) n v e m u f
   rw [World.size_alloc] at this;exact this
theorem half11 {w:World}{n m:Bool}{a b:Option Addr}{la ca lb cb:Nat}{e f:Int}(dg ls:Int) (En:Nat) (k k1 g h q fm hv:Int) (A Bv SM:Nat) (sq:Bool)
 (hk1:IntKind.u64.wrap (k+1)=k1) (hq:IntKind.i64.wrap (h-g)=q) (hq0:0≤q) (hq1:q≤1) (hfm:IntKind.i64.wrap (g-1)=fm) (hS:A+Bv*2^q.toNat=SM) (hB0:Bv≠0) (lA:(ws A).length≤8192) (lB:(ws Bv).length≤8192) (lM:(ws (Bv*2^q.toNat)).length≤8192) (lS:(ws SM).length≤8192)
 (HN1:Hid (∀ u:World,Calls Tryz.prog 130 #[.agg #[.int .i64 dg,.int .i64 ls,.int .u64 (En:Nat)],.int .u64 k] u fun r w'=>∃ v,r=.returned (.tuple #[v,.int .i64 g])∧Nt u.heap.size w' v A∧Below u.heap.size u w'))
 (HN2:Hid (∀ u:World,Calls Tryz.prog 130 #[.agg #[.int .i64 dg,.int .i64 ls,.int .u64 (En:Nat)],.int .u64 k1] u fun r w'=>∃ v,r=.returned (.tuple #[v,.int .i64 h])∧Nt u.heap.size w' v Bv∧Below u.heap.size u w'))
 (HA:Hid (∀ (u:World) (p:Option Addr) (l c:Nat),Below w.heap.size w u→Al u (.slice p l c) SM→Calls Tryz.prog 169 #[.slice p l c,.int .i64 fm,.agg #[.bool n,.slice a la ca,.int .i64 e,.bool m,.slice b lb cb,.int .i64 f],.bool sq] u fun r w'=>r=.returned (.int .i64 hv)∧Below u.heap.size u w')) :
 Calls Tryz.prog 170 #[.agg #[.int .i64 dg,.int .i64 ls,.int .u64 (En:Nat)],.int .u64 k,.agg #[.bool n,.slice a la ca,.int .i64 e,.bool m,.slice b lb cb,.int .i64 f],.bool sq] w fun r w'=>r=.returned (.int .i64 hv)∧Below w.heap.size w w':=by
 obtain ⟨W1,hW1⟩:∃ W,W=(w.alloc (.cells #[.int .i64 dg,.int .i64 ls,.int .u64 (En:Nat)] 110)).alloc (.cells #[.bool n,.slice a la ca,.int .i64 e,.bool m,.slice b lb cb,.int .i64 f] 71):=⟨_,rfl⟩;obtain ⟨hB,Z,QR⟩:=two_boxes w dg ls En n _ e m _ f W1 hW1;obtain ⟨p0,p1,p2⟩:=Z.facts;have S0:=(qsd (ai hB (ai Z QR)));have LN:=(qsd (ai lA (ai lB (ai lM (ai lS (ai hB0 (ai hS (ai hq0 hq1))))))));have H1:=hid (HN1.out W1);clear hB Z QR lA lB lM lS hB0 hS hq0 hq1 HN1;go_enter Tryz.func170,Tryz.ntmps170
 go_upto_region 1 with fail
 rw [←hW1];clear hW1
 go_wp2_with fail
 clear p0 p1 p2;refine H1.out.mono ?_;rintro r u1 ⟨v,rfl,hN,hb⟩;obtain ⟨a1,c1,rfl,-⟩:=hN.shape;have S1:=(qsd (ai (S0.out.1.trans (hb.mono S0.out.1.size)) (ai (S0.out.2.1.below hb) (ai (S0.out.2.2.below hb) (hN.al' (Nat.le_trans LN.out.1 (by decide)))))))
 clear hN hb S0 H1;obtain ⟨p0,p1,p2⟩:=S1.out.2.1.facts;have H2:=hid (HN2.out u1);clear HN2
 go_wp2_with fail
 clear p0 p1 p2;refine H2.out.mono ?_;rintro r u2 ⟨v,rfl,hN,hb⟩;have H3:=hid (moved_any hN q (by have:=LN.out;omega) (by have:=LN.out;omega) LN.out.2.2.2.2.1 (Nat.le_trans LN.out.2.1 (by decide)))
 obtain ⟨a2,c2,rfl,-⟩:=hN.shape;have S2:=(qsd (ai (S1.out.1.trans (hb.mono S1.out.1.size)) (ai (S1.out.2.2.1.below hb) (S1.out.2.2.2.below hb))));clear hN hb S1 H2;rw [if_neg (by have:=LN.out;omega)] at H3
 go_wp2_with fail
 refine H3.out.mono ?_;rintro r u3 ⟨v,rfl,hN,hb⟩;obtain ⟨a3,c3,rfl,-⟩:=hN.shape;have S3:=(qsd (ai (S2.out.1.trans (hb.mono S2.out.1.size)) (S2.out.2.1.below hb)));have H4:=hid (plus_al (S2.out.2.2.below hb) (hN.al' (Nat.le_trans LN.out.2.2.1 (by decide))))
 rw [LN.out.2.2.2.2.2.1] at H4;clear hN hb S2 H3
 go_wp2_with fail
 refine H4.out.mono ?_;rintro r u4 ⟨v,rfl,hN,hb⟩;obtain ⟨a4,c4,rfl,-⟩:=hN.shape;have S4:=(qsd (ai (S3.out.1.trans (hb.mono S3.out.1.size)) (S3.out.2.below hb)));obtain ⟨x0,x1,x2,x3,x4,x5⟩:=S4.out.2.facts;have H5:=hid (HA.out u4 _ _ _ S4.out.1 (hN.al' (Nat.le_trans LN.out.2.2.2.1 (by decide))))
 clear hN hb S3 H4 HA
 go_wp2_with fail
 clear x0 x1 x2 x3 x4 x5;refine H5.out.mono ?_;rintro r u5 ⟨rfl,hb⟩;have S5:=qsd (S4.out.1.trans (hb.mono S4.out.1.size));clear hb S4 H5 LN;go_wp2;go_ret;exact ⟨rfl,S5.out⟩
structure Half11 (w:World) (dg ls:Int) (En:Nat) (ag:Nat→Int) (n:Bool) (v:Value) (e:Int) (m:Bool) (x:Value) (y:Int) (f t:Nat) (u:World):Prop where
 bel:Below w.heap.size w u
 sz:Zk u w.heap.size dg ls En
 rq:Rq u (w.heap.size+1) n v e m x y
 ft:f<t
 tE:t≤En
 lo:f=0∨ag f≤0
 hi:t=En∨0<ag t
theorem Half11.to {w:World}{dg ls:Int}{En:Nat}{ag:Nat→Int}{n:Bool}{v:Value}{e:Int}{m:Bool}{x:Value}{y:Int}{f t:Nat}{u u':World}(h:Half11 w dg ls En ag n v e m x y f t u) (hb:Below u.heap.size u u'):Half11 w dg ls En ag n v e m x y f t u' :=
 ⟨h.bel.trans (hb.mono h.bel.size),h.sz.below hb,h.rq.below hb,h.ft,h.tE,h.lo,h.hi⟩
theorem nearby11 {w:World}{n m:Bool}{a b:Option Addr}{la ca lb cb:Nat}{e f:Int}(dg ls:Int) (En:Nat) (hE:0<En) (hE2:En<9223372036854775808) (num:Nat→Nat×Int) (ag hf:Nat→Int) (sq:Bool) (mode:Int) (hm0:0≤mode) (hm4:mode≤4) (lnum:∀ k,(ws (num k).1).length≤8192) (hv3:∀ k,hf k=-1∨hf k=0∨hf k=1)
 (HN:Hid (∀ (k:Nat) (u:World),k<En→Calls Tryz.prog 130 #[.agg #[.int .i64 dg,.int .i64 ls,.int .u64 (En:Nat)],.int .u64 (k:Nat)] u fun r w'=>∃ v,r=.returned (.tuple #[v,.int .i64 (num k).2])∧Nt u.heap.size w' v (num k).1∧Below u.heap.size u w'))
 (HA:Hid (∀ (k:Nat) (u:World) (p:Option Addr) (l c:Nat),k<En→Below w.heap.size w u→Al u (.slice p l c) (num k).1→Calls Tryz.prog 169 #[.slice p l c,.int .i64 (num k).2,.agg #[.bool n,.slice a la ca,.int .i64 e,.bool m,.slice b lb cb,.int .i64 f],.bool sq] u fun r w'=>r=.returned (.int .i64 (ag k))∧Below u.heap.size u w'))
 (HH:Hid (∀ (k:Nat) (u:World),k<En→Below w.heap.size w u→Calls Tryz.prog 170 #[.agg #[.int .i64 dg,.int .i64 ls,.int .u64 (En:Nat)],.int .u64 (k:Nat),.agg #[.bool n,.slice a la ca,.int .i64 e,.bool m,.slice b lb cb,.int .i64 f],.bool sq] u fun r w'=>r=.returned (.int .i64 (hf k))∧Below u.heap.size u w')) :
 Calls Tryz.prog 137 #[.agg #[.int .i64 dg,.int .i64 ls,.int .u64 (En:Nat)],.agg #[.bool n,.slice a la ca,.int .i64 e,.bool m,.slice b lb cb,.int .i64 f],.bool sq,.int .i64 mode] w fun r w'=>(∃ k:Nat,r=.returned (.int .u64 (nbyD11 mode n k (ag k) (-(hf k)):Nat))∧k<En∧(k=0∨ag k≤0)∧(k+1=En∨0<ag (k+1)))∧Below w.heap.size w w':=by
 obtain ⟨W1,hW1⟩:∃ W,W=(w.alloc (.cells #[.int .i64 dg,.int .i64 ls,.int .u64 (En:Nat)] 110)).alloc (.cells #[.bool n,.slice a la ca,.int .i64 e,.bool m,.slice b lb cb,.int .i64 f] 71):=⟨_,rfl⟩;obtain ⟨hB,Z,QR⟩:=two_boxes w dg ls En n _ e m _ f W1 hW1;obtain ⟨p0,p1,p2⟩:=Z.facts;have S0:Aside (Half11 w dg ls En ag n (.slice a la ca) e m (.slice b lb cb) f 0 En W1):=qsd ⟨hB,Z,QR,hE,Nat.le_refl _,.inl rfl,.inl rfl⟩;have LN:=(qsd (ai lnum hv3));clear Z hB QR lnum hv3;have hw:∀ n:Int,0≤n→n<18446744073709551616→IntKind.u64.wrap n=n:=fun n h1 h2=>by simp [IntKind.wrap,IntKind.bits,IntKind.signed];omega
 have HW:=qsd hw;clear hw;go_enter Tryz.func137,Tryz.ntmps137
 go_upto_region 1 with fail
 rw [←hW1];clear hW1
 go_wp2_with fail
 clear p0 p1 p2
 go_loopg [9,10] En (fun gk fv tv wr=>∃ f0 t:Nat,gk+f0=t∧fv=.int .u64 (f0:Nat)∧tv=.int .u64 (t:Nat)∧f0<t∧t≤En∧Aside (Half11 w dg ls En ag n (.slice a la ca) e m (.slice b lb cb) f f0 t wr))
 case atStart=>exact ⟨0,En,by omega,rfl,rfl,hE,Nat.le_refl _,S0⟩
 case round =>
  obtain ⟨f0,t,hgk,rfl,rfl,hft,htE,S1⟩:=hrel;have e1:=HW.out ((t:Int)-(f0:Int)) (by omega) (by omega)
  by_cases hone:1<(t:Int)-(f0:Int)
  · obtain ⟨mi,hm⟩:∃ mi,(f0+t)/2=mi:=⟨_,rfl⟩
    have e2:=HW.out ((f0:Int)+(t:Int)) (by omega) (by omega)
    have e3:((f0:Int)+(t:Int))/2=(mi:Nat):=by omega
    have e4:IntKind.u64.wrap ((mi:Nat):Int)=(mi:Nat):=HW.out _ (by omega) (by omega)
    have hmE:mi<En:=by omega
    obtain ⟨p0,p1,p2⟩:=S1.out.sz.facts;obtain ⟨X,hX⟩:∃ X,(num mi).1=X:=⟨_,rfl⟩;obtain ⟨y,hy⟩:∃ y,(num mi).2=y:=⟨_,rfl⟩;have H1:=hid (HN.out mi wr hmE);have H2:=hid fun u p l c=>HA.out mi u p l c hmE
    have lX:=LN.out.1 mi;rw [hX,hy] at H1 H2;rw [hX] at lX;have LX:=qsd lX;clear lX hX hy
    go_wp2_with fail
    clear p0 p1 p2;refine H1.out.mono ?_;rintro r u1 ⟨v,rfl,hN,hb⟩;obtain ⟨b1,c1,rfl,-⟩:=hN.shape;have S2:=qsd (S1.out.to hb);have H3:=hid (H2.out u1 b1 _ c1 S2.out.bel (hN.al' (Nat.le_trans LX.out (by decide))))
    clear hb hN S1 H1 H2;obtain ⟨x0,x1,x2,x3,x4,x5⟩:=S2.out.rq.facts
    go_wp2_with fail
    clear x0 x1 x2 x3 x4 x5;refine H3.out.mono ?_;rintro r u2 ⟨rfl,hb⟩;have S3:=qsd (S2.out.to hb);clear hb H3 S2
    by_cases hag:ag mi≤0
    · go_wp2_with fail
      go_roundg (t-mi)
      case measure=>omega
      case rel=>exact ⟨mi,t,by omega,rfl,rfl,by omega,htE,qsd ⟨S3.out.bel,S3.out.sz,S3.out.rq,by omega,htE,.inr hag,S3.out.hi⟩⟩
    · have hag':decide (ag mi≤0)=false:=decide_eq_false hag
      go_wp2_with fail
      go_roundg (mi-f0)
      case measure=>omega
      case rel=>exact ⟨f0,mi,by omega,rfl,rfl,by omega,by omega,qsd ⟨S3.out.bel,S3.out.sz,S3.out.rq,by omega,by omega,S3.out.lo,.inr (by omega)⟩⟩
  · have hone':decide (1<(t:Int)-(f0:Int))=false:=decide_eq_false hone
    obtain ⟨k,hk⟩:∃ k,k=f0:=⟨_,rfl⟩;subst hk;have hkE:k<En:=by omega
    have KK:Aside (k<En∧(k=0∨ag k≤0)∧(k+1=En∨0<ag (k+1))):=by
     obtain rfl:t=k+1:=by omega
     exact qsd ⟨hkE,S1.out.lo,S1.out.hi⟩
    have ek:IntKind.u64.wrap ((k:Int)+1)=(k:Int)+1:=HW.out _ (by omega) (by omega)
    obtain ⟨p0,p1,p2⟩:=S1.out.sz.facts;obtain ⟨X,hX⟩:∃ X,(num k).1=X:=⟨_,rfl⟩;obtain ⟨y,hy⟩:∃ y,(num k).2=y:=⟨_,rfl⟩;obtain ⟨z,hz⟩:∃ z,ag k=z:=⟨_,rfl⟩;obtain ⟨hv,hhv⟩:∃ z,hf k=z:=⟨_,rfl⟩;have hv3:=LN.out.2 k;obtain ⟨R,hR⟩:∃ R,nbyD11 mode n k z (-hv)=R:=⟨_,rfl⟩;have H1:=hid (HN.out k wr hkE);have H2:=hid fun u p l c=>HA.out k u p l c hkE
    have H5:=hid fun u=>HH.out k u hkE
    have lX:=LN.out.1 k;rw [hX,hy] at H1 H2;rw [hz] at H2;rw [hhv] at H5 hv3;rw [hX] at lX;have LX:=qsd lX;have HE:Aside (nbyD11 mode n k (ag k) (-(hf k))=R):=qsd (by rw [hz,hhv,hR])
    clear lX hX hy hz hhv LN HN HA HH S0 HW
    go_wp2_with fail
    clear p0 p1 p2;refine H1.out.mono ?_;rintro r u1 ⟨v,rfl,hN,hb⟩;obtain ⟨b1,c1,rfl,-⟩:=hN.shape;have S2:=qsd (S1.out.to hb);have H3:=hid (H2.out u1 b1 _ c1 S2.out.bel (hN.al' (Nat.le_trans LX.out (by decide))))
    clear hb hN S1 H1 H2 LX;obtain ⟨x0,x1,x2,x3,x4,x5⟩:=S2.out.rq.facts
    go_wp2_with fail
    clear x0 x1 x2 x3 x4 x5;refine H3.out.mono ?_;rintro r u2 ⟨rfl,hb⟩;have S3:=qsd (S2.out.to hb);clear hb H3 S2
    by_cases hz:z=0
    · subst hz
      obtain rfl:k=R:=by rw [←hR];unfold nbyD11;rw [if_pos rfl]
      clear hR
      go_wp2_with fail
      go_ret;exact ⟨⟨k,by rw [HE.out];first | rfl | simp,KK.out⟩,S3.out.bel⟩
    · have hz':(z==0)=false:=by simpa using hz
      have hR2:(if outS mode k (-hv) n then k+1 else k)=R:=by rw [←hR];unfold nbyD11;rw [if_neg hz]
      have H6:=hid (H5.out u2 S3.out.bel);obtain ⟨p0,p1,p2⟩:=S3.out.sz.facts;obtain ⟨x0,x1,x2,x3,x4,x5⟩:=S3.out.rq.facts;have HR2:=qsd hR2;clear hR hz hR2 H5
      go_wp2_with fail
      clear p0 p1 p2 x0 x1 x2 x3 x4 x5;refine H6.out.mono ?_;rintro r u4 ⟨rfl,hb⟩;have S4:=qsd (S3.out.to hb);obtain ⟨x0,x1,x2,x3,x4,x5⟩:=S4.out.rq.facts;clear hb S3 H6 hz';have hc:mode=0∨mode=1∨mode=2∨mode=3∨mode=4:=by omega
      clear hm0 hm4
      rcases hc with rfl|rfl|rfl|rfl|rfl
      · rcases hv3 with rfl | rfl | rfl
        · go_wp2
          go_ret;exact ⟨⟨k,by rw [HE.out,←HR2.out];simp [outS],KK.out⟩,S4.out.bel⟩
        · by_cases hp:k%2=1
          · have hp':(k:Int)%2=1:=by omega
            go_wp2;go_ret;exact ⟨⟨k,by rw [HE.out,←HR2.out];simp [outS,hp],KK.out⟩,S4.out.bel⟩
          · have hp':(k:Int)%2=0:=by omega
            go_wp2;go_ret;exact ⟨⟨k,by rw [HE.out,←HR2.out];simp [outS,hp],KK.out⟩,S4.out.bel⟩
        · go_wp2
          go_ret;exact ⟨⟨k,by rw [HE.out,←HR2.out];simp [outS],KK.out⟩,S4.out.bel⟩
      · go_wp2
        go_ret;exact ⟨⟨k,by rw [HE.out,←HR2.out];simp [outS],KK.out⟩,S4.out.bel⟩
      · cases n
        all_goals (
         go_wp2;go_ret;exact ⟨⟨k,by rw [HE.out,←HR2.out];simp [outS],KK.out⟩,S4.out.bel⟩)
      · cases n
        all_goals (
         go_wp2;go_ret;exact ⟨⟨k,by rw [HE.out,←HR2.out];simp [outS],KK.out⟩,S4.out.bel⟩)
      · rcases hv3 with rfl | rfl | rfl
        all_goals (
         go_wp2;go_ret;exact ⟨⟨k,by rw [HE.out,←HR2.out];simp [outS],KK.out⟩,S4.out.bel⟩)
end
section
open Go.RowKit
theorem cmpZ_scale11' (x y c:Nat) (hc:0<c):cmpZ ((x*c:Nat):Int) ((y*c:Nat):Int)=cmpZ (x:Int) (y:Int):=by
 rw [Int.natCast_mul,Int.natCast_mul];exact cmpZ_scale11 _ _ _ (by omega)
theorem ag_gen (A v X Y:Nat) (g e f B:Int) (u n:Nat) (hB1:B≤g) (hB2:B≤-((n*u:Nat):Int)) (hA:A*2^(g-B).toNat=v*2^(-((n*u:Nat):Int)-B).toNat) :
 agV (A*Y) (g+f) X e=cmpZ ((v*rS11 Y e f u n:Nat):Int) ((rV11 X e f u n:Nat):Int):=by
 generalize hU:n*u=U at hB2 hA;obtain ⟨D,hD1,hD2⟩:∃ D:Int,D≤f∧B+D≤e:=⟨min f (e-B),Int.min_le_left _ _,by have:=Int.min_le_right f (e-B);omega⟩
 rw [agV_z (A*Y) (g+f) X e (B+D) (by omega) hD2]
 obtain ⟨c,hc⟩:∃ c:Nat,(-(U:Int)-B).toNat+(f-D).toNat=(-(e-f+(U:Int))).toNat+c:=⟨(-(U:Int)-B).toNat+(f-D).toNat-(-(e-f+(U:Int))).toNat,by omega⟩
 have hd:(e-(B+D)).toNat=(e-f+(U:Int)).toNat+c:=by omega
 have e1:A*Y*2^(g+f-(B+D)).toNat=v*rS11 Y e f u n*2^c:=by
  rw [show (g+f-(B+D)).toNat=(g-B).toNat+(f-D).toNat by omega,Nat.pow_add,Nat.mul_mul_mul_comm,hA,Nat.mul_mul_mul_comm,←Nat.pow_add,hc,Nat.pow_add]
  unfold rS11;rw [hU];simp only [Nat.mul_assoc]
 have e2:X*2^(e-(B+D)).toNat=rV11 X e f u n*2^c:=by
  rw [hd,Nat.pow_add];unfold rV11;rw [hU];simp only [Nat.mul_assoc]
 rw [e1,e2];exact cmpZ_scale11' _ _ _ (Nat.two_pow_pos c)
theorem half_units (v X Y:Nat) (e f:Int) (u n:Nat):cmpZ ((v*rS11 Y e f (u+1) n:Nat):Int) ((rV11 X e f (u+1) n:Nat):Int)=cmpZ ((v*rS11 Y e f u n:Nat):Int) ((2^n*rV11 X e f u n:Nat):Int):=by
 generalize hU:n*u=U;have hU':n*(u+1)=U+n:=by rw [Nat.mul_add,Nat.mul_one,hU]
 rw [←cmpZ_scale11' (v*rS11 Y e f (u+1) n) (rV11 X e f (u+1) n) (2^(-(e-f+(U:Int))).toNat) (Nat.two_pow_pos _),←cmpZ_scale11' (v*rS11 Y e f u n) (2^n*rV11 X e f u n) (2^(-(e-f+((U+n:Nat):Int))).toNat) (Nat.two_pow_pos _)]
 congr 2
 · unfold rS11
   rw [hU,hU'];simp only [Nat.mul_assoc];rw [Nat.mul_comm (2^_) (2^_)]
 · unfold rV11
   rw [hU,hU',Nat.mul_assoc,←Nat.pow_add,Nat.mul_comm (2^n),Nat.mul_assoc,Nat.mul_assoc,←Nat.pow_add,←Nat.pow_add]
   congr 2
   omega
theorem pow_units {A v:Nat}{g B:Int}{u n:Nat}(h1:B≤g) (h2:B≤-(u:Int)) (hA:A*2^(g-B).toNat=v*2^(-(u:Int)-B).toNat) (hn:n=1∨n=2):A^n*2^((n:Int)*g-(n:Int)*B).toNat=v^n*2^(-((n*u:Nat):Int)-(n:Int)*B).toNat:=by
 rcases hn with rfl|rfl
 · rw [Nat.pow_one,Nat.pow_one,Nat.one_mul]
   simpa using hA
 · rw [show (((2:Nat):Int)*g-((2:Nat):Int)*B).toNat=(g-B).toNat+(g-B).toNat by omega,show (-((2*u:Nat):Int)-((2:Nat):Int)*B).toNat=(-(u:Int)-B).toNat+(-(u:Int)-B).toNat by omega,Nat.pow_add,Nat.pow_add,Nat.pow_two,Nat.pow_two,Nat.mul_mul_mul_comm,hA,Nat.mul_mul_mul_comm]
theorem mid_units {A Bv v v1 SM:Nat}{g h q B:Int}{u:Nat}(h1:B≤g-1) (h2:B≤-((u+1:Nat):Int)) (hq:q=h-g) (hq0:0≤q) (hA:A*2^(g-B).toNat=v*2^(-(u:Int)-B).toNat) (hBv:Bv*2^(h-B).toNat=v1*2^(-(u:Int)-B).toNat) (hS:A+Bv*2^q.toNat=SM) :
 SM*2^(g-1-B).toNat=(v+v1)*2^(-((u+1:Nat):Int)-B).toNat:=by
 have k1:(g-B).toNat=(g-1-B).toNat+1:=by omega
 have k2:(-(u:Int)-B).toNat=(-((u+1:Nat):Int)-B).toNat+1:=by omega
 have k3:(h-B).toNat=q.toNat+((g-1-B).toNat+1):=by omega
 rw [k1,k2,Nat.pow_succ,Nat.pow_succ,←Nat.mul_assoc,←Nat.mul_assoc] at hA;rw [k3,k2,Nat.pow_add,Nat.pow_succ,Nat.pow_succ,←Nat.mul_assoc,←Nat.mul_assoc,←Nat.mul_assoc] at hBv;have e1:=Nat.eq_of_mul_eq_mul_right (by omega:0<2) hA
 have e2:=Nat.eq_of_mul_eq_mul_right (by omega:0<2) hBv
 rw [←hS,Nat.add_mul,Nat.add_mul,e1,e2]
end
end Go.Proofs.YtjldfhecnaiinaaGreatDoor
