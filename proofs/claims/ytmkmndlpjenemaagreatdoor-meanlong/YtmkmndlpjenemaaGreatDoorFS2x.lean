import Derived.Test.YtmkmndlpjenemaaGreatDoorF10x
import Derived.Test.YtmkmndlpjenemaaGreatDoorD24x
import Derived.Test.YtmkmndlpjenemaaGreatDoorM1x
import Derived.Test.YtmkmndlpjenemaaGreatDoorBW6x
import Derived.OwnWalk
import Derived.ArgAppend
import Derived.Maps.AppendAt
import Derived.WalkMore
import Derived.ProofKit
import Derived.OpenShut
import Derived.ChangeOld
import Derived.ChangeArms
import Derived.SizedLaws
import Derived.Laws.Cover2
import Derived.Deep.RegionHeld
import Derived.BigQuiet
import Derived.Shelf.SlSortCmp.NoneTotal
import Derived.Ground.SlsfProg
import Derived.Lib.RowBridge
import Derived.Lib.SortBridge
import Derived.WalkKit
set_option linter.unusedVariables false
set_option linter.unusedSimpArgs false
set_option maxHeartbeats 16000000
set_option maxRecDepth 20000
namespace Go.Proofs.YtmkmndlpjenemaaGreatDoor
namespace J
end J
section
open Go.RowKit J
attribute [local go_sem] st_float
theorem clone10 (xs:List Nat) (a:Option Addr) (n c:Nat) (w:World) (hn:n=xs.length) (hF:Fs w.heap.size w a xs) (hm:n≤17592186043904) :
 Calls Tryz.prog 79 #[.slice a n c] w fun r w'=>(∃ v',r=.returned v'∧w'.ownsRow w.heap.size 22 1 v' n (xs.map Fw10))∧Below w.heap.size w w':=by
 obtain ⟨i0,hi,hz0,hz1,hz2⟩:=info_parts Tryz.info_f64;have q25:∀ (w:World) (a:Option Addr) (n c n' c':Nat),(binOp .eql 24 (.slice a n c) (.slice none n' c')).run Tryz.prog w=.ok (.bool a.isNone) w:=fun w a n c n' c'=>Lib.run_eql_slice_nil w _ _ a n c n' c' Tryz.und_floats
 cases a with
 | none =>
   have hx:xs=[]:=by
    by_cases h:xs=[]
    · exact h
    · obtain ⟨_,_,_,e,_⟩:=hF h;cases e
   subst hx;simp only [List.length_nil] at hn;subst hn;clear hF hm;go_enter Tryz.func79,Tryz.ntmps79;go_wp2;go_ret;exact ⟨⟨_,rfl,World.ownsRow_nil w w.heap.size 22 1⟩,Below.refl _ _⟩
 | some ad =>
   have A:=qsd (ai hn (ai hF hm));clear hF hm hn;go_enter Tryz.func79,Tryz.ntmps79
   go_wp2_with (at_builtin;refine wpList_append_own _ rfl _ _ 24 rfl w.heap.size 22 i0 (.float .f64 0) 1 8 Tryz.und_floats hi hz0 hz1 hz2 rfl (by decide) _ _ _ rfl (World.ownsRow_made w #[] 0 (Nat.le_refl _) (Nat.zero_le _) (by simp)) ad n c (xs.map Fw10) rfl ?qc1 ?qc2 ?qc3 ?qc4 ?qc5 ?qc6 ?_)
   case qc1=>simp [A.out.1]
   case qc2 =>
    intro j u hj;have hj2:j<xs.length:=by have:=(List.getElem?_eq_some_iff.1 hj).1;simpa using this
    obtain ⟨b,off,e,hc⟩:=A.out.2.1.at (Below.refl _ _) j hj2
    cases e
    rw [Addr.add_lit];refine Lib.cell?_alloc_some _ ?_
    rw [hc,←hj,List.getElem?_map,List.getElem?_eq_getElem hj2,List.getD_eq_getElem?_getD,List.getElem?_eq_getElem hj2]
    rfl
   case qc3=>intro u hu;obtain ⟨x,_,rfl⟩:=List.mem_map.1 hu;rfl
   case qc4=>have:=A.out.1;have:=A.out.2.2;unfold maxLen;omega
   case qc5=>have:=A.out.1;have:=A.out.2.2;omega
   case qc6=>simp
   intro v' w1 hown hgrow hnil;go_wp2;go_ret;refine ⟨⟨v',rfl,?_⟩,?_⟩
   · simpa using hown
   · exact ((Below.refl _ w).alloc (Nat.le_refl _) _).grown hgrow (by simp) (by intro k hk;simp [Value.ownBlock] at hk;omega)
def SortsF:Prop:=∀ (xs:List Nat) (g c:Nat) (w:World),xs≠[]→W64 xs→(∀ x ∈ xs,finW x)→xs.length≤65536→g<w.heap.size→(∀ j,j<xs.length→w.cell? ⟨g,0+j,none⟩=some (.float .f64 (xs.getD j 0)))→(∀ j,j<xs.length→w.frozen? ⟨g,0+j,none⟩=false) →
 Calls Tryz.prog 80 #[.slice (some ⟨g,0,none⟩) xs.length c,.func (.func 81) #[] #[]] w fun r w'=>r=.returned (.tuple #[])∧(g<w'.heap.size∧∀ j,j<xs.length→w'.cell? ⟨g,0+j,none⟩=some (.float .f64 ((srt xs).getD j 0)))∧∀ B,B≤g→B≤w.heap.size→Below B w w'
theorem inner13 (HS:SortsF) (xs:List Nat) (a:Option Addr) (n c:Nat) (k:Int) (w:World) (hn:n=xs.length) (hF:Fs w.heap.size w a xs) (hW:W64 xs) (hf:∀ x ∈ xs,finW x) (hl:n≤65536) (hk:0≤k) (hk2:k≤9223372036854775807) :
 Calls Tryz.prog 40 #[.slice a n c,.int .i64 k] w fun r w'=>(∃ ao co,r=.returned (.slice ao (trm xs k.toNat).length co)∧Fs w'.heap.size w' ao (trm xs k.toNat)∧∀ b o p,ao=some ⟨b,o,p⟩→w.heap.size≤b)∧Below w.heap.size w w':=by
 have hw:IntKind.i64.wrap ((n:Int)-k)=n-k:=by rw [IntKind.wrap_i64];omega
 by_cases hs:(n:Int)-k≤k
 · have hd:decide ((n:Int)-k≤k)=true:=by simp [hs]
   have e:trm xs k.toNat=[]:=List.eq_nil_of_length_eq_zero (by rw [trm_len];omega)
   rw [e];clear hF hW hf e;go_enter Tryz.func40,Tryz.ntmps40;go_wp2;go_ret;exact ⟨⟨none,0,rfl,fun h=>absurd rfl h,fun _ _ _ h=>by cases h⟩,Below.refl _ _⟩
 · have hd:decide ((n:Int)-k≤k)=false:=by simp;omega
   have HC:=hid (clone10 xs a n c w hn hF (by omega))
   have HX:=(qsd (ai hn (ai hW (ai hf hl))));clear hF hW hf hn hl;go_enter Tryz.func40,Tryz.ntmps40
   go_wp2_with fail
   refine HC.out.mono ?_;rintro r u ⟨⟨v',rfl,hO⟩,hb⟩;clear HC
   rcases hO.2 with ⟨rfl,hn0⟩|⟨g,cap,cur,rfl,hlo,hg,hn1,hm,hsz,ht⟩
   · exfalso;omega
   · have hgs:g<u.heap.size:=(Array.getElem?_eq_some_iff.1 hg).1
     have hcl:∀ j,j<xs.length→u.cell? ⟨g,0+j,none⟩=some (.float .f64 (xs.getD j 0))∧u.frozen? ⟨g,0+j,none⟩=false:=by
      intro j hj
      have hu:cur.toList[j]?=some (.float .f64 (xs.getD j 0)):=by
       have h1:(cur.toList.take (n*1))[j]?=((xs.map Fw10))[j]?:=by rw [ht]
       rw [List.getElem?_take,if_pos (by have:=HX.out.1;omega),List.getElem?_map,List.getElem?_eq_getElem hj] at h1
       rw [h1,List.getD_eq_getElem?_getD,List.getElem?_eq_getElem hj]
       rfl
      have hu2:cur[j]?=some (.float .f64 (xs.getD j 0)):=by rw [←hu];simp
      refine ⟨?_,?_⟩
      · unfold World.cell?
        simp only [hg,Nat.zero_add];exact hu2
      · unfold World.frozen?
        simp only [hg,Nat.zero_add];simp
     have C:=hid (HS xs g cap u (by have:=HX.out.1;intro h;rw [h] at this;simp at this;omega) HX.out.2.1 HX.out.2.2.1 (by have:=HX.out;omega) hgs (fun j hj=>(hcl j hj).1) (fun j hj=>(hcl j hj).2))
     rw [←HX.out.1] at C;have HB:=qsd (ai hb hlo);have hcap:n≤cap:=hn1;clear hcl hO hb hlo hg hn1 hm hsz ht
     go_wp2_with fail
     refine C.out.mono ?_;rintro r u2 ⟨rfl,⟨hg2,hc2⟩,hb2⟩;have HB2:=qsd (HB.out.1.trans (hb2 w.heap.size HB.out.2 HB.out.1.size));have HC2:=(qsd (ai hg2 hc2));clear hg2 hc2 hb2 C;obtain ⟨m,rfl⟩:∃ m:Nat,k=(m:Int):=⟨k.toNat,by omega⟩
     go_wp2;go_ret;have hlen:(trm xs (m:Int).toNat).length=n-m-m:=by have:=HX.out.1;rw [trm_len,Int.toNat_natCast];omega
     refine ⟨⟨some ⟨g,m,none⟩,cap-m,by rw [hlen];rfl,fun _=>⟨g,m,HC2.out.1,rfl,fun i hi=>?_⟩,fun b o p h=>by cases h;exact HB.out.2⟩,HB2.out⟩
     rw [trm_get hi,Int.toNat_natCast];rw [hlen] at hi;have:=HC2.out.2 (m+i) (by have:=HX.out.1;omega)
     rw [Nat.zero_add] at this;exact this
end
section
open Go.RowKit J
attribute [local go_sem] st_float
theorem sS_smallT {xs:List Nat}(hW:W64 xs) (hl:xs.length≤65536):(0≤(sS xs).n∧(sS xs).n≤65536)∧(0≤(sS xs).u∧(sS xs).u≤65536)∧(0≤(sS xs).d∧(sS xs).d≤65536)∧(sS xs).a=xs.length∧(sS xs).a-(sS xs).n-(sS xs).u-(sS xs).d=(Ps.fin xs).length:=by
 rw [sS_cn hW];have h:=fun k=>List.countP_le_length (p:=fun x=>kd x==k) (l:=xs)
 have h5:=h 5;have h3:=h 3;have h4:=h 4;have hf:=fin_count (xs:=xs);unfold Ps.cn at *;refine ⟨⟨?_,?_⟩,⟨?_,?_⟩,⟨?_,?_⟩,rfl,?_⟩ <;> (simp only;omega)
theorem plE_finT {xs:List Nat}(hW:W64 xs) (hl:xs.length≤65536):(plE xs=0↔∀ x ∈ xs,finW x)∧(plE xs=0∨plE xs=30):=by
 obtain ⟨b1,b2,b3,b4,b5⟩:=sS_smallT hW hl;unfold plE;rw [if_neg (by omega)]
 have key:(0<(sS xs).n∨0<(sS xs).u+(sS xs).d)↔¬ ∀ x ∈ xs,finW x:=by
  have hf:(Ps.fin xs).length=xs.length↔∀ x ∈ xs,finW x:=by
   constructor
   · intro h x hx
     have:Ps.fin xs=xs:=by
      have:=List.filter_sublist (p:=fun x=>decide (kd x≤2)) (l:=xs)
      exact this.eq_of_length h
     exact fin_all hW x (by rw [this];exact hx)
   · intro h;rw [fin_id hW h]
  rw [←hf];omega
 by_cases h:0<(sS xs).n∨0<(sS xs).u+(sS xs).d
 · rw [if_pos h]
   exact ⟨⟨fun q=>absurd q (by decide),fun q=>absurd q (key.1 h)⟩,.inr rfl⟩
 · rw [if_neg h]
   refine ⟨⟨fun _=>?_,fun _=>rfl⟩,.inl rfl⟩
   by_cases q:∀ x ∈ xs,finW x
   · exact q
   · exact absurd (key.2 q) h
noncomputable def trR (xs:List Nat) (k mode:Int):Nat×Int :=
 if askE mode=0 then (if k<0 then (0,1) else if plE xs=0 then (bsd (levR (trm xs k.toNat) (sS (trm xs k.toNat)) mode).2 (levR (trm xs k.toNat) (sS (trm xs k.toNat)) mode).1,(levR (trm xs k.toNat) (sS (trm xs k.toNat)) mode).2) else (0,plE xs)) else (0,askE mode)
theorem plE_len {xs:List Nat}(h:plE xs=0):xs.length≤65536:=by
 unfold plE at h
 by_cases q:65536<xs.length
 · rw [if_pos q] at h;exact absurd h (by decide)
 · omega
theorem Trimmed13 (HS:SortsF) (xs:List Nat) (a:Option Addr) (n c:Nat) (k mode:Int) (w:World) (hn:n=xs.length) (hF:Fs w.heap.size w a xs) (hW:W64 xs) (hl:n≤35184372088832) (hk:k≤9223372036854775807) (hT:Tab w) (z:Nat×Int) (hz:trR xs k mode=z) :
 Calls Tryz.prog 9 #[.slice a n c,.int .i64 k,.int .i64 mode] w fun r w'=>r=.returned (.tuple #[.float .f64 z.1,.int .i64 z.2])∧Below w.heap.size w w':=by
 obtain ⟨X,E⟩:=z;simp only;have hmf:∀ (fn:Fn) (first cap:Array Value) (w:World),(Instr.makeFunc fn first cap).run Tryz.prog w=.ok (.func fn first cap) w:=fun _ _ _ _=>rfl
 have HA:=hid (fun u:World=>asked13 mode u)
 unfold trR at hz;obtain ⟨ea,hea⟩:∃ e,askE mode=e:=⟨_,rfl⟩;rw [hea] at HA hz;obtain ⟨W,hWW⟩:∃ W,W=(w.alloc (Obj.cells #[.float .f64 0] 22)).alloc (Obj.cells #[.int .i64 0] 25):=⟨_,rfl⟩;obtain ⟨gx,hgx⟩:∃ g,g=w.heap.size:=⟨_,rfl⟩;obtain ⟨ge,hge⟩:∃ g,g=w.heap.size+1:=⟨_,rfl⟩;have HG:Aside (gx=w.heap.size∧ge=w.heap.size+1∧w.heap.size≤gx∧w.heap.size≤ge∧ge≠gx):=⟨hgx,hge,by omega,by omega,by omega⟩
 have B0:=two13 w;rw [←hWW,←hge] at B0;have B1:=qsd (seterr13 ea (show Bl W gx 22 [.float .f64 0] by rw [hgx];exact B0.1) B0.2.1 B0.2.2 HG.out.2.2.2.1 HG.out.2.2.2.2)
 have c1:=B0.2.1.cell 0 _ rfl;have f1:=B0.2.1.frozen 0;have HWW:=qsd hWW;have HX:=qsd (ai hn (ai hF (ai hW (ai hl (ai hk hT)))));clear hn hF hW hl hk hT hWW hea hgx hge B0;go_enter_defers Tryz.func9,Tryz.ntmps9
 go_wp2_with fail
 rw [←HWW.out]
 try rw [show w.heap.size+1=ge by have:=HG.out;omega]
 try rw [show w.heap.size=gx by have:=HG.out;omega]
 clear HWW;refine (HA.out _).mono ?_;rintro r v ⟨rfl,hv⟩;rw [hv];clear hv v
 by_cases h0:ea=0
 · subst h0
   rw [if_pos rfl] at hz;obtain ⟨V,hV⟩:∃ V,V=W.setCell ⟨ge,0,none⟩ (.int .i64 0):=⟨_,rfl⟩;rw [←hV] at B1;have r1:=B1.out.2.1.cell 0 _ rfl;have r2:=B1.out.2.1.frozen 0;have HV:=qsd hV;clear hV HA
   by_cases hk0:k<0
   · have hd:decide (k<0)=true:=by simp [hk0]
     rw [if_pos hk0] at hz;have HXE:=qsd (Prod.mk.inj hz);have B2:=qsd (seterr13 1 B1.out.1 B1.out.2.1 B1.out.2.2 HG.out.2.2.2.1 HG.out.2.2.2.2);clear hz
     go_upto_region 3 with fail
     rw [←HV.out];clear HV;go_wp2;refine early13 Tryz.results9 Trimmed1_d B2.out.1 B2.out.2.1 B2.out.2.2 HG.out.2.2.1 HG.out.2.2.2.2 ((bsd_zero _).trans HXE.out.1) HXE.out.2 (by simp [go_sem]) ?_ ?_ <;> rfl
   · have hd:decide (k<0)=false:=by simp;omega
     rw [if_neg hk0] at hz;have hTV:Tab V:=HX.out.2.2.2.2.2.belows B1.out.2.2;have HP:=hid (plain13 xs a n c V HX.out.1 ((HX.out.2.1.below B1.out.2.2).mono B1.out.2.2.size) HX.out.2.2.1 HX.out.2.2.2.1);obtain ⟨ep,hep⟩:∃ e,plE xs=e:=⟨_,rfl⟩;rw [hep] at HP hz;have HEP:=qsd hep;obtain ⟨⟨qn,qu,qd,qm,qp,qa⟩,hqs⟩:∃ s,sS xs=s:=⟨_,rfl⟩;rw [hqs] at HP;simp only [Sp.agg] at HP;have hk1:0≤k:=by omega
     clear hep hqs hTV hk0
     go_upto_region 3 with fail
     rw [←HV.out];clear HV
     go_wp2_with fail
     refine HP.out.mono ?_;rintro r v ⟨hr,hb⟩;have B3:Aside (Bl v gx 22 [.float .f64 0]∧Bl v ge 25 [.int .i64 0]∧Below w.heap.size w v):=⟨B1.out.1.below hb B1.out.1.lt,B1.out.2.1.below hb B1.out.2.1.lt,B1.out.2.2.trans (hb.mono B1.out.2.2.size)⟩;have q1:=B3.out.2.1.cell 0 _ rfl;have q2:=B3.out.2.1.frozen 0;clear hb HP B1 r1 r2 c1 f1
     rcases hr with ⟨he,rfl⟩|⟨he,rfl⟩
     · unfold agg0
       rw [if_neg he] at hz;have HXE:=qsd (Prod.mk.inj hz);have h1:(ep==0)=false:=by simp [he]
       have B4:=qsd (seterr13 ep B3.out.1 B3.out.2.1 B3.out.2.2 HG.out.2.2.2.1 HG.out.2.2.2.2);clear hz;go_wp2;refine early13 Tryz.results9 Trimmed1_d B4.out.1 B4.out.2.1 B4.out.2.2 HG.out.2.2.1 HG.out.2.2.2.2 ((bsd_zero _).trans HXE.out.1) HXE.out.2 (by simp [go_sem]) ?_ ?_ <;> rfl
     · subst he
       rw [if_pos rfl] at hz;have B4:=qsd (seterr13 0 B3.out.1 B3.out.2.1 B3.out.2.2 HG.out.2.2.2.1 HG.out.2.2.2.2);obtain ⟨V2,hV2⟩:∃ V,V=v.setCell ⟨ge,0,none⟩ (.int .i64 0):=⟨_,rfl⟩;rw [←hV2] at B4;have HV2:=qsd hV2;have hlen:=plE_len HEP.out;have HFin:=qsd ((plE_finT HX.out.2.2.1 hlen).1.1 HEP.out);have HI:=hid (inner13 HS xs a n c k V2 HX.out.1 ((HX.out.2.1.below B4.out.2.2).mono B4.out.2.2.size) HX.out.2.2.1 HFin.out (by have:=HX.out.1;omega) hk1 HX.out.2.2.2.2.1)
       obtain ⟨ys,hys⟩:∃ y,trm xs k.toNat=y:=⟨_,rfl⟩
       have HY:Aside (W64 ys∧plE ys=0∧ys.length≤65536):=by
        have hWy:W64 ys:=fun x hx=>HX.out.2.2.1 x (by rw [←hys] at hx;exact trm_mem hx)
        have hly:ys.length≤65536:=by rw [←hys,trm_len];omega
        exact ⟨hWy,(plE_finT hWy hly).1.2 (fun x hx=>HFin.out x (by rw [←hys] at hx;exact trm_mem hx)),hly⟩
       rw [hys] at HI hz;have r1:=B4.out.2.1.cell 0 _ rfl;clear hys hV2 hlen HEP B3
       go_upto_region 7 with fail
       rw [←HV2.out];clear HV2 q1 q2
       go_wp2_with fail
       refine HI.out.mono ?_;rintro r v ⟨⟨ao,co,rfl,hFy,hlo⟩,hb⟩;have B5:Aside (Bl v gx 22 [.float .f64 0]∧Bl v ge 25 [.int .i64 0]∧Below w.heap.size w v∧Fs v.heap.size v ao ys∧∀ b o p,ao=some ⟨b,o,p⟩→b≠ge):=⟨B4.out.1.below hb B4.out.1.lt,B4.out.2.1.below hb B4.out.2.1.lt,B4.out.2.2.trans (hb.mono B4.out.2.2.size),hFy,fun b o p h=>by have:=hlo b o p h;have:=B4.out.2.1.lt;omega⟩
       clear hb HI hFy hlo r1 B4;obtain ⟨ny,hny⟩:∃ m,m=ys.length:=⟨_,rfl⟩;have HP:=hid (plain13 ys ao ny co v hny B5.out.2.2.2.1 HY.out.1 (by have:=HY.out.2.2;omega))
       obtain ⟨⟨sn,su,sd,sm,sp,sa⟩,hs⟩:∃ s,sS ys=s:=⟨_,rfl⟩;rw [HY.out.2.1,hs] at HP;rw [hs] at hz;simp only [Sp.agg] at HP;rw [←hny];have HNY:=qsd hny;clear hny hs
       go_wp2_with fail
       refine HP.out.mono ?_;rintro r v5 ⟨hr,hb⟩
       obtain rfl:r=.returned (.tuple #[.agg #[.int .i64 sn,.int .i64 su,.int .i64 sd,.int .i64 sm,.int .i64 sp,.int .i64 sa],.int .i64 0]):=by
        rcases hr with ⟨he,_⟩|⟨_,hr⟩
        · exact absurd rfl he
        · exact hr
       have B6:Aside (Bl v5 gx 22 [.float .f64 0]∧Bl v5 ge 25 [.int .i64 0]∧Below w.heap.size w v5∧Fs v5.heap.size v5 ao ys∧∀ b o p,ao=some ⟨b,o,p⟩→b≠ge):=⟨B5.out.1.below hb B5.out.1.lt,B5.out.2.1.below hb B5.out.2.1.lt,B5.out.2.2.1.trans (hb.mono B5.out.2.2.1.size),(B5.out.2.2.2.1.below hb).mono hb.size,B5.out.2.2.2.2⟩;clear hb HP B5 hr;have q1:=B6.out.2.1.cell 0 _ rfl;have q2:=B6.out.2.1.frozen 0;have hlt:=B6.out.2.1.lt;obtain ⟨Z,hZ⟩:∃ U,U=(v5.setCell ⟨ge,0,none⟩ (.int .i64 0)).alloc (Obj.cells #[.int .i64 sn,.int .i64 su,.int .i64 sd,.int .i64 sm,.int .i64 sp,.int .i64 sa] 57):=⟨_,rfl⟩;have B7:=qsd (stored13 B6.out.1 B6.out.2.1 B6.out.2.2.1 HG.out.2.2.2.1 HG.out.2.2.2.2 HX.out.2.2.2.2.2 B6.out.2.2.2.1 B6.out.2.2.2.2 0 sn su sd sm sp sa Z hZ);obtain ⟨gs,hgs⟩:∃ g,v5.heap.size=g:=⟨_,rfl⟩;rw [hgs] at B7;have r1:=B7.out.2.1.cell 0 _ rfl;have s0:=B7.out.2.2.1.cell 0 _ rfl;have s1:=B7.out.2.2.1.cell 1 _ rfl;have s2:=B7.out.2.2.1.cell 2 _ rfl;have s3:=B7.out.2.2.1.cell 3 _ rfl;have s4:=B7.out.2.2.1.cell 4 _ rfl;have s5:=B7.out.2.2.1.cell 5 _ rfl;obtain ⟨⟨xl,el⟩,hll⟩:∃ z,levR ys ⟨sn,su,sd,sm,sp,sa⟩ mode=z:=⟨_,rfl⟩;rw [hll] at hz;have hz1:(bsd el xl,el)=(X,E):=hz;obtain ⟨hX,hE⟩:=Prod.mk.inj hz1;have HL:=hid (level13 ys ao ny co sn su sd sm sp sa mode Z HNY.out B7.out.2.2.2.2.2 HY.out.1 B7.out.2.2.2.2.1 (by have:=HY.out.2.2;have:=HNY.out;omega) (xl,el) hll)
       simp only at HL;have HXE:=qsd (ai hX hE);have HZ:=qsd hZ;have HGS:=qsd hgs;clear hZ hz hz1 hX hE hll hgs B6
       go_upto_region 10 with fail
       rw [←HZ.out,HGS.out];clear HZ HGS q1 q2 hlt
       go_wp2_with fail
       refine HL.out.mono ?_;rintro r v4 ⟨rfl,hb⟩
       have B8:Aside (Bl v4 gx 22 [.float .f64 0]∧Bl v4 ge 25 [.int .i64 0]∧Below w.heap.size w v4) :=
        ⟨B7.out.1.below hb B7.out.1.lt,B7.out.2.1.below hb B7.out.2.1.lt,B7.out.2.2.2.1.trans (hb.mono B7.out.2.2.2.1.size)⟩
       have t1:=B8.out.1.cell 0 _ rfl;have t2:=B8.out.1.frozen 0;have t3:=B8.out.2.1.cell 0 _ rfl;have t4:=B8.out.2.1.frozen 0;have hne1:ge≠gx:=HG.out.2.2.2.2;have hne2:gx≠ge:=fun h=>HG.out.2.2.2.2 h.symm
       clear hb B7 HL s0 s1 s2 s3 s4 s5;go_wp2;refine finish13 Tryz.results9 Trimmed1_d B8.out.1 B8.out.2.1 B8.out.2.2 HG.out.2.2.1 HG.out.2.2.2.1 HG.out.2.2.2.2 HXE.out.1 HXE.out.2 (fun _=>by simp [go_sem]) ?_ ?_ <;> rfl
 · rw [if_neg h0] at hz
   have HXE:=qsd (Prod.mk.inj hz);have h1:(ea==0)=false:=by simp [h0]
   clear hz HA;go_wp2;refine early13 Tryz.results9 Trimmed1_d B1.out.1 B1.out.2.1 B1.out.2.2 HG.out.2.2.1 HG.out.2.2.2.2 ((bsd_zero _).trans HXE.out.1) HXE.out.2 (by simp [go_sem]) ?_ ?_ <;> rfl
end
section
open Go.RowKit J
theorem srt_rep (n x:Nat):srt (List.replicate n x)=List.replicate n x:=List.perm_replicate.1 (srt_perm _)
theorem trm_rep (n x k:Nat):trm (List.replicate n x) k=List.replicate (n-2*k) x:=by
 unfold trm;rw [srt_rep,List.length_replicate,List.drop_replicate,List.take_replicate]
 congr 1
 omega
theorem rep_W64 {n x:Nat}(hx:x<18446744073709551616):W64 (List.replicate n x):=fun z hz=>by rw [List.eq_of_mem_replicate hz];exact hx
theorem rep_fin {n x:Nat}(fx:finW x):∀ z ∈ List.replicate n x,finW z:=fun z hz=>by rw [List.eq_of_mem_replicate hz];exact fx
theorem lev_like {x k:Nat}{mode:Int}(hx:x<18446744073709551616) (fx:finW x) (hk:0<k) (hk2:k≤65536) (hm0:0≤mode) (hm4:mode≤4):levR (List.replicate k x) (sS (List.replicate k x)) mode=(x,0):=by
 rw [←mean_like hx fx hk hk2 hm0 hm4,mean_fin (rep_W64 hx) (rep_fin fx) (by rw [List.length_replicate];exact hk2) (if_neg (by omega)) (by decide)]
theorem tr_like {x n:Nat}{k mode:Int}(hx:x<18446744073709551616) (fx:finW x) (hn:n≤65536) (hk0:0≤k) (hk:2*k<n) (hm0:0≤mode) (hm4:mode≤4):trR (List.replicate n x) k mode=(x,0):=by
 have hl:(List.replicate n x).length≤65536:=by rw [List.length_replicate];exact hn
 unfold trR;rw [show askE mode=0 from if_neg (by omega),if_pos rfl,if_neg (by omega),plE_of_fin (rep_W64 hx) (rep_fin fx) hl,if_pos rfl,trm_rep,lev_like hx fx (by omega) (by omega) hm0 hm4]
 rfl
end
section
open Go.RowKit J
attribute [local go_sem] st_float
theorem sub_odd_self {x:Nat}(hx:x<18446744073709551616) (h:¬ finW x):floatBits .sub .f64 x x=none:=by
 rcases Nat.lt_trichotomy 9218868437227405312 (magW x) with q|q|q
 · obtain ⟨s,t,hr⟩:=read_nanW x q
   show ((Ieee.double.read x).sum (Ieee.double.read x).opposite).map Ieee.double.write=none
   rw [hr];rfl
 · have hr:=read_infW x hx q.symm
   show ((Ieee.double.read x).sum (Ieee.double.read x).opposite).map Ieee.double.write=none
   rw [hr]
   cases negW x <;> rfl
 · exact absurd q h
theorem order_nan13 (z:Nat) (h:9218868437227405312<z%9223372036854775808):(FloatKind.f64.format.order z 0==some .eq)=false:=order_nanL z 0 h _
end
section
open Go.RowKit J
theorem vI_cons13 (p:Nat×Int) (I:List (Nat×Int)):vI (p::I)=p.2+vI I:=by
 have:=vI_append [p] I;rw [List.singleton_append] at this;rw [this];unfold vI;simp
theorem wS_rep {w:Nat}(hw:w<18446744073709551616) (fw:finW w):∀ {xs:List Nat},W64 xs→(∀ x ∈ xs,finW x)→wS xs (List.replicate xs.length w)=fS xs*fvW w
 | [],_,_=>by simp [wS,pI13,vI,fS]
 | x::xs,hW,hf=>by
   have ih:=wS_rep hw fw (xs:=xs) (fun z hz=>hW z (List.mem_cons_of_mem _ hz)) (fun z hz=>hf z (List.mem_cons_of_mem _ hz))
   have h1:=(pT_mul (hW x List.mem_cons_self) hw (hf x List.mem_cons_self) fw).1;unfold wS pI13 at ih ⊢;rw [List.length_cons,List.replicate_succ,List.zipWith_cons_cons,vI_cons13,ih,fS_cons,Int.add_mul];simp only;rw [h1]
theorem bits_W {k i:Nat}(hk:k=4238) (hi:i=2098) {c:Nat}(hc:c<2^i) {n:Nat}(hn:n≤65536) (j:Nat) (hj:j=1074):c*n*2^j<2^k:=by
 have h0:(65536:Nat)=2^16:=by decide
 have h1:c*n≤c*2^16:=Nat.mul_le_mul_left _ (by omega)
 have h2:c*2^16<2^i*2^16:=Nat.mul_lt_mul_of_pos_right hc (Nat.two_pow_pos 16);rw [←Nat.pow_add] at h2;have h6:c*n*2^j<2^(i+16)*2^j:=Nat.mul_lt_mul_of_pos_right (Nat.lt_of_le_of_lt h1 h2) (Nat.two_pow_pos j);rw [←Nat.pow_add] at h6;exact Nat.lt_of_lt_of_le h6 (Nat.pow_le_pow_right (by decide) (by omega))
theorem q_zero {W mode:Int}(hW:0<W) (k:Nat) (hk:k≤90000) (hb:W.natAbs<2^k) (hm0:0≤mode) (hm4:mode≤4):qvR 0 W mode=(0,0):=by
 obtain ⟨Y,f,ho2,hY,hf0,hf1,hv2,hbl2,F2⟩:=ex_parts13 (V:=W) (by omega) k hk hb
 rw [decide_eq_false (by omega)] at ho2 F2
 have hm2:mkS false Y f=some (false,Y,f):=mkS_idem F2;have hm1:mkS false 0 0=some (false,0,0):=mkS_zero _ _;unfold qvR;rw [ex_zero,ho2]
 show quoR rndS ⟨false,.bool false,0,0,false,.bool false,Y,f⟩ mode=_
 unfold quoR;rw [if_neg (by omega),if_pos (by rw [errL_one];show errN 0 false 0 Y false f=0;unfold errN;rw [if_neg (by unfold sgn;simp;split <;> omega),hm1,hm2];simp [dX];omega),hm1,hm2]
 show rndS (quoZ false 0 0 Y f) mode=_
 rw [quoZ_nought false 0 Y f (by omega) hbl2]
 unfold rndS;rw [if_neg (by omega)]
 simp
theorem fv_zero_iff {w:Nat}:fvW w=0↔magW w=0:=by
 have h:=fv_abs w
 constructor
 · intro e
   rw [e] at h
   by_cases q:magW w=0
   · exact q
   · have:=vK_pos (Nat.pos_of_ne_zero q);simp at h;omega
 · intro e
   rw [e,grid64.zero] at h;omega
theorem vS_rep {w:Nat}(hw:w<18446744073709551616) (fw:finW w) (n:Nat) (j:Nat) (hj:j=1074):vS (List.replicate n w)=fvW w*n*((2^j:Nat):Int):=by
 rw [vS_fS j hj (rep_W64 hw) (rep_fin fw),fS_rep]
theorem vK_fin {K:Nat}(h:K<9218868437227405312) (i:Nat) (hi:i=2098):vK K<2^i:=by
 have h1:=vK_le (show K≤9218868437227405311 by omega)
 have h2:vK 9218868437227405311<2^i:=by subst hi;decide +kernel
 exact Nat.lt_of_le_of_lt h1 h2
theorem prE_rep {xs:List Nat}{w:Nat}(hW:W64 xs) (hf:∀ x ∈ xs,finW x) (hne:xs≠[]) (hl:xs.length≤65536) (hw:w<18446744073709551616):prE xs (List.replicate xs.length w)=if finW w then 0 else 30:=by
 have e0:=plE_of_fin hW hf hl;have hlr:(List.replicate xs.length w).length=xs.length:=List.length_replicate;unfold prE;rw [hlr,if_neg (by omega),if_neg (by simp),if_neg (by rw [e0];simp)]
 by_cases fw:finW w
 · rw [if_pos fw,plE_of_fin (rep_W64 hw) (rep_fin fw) (by rw [hlr];exact hl),if_neg (by simp),if_neg hne]
 · have hp:=plE_finT (rep_W64 (n:=xs.length) hw) (by rw [hlr];exact hl)
   have hn:¬ plE (List.replicate xs.length w)=0:=fun h=>fw ((hp.1.1 h) w (List.mem_replicate.2 ⟨by have:=List.length_pos_iff.2 hne;omega,rfl⟩))
   rw [if_neg fw,if_pos hn]
   rcases hp.2 with q|q
   · exact absurd q hn
   · exact q
theorem sgn_scaled {S c:Int}(hc:0<c):(S*c<0↔S<0):=by
 constructor
 · intro h
   rcases Int.lt_or_le S 0 with q|q
   · exact q
   · have:=Int.mul_nonneg q (Int.le_of_lt hc);omega
 · intro h;exact Int.mul_neg_of_neg_of_pos h hc
theorem sPl_nought {q:Nat}(h:q=0∨q=9223372036854775808):sPl q=0:=by rcases h with rfl | rfl <;> decide
theorem wt_same {xs:List Nat}{w:Nat}{mode:Int}(hW:W64 xs) (hf:∀ x ∈ xs,finW x) (hne:xs≠[]) (hl:xs.length≤65536) (hw:w<18446744073709551616) (fw:finW w) (h0:magW w≠0) (hm0:0≤mode) (hm4:mode≤4) (s:Sp) :
 ∃ Z,wtR xs (List.replicate xs.length w) mode=(Z,0)∧Z<18446744073709551616∧finW Z∧sPl Z=sPl (levR xs s mode).1:=by
 obtain ⟨j,hj⟩:∃ k:Nat,k=1074:=⟨_,rfl⟩;obtain ⟨i,hi⟩:∃ k:Nat,k=2098:=⟨_,rfl⟩;obtain ⟨k,hk⟩:∃ k:Nat,k=4238:=⟨_,rfl⟩;have hask:askE mode=0:=if_neg (by omega)
 have hp:0<xs.length:=List.length_pos_iff.2 hne;have hfw:fvW w≠0:=fun h=>h0 (fv_zero_iff.1 h)
 obtain ⟨c,hc⟩:∃ c:Nat,c=vK (magW w):=⟨_,rfl⟩;have hcp:0<c:=by rw [hc];exact vK_pos (Nat.pos_of_ne_zero h0)
 have hcb:c<2^i:=by rw [hc];exact vK_fin fw i hi
 have hWb:=bits_W hk hi hcb hl j hj;have hWp:0<c*xs.length*2^j:=Nat.mul_pos (Nat.mul_pos hcp hp) (Nat.two_pow_pos j)
 have hq:wqR (wS xs (List.replicate xs.length w)) (vS (List.replicate xs.length w)) mode=qvR (fS xs*(c:Int)) ((c*xs.length*2^j:Nat):Int) mode:=by
  rw [wS_rep hw fw hW hf,vS_rep hw fw _ j hj];have ec:((c*xs.length*2^j:Nat):Int)=(c:Int)*xs.length*((2^j:Nat):Int):=by rw [Int.natCast_mul,Int.natCast_mul]
  unfold wqR
  rcases Int.lt_or_le (fvW w) 0 with q|q
  · have e:fvW w=-(c:Int):=by have:=fv_abs w;omega
    rw [e,Int.neg_mul,Int.neg_mul,if_pos (by rw [←ec];omega),Int.neg_neg,Int.mul_neg,Int.neg_neg,ec]
  · have e:fvW w=(c:Int):=by have:=fv_abs w;omega
    rw [e,if_neg (by rw [←ec];omega),ec]
 have hr:wtR xs (List.replicate xs.length w) mode=(bsd (qvR (fS xs*(c:Int)) ((c*xs.length*2^j:Nat):Int) mode).2 (qvR (fS xs*(c:Int)) ((c*xs.length*2^j:Nat):Int) mode).1,(qvR (fS xs*(c:Int)) ((c*xs.length*2^j:Nat):Int) mode).2):=by
  unfold wtR;rw [if_pos hask,prE_rep hW hf hne hl hw,if_pos fw,if_pos rfl,hq]
 by_cases hS:fS xs=0
 · rw [hr,hS,Int.zero_mul,q_zero (by omega) k (by omega) (by rw [Int.natAbs_natCast];exact hWb) hm0 hm4]
   have hV:vS xs=0:=by rw [vS_fS j hj hW hf,hS,Int.zero_mul]
   have e:levR xs s mode=(nt (snd s.n s.u s.d s.m s.p s.a) s.n s.u s.d s.m s.p s.a mode,0):=by unfold levR;rw [if_neg hne,if_pos hV]
   refine ⟨0,rfl,by decide,by decide,?_⟩
   rw [e,sPl_nought (nt_nought _ _ _ _ _ _ _ _)]
   decide
 · obtain ⟨K,t,m,hL,hR⟩:=mean_lies hW hf hne hl hS
   have hVb:(fS xs*(c:Int)).natAbs<2^k:=by
    have h1:=fS_bd 9218868437227405311 (xs:=xs) (fun x hx=>by have:magW x<9218868437227405312:=hf x hx;omega)
    have h2:vK 9218868437227405311<2^i:=vK_fin (by decide) i hi
    rw [Int.natAbs_mul,Int.natAbs_natCast];have h0:xs.length≤2^16:=by omega
    have h3:(fS xs).natAbs≤2^16*2^i:=Nat.le_trans h1 (Nat.mul_le_mul h0 (Nat.le_of_lt h2));have h4:(fS xs).natAbs*c≤2^16*2^i*2^i:=Nat.mul_le_mul h3 (Nat.le_of_lt hcb);rw [←Nat.pow_add,←Nat.pow_add] at h4;exact Nat.lt_of_le_of_lt h4 (Nat.pow_lt_pow_right (by decide) (by omega))
   obtain ⟨K',t',m',hL',hR'⟩:=quot_lies (V:=fS xs*(c:Int)) (W:=((c*xs.length*2^j:Nat):Int)) (by intro h;rcases Int.mul_eq_zero.1 h with q|q;exact hS q;omega) (by omega) k (by omega) hVb (by rw [Int.natAbs_natCast];exact hWb)
   have hL2:Lies K' t' m' (fS xs).natAbs xs.length:=by
    refine (hL' j hj).ratio hp ?_;rw [Int.natAbs_natCast,Int.natAbs_mul,Int.natAbs_natCast,Nat.mul_assoc,Nat.mul_assoc,Nat.mul_assoc c,Nat.mul_comm (2^j)]
   have hkk:=rK_same (mode:=mode) (n:=decide (fS xs<0)) (hL2.same hL);have hsg:=sgn_scaled (S:=fS xs) (c:=(c:Int)) (by omega)
   have he:qvR (fS xs*(c:Int)) ((c*xs.length*2^j:Nat):Int) mode=levR xs s mode:=by
    rw [hR' mode hm0 hm4,hR mode hm0 hm4 s]
    by_cases q:fS xs<0
    · rw [if_pos q,if_pos (hsg.2 q),decide_eq_true q,decide_eq_true (hsg.2 q)]
      rw [decide_eq_true q] at hkk;rw [hkk]
    · rw [if_neg q,if_neg (fun h=>q (hsg.1 h)),decide_eq_false q,decide_eq_false (fun h=>q (hsg.1 h))]
      rw [decide_eq_false q] at hkk;rw [hkk]
   rw [hr,he,lev_bsd hask hW hl,lev_ok hask hW hl hne];have hmax:=mean_top mode (decide (fS xs<0)) hL 9218868437227405311 (by decide) (fun x hx=>by have:magW x<9218868437227405312:=hf x hx;omega)
   have hv:=hR mode hm0 hm4 s;have eb:(if fS xs<0 then 9223372036854775808 else 0)=(if decide (fS xs<0) then 9223372036854775808 else 0):=by by_cases q:fS xs<0 <;> simp [q]
   rw [eb] at hv;obtain ⟨v1,v2,v3⟩:=fv_sum (r:=rK mode (decide (fS xs<0)) K t m) (b:=decide (fS xs<0)) (by omega)
   refine ⟨_,rfl,?_,?_,rfl⟩
   · rw [hv];show _+_<_;split <;> omega
   · rw [hv];show magW _<_;rw [v2];omega
end
section
open Go.RowKit J
theorem mean_long {xs:List Nat}{mode:Int}(h:65536<xs.length) (hm0:0≤mode) (hm4:mode≤4):meanR xs mode 0 0=(0,2):=by
 have hask:askE mode=0:=if_neg (by omega)
 have e:sfE 0 0 xs=2:=by unfold sfE;rw [if_neg (by decide),if_pos h]
 unfold meanR;rw [if_pos hask,e,if_neg (by decide)]
theorem wt_long {xs ys:List Nat}{mode:Int}(h:65536<xs.length) (hm0:0≤mode) (hm4:mode≤4):wtR xs ys mode=(0,2):=by
 have hask:askE mode=0:=if_neg (by omega)
 have e:prE xs ys=2:=by unfold prE;rw [if_pos (.inl h)]
 unfold wtR;rw [if_pos hask,e,if_neg (by decide)]
theorem wt_length {xs ys:List Nat}{mode:Int}(h:xs.length≤65536) (h2:ys.length≤65536) (hne:xs.length≠ys.length) (hm0:0≤mode) (hm4:mode≤4):wtR xs ys mode=(0,4):=by
 have hask:askE mode=0:=if_neg (by omega)
 have e:prE xs ys=4:=by unfold prE;rw [if_neg (by omega),if_pos hne]
 unfold wtR;rw [if_pos hask,e,if_neg (by decide)]
theorem tr_long {xs:List Nat}{k mode:Int}(h:65536<xs.length) (hk:0≤k) (hm0:0≤mode) (hm4:mode≤4):trR xs k mode=(0,2):=by
 have hask:askE mode=0:=if_neg (by omega)
 have e:plE xs=2:=by unfold plE;rw [if_pos h]
 unfold trR;rw [if_pos hask,if_neg (by omega),e,if_neg (by decide)]
theorem long_all {n x:Nat}{mode:Int}(hx:x<18446744073709551616) (fx:finW x) (h1:65535≤n) (hm0:0≤mode) (hm4:mode≤4) :
 ∃ a b c:Nat,meanR (List.replicate n x) mode 0 0=(a,if 65536<n then 2 else 0)∧wtR (List.replicate n x) (List.replicate n 4613937818241073152) mode=(b,if 65536<n then 2 else 0)∧trR (List.replicate n x) 32767 mode=(c,if 65536<n then 2 else 0)∧wtR (List.replicate n x) (List.replicate (n-1) 4613937818241073152) mode=(0,if 65536<n then 2 else 4) ∧
   (65536<n→a=0∧b=0∧c=0)∧(n≤65536→a=x∧c=x∧(FloatKind.f64.format.order b x==some .eq)=true):=by
 have hll:(List.replicate n x).length=n:=List.length_replicate
 by_cases h:65536<n
 · refine ⟨0,0,0,?_,?_,?_,?_,fun _=>⟨rfl,rfl,rfl⟩,fun q=>absurd q (by omega)⟩
   · rw [if_pos h];exact mean_long (by omega) hm0 hm4
   · rw [if_pos h];exact wt_long (by omega) hm0 hm4
   · rw [if_pos h];exact tr_long (by omega) (by decide) hm0 hm4
   · rw [if_pos h];exact wt_long (by omega) hm0 hm4
 · have hne:List.replicate n x≠[]:=by intro q;rw [q] at hll;simp at hll;omega
   obtain ⟨Z,z1,z2,z3,z4⟩:=wt_same (w:=4613937818241073152) (rep_W64 hx) (rep_fin fx) hne (by omega) (by decide) (by decide) (by decide) hm0 hm4 (sS (List.replicate n x))
   rw [hll] at z1;rw [lev_like hx fx (by omega) (by omega) hm0 hm4] at z4
   refine ⟨x,Z,x,?_,?_,?_,?_,fun q=>absurd q h,fun _=>⟨rfl,rfl,?_⟩⟩
   · rw [if_neg h];exact mean_like hx fx (by omega) (by omega) hm0 hm4
   · rw [if_neg h];exact z1
   · rw [if_neg h];exact tr_like hx fx (by omega) (by decide) (by omega) hm0 hm4
   · rw [if_neg h];exact wt_length (by omega) (by rw [List.length_replicate];omega) (by rw [hll,List.length_replicate];omega) hm0 hm4
   · rw [eq13 z2 hx z3 fx,decide_eq_true z4]
end
section
open Go.RowKit J Go.Shelf Go.Lib Go.Sort
def sortL_ren:Go.Shelf.Ren:=⟨fun | 6=>80 | 15=>113 | 14=>112 | 28=>107 | 29=>147 | 20=>139 | 21=>140 | 22=>141 | 23=>142 | 24=>143 | 25=>144 | 26=>145 | 27=>146 | 46=>155 | 47=>156 | 48=>157 | 49=>158 | 50=>159 | 57=>166 | n=>n,fun | 22=>24 | 24=>22 | 25=>117 | 3=>3 | 39=>127 | 0=>0 | 53=>76 | 55=>74 | 4=>4 | 46=>178 | 45=>177 | 50=>182 | 5=>5 | 9=>9 | 66=>192 | 70=>196 | 76=>202 | 77=>203 | n=>n,fun | n=>n⟩
theorem sortL:Go.Proofs.SlLaysF.n6 Tryz.prog sortL_ren:={ mixed:=(by kernel_rfl),f6:=⟨Tryz.f80.name,by decide,Tryz.func80.trans (congrArg some (by kernel_rfl))⟩,f14:=⟨Tryz.f112.name,by decide,Tryz.func112.trans (congrArg some (by kernel_rfl))⟩,f15:=Tryz.func113.trans (congrArg some (by kernel_rfl)),f20:=⟨Tryz.f139.name,by decide,Tryz.func139.trans (congrArg some (by kernel_rfl))⟩,f21:=⟨Tryz.f140.name,by decide,Tryz.func140.trans (congrArg some (by kernel_rfl))⟩,f22:=⟨Tryz.f141.name,by decide,Tryz.func141.trans (congrArg some (by kernel_rfl))⟩,f23:=⟨Tryz.f142.name,by decide,Tryz.func142.trans (congrArg some (by kernel_rfl))⟩,f24:=⟨Tryz.f143.name,by decide,Tryz.func143.trans (congrArg some (by kernel_rfl))⟩,f25:=⟨Tryz.f144.name,by decide,Tryz.func144.trans (congrArg some (by kernel_rfl))⟩,f26:=⟨Tryz.f145.name,by decide,Tryz.func145.trans (congrArg some (by kernel_rfl))⟩,f27:=⟨Tryz.f146.name,by decide,Tryz.func146.trans (congrArg some (by kernel_rfl))⟩,f28:=Tryz.func107.trans (congrArg some (by kernel_rfl)),f29:=Tryz.func147.trans (congrArg some (by kernel_rfl)),f46:=⟨Tryz.f155.name,by decide,Tryz.func155.trans (congrArg some (by kernel_rfl))⟩,f47:=Tryz.func156.trans (congrArg some (by kernel_rfl)),f48:=Tryz.func157.trans (congrArg some (by kernel_rfl)),f49:=⟨Tryz.f158.name,by decide,Tryz.func158.trans (congrArg some (by kernel_rfl))⟩,f50:=⟨Tryz.f159.name,by decide,Tryz.func159.trans (congrArg some (by kernel_rfl))⟩,f57:=⟨Tryz.f166.name,by decide,Tryz.func166.trans (congrArg some (by kernel_rfl))⟩,t0:=Tryz.underlying0,a0:=Tryz.isAgg0,z0:=Tryz.sizeOf0,v0:=Tryz.zeroValue0,t3:=Tryz.underlying3,a3:=Tryz.isAgg3,z3:=Tryz.sizeOf3,v3:=Tryz.zeroValue3,t4:=Tryz.underlying4,a4:=Tryz.isAgg4,z4:=Tryz.sizeOf4,v4:=Tryz.zeroValue4,t5:=Tryz.underlying5,a5:=Tryz.isAgg5,z5:=Tryz.sizeOf5,v5:=Tryz.zeroValue5,t9:=Tryz.underlying9,a9:=Tryz.isAgg9,z9:=Tryz.sizeOf9,v9:=Tryz.zeroValue9,t22:=Tryz.underlying24,a22:=Tryz.isAgg24,z22:=Tryz.sizeOf24,v22:=Tryz.zeroValue24,a24:=Tryz.isAgg22,z24:=Tryz.sizeOf22,t25:=Tryz.underlying117,a25:=Tryz.isAgg117,z25:=Tryz.sizeOf117,v25:=Tryz.zeroValue117,t39:=Tryz.underlying127,a39:=Tryz.isAgg127,z39:=Tryz.sizeOf127,v39:=Tryz.zeroValue127,t45:=Tryz.underlying177,a45:=Tryz.isAgg177,z45:=Tryz.sizeOf177,v45:=Tryz.zeroValue177,t46:=Tryz.underlying178,a46:=Tryz.isAgg178,z46:=Tryz.sizeOf178,v46:=Tryz.zeroValue178,t50:=Tryz.underlying182,a50:=Tryz.isAgg182,z50:=Tryz.sizeOf182,v50:=Tryz.zeroValue182,t53:=Tryz.underlying76,a53:=Tryz.isAgg76,z53:=Tryz.sizeOf76,v53:=Tryz.zeroValue76,t55:=Tryz.underlying74,a55:=Tryz.isAgg74,z55:=Tryz.sizeOf74,v55:=Tryz.zeroValue74,t66:=Tryz.underlying192,a66:=Tryz.isAgg192,z66:=Tryz.sizeOf192,v66:=Tryz.zeroValue192,t70:=Tryz.underlying196,a70:=Tryz.isAgg196,z70:=Tryz.sizeOf196,v70:=Tryz.zeroValue196,t76:=Tryz.underlying202,a76:=Tryz.isAgg202,z76:=Tryz.sizeOf202,v76:=Tryz.zeroValue202,t77:=Tryz.underlying203,a77:=Tryz.isAgg203,z77:=Tryz.sizeOf203,v77:=Tryz.zeroValue203 }
abbrev K64:={ x:Nat // x<18446744073709551616∧finW x }
instance : Inhabited K64 := ⟨⟨0, by decide, by decide⟩⟩
def encK (u:K64):Value:=.float .f64 u.1
def cfK (x y:K64):Int:=B.oc (kW x.1) (kW y.1)
theorem ltK (x y:K64):ltOf cfK x y=decide (kW x.1<kW y.1):=by
 unfold ltOf cfK B.oc
 by_cases h1:kW x.1<kW y.1
 · simp [h1]
 · by_cases h2:kW y.1<kW x.1 <;> simp [h1,h2]
theorem swoK:SWO (ltOf cfK) where
 irrefl x:=by rw [ltK];simp
 trans x y z h1 h2:=by rw [ltK] at *;simp at *;omega
 ntrans x y z h1 h2:=by rw [ltK] at *;simp at *;omega
theorem totK (x y:K64) (h1:ltOf cfK x y=false) (h2:ltOf cfK y x=false):x=y:=by
 rw [ltK] at *;simp at h1 h2;exact Subtype.ext (kW_inj x.2.1 y.2.1 (by omega))
theorem geK:(fun x y:K64=>!ltOf cfK y x)=fun x y=>leK x.1 y.1:=by
 funext x y
 rw [ltK];unfold leK
 by_cases h:kW x.1≤kW y.1
 · have h':¬ kW y.1<kW x.1:=by omega
   simp [h,h']
 · have h':kW y.1<kW x.1:=by omega
   simp [h,h']
theorem cmpK (blk off size:Nat) (w:World):CmpReads Tryz.prog 81 #[] encK cfK blk off size w:=fun _ _ _ _ x y=>(order13s x.2.1 y.2.1 x.2.2 y.2.2 _).mono fun e w' ⟨he,hw⟩=>⟨he,0,hw⟩
theorem sortsF:SortsF:=by
 intro xs g c w hne hW hf hl hg hc hz;obtain ⟨L,hL⟩:∃ L:List K64,L=xs.pmap (fun x h=>(⟨x,h⟩:K64)) (fun x hx=>⟨hW x hx,hf x hx⟩):=⟨_,rfl⟩
 have hv:L.map (·.1)=xs:=by rw [hL,List.map_pmap];simp
 have hlen:L.length=xs.length:=by rw [←hv];simp
 have hsz:L.toArray.size=xs.length:=by simpa using hlen
 have hH:Holds encK w g 0 L.toArray:=by
  intro j hj;rw [hsz] at hj;refine ⟨?_,hz j hj⟩;rw [hc j hj];have hjl:j<L.length:=by omega
  have e:L.toArray[j]! = L[j]:=by rw [getElem!_pos _ j (by rw [hsz];exact hj)];simp
  rw [e];unfold encK;have h9:(L.map (·.1))[j]?=xs[j]?:=by rw [hv]
  rw [List.getElem?_map,List.getElem?_eq_getElem hjl] at h9
  rw [List.getD_eq_getElem?_getD,←h9];rfl
 have eg:∀ args w,(callFunc 81 args).run Tryz.prog w=.ok (.enter 81 args) w:=enters_of Tryz.func81 (by kernel_rfl) rfl
 have hS:=Any.slices_SortFunc_total sortL encK (fun _=>rfl) cfK swoK 81 #[] g 0 c L.toArray w eg (cmpK g 0 L.toArray.size w).lays hH hg (by rw [hsz];omega) totK
 rw [geK,hsz] at hS
 change Calls Tryz.prog 80 _ _ _ at hS
 refine hS.mono ?_;rintro e w' ⟨rfl,m,os,hw⟩
 have hys:((L.mergeSort fun x y=>leK x.1 y.1).map (·.1))=srt xs:=by
  unfold srt;rw [←hv];exact List.map_mergeSort (fun a _ b _=>rfl)
 obtain ⟨Y,hY⟩:∃ Y,L.mergeSort (fun x y=>leK x.1 y.1)=Y:=⟨_,rfl⟩
 have hYl:Y.length=xs.length:=by rw [←hY,List.length_mergeSort,hlen]
 have hw2:w'=grow ((w.drewN m).setCells g 0 (Y.map encK)) os:=by
  rw [hw]
  show sortWorld encK w g 0 m (L.mergeSort fun x y=>leK x.1 y.1).toArray os=_
  rw [hY];exact Lib.sorted_world encK w g 0 m L.toArray Y os hH (by rw [hYl,hsz])
 rw [hY] at hys;have hb:But g w ((w.drewN m).setCells g 0 (Y.map encK)):=But.setCells _ _ (show But g w (w.drewN m) from ⟨rfl,rfl,rfl,Nat.le_refl _,fun _ _ _=>rfl⟩)
 have hs2:((w.drewN m).setCells g 0 (Y.map encK)).heap.size=w.heap.size:=Go.Sort.size_setCells g _ 0 (w.drewN m);refine ⟨rfl,⟨by rw [hw2];unfold grow;simp;omega,fun j hj=>?_⟩,fun B hB hB2=>?_⟩
 · rw [hw2,cell?_grow _ os _ (by rw [hs2];exact hg)]
   have hj2:j<(Y.map encK).length:=by rw [List.length_map];omega
   rw [World.cell?_setCells_in g (Y.map encK) 0 (w.drewN m) (fun i hi=>by rw [List.length_map] at hi;rw [World.cell?_drewN,hc i (by omega)];rfl) j hj2]
   have h9:(Y.map (·.1))[j]?=(srt xs)[j]?:=by rw [hys]
   rw [List.getElem?_map,List.getElem?_eq_getElem (show j<Y.length by omega)] at h9
   rw [List.getD_eq_getElem?_getD,←h9,List.getElem_map];rfl
 · have h0:Below B w ((w.drewN m).setCells g 0 (Y.map encK)):=But.below (Below.refl B w) hb hB2 hB
   rw [hw2];refine ⟨h0.os,h0.tape,h0.output,by unfold grow;simp,fun k hk=>?_⟩
   rw [heap_grow_old _ os (by rw [hs2];omega)]
   exact h0.block k hk
end
section
open Go.RowKit J
attribute [local go_sem] st_float
theorem wf64f13 {a:Nat}(h:(Lit.float .f64 a).wf=true):a<18446744073709551616:=by
 simpa [Lit.wf] using h
theorem rep_getD {n x i:Nat}(h:i<n):(List.replicate n x).getD i 0=x:=by
 rw [List.getD_eq_getElem?_getD,List.getElem?_replicate,if_pos h];rfl
theorem rep_set (N k x z:Nat) (h:k<N):(List.replicate k x++List.replicate (N-k) z).set k x=List.replicate (k+1) x++List.replicate (N-(k+1)) z:=by
 have e:N-k=(N-(k+1))+1:=by omega
 rw [List.set_append,if_neg (by simp),List.length_replicate,Nat.sub_self,e,List.replicate_succ,List.set_cons_zero,List.replicate_succ',List.append_assoc]
 rfl
theorem rep_get0 (N k x z:Nat) (h:k<N):(List.replicate k x++List.replicate (N-k) z).length=N:=by simp;omega
theorem OwnF.oth {w:World}{g:Nat}{L:List Nat}(h:OwnF w g L) (g' i:Nat) (hg:g≠g') (u:Value):OwnF (w.setCell ⟨g',i,none⟩ u) g L:=(Below.heap_setCell w ⟨g',i,none⟩ u g hg).trans h
theorem walk2_MeanLong (n:Int) (x:Nat) (mode:Int) (w:World) (hT:Tab w) (hx:x<18446744073709551616) :
 Calls Tryz.prog 3 #[.int .i64 n,.float .f64 x,.int .i64 mode] w fun r w'=>r=.returned (.bool true)∧Below w.heap.size w w':=by
 have HL:=hid (live13 w hT);have z00:(FloatKind.f64.format.order 0 0==some .eq)=true:=by decide +kernel
 have z00':FloatKind.f64.format.order 0 0=some .eq:=by decide +kernel
 by_cases hgo:65535≤n∧n≤65538∧finW x∧0≤mode∧mode≤4
 · obtain ⟨h1,h2,fx,hm0,hm4⟩:=hgo
   obtain ⟨N,hN⟩:∃ N:Nat,n=(N:Int):=⟨n.toNat,by omega⟩
   subst hN;obtain ⟨A,Bv,Cv,r1,r2,r3,r4,r5,r6⟩:=long_all (n:=N) (mode:=mode) hx fx (by omega) hm0 hm4
   obtain ⟨E,hE⟩:∃ E:Int,E=if 65536<N then 2 else 0:=⟨_,rfl⟩
   obtain ⟨F,hF⟩:∃ F:Int,F=if 65536<N then 2 else 4:=⟨_,rfl⟩
   rw [←hE] at r1 r2 r3;rw [←hF] at r4;have HM:=hid (fun (u:World) (a:Option Addr) (c:Nat) (hb:Below w.heap.size w u) (hf:Fs u.heap.size u a (List.replicate N x))=>Mean13 (List.replicate N x) a N c mode 0 0 u List.length_replicate.symm hf (rep_W64 hx) (hT.belows hb) (by omega) _ r1)
   have HW:=hid (fun (u:World) (a b:Option Addr) (c d:Nat) (hb:Below w.heap.size w u) (hf:Fs u.heap.size u a (List.replicate N x)) (hg:Fs u.heap.size u b (List.replicate N 4613937818241073152))=>Weighted13 (List.replicate N x) (List.replicate N 4613937818241073152) a b N N c d mode u List.length_replicate.symm List.length_replicate.symm hf hg (rep_W64 hx) (rep_W64 (by decide)) (hT.belows hb) _ r2)
   have HQ:=hid (fun (u:World) (a:Option Addr) (c:Nat) (hb:Below w.heap.size w u) (hf:Fs u.heap.size u a (List.replicate N x))=>Trimmed13 sortsF (List.replicate N x) a N c 32767 mode u List.length_replicate.symm hf (rep_W64 hx) (by omega) (by decide) (hT.belows hb) _ r3)
   have HV:=hid (fun (u:World) (a b:Option Addr) (c d:Nat) (hb:Below w.heap.size w u) (hf:Fs u.heap.size u a (List.replicate N x)) (hg:Fs u.heap.size u b (List.replicate (N-1) 4613937818241073152))=>Weighted13 (List.replicate N x) (List.replicate (N-1) 4613937818241073152) a b N (N-1) c d mode u List.length_replicate.symm List.length_replicate.symm hf hg (rep_W64 hx) (rep_W64 (by decide)) (hT.belows hb) _ r4)
   simp only at HM HW HQ HV;have HR:=(qsd (ai r5 (ai r6 (ai hE hF))));have dS:=fun W:World=>run_float_arith (P:=Tryz.prog) W .sub 22 .f64 x x 0 (sub_self_fin x hx fx)
   have hmk:=make_floats ((N:Nat):Int) N rfl (by omega)
   have d1:decide ((N:Int)<65535)=false:=by simp;omega
   have d2:decide (65538<(N:Int))=false:=by simp;omega
   have d4:decide (mode<0)=false:=by simp;omega
   have d5:decide (4<mode)=false:=by simp;omega
   clear r1 r2 r3 r4 r5 r6 hE hF hT hx fx;go_enter Tryz.func3,Tryz.ntmps3
   go_wp2_with fail
   refine HL.out.mono ?_;rintro r u1 ⟨rfl,hb⟩
   have O1:Aside (OwnF ((u1.alloc (.cells (madeCells #[.float .f64 0] N) 22)).alloc (.cells (madeCells #[.float .f64 0] N) 22)) u1.heap.size (List.replicate N 0)∧OwnF ((u1.alloc (.cells (madeCells #[.float .f64 0] N) 22)).alloc (.cells (madeCells #[.float .f64 0] N) 22)) (u1.heap.size+1) (List.replicate N 0)∧Below w.heap.size w ((u1.alloc (.cells (madeCells #[.float .f64 0] N) 22)).alloc (.cells (madeCells #[.float .f64 0] N) 22))∧w.heap.size≤u1.heap.size):=by
    have m2:=OwnF.made (u1.alloc (.cells (madeCells #[.float .f64 0] N) 22)) N;rw [World.size_alloc] at m2;refine ⟨(OwnF.made u1 N).below (below_alloc _ _) (by simp),m2,?_,hb.size⟩
    exact (hb.trans ((below_alloc _ _).mono hb.size)).trans ((below_alloc _ _).mono (by simp;have:=hb.size;omega))
   clear hb HL;go_wp2;obtain ⟨gw,hgw⟩:∃ g,g=u1.heap.size+1:=⟨_,rfl⟩;rw [←hgw] at O1 ⊢;obtain ⟨gl,hgl⟩:∃ g,g=u1.heap.size:=⟨_,rfl⟩;rw [←hgl] at O1 ⊢;have hne:gl≠gw:=by omega
   have hne2:gw≠gl:=by omega
   have hglw:gl≤gw:=by omega
   clear hgl hgw
   go_loopg [10] N (fun gk iv wr=>∃ k:Nat,gk+k=N∧iv=.int .i64 (k:Nat)∧Aside (OwnF wr gl (List.replicate k x++List.replicate (N-k) 0)∧OwnF wr gw (List.replicate k 4613937818241073152++List.replicate (N-k) 0)∧Below w.heap.size w wr))
   case atStart=>exact ⟨0,by omega,by simp,by simpa using O1.out.1,by simpa using O1.out.2.1,O1.out.2.2.1⟩
   case round =>
    obtain ⟨k,hgk,rfl,HA⟩:=hrel;have HG:=qsd O1.out.2.2.2;clear O1
    by_cases hk:k<N
    · have f1:=HA.out.1.frozen k
      have f2:=HA.out.2.1.frozen k;have c1:=HA.out.1.cell k (by rw [rep_get0 N k x 0 hk];exact hk)
      have c2:=HA.out.2.1.cell k (by rw [rep_get0 N k _ 0 hk];exact hk)
      obtain ⟨q1,hq1⟩:∃ q,q=(List.replicate k x++List.replicate (N-k) 0).getD k 0:=⟨_,rfl⟩;obtain ⟨q2,hq2⟩:∃ q,q=(List.replicate k 4613937818241073152++List.replicate (N-k) 0).getD k 0:=⟨_,rfl⟩;rw [←hq1] at c1;rw [←hq2] at c2;clear hq1 hq2;have hd:decide ((k:Int)<N)=true:=by simp;omega
      have hkb:k<4611686018427387904:=by omega
      have HN:Aside (OwnF ((wr.setCell ⟨gl,k,none⟩ (.float .f64 x)).setCell ⟨gw,k,none⟩ (.float .f64 4613937818241073152)) gl (List.replicate (k+1) x++List.replicate (N-(k+1)) 0)∧OwnF ((wr.setCell ⟨gl,k,none⟩ (.float .f64 x)).setCell ⟨gw,k,none⟩ (.float .f64 4613937818241073152)) gw (List.replicate (k+1) 4613937818241073152++List.replicate (N-(k+1)) 0)∧Below w.heap.size w ((wr.setCell ⟨gl,k,none⟩ (.float .f64 x)).setCell ⟨gw,k,none⟩ (.float .f64 4613937818241073152))):=by
       have s1:=(HA.out.1.set k x).oth gw k hne (.float .f64 4613937818241073152);have s2:=(HA.out.2.1.oth gl k hne2 (.float .f64 x)).set k 4613937818241073152;rw [rep_set N k _ 0 hk] at s1 s2;have hg:w.heap.size≤gl:=HG.out;have b1:=But.below HA.out.2.2 ((But.refl gl wr).set k (.float .f64 x)) HA.out.2.2.size hg;have b2:=But.below b1 ((But.refl gw (wr.setCell ⟨gl,k,none⟩ (.float .f64 x))).set k (.float .f64 4613937818241073152)) b1.size (by have:=HG.out;omega)
       exact ⟨s1,s2,b2⟩
      clear HA HM HW HQ HV;go_wp2
      go_roundg (gk-1)
      case measure=>omega
      case rel=>exact ⟨k+1,by omega,by first | rfl | simp,HN.out⟩
    · obtain rfl:N=k:=by omega
      have hd:decide ((N:Int)<N)=false:=by simp
      have P:Aside ((∀ u:World,Below wr.heap.size wr u→Fs u.heap.size u (some ⟨gl,0,none⟩) (List.replicate N x))∧(∀ u:World,Below wr.heap.size wr u→Fs u.heap.size u (some ⟨gw,0,none⟩) (List.replicate N 4613937818241073152))∧(∀ u:World,Below wr.heap.size wr u→Fs u.heap.size u (some ⟨gw,1,none⟩) (List.replicate (N-1) 4613937818241073152))):=by
       have q1:=HA.out.1;have q2:=HA.out.2.1;rw [Nat.sub_self,List.replicate_zero,List.append_nil] at q1 q2;have t1:=q1.fs q1.lt N;have t2:=q2.fs q2.lt N;rw [List.take_of_length_le (by simp)] at t1 t2
       have t3:Fs wr.heap.size wr (some ⟨gw,1,none⟩) (List.replicate (N-1) 4613937818241073152):=by
        intro _;refine ⟨gw,1,q2.lt,rfl,fun i hi=>?_⟩
        rw [List.length_replicate] at hi;rw [q2.cell (1+i) (by rw [List.length_replicate];omega)]
        rw [rep_getD (show 1+i<N by omega),rep_getD hi]
       exact ⟨fun u hb=>(t1.below hb).mono hb.size,fun u hb=>(t2.below hb).mono hb.size,fun u hb=>(t3.below hb).mono hb.size⟩
      have B2:=qsd HA.out.2.2;clear HA HG;have C:=hid (HM.out wr (some ⟨gl,0,none⟩) N B2.out (P.out.1 wr (Below.refl _ _)));clear HM
      go_wp2_with fail
      refine C.out.mono ?_;rintro r u3 ⟨rfl,hb⟩;have B3:=qsd hb;clear hb C;have C:=hid (HW.out u3 (some ⟨gl,0,none⟩) (some ⟨gw,0,none⟩) N N (B2.out.trans (B3.out.mono B2.out.size)) (P.out.1 u3 B3.out) (P.out.2.1 u3 B3.out));clear HW
      go_wp2_with fail
      refine C.out.mono ?_;rintro r u4 ⟨rfl,hb⟩;have B4:=qsd (B3.out.trans (hb.mono B3.out.size));clear hb C B3;have C:=hid (HQ.out u4 (some ⟨gl,0,none⟩) N (B2.out.trans (B4.out.mono B2.out.size)) (P.out.1 u4 B4.out));clear HQ
      go_wp2_with fail
      refine C.out.mono ?_;rintro r u5 ⟨rfl,hb⟩;have B5:=qsd (B4.out.trans (hb.mono B4.out.size));clear hb C B4;have C:=hid (HV.out u5 (some ⟨gl,0,none⟩) (some ⟨gw,1,none⟩) N (N-1) (B2.out.trans (B5.out.mono B2.out.size)) (P.out.1 u5 B5.out) (P.out.2.2 u5 B5.out));clear HV P;have h1N:1≤N:=by omega
      go_wp2_with fail
      refine C.out.mono ?_;rintro r u6 ⟨rfl,hb⟩;have B6:=qsd ((B2.out.trans (B5.out.mono B2.out.size)).trans (hb.mono (B2.out.trans (B5.out.mono B2.out.size)).size));clear hb C B5 B2;obtain ⟨r5,r6,hE,hF⟩:=HR.out;clear HR
      by_cases hl:65536<N
      · obtain ⟨rfl,rfl,rfl⟩:=r5 hl
        rw [if_pos hl] at hE hF;subst hE hF;have d6:decide (65536<(N:Int))=true:=by simp;omega
        have C3:=hid (fun u:World=>exact_law13 0 0 u)
        rw [decide_eq_true rfl] at C3;clear r5 r6
        go_wp2_with (go_at_call 10;refine (C3.out _).mono ?_;rintro r u3 ⟨rfl,hu⟩;rw [hu];clear hu)
        go_ret;exact ⟨rfl,B6.out⟩
      · obtain ⟨rfl,rfl,ho⟩:=r6 (by omega)
        rw [if_neg hl] at hE hF;subst hE hF;have ho':=ho;rw [beq_iff_eq] at ho';have d6:decide (65536<(N:Int))=false:=by simp;omega
        have C3:=hid (fun (q:Nat) (u:World)=>exact_law13 q q u)
        simp only [decide_true] at C3;clear r5 r6
        go_wp2_with (go_at_call 10;refine (C3.out _ _).mono ?_;rintro r u3 ⟨rfl,hu⟩;rw [hu];clear hu)
        go_ret;exact ⟨rfl,B6.out⟩
 · have HX:=qsd hgo
   have HXX:=qsd hx;clear hT hgo hx;go_enter Tryz.func3,Tryz.ntmps3
   go_wp2_with fail
   refine HL.out.mono ?_;rintro r u1 ⟨rfl,hb⟩;have B1:=qsd hb;clear hb HL
   by_cases h1:n<65535
   · have d1:decide (n<65535)=true:=by simp [h1]
     clear HX;go_wp2;go_ret;exact ⟨rfl,B1.out⟩
   · have d1:decide (n<65535)=false:=by simp;omega
     by_cases h2:65538<n
     · have d2:decide (65538<n)=true:=by simp [h2]
       clear HX;go_wp2;go_ret;exact ⟨rfl,B1.out⟩
     · have d2:decide (65538<n)=false:=by simp;omega
       by_cases fx:finW x
       · have dS:=fun W:World=>run_float_arith (P:=Tryz.prog) W .sub 22 .f64 x x 0 (sub_self_fin x HXX.out fx)
         by_cases hm0:mode<0
         · have d4:decide (mode<0)=true:=by simp [hm0]
           clear HX;go_wp2;go_ret;exact ⟨rfl,B1.out⟩
         · have d4:decide (mode<0)=false:=by simp;omega
           have d5:decide (4<mode)=true:=by
            have:¬ mode≤4:=fun h=>HX.out ⟨by omega,by omega,fx,by omega,h⟩
            simp;omega
           clear HX;go_wp2;go_ret;exact ⟨rfl,B1.out⟩
       · obtain ⟨z,hz,d⟩:=run_float_none (P:=Tryz.prog) u1 .sub 22 x x (.inr (.inl rfl)) (sub_odd_self HXX.out fx)
         have ho:=order_nan13 z hz.1;have ho2:(FloatKind.f64.format.order z 0 != some .eq)=true:=by simp only [bne,ho];rfl
         have ho':¬ FloatKind.f64.format.order z 0=some .eq:=by simpa using ho
         have B2:=qsd (B1.out.trans ((Below.refl u1.heap.size u1).drew.mono B1.out.size));clear HX hz;go_wp2;go_ret;exact ⟨rfl,B2.out⟩
end
end Go.Proofs.YtmkmndlpjenemaaGreatDoor
