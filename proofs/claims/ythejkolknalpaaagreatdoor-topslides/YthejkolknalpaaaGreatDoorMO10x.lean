import Derived.Test.YthejkolknalpaaaGreatDoorMO5x
import Derived.Test.YthejkolknalpaaaGreatDoorE6x
import Derived.Test.YthejkolknalpaaaGreatDoorP2x
import Derived.Test.YthejkolknalpaaaGreatDoorZ9x
import Derived.Test.YthejkolknalpaaaGreatDoorD30x
import Derived.Test.YthejkolknalpaaaGreatDoorBIeeex
import Derived.BigQuiet
import Derived.Deep.Cut
import Derived.Test.YthejkolknalpaaaGreatDoorD14x
import Derived.Test.YthejkolknalpaaaGreatDoorD21x
import Derived.Deep.RegionWith
import Derived.Deep.RegionHeld3
import Derived.Deep.CutRange
import Derived.OwnWalk
import Derived.ArgAppend
import Derived.Maps.AppendAt
import Derived.WalkMore
import Derived.Test.YthejkolknalpaaaGreatDoorM1x
import Derived.Test.YthejkolknalpaaaGreatDoorF5x
set_option linter.unusedVariables false
set_option linter.unusedSimpArgs false
set_option maxHeartbeats 16000000
set_option maxRecDepth 20000
namespace Go.Proofs.YthejkolknalpaaaGreatDoor
namespace J
end J
section
open Go Go.RowKit J
def mdB (mode:Int):Bool:=decide (0≤mode)&&decide (mode≤4)
def lsB (less:Int):Bool:=decide (less=0) || decide (less=1)
theorem md_ok {mode:Int}(h:mdB mode=true):0≤mode∧mode≤4:=by unfold mdB at h;simpa using h
theorem ls_ok {less:Int}(h:lsB less=true):less=0∨less=1:=by unfold lsB at h;simpa using h
theorem isMode14 (mode:Int) (w:World):Calls Tryz.prog 71 #[.int .i64 mode] w fun r w'=>r=.returned (.bool (mdB mode))∧w'=w:=by
 unfold mdB
 by_cases h0:0≤mode
 · have d0:decide (0≤mode)=true:=decide_eq_true h0
   by_cases h4:mode≤4
   · have d4:decide (mode≤4)=true:=decide_eq_true h4
     rw [d0,d4];go_enter Tryz.func71,Tryz.ntmps71;go_wp2;go_ret;exact ⟨rfl,rfl⟩
   · have d4:decide (mode≤4)=false:=decide_eq_false h4
     rw [d0,d4];go_enter Tryz.func71,Tryz.ntmps71;go_wp2;go_ret;exact ⟨rfl,rfl⟩
 · have d0:decide (0≤mode)=false:=decide_eq_false h0
   rw [d0,Bool.false_and];go_enter Tryz.func71,Tryz.ntmps71;go_wp2;go_ret;exact ⟨rfl,rfl⟩
theorem isLess14 (less:Int) (w:World):Calls Tryz.prog 72 #[.int .i64 less] w fun r w'=>r=.returned (.bool (lsB less))∧w'=w:=by
 unfold lsB
 by_cases h0:less=0
 · subst h0
   go_enter Tryz.func72,Tryz.ntmps72;go_wp2;go_ret;exact ⟨rfl,rfl⟩
 · by_cases h1:less=1
   · subst h1
     go_enter Tryz.func72,Tryz.ntmps72;go_wp2;go_ret;exact ⟨rfl,rfl⟩
   · rw [decide_eq_false h0,decide_eq_false h1]
     have d0:(less==0)=false:=by simp [h0]
     have d1:(less==1)=false:=by simp [h1]
     go_enter Tryz.func72,Tryz.ntmps72;go_wp2;go_ret;exact ⟨rfl,rfl⟩
theorem shares14 (n:Nat) (less:Int) (w:World) (hT:Tab w) (hn:n≤1099511627776) (h0:0≤less) (h1:less≤1) (hl:less<n) :
 Calls Tryz.prog 74 #[.int .i64 (n:Nat),.int .i64 less] w fun r w'=>DVal 0 w' r (gV 0 ((n:Int)*((n:Int)-less)))∧Below w.heap.size w w':=by
 have b1:Bd 41 (n:Int):=Bd.nat (by omega)
 have b2:Bd 41 ((n:Int)-less):=by unfold Bd;omega
 obtain ⟨oA,hA⟩:∃ o,o=gV 0 (n:Int):=⟨_,rfl⟩;obtain ⟨oB,hB⟩:∃ o,o=gV 0 ((n:Int)-less):=⟨_,rfl⟩;obtain ⟨oC,hC⟩:∃ o,o=gV 0 ((n:Int)*((n:Int)-less)):=⟨_,rfl⟩;have FA:Fm oA:=by rw [hA];exact g_fm (by decide) (by decide) b1
 have FB:Fm oB:=by rw [hB];exact g_fm (by decide) (by decide) b2
 have FC:Fm oC:=by rw [hC];exact g_fm (by decide) (by decide) (b1.mul b2)
 have E:mulD oA oB=oC:=by rw [hA,hB,hC];exact g_mul (by decide) (by decide) (by decide) (by decide) b1 b2
 rw [←hC];have HI1:Hid (∀ u:World,Tab u→Calls Tryz.prog 69 #[.int .i64 (n:Nat)] u fun r w'=>DVal 0 w' r oA∧Below u.heap.size u w'):=fun u hu=>by rw [hA];exact Int14 n u hu (by omega) (by omega)
 have HI2:Hid (∀ u:World,Tab u→Calls Tryz.prog 69 #[.int .i64 ((n:Int)-less)] u fun r w'=>DVal 0 w' r oB∧Below u.heap.size u w'):=fun u hu=>by rw [hB];exact Int14 _ u hu (by omega) (by omega)
 have HX:=qsd (ai FA (ai FB (ai FC (ai E hT))));have hwr:IntKind.i64.wrap ((n:Int)-less)=(n:Int)-less:=by rw [IntKind.wrap_i64];omega
 clear hA hB hC FA FB FC E hT b1 b2;obtain ⟨W,hW⟩:∃ W,W=w.alloc (Obj.cells #[.bool false,.slice none 0 0,.int .i64 0] 67):=⟨_,rfl⟩;have H0:Aside (Lo W w.heap.size o00∧Below w.heap.size w W):=by rw [hW];exact ⟨Lo.zero _,below_alloc _ _⟩
 have HW:=qsd hW;clear hW;go_enter Tryz.func74,Tryz.ntmps74
 go_upto_region 1 with fail
 rw [←HW.out];clear HW;have C:=hid (HI1.out W (HX.out.2.2.2.2.belows H0.out.2))
 go_wp2_with fail
 refine C.out.mono ?_;rintro r u1 ⟨hd,hb⟩;obtain ⟨a1,c1,rfl,hN1⟩:=hd.shp14;have H1:=(qsd (ai (H0.out.1.below hb) (ai (H0.out.2.trans (hb.mono H0.out.2.size)) hN1)));clear hb hd hN1 H0 C;have C:=hid (HI2.out u1 (HX.out.2.2.2.2.belows H1.out.2.1))
 go_wp2_with fail
 refine C.out.mono ?_;rintro r u2 ⟨hd,hb⟩;obtain ⟨a2,c2,rfl,hN2⟩:=hd.shp14;have H2:=(qsd (ai (H1.out.1.below hb) (ai (H1.out.2.1.trans (hb.mono H1.out.2.1.size)) (ai (H1.out.2.2.below hb) hN2))));clear hb hd hN2 H1 C;have C:=hid (times14 HX.out.1 HX.out.2.1 HX.out.2.2.1 H2.out.2.2.1 H2.out.2.2.2 (HX.out.2.2.2.2.belows H2.out.2.1) HX.out.2.2.2.1)
 go_wp2_with fail
 refine C.out.mono ?_;rintro r u3 ⟨hd,hb⟩;obtain ⟨a3,c3,rfl,hN3⟩:=hd.shp14;have H3:=(qsd (ai (H2.out.1.below hb) (ai (H2.out.2.1.trans (hb.mono H2.out.2.1.size)) hN3)));clear hb hd hN3 H2 C;obtain ⟨p2,q2,D2,M2⟩:=H3.out.1;obtain ⟨y0,y1,y2,yf0,yf1,yf2⟩:=D2.facts;clear D2 M2;go_wp2;exact end14 Tryz.results74 rfl H3.out.1 H3.out.2.1 (Nat.le_refl _) H3.out.2.2
noncomputable def qR14 (V D:Option (Bool×Nat×Int)) (mode:Int):Nat×Int:=quoR rndS ⟨dN V,.bool false,dX V,dE V,dN D,.bool false,dX D,dE D⟩ mode
theorem Quot14 {u:World}{a b:Option Addr}{ca cb:Nat}{V D:Option (Bool×Nat×Int)}(mode:Int) (FV:Fm V) (FD:Fm D) (n1:Nt 0 u (.slice a (ws (dX V)).length ca) (dX V)) (n2:Nt 0 u (.slice b (ws (dX D)).length cb) (dX D)) (hT:Tab u) :
 Calls Tryz.prog 47 #[.agg #[.bool (dN V),.slice a (ws (dX V)).length ca,.int .i64 (dE V),.bool (dN D),.slice b (ws (dX D)).length cb,.int .i64 (dE D)],.int .i64 mode] u fun r w'=>r=.returned (.tuple #[.float .f64 (qR14 V D mode).1,.int .i64 (qR14 V D mode).2])∧Below u.heap.size u w' :=
 Quot11 (w:=u) (n:=dN V) (m:=dN D) (X:=dX V) (Y:=dX D) (e:=dE V) (f:=dE D) mode ⟨n1.av (Nat.le_trans FV.len (by decide)),n2.av (Nat.le_trans FD.len (by decide)),FV.rng,FD.rng⟩ hT
theorem ps_rd14 {B:Nat}{w:World}{a:Option Addr}{xs:List Nat}(h:Fs B w a xs):Ps.Rd B w a xs:=h
theorem lt_fs14 {lo:Nat}{w:World}{v:Value}{xs:List Nat}(h:Ps.Lt lo w v xs):∃ a c,v=.slice a xs.length c∧Fs w.heap.size w a xs:=by
 have h2:=h.2;unfold Ps.Lt at h
 rcases h2 with ⟨rfl,h0⟩|⟨g,cap,cur,rfl,hlo,hg,rest⟩
 · exact ⟨none,0,by rw [h0],fun hne=>absurd (List.eq_nil_of_length_eq_zero h0) hne⟩
 · refine ⟨_,cap,rfl,fun _=>⟨g,0,(Array.getElem?_eq_some_iff.1 hg).1,rfl,fun i hi=>?_⟩⟩
   have h1:=h.cells (g:=g) (by simp [Value.ownBlock]) i (.float .f64 (xs.getD i 0)) (by simp [Ps.U,hi])
   have e:(⟨g,0,none⟩:Addr).add i=⟨g,0+i,none⟩:=by unfold Addr.add;split <;> simp_all
   rw [e] at h1;exact h1
theorem Sift14 (xs:List Nat) (a:Option Addr) (n c:Nat) (pa pb:Int) (w:World) (hn:n=xs.length) (hm:n≤35184372088832) (hF:Fs w.heap.size w a xs) (hW:W64 xs) :
 Calls Tryz.prog 44 #[.slice a n c,.agg #[.int .i64 pa,.int .i64 pb]] w fun r w' =>
  ((Ps.siftE pa pb xs≠0∧∃ a' c',r=.returned (.tuple #[.slice a' 0 c',.agg #[.int .i64 0,.int .i64 0,.int .i64 0,.int .i64 0,.int .i64 0,.int .i64 0],.int .i64 (Ps.siftE pa pb xs)])) ∨
   (Ps.siftE pa pb xs=0∧∃ a' c',r=.returned (.tuple #[.slice a' (Ps.fin xs).length c',.agg #[.int .i64 (Ps.cn 5 xs:Nat),.int .i64 (Ps.cn 3 xs:Nat),.int .i64 (Ps.cn 4 xs:Nat),.int .i64 (Ps.cn 1 xs:Nat),.int .i64 (Ps.cn 2 xs:Nat),.int .i64 (xs.length:Nat)],.int .i64 0])∧Fs w'.heap.size w' a' (Ps.fin xs)))∧Below w.heap.size w w':=by
 refine (Ps.Sift_any xs a n c w.heap.size pa pb w hn hm hW (ps_rd14 hF) (Nat.le_refl _)).mono ?_;rintro r w' ⟨v,rfl,hL,hb⟩;refine ⟨?_,hb⟩;unfold Ps.siftS;unfold Ps.siftL at hL
 by_cases h0:Ps.siftE pa pb xs=0
 · rw [if_pos h0] at hL ⊢
   obtain ⟨a',c',rfl,hF'⟩:=lt_fs14 hL;exact .inr ⟨h0,a',c',by rw [h0],hF'⟩
 · rw [if_neg h0] at hL ⊢
   obtain ⟨a',c',rfl,_⟩:=lt_fs14 hL;exact .inl ⟨h0,a',c',rfl⟩
def crB (pa pb:Int) (xs:List Nat):Bool:=(decide (0<Ps.cn 5 xs)&&decide (pa=0)) || (decide (0<Ps.cn 3 xs+Ps.cn 4 xs)&&decide (pb=0))
theorem siftE_ok14 {pa pb:Int}{xs:List Nat}(h:Ps.siftE pa pb xs=0):may pa pb=true∧xs.length≤65536:=by
 unfold Ps.siftE at h
 cases hm:may pa pb with
 | false=>rw [hm] at h;simp at h
 | true =>
   rw [hm,if_neg (by decide)] at h
   by_cases hl:65536<xs.length
   · rw [if_pos hl] at h;exact absurd h (by decide)
   · exact ⟨rfl,by omega⟩
theorem cn_sum14:∀ xs:List Nat,Ps.cn 5 xs+Ps.cn 3 xs+Ps.cn 4 xs+Ps.cn 1 xs+Ps.cn 2 xs≤xs.length
 | []=>by simp [Ps.cn]
 | x::xs=>by
   have ih:=cn_sum14 xs;unfold Ps.cn at ih ⊢;simp only [List.countP_cons,List.length_cons];have hk:=Ps.kd_le x;obtain q|q|q|q|q|q:kd x=0∨kd x=1∨kd x=2∨kd x=3∨kd x=4∨kd x=5:=by omega
   all_goals (rw [q];simp;omega)
theorem vd14 {pa pb:Int}{xs:List Nat}(h:Ps.siftE pa pb xs=0):(vd (snd (Ps.cn 5 xs:Nat) (Ps.cn 3 xs:Nat) (Ps.cn 4 xs:Nat) (Ps.cn 1 xs:Nat) (Ps.cn 2 xs:Nat) (xs.length:Nat)&&may pa pb) (Ps.cn 5 xs:Nat) (Ps.cn 3 xs:Nat) (Ps.cn 4 xs:Nat) pa pb).2=crB pa pb xs:=by
 obtain ⟨hm,hl⟩:=siftE_ok14 h;have hs:=cn_sum14 xs
 have e:snd (Ps.cn 5 xs:Nat) (Ps.cn 3 xs:Nat) (Ps.cn 4 xs:Nat) (Ps.cn 1 xs:Nat) (Ps.cn 2 xs:Nat) (xs.length:Nat)=true:=by
  unfold snd ct;simp;omega
 rw [e,hm];unfold vd crB
 by_cases h5:0<Ps.cn 5 xs∧pa=0
 · have h5':0<((Ps.cn 5 xs:Nat):Int)∧pa=0:=⟨by omega,h5.2⟩
   rw [if_neg (by decide),if_pos h5']
   simp [h5.1,h5.2]
 · have h5':¬ (0<((Ps.cn 5 xs:Nat):Int)∧pa=0):=fun q=>h5 ⟨by omega,q.2⟩
   have e5:(decide (0<Ps.cn 5 xs)&&decide (pa=0))=false:=by
    rcases Nat.lt_or_ge 0 (Ps.cn 5 xs) with q|q
    · have:¬ pa=0:=fun r=>h5 ⟨q,r⟩
      simp [this]
    · have:¬ 0<Ps.cn 5 xs:=by omega
      simp [this]
   rw [if_neg (by decide),if_neg h5',e5,Bool.false_or]
   by_cases hb:pb=0
   · subst hb
     rw [if_neg (by simp)]
     by_cases h3:0<Ps.cn 3 xs
     · have:0<Ps.cn 3 xs+Ps.cn 4 xs:=by omega
       by_cases h4:0<Ps.cn 4 xs
       · rw [if_pos ⟨by omega,by omega⟩];simp [this]
       · rw [if_neg (by omega),if_pos (by omega)];simp [this]
     · by_cases h4:0<Ps.cn 4 xs
       · have:0<Ps.cn 3 xs+Ps.cn 4 xs:=by omega
         rw [if_neg (by omega),if_neg (by omega),if_pos (by omega)];simp [this]
       · have:¬ 0<Ps.cn 3 xs+Ps.cn 4 xs:=by omega
         rw [if_neg (by omega),if_neg (by omega),if_neg (by omega)];simp [this]
   · rw [if_pos hb];simp [hb]
theorem Verdict14 {pa pb:Int}{xs:List Nat}(h:Ps.siftE pa pb xs=0) (w:World):Calls Tryz.prog 31 #[.agg #[.int .i64 (Ps.cn 5 xs:Nat),.int .i64 (Ps.cn 3 xs:Nat),.int .i64 (Ps.cn 4 xs:Nat),.int .i64 (Ps.cn 1 xs:Nat),.int .i64 (Ps.cn 2 xs:Nat),.int .i64 (xs.length:Nat)],.agg #[.int .i64 pa,.int .i64 pb]] w fun r w'=>(∃ x,r=.returned (.tuple #[.float .f64 x,.bool (crB pa pb xs)]))∧Below w.heap.size w w':=by
 refine (Verdict_any _ _ _ _ _ _ pa pb w).mono ?_;rintro r w' ⟨rfl,hb⟩;exact ⟨⟨_,by rw [vd14 h]⟩,hb⟩
theorem fin_W14 {xs:List Nat}(h:W64 xs):W64 (Ps.fin xs):=fun x hx=>h x (List.mem_filter.1 hx).1
theorem fin_all14 {xs:List Nat}(h:W64 xs):∀ x ∈ Ps.fin xs,finW x:=fun x hx=>by
 have hk:kd x≤2:=by simpa using (List.mem_filter.1 hx).2
 have hl:=h x (List.mem_filter.1 hx).1
 show magW x<9218868437227405312
 have em:magW x=x%9223372036854775808:=rfl;unfold kd at hk
 rcases Nat.lt_or_ge (magW x) 9218868437227405312 with q|q
 · exact q
 · rcases Nat.eq_or_lt_of_le q with r | r
   · rw [if_neg (by omega),if_pos (by omega)] at hk;split at hk <;> omega
   · rw [if_pos (by omega)] at hk;omega
theorem fin_len14 {pa pb:Int}{xs:List Nat}(h:Ps.siftE pa pb xs=0):(Ps.fin xs).length≤65536:=Nat.le_trans (Ps.fin_le xs) (siftE_ok14 h).2
theorem fin_ex14 {pa pb:Int}{xs:List Nat}(hW:W64 xs) (h:Ps.siftE pa pb xs=0):exE (Ps.fin xs)=0:=by
 unfold exE;rw [if_neg (by have:=fin_len14 h;omega),if_pos ((fiB_iff _).2 (fin_all14 hW))]
end
section
open Go Go.RowKit J
open Go.Proofs.YthejkolknalpaaaGreatDoor.B (f64bits f64frombits)
attribute [local go_sem] f64bits f64frombits
def cS (xs ys:List Nat):Int:=(xs.length:Int)*tS (fun i=>fX xs i*fX ys i) xs.length-sX xs*sX ys
noncomputable def varR (rd:Option (Bool×Nat×Int)→Option (Bool×Nat×Int)→Int→Nat×Int) (xs:List Nat) (less mode pa pb:Int):Nat×Int :=
 if mdB mode&&lsB less then
  if Ps.siftE pa pb xs=0 then
   if crB pa pb xs then (9221120237041090560,0)
   else if ((Ps.fin xs).length:Int)≤less then (0,3)
   else rd (gV 2148 (cS (Ps.fin xs) (Ps.fin xs))) (gV 0 (((Ps.fin xs).length:Int)*(((Ps.fin xs).length:Int)-less))) mode
  else (0,Ps.siftE pa pb xs)
 else (0,1)
theorem cS_bd {xs ys:List Nat}(hx:W64 xs) (fx:∀ x ∈ xs,finW x) (hy:W64 ys) (fy:∀ x ∈ ys,finW x) (hl:xs.length≤65536) (he:xs.length=ys.length):Bd 4229 (cS xs ys):=by
 have bP:=prod_bd14 (f:=fX xs) (g:=fX ys) (n:=xs.length) (fun i hi=>fX_bd hx fx i hi) (fun i hi=>fX_bd hy fy i (by omega)) hl xs.length (Nat.le_refl _)
 have b1:=sX_bd hx fx hl xs.length (Nat.le_refl _);have b2:=sX_bd hy fy (by omega) ys.length (Nat.le_refl _)
 exact Bd.sub (m:=4228) (((Bd.nat (k:=16) (n:=xs.length) (by omega)).mul bP).mono (by decide)) ((b1.mul b2).mono (by decide))
theorem sh_bd {n:Nat}{less:Int}(hn:n≤1099511627776) (h0:0≤less) (h1:less≤1):Bd 82 ((n:Int)*((n:Int)-less)) :=
 (Bd.mul (a:=41) (b:=41) (Bd.nat (by omega)) (by unfold Bd;omega))
theorem varied14_q (xs:List Nat) (a:Option Addr) (n c:Nat) (less mode pa pb:Int) (w:World) (hn:n=xs.length) (hF:Fs w.heap.size w a xs) (hW:W64 xs) (hT:Tab w) (hl:n≤35184372088832) (z:Nat×Int) (hz:varR qR14 xs less mode pa pb=z) :
 Calls Tryz.prog 46 #[.slice a n c,.int .i64 less,.int .i64 mode,.agg #[.int .i64 pa,.int .i64 pb],.func (.func 47) #[] #[]] w fun r w'=>r=.returned (.tuple #[.float .f64 z.1,.int .i64 z.2])∧Below w.heap.size w w':=by
 obtain ⟨X,E⟩:=z;simp only;obtain ⟨W,hWW⟩:∃ W,W=w.alloc (Obj.cells #[.int .i64 pa,.int .i64 pb] 24):=⟨_,rfl⟩
 have B0:Aside (Bl W w.heap.size 24 [.int .i64 pa,.int .i64 pb]∧Below w.heap.size w W):=by
  rw [hWW];exact ⟨Bl.new _ 24 [_,_],bel_alloc _ _⟩
 have HWW:=qsd hWW;clear hWW;unfold varR at hz
 cases hm:mdB mode with
 | false =>
   rw [hm,Bool.false_and,if_neg (by decide)] at hz
   obtain ⟨rfl,rfl⟩:=Prod.mk.inj hz;clear hz hn hF hW hT;go_enter Tryz.func46,Tryz.ntmps46
   go_upto_region 1 with fail
   rw [←HWW.out];clear HWW;have C:=hid (isMode14 mode W);rw [hm] at C
   go_wp2_with fail
   refine C.out.mono ?_;rintro r v ⟨rfl,hv⟩;rw [hv];clear hv v C;go_wp2;exact bodyPost_ret (v:=.tuple #[.float .f64 0,.int .i64 1]) (by simp [results,Tryz.results46,go_sem]) rfl ⟨rfl,B0.out.2⟩
 | true =>
 cases hs:lsB less with
 | false =>
   rw [hm,hs,Bool.true_and,if_neg (by decide)] at hz
   obtain ⟨rfl,rfl⟩:=Prod.mk.inj hz;clear hz hn hF hW hT;go_enter Tryz.func46,Tryz.ntmps46
   go_upto_region 1 with fail
   rw [←HWW.out];clear HWW;have C:=hid (isMode14 mode W);rw [hm] at C
   go_wp2_with fail
   refine C.out.mono ?_;rintro r v ⟨rfl,hv⟩;rw [hv];clear hv v C;have C:=hid (isLess14 less W);rw [hs] at C
   go_wp2_with fail
   refine C.out.mono ?_;rintro r v ⟨rfl,hv⟩;rw [hv];clear hv v C;go_wp2;exact bodyPost_ret (v:=.tuple #[.float .f64 0,.int .i64 1]) (by simp [results,Tryz.results46,go_sem]) rfl ⟨rfl,B0.out.2⟩
 | true =>
   rw [hm,hs,Bool.true_and,if_pos rfl] at hz;have HS:=hid (Sift14 xs a n c pa pb W hn hl ((hF.below B0.out.2).mono B0.out.2.size) hW);have HX:=qsd (ai hn (ai hF (ai hW (ai hT (ai (md_ok hm) (ls_ok hs))))));have HZ:=qsd hz;obtain ⟨es,hes⟩:∃ e,Ps.siftE pa pb xs=e:=⟨_,rfl⟩;rw [hes] at HS;have HES:=qsd hes;have p0:=B0.out.1.cell 0 _ rfl;have p1:=B0.out.1.cell 1 _ rfl;clear hz hn hF hW hT hl hes;go_enter Tryz.func46,Tryz.ntmps46
   go_upto_region 1 with fail
   rw [←HWW.out];clear HWW;have C:=hid (isMode14 mode W);rw [hm] at C
   go_wp2_with fail
   refine C.out.mono ?_;rintro r v ⟨rfl,hv⟩;rw [hv];clear hv v C;have C:=hid (isLess14 less W);rw [hs] at C
   go_wp2_with fail
   refine C.out.mono ?_;rintro r v ⟨rfl,hv⟩;rw [hv];clear hv v C
   go_wp2_with fail
   refine HS.out.mono ?_;rintro r v ⟨hr,hb⟩;have B1:=(qsd (ai (B0.out.1.below hb B0.out.1.lt) (B0.out.2.trans (hb.mono B0.out.2.size))));clear hb HS p0 p1 B0
   rcases hr with ⟨he,a',c',rfl⟩|⟨he,a',c',rfl,hF'⟩
   · have h1:(es==0)=false:=by simp [he]
     have hz:=HZ.out;rw [if_neg (by rw [HES.out];exact he),HES.out] at hz
     obtain ⟨rfl,rfl⟩:=Prod.mk.inj hz;have BE:Aside (Below w.heap.size w (v.alloc (Obj.cells #[.int .i64 0,.int .i64 0,.int .i64 0,.int .i64 0,.int .i64 0,.int .i64 0] 59))):=B1.out.2.trans ((bel_alloc _ _).mono B1.out.2.size);clear hz HZ HES B1 he;go_wp2;exact bodyPost_ret (v:=.tuple #[.float .f64 0,.int .i64 es]) (by simp [results,Tryz.results46,go_sem]) rfl ⟨rfl,BE.out⟩
   · subst he
     have HV:=hid (fun u:World=>Verdict14 HES.out u)
     have hz:=HZ.out;rw [if_pos HES.out] at hz;obtain ⟨s5,hs5⟩:∃ s:Int,(Ps.cn 5 xs:Nat)=s:=⟨_,rfl⟩;obtain ⟨s3,hs3⟩:∃ s:Int,(Ps.cn 3 xs:Nat)=s:=⟨_,rfl⟩;obtain ⟨s4,hs4⟩:∃ s:Int,(Ps.cn 4 xs:Nat)=s:=⟨_,rfl⟩;obtain ⟨s1,hs1⟩:∃ s:Int,(Ps.cn 1 xs:Nat)=s:=⟨_,rfl⟩;obtain ⟨s2,hs2⟩:∃ s:Int,(Ps.cn 2 xs:Nat)=s:=⟨_,rfl⟩;obtain ⟨sl,hsl⟩:∃ s:Int,(xs.length:Nat)=s:=⟨_,rfl⟩;rw [hs5,hs3,hs4,hs1,hs2,hsl] at HV ⊢;clear hs5 hs3 hs4 hs1 hs2 hsl;obtain ⟨fl,hfl⟩:∃ f,Ps.fin xs=f:=⟨_,rfl⟩;rw [hfl] at hF' hz ⊢
     have PF:Aside (W64 fl∧(∀ x ∈ fl,finW x)∧fl.length≤65536∧exE fl=0):=by
      rw [←hfl];exact ⟨fin_W14 HX.out.2.2.1,fin_all14 HX.out.2.2.1,fin_len14 HES.out,fin_ex14 HX.out.2.2.1 HES.out⟩
     obtain ⟨m,hml⟩:∃ m,fl.length=m:=⟨_,rfl⟩;obtain ⟨U,hU⟩:∃ U,U=v.alloc (Obj.cells #[.int .i64 s5,.int .i64 s3,.int .i64 s4,.int .i64 s1,.int .i64 s2,.int .i64 sl] 59):=⟨_,rfl⟩;obtain ⟨gs,hgs⟩:∃ g,g=v.heap.size:=⟨_,rfl⟩
     have B2:Aside (Bl U gs 59 [.int .i64 s5,.int .i64 s3,.int .i64 s4,.int .i64 s1,.int .i64 s2,.int .i64 sl]∧Bl U w.heap.size 24 [.int .i64 pa,.int .i64 pb]∧Below w.heap.size w U∧Fs U.heap.size U a' fl):=by
      rw [hU,hgs];exact ⟨Bl.new _ 59 [_,_,_,_,_,_],B1.out.1.alloc _,B1.out.2.trans ((bel_alloc _ _).mono B1.out.2.size),(hF'.below (bel_alloc _ _)).mono (by simp)⟩
     rw [hml] at hz ⊢;have HML:=qsd hml;have HU:=(qsd (ai hU hgs));obtain ⟨cr,hcr⟩:∃ b,crB pa pb xs=b:=⟨_,rfl⟩;rw [hcr] at HV hz;clear hU hgs hF' B1 hfl HES HZ hml hcr
     go_upto_region 6 with fail
     rw [←HU.out.1,←HU.out.2];clear HU;have q0:=B2.out.1.cell 0 _ rfl;have q1:=B2.out.1.cell 1 _ rfl;have q2:=B2.out.1.cell 2 _ rfl;have q3:=B2.out.1.cell 3 _ rfl;have q4:=B2.out.1.cell 4 _ rfl;have q5:=B2.out.1.cell 5 _ rfl;have p0:=B2.out.2.1.cell 0 _ rfl;have p1:=B2.out.2.1.cell 1 _ rfl
     go_wp2_with fail
     refine (HV.out _).mono ?_;rintro r u ⟨⟨x,rfl⟩,hb⟩;have B3:=(qsd (ai (B2.out.2.2.1.trans (hb.mono B2.out.2.2.1.size)) ((B2.out.2.2.2.below hb).mono hb.size)));clear hb HV q0 q1 q2 q3 q4 q5 p0 p1 B2
     cases cr with
     | true =>
       rw [if_pos rfl] at hz;obtain ⟨rfl,rfl⟩:=Prod.mk.inj hz;clear hz PF HML;go_wp2;exact bodyPost_ret (v:=.tuple #[.float .f64 9221120237041090560,.int .i64 0]) (by simp [results,Tryz.results46,go_sem]) rfl ⟨rfl,B3.out.1⟩
     | false =>
       rw [if_neg (by decide)] at hz
       have HZ:=qsd hz;have HE:=hid (exact14 fl a' m c' u HML.out.symm B3.out.2 PF.out.1 (HX.out.2.2.2.1.belows B3.out.1) (by have:=PF.out.2.2.1;have:=HML.out;omega))
       rw [PF.out.2.2.2] at HE;clear hz
       go_wp2_with fail
       refine HE.out.mono ?_;rintro r u2 ⟨hr,hb⟩
       rcases hr with ⟨hr,_⟩|⟨_,v2,rfl,hR⟩
       · exact absurd rfl hr
       obtain ⟨gA,p1,q1,rfl,hD,hN⟩:=hR;obtain ⟨oS,hoS⟩:∃ o,o=gV 1074 (sX fl):=⟨_,rfl⟩;rw [←hoS] at hN ⊢;obtain ⟨V,hV⟩:∃ V,V=u2.alloc (Obj.cells #[.slice (some ⟨gA,0,none⟩) m m,.bool (dN oS),.slice p1 (ws (dX oS)).length q1,.int .i64 (dE oS)] 125):=⟨_,rfl⟩;obtain ⟨g7,hg7⟩:∃ g,g=u2.heap.size:=⟨_,rfl⟩
       have B4:Aside (Bl V g7 125 [.slice (some ⟨gA,0,none⟩) m m,.bool (dN oS),.slice p1 (ws (dX oS)).length q1,.int .i64 (dE oS)]∧Below w.heap.size w V∧Dr V gA m m (fun i=>gV 1074 (fX fl i))∧Nt 0 V (.slice p1 (ws (dX oS)).length q1) (dX oS)):=by
        rw [hV,hg7];have b3:=B3.out.1.trans (hb.mono B3.out.1.size);exact ⟨Bl.new _ 125 [_,_,_,_],b3.trans ((bel_alloc _ _).mono b3.size),hD.below (bel_alloc _ _),hN.below (bel_alloc _ _)⟩
       have HV:=(qsd (ai hV hg7));have HOS:=qsd hoS;clear hV hg7 hb hD hN HE B3 hoS
       go_upto_region 10 with fail
       rw [←HV.out.1,←HV.out.2];clear HV;have s0:=B4.out.1.cell 0 _ rfl
       by_cases hle:(m:Int)≤less
       · have dle:decide ((m:Int)≤less)=true:=decide_eq_true hle
         have hz:=HZ.out;rw [if_pos hle] at hz;obtain ⟨rfl,rfl⟩:=Prod.mk.inj hz;clear hz HZ;go_wp2;exact bodyPost_ret (v:=.tuple #[.float .f64 0,.int .i64 3]) (by simp [results,Tryz.results46,go_sem]) rfl ⟨rfl,B4.out.2.1⟩
       · have dle:decide ((m:Int)≤less)=false:=decide_eq_false hle
         have hz:=HZ.out;rw [if_neg hle] at hz;have m6:m≤65536:=by have:=PF.out.2.2.1;have:=HML.out;omega
         have l01:0≤less∧less≤1:=by have:=HX.out.2.2.2.2.2;omega
         obtain ⟨oV,hoV⟩:∃ o,o=gV 2148 (cS fl fl):=⟨_,rfl⟩;obtain ⟨oD,hoD⟩:∃ o,o=gV 0 ((m:Int)*((m:Int)-less)):=⟨_,rfl⟩;rw [←hoV,←hoD] at hz;have FV:Fm oV:=by rw [hoV];exact g_fm (by decide) (by decide) (cS_bd PF.out.1 PF.out.2.1 PF.out.1 PF.out.2.1 PF.out.2.2.1 rfl)
         have FD:Fm oD:=by rw [hoD];exact g_fm (by decide) (by decide) (sh_bd (by omega) l01.1 l01.2)
         have HSP:Hid (∀ u:World,Below V.heap.size V u→Calls Tryz.prog 83 #[.agg #[.slice (some ⟨gA,0,none⟩) m m,.bool (dN oS),.slice p1 (ws (dX oS)).length q1,.int .i64 (dE oS)],.agg #[.slice (some ⟨gA,0,none⟩) m m,.bool (dN oS),.slice p1 (ws (dX oS)).length q1,.int .i64 (dE oS)]] u fun r w'=>DVal 0 w' r oV∧Below u.heap.size u w'):=fun u hu=>by
          have hR:Rr u (.agg #[.slice (some ⟨gA,0,none⟩) m m,.bool (dN oS),.slice p1 (ws (dX oS)).length q1,.int .i64 (dE oS)]) m (fun i=>gV 1074 (fX fl i)) (gV 1074 (sX fl)):=by
           rw [HOS.out];exact ⟨gA,p1,q1,rfl,B4.out.2.2.1.below hu,by have:=B4.out.2.2.2.below hu;rw [HOS.out] at this;exact this⟩
          have:=spread14 (f:=fX fl) (g:=fX fl) (S:=sX fl) (T:=sX fl) m6 (HX.out.2.2.2.1.belows (B4.out.2.1.trans (hu.mono B4.out.2.1.size))) (fun i hi=>fX_bd PF.out.1 PF.out.2.1 i (by rw [HML.out];exact hi)) (fun i hi=>fX_bd PF.out.1 PF.out.2.1 i (by rw [HML.out];exact hi)) (sX_bd PF.out.1 PF.out.2.1 PF.out.2.2.1 _ (Nat.le_refl _)) (sX_bd PF.out.1 PF.out.2.1 PF.out.2.2.1 _ (Nat.le_refl _)) hR hR
          rw [hoV];unfold cS;rw [HML.out];exact this
         have HSH:Hid (∀ u:World,Tab u→Calls Tryz.prog 74 #[.int .i64 (m:Nat),.int .i64 less] u fun r w'=>DVal 0 w' r oD∧Below u.heap.size u w'):=fun u hu=>by
          rw [hoD];exact shares14 m less u hu (by omega) l01.1 l01.2 (by omega)
         have HR:Hid (∀ (u:World) (a b:Option Addr) (ca cb:Nat),Tab u→Nt 0 u (.slice a (ws (dX oV)).length ca) (dX oV)→Nt 0 u (.slice b (ws (dX oD)).length cb) (dX oD)→Calls Tryz.prog 47 #[.agg #[.bool (dN oV),.slice a (ws (dX oV)).length ca,.int .i64 (dE oV),.bool (dN oD),.slice b (ws (dX oD)).length cb,.int .i64 (dE oD)],.int .i64 mode] u fun r w'=>r=.returned (.tuple #[.float .f64 X,.int .i64 E])∧Below u.heap.size u w'):=fun u a b ca cb hTu n1 n2=>by
          have:=Quot14 mode FV FD n1 n2 hTu;rw [hz] at this;exact this
         have FF:=(qsd (ai FV FD));have HT:=qsd HX.out.2.2.2.1;have hdr:=(Below.refl V.heap.size V).drew;have BD:=(qsd (ai (B4.out.1.below hdr B4.out.1.lt) (B4.out.2.1.trans (hdr.mono B4.out.2.1.size))));have C1:=hid (HSP.out V.drew hdr);clear hz HZ hoV hoD FV FD hdr HML m6 l01 PF HX HSP;have kS:Aside (V.drew.cell? ⟨g7,0,none⟩=some (.slice (some ⟨gA,0,none⟩) m m)∧V.drew.cell? ⟨g7,1,none⟩=some (.bool (dN oS))∧V.drew.cell? ⟨g7,2,none⟩=some (.slice p1 (ws (dX oS)).length q1)∧V.drew.cell? ⟨g7,3,none⟩=some (.int .i64 (dE oS))):=⟨BD.out.1.cell 0 _ rfl,BD.out.1.cell 1 _ rfl,BD.out.1.cell 2 _ rfl,BD.out.1.cell 3 _ rfl⟩
         go_wp2_with fail
         clear s0 B4
         go_region_held3 (fun w'=>w'.cell? ⟨g7,0,none⟩=some (.slice (some ⟨gA,0,none⟩) m m)∧w'.cell? ⟨g7,1,none⟩=some (.bool (dN oS))∧w'.cell? ⟨g7,2,none⟩=some (.slice p1 (ws (dX oS)).length q1)∧w'.cell? ⟨g7,3,none⟩=some (.int .i64 (dE oS))) (with_reducible exact kS.out) (first
          | (go_at_call 83
             with_reducible refine C1.out.mono ?_
             rintro r u3 ⟨hd,hb⟩;obtain ⟨a3,c3,rfl,hN3⟩:=hd.shp14;have BD:=qsd (ai (BD.out.1.below hb BD.out.1.lt) (ai (BD.out.2.trans (hb.mono BD.out.2.size)) hN3));have kS:=qsd (ai (cb14 kS.out.1 hb) (ai (cb14 kS.out.2.1 hb) (ai (cb14 kS.out.2.2.1 hb) (cb14 kS.out.2.2.2 hb))));have C2:=hid (HSH.out u3 (HT.out.belows BD.out.2.1));clear hb hd hN3 C1)
          | (go_at_call 74
             with_reducible refine C2.out.mono ?_
             rintro r u4 ⟨hd,hb⟩;obtain ⟨a4,c4,rfl,hN4⟩:=hd.shp14;have BE:=qsd (ai (BD.out.2.1.trans (hb.mono BD.out.2.1.size)) (ai (BD.out.2.2.below hb) hN4));have kS:=qsd (ai (cb14 kS.out.1 hb) (ai (cb14 kS.out.2.1 hb) (ai (cb14 kS.out.2.2.1 hb) (cb14 kS.out.2.2.2 hb))));have C3:=hid (HR.out u4 a3 a4 c3 c4 (HT.out.belows BE.out.1) BE.out.2.1 BE.out.2.2);clear hb hd hN4 C2)
          | (go_at_call 47
             with_reducible refine C3.out.mono ?_
             rintro r u5 ⟨rfl,hb⟩;have BF:=qsd (BE.out.1.trans (hb.mono BE.out.1.size));have kS:=qsd (ai (cb14 kS.out.1 hb) (ai (cb14 kS.out.2.1 hb) (ai (cb14 kS.out.2.2.1 hb) (cb14 kS.out.2.2.2 hb))));clear hb C3))
         go_wp2;exact bodyPost_ret (v:=.tuple #[.float .f64 X,.int .i64 E]) (by simp [results,Tryz.results46,go_sem]) rfl ⟨rfl,BF.out⟩
theorem Var14 (xs:List Nat) (a:Option Addr) (n c:Nat) (less mode pa pb:Int) (w:World) (hn:n=xs.length) (hF:Fs w.heap.size w a xs) (hW:W64 xs) (hT:Tab w) (hl:n≤35184372088832) (z:Nat×Int) (hz:varR qR14 xs less mode pa pb=z) :
 Calls Tryz.prog 13 #[.slice a n c,.int .i64 less,.int .i64 mode,.agg #[.int .i64 pa,.int .i64 pb]] w fun r w'=>r=.returned (.tuple #[.float .f64 z.1,.int .i64 z.2])∧Below w.heap.size w w':=by
 obtain ⟨W,hWW⟩:∃ W,W=w.alloc (Obj.cells #[.int .i64 pa,.int .i64 pb] 24):=⟨_,rfl⟩
 have B0:Aside (Bl W w.heap.size 24 [.int .i64 pa,.int .i64 pb]∧Below w.heap.size w W):=by
  rw [hWW];exact ⟨Bl.new _ 24 [_,_],bel_alloc _ _⟩
 have C:=hid (varied14_q xs a n c less mode pa pb W hn ((hF.below B0.out.2).mono B0.out.2.size) hW (hT.belows B0.out.2) hl z hz);have HWW:=qsd hWW;obtain ⟨X,E⟩:=z;clear hWW hn hF hW hT hl hz;simp only at C ⊢;go_enter Tryz.func13,Tryz.ntmps13
 go_upto_region 1 with fail
 rw [←HWW.out];clear HWW;have p0:=B0.out.1.cell 0 _ rfl;have p1:=B0.out.1.cell 1 _ rfl
 go_wp2_with fail
 refine C.out.mono ?_;rintro r v ⟨rfl,hb⟩;have B1:=qsd (B0.out.2.trans (hb.mono B0.out.2.size));clear hb C p0 p1;go_wp2;exact bodyPost_ret (v:=.tuple #[.float .f64 X,.int .i64 E]) (by simp [results,Tryz.results13,go_sem]) rfl ⟨rfl,B1.out⟩
end
section
open Go Go.RowKit J
theorem addD_re {o1 o2:Option (Bool×Nat×Int)}(r1:mkS (dN o1) (dX o1) (dE o1)=o1) (h:(addD o1 (mkS (!dN o2) (dX o2) (dE o2))).isSome=true):mkS (dN (addD o1 (mkS (!dN o2) (dX o2) (dE o2)))) (dX (addD o1 (mkS (!dN o2) (dX o2) (dE o2)))) (dE (addD o1 (mkS (!dN o2) (dX o2) (dE o2))))=addD o1 (mkS (!dN o2) (dX o2) (dE o2)):=by
 cases h1:o1 with
 | none=>rw [h1] at h;cases h
 | some x =>
   cases h2:mkS (!dN o2) (dX o2) (dE o2) with
   | none=>rw [h1,h2] at h;cases h
   | some y =>
     obtain ⟨n,X,e⟩:=x;obtain ⟨m,Y,f⟩:=y
     have F1:Frm n X e:=by
      have:=frm_of (n:=dN o1) (X:=dX o1) (e:=dE o1) (by rw [r1,h1];rfl)
      rw [r1,h1] at this;exact this
     have F2:Frm m Y f:=mkS_frm h2
     cases h3:addD (some (n,X,e)) (some (m,Y,f)) with
     | none=>rw [h1,h2,h3] at h;cases h
     | some z =>
       obtain ⟨n',Z,g⟩:=z;exact mkS_idem (addF_frm F1 F2 h3)
noncomputable def ofR14 (n:Int) (o:Option (Bool×Nat×Int)) (less mode:Int):Nat×Int :=
 if mdB mode&&lsB less&&(decide (1≤n)&&decide (n≤1099511627776)) then
  if o.isSome then (if n≤less then (0,3) else qR14 o (gV 0 (n*(n-less))) mode) else (0,2)
 else (0,1)
theorem sh14_bd {n:Nat}{less:Int}(hn:n≤1099511627776) (h0:0≤less) (h1:less≤1):Bd 82 ((n:Int)*((n:Int)-less)) :=
 (Bd.mul (a:=41) (b:=41) (Bd.nat (by omega)) (by unfold Bd;omega))
theorem QuotG14 {u:World}{a b:Option Addr}{ca cb:Nat}{V D:Option (Bool×Nat×Int)}(mode:Int) (hV:V.isSome=true) (rV:mkS (dN V) (dX V) (dE V)=V) (FD:Fm D) (n1:Nt 0 u (.slice a (ws (dX V)).length ca) (dX V)) (n2:Nt 0 u (.slice b (ws (dX D)).length cb) (dX D)) (hT:Tab u) :
 Calls Tryz.prog 47 #[.agg #[.bool (dN V),.slice a (ws (dX V)).length ca,.int .i64 (dE V),.bool (dN D),.slice b (ws (dX D)).length cb,.int .i64 (dE D)],.int .i64 mode] u fun r w'=>r=.returned (.tuple #[.float .f64 (qR14 V D mode).1,.int .i64 (qR14 V D mode).2])∧Below u.heap.size u w':=by
 obtain ⟨l1,r1,r2⟩:=len_rng14 hV rV;exact Quot11 (w:=u) (n:=dN V) (m:=dN D) (X:=dX V) (Y:=dX D) (e:=dE V) (f:=dE D) mode ⟨n1.av (by omega),n2.av (Nat.le_trans FD.len (by decide)),⟨r1,r2⟩,FD.rng⟩ hT
theorem Of_core (w:World) (n:Int) (ns np:Bool) (as' ap:Option Addr) (ls cs lp cp:Nat) (es ep less mode:Int) (oV:Option (Bool×Nat×Int)) (hT:Tab w) (rV:oV.isSome=true→mkS (dN oV) (dX oV) (dE oV)=oV)
 (HD:Hid (∀ u:World,Below w.heap.size w u→Calls Tryz.prog 73 #[.int .i64 n,.agg #[.bool np,.slice ap lp cp,.int .i64 ep],.agg #[.bool ns,.slice as' ls cs,.int .i64 es],.agg #[.bool ns,.slice as' ls cs,.int .i64 es]] u fun r w'=>DA14 w' r oV (erS oV)∧Below u.heap.size u w')) (z:Nat×Int) (hz:ofR14 n oV less mode=z) :
 Calls Tryz.prog 38 #[.int .i64 n,.agg #[.bool ns,.slice as' ls cs,.int .i64 es],.agg #[.bool np,.slice ap lp cp,.int .i64 ep],.int .i64 less,.int .i64 mode] w fun r w'=>r=.returned (.tuple #[.float .f64 z.1,.int .i64 z.2])∧Below w.heap.size w w':=by
 obtain ⟨X,E⟩:=z;simp only;obtain ⟨W,hWW⟩:∃ W,W=(w.alloc (Obj.cells #[.bool ns,.slice as' ls cs,.int .i64 es] 67)).alloc (Obj.cells #[.bool np,.slice ap lp cp,.int .i64 ep] 67):=⟨_,rfl⟩
 have B0:Aside (Dk W w.heap.size ns (.slice as' ls cs) es∧Dk W (w.heap.size+1) np (.slice ap lp cp) ep∧Below w.heap.size w W):=by
  have z1:=Dk.new (w.alloc (Obj.cells #[.bool ns,.slice as' ls cs,.int .i64 es] 67)) np (.slice ap lp cp) ep;rw [World.size_alloc] at z1;rw [hWW];exact ⟨(Dk.new _ _ _ _).below (below_alloc _ _),z1,(below_alloc _ _).trans ((below_alloc _ _).mono (by simp))⟩
 have HWW:=qsd hWW;have HT:=qsd hT;have HRV:=qsd rV;clear hWW hT rV;have C:=hid (isMode14 mode W);have D:=hid (isLess14 less W);unfold ofR14 at hz
 cases hm:mdB mode with
 | false =>
   rw [hm,Bool.false_and,Bool.false_and,if_neg (by decide)] at hz
   rw [hm] at C;obtain ⟨rfl,rfl⟩:=Prod.mk.inj hz;clear hz HD;go_enter Tryz.func38,Tryz.ntmps38
   go_upto_region 1 with fail
   rw [←HWW.out];clear HWW
   go_wp2_with fail
   refine C.out.mono ?_;rintro r v ⟨rfl,hv⟩;rw [hv];clear hv v C;go_wp2;exact bodyPost_ret (v:=.tuple #[.float .f64 0,.int .i64 1]) (by simp [results,Tryz.results38,go_sem]) rfl ⟨rfl,B0.out.2.2⟩
 | true =>
 rw [hm] at C hz
 cases hs:lsB less with
 | false =>
   rw [hs,Bool.true_and,Bool.false_and,if_neg (by decide)] at hz
   rw [hs] at D;obtain ⟨rfl,rfl⟩:=Prod.mk.inj hz;clear hz HD;go_enter Tryz.func38,Tryz.ntmps38
   go_upto_region 1 with fail
   rw [←HWW.out];clear HWW
   go_wp2_with fail
   refine C.out.mono ?_;rintro r v ⟨rfl,hv⟩;rw [hv];clear hv v C
   go_wp2_with fail
   refine D.out.mono ?_;rintro r v ⟨rfl,hv⟩;rw [hv];clear hv v D;go_wp2;exact bodyPost_ret (v:=.tuple #[.float .f64 0,.int .i64 1]) (by simp [results,Tryz.results38,go_sem]) rfl ⟨rfl,B0.out.2.2⟩
 | true =>
 rw [hs] at D hz;rw [Bool.and_self,Bool.true_and] at hz
 by_cases h1:1≤n
 case neg =>
  rw [decide_eq_false h1,Bool.false_and,if_neg (by decide)] at hz
  have d1:decide (n<1)=true:=decide_eq_true (by omega)
  obtain ⟨rfl,rfl⟩:=Prod.mk.inj hz;clear hz HD;go_enter Tryz.func38,Tryz.ntmps38
  go_upto_region 1 with fail
  rw [←HWW.out];clear HWW
  go_wp2_with fail
  refine C.out.mono ?_;rintro r v ⟨rfl,hv⟩;rw [hv];clear hv v C
  go_wp2_with fail
  refine D.out.mono ?_;rintro r v ⟨rfl,hv⟩;rw [hv];clear hv v D;go_wp2;exact bodyPost_ret (v:=.tuple #[.float .f64 0,.int .i64 1]) (by simp [results,Tryz.results38,go_sem]) rfl ⟨rfl,B0.out.2.2⟩
 case pos =>
 have d1:decide (n<1)=false:=decide_eq_false (by omega)
 by_cases h2:n≤1099511627776
 case neg =>
  rw [decide_eq_true h1,decide_eq_false h2,Bool.and_false,if_neg (by decide)] at hz
  have d2:decide (1099511627776<n)=true:=decide_eq_true (by omega)
  obtain ⟨rfl,rfl⟩:=Prod.mk.inj hz;clear hz HD;go_enter Tryz.func38,Tryz.ntmps38
  go_upto_region 1 with fail
  rw [←HWW.out];clear HWW
  go_wp2_with fail
  refine C.out.mono ?_;rintro r v ⟨rfl,hv⟩;rw [hv];clear hv v C
  go_wp2_with fail
  refine D.out.mono ?_;rintro r v ⟨rfl,hv⟩;rw [hv];clear hv v D;go_wp2;exact bodyPost_ret (v:=.tuple #[.float .f64 0,.int .i64 1]) (by simp [results,Tryz.results38,go_sem]) rfl ⟨rfl,B0.out.2.2⟩
 case pos =>
  have d2:decide (1099511627776<n)=false:=decide_eq_false (by omega)
  rw [decide_eq_true h1,decide_eq_true h2,Bool.and_self,if_pos rfl] at hz;have l01:0≤less∧less≤1:=by have:=ls_ok hs;omega
  obtain ⟨N,rfl⟩:∃ N:Nat,n=(N:Int):=⟨n.toNat,by omega⟩
  have C3:=hid (HD.out W B0.out.2.2);have HZ:=qsd hz;have HL:=(qsd (ai l01 (ai h1 h2)));clear hz HD hs hm l01 h1 h2;go_enter Tryz.func38,Tryz.ntmps38
  go_upto_region 1 with fail
  rw [←HWW.out];clear HWW
  go_wp2_with fail
  refine C.out.mono ?_;rintro r v ⟨rfl,hv⟩;rw [hv];clear hv v C
  go_wp2_with fail
  refine D.out.mono ?_;rintro r v ⟨rfl,hv⟩;rw [hv];clear hv v D;obtain ⟨x0,x1,x2,xf0,xf1,xf2⟩:=B0.out.1.facts;obtain ⟨y0,y1,y2,yf0,yf1,yf2⟩:=B0.out.2.1.facts
  go_wp2_with fail
  refine C3.out.mono ?_;rintro r u ⟨hd,hb⟩;obtain ⟨p1,q1,rfl,hN⟩:=hd.shp14;obtain ⟨U,hU⟩:∃ U,U=u.alloc (Obj.cells #[.bool (dN oV),.slice p1 (ws (dX oV)).length q1,.int .i64 (dE oV)] 67):=⟨_,rfl⟩;obtain ⟨g12,hg12⟩:∃ g,g=u.heap.size:=⟨_,rfl⟩
  have B1:Aside (Dk U g12 (dN oV) (.slice p1 (ws (dX oV)).length q1) (dE oV)∧Nt 0 U (.slice p1 (ws (dX oV)).length q1) (dX oV)∧Below w.heap.size w U):=by
   rw [hU,hg12];have b:=B0.out.2.2.trans (hb.mono B0.out.2.2.size);exact ⟨Dk.new _ _ _ _,hN.below (below_alloc _ _),b.trans ((below_alloc _ _).mono b.size)⟩
  have HU:=(qsd (ai hU hg12));clear hU hg12 hN hd hb C3 x0 x1 x2 xf0 xf1 xf2 y0 y1 y2 yf0 yf1 yf2 B0;have hz:=HZ.out
  cases hso:oV.isSome with
  | false =>
    rw [hso,if_neg (by decide)] at hz
    rw [erS_none hso];obtain ⟨rfl,rfl⟩:=Prod.mk.inj hz;clear hz HZ hso
    go_upto_region 4 with fail
    rw [←HU.out.1];clear HU;go_wp2;exact bodyPost_ret (v:=.tuple #[.float .f64 0,.int .i64 2]) (by simp [results,Tryz.results38,go_sem]) rfl ⟨rfl,B1.out.2.2⟩
  | true =>
    rw [hso,if_pos rfl] at hz;rw [erS_some hso];have HSO:=qsd hso
    go_upto_region 4 with fail
    rw [←HU.out.1,←HU.out.2];clear HU hso
    by_cases hle:(N:Int)≤less
    · have dle:decide ((N:Int)≤less)=true:=decide_eq_true hle
      rw [if_pos hle] at hz;obtain ⟨rfl,rfl⟩:=Prod.mk.inj hz;clear hz HZ;go_wp2;exact bodyPost_ret (v:=.tuple #[.float .f64 0,.int .i64 3]) (by simp [results,Tryz.results38,go_sem]) rfl ⟨rfl,B1.out.2.2⟩
    · have dle:decide ((N:Int)≤less)=false:=decide_eq_false hle
      rw [if_neg hle] at hz;obtain ⟨oD,hoD⟩:∃ o,o=gV 0 ((N:Int)*((N:Int)-less)):=⟨_,rfl⟩;rw [←hoD] at hz;have hN6:N≤1099511627776:=by have:=HL.out.2.2;omega
      have FD:Fm oD:=by rw [hoD];exact g_fm (by decide) (by decide) (sh14_bd hN6 HL.out.1.1 HL.out.1.2)
      have HSH:Hid (∀ u:World,Tab u→Calls Tryz.prog 74 #[.int .i64 (N:Nat),.int .i64 less] u fun r w'=>DVal 0 w' r oD∧Below u.heap.size u w'):=fun u hu=>by
       rw [hoD];exact shares14 N less u hu hN6 HL.out.1.1 HL.out.1.2 (by omega)
      have HR:Hid (∀ (u:World) (b:Option Addr) (cb:Nat),Tab u→Nt 0 u (.slice p1 (ws (dX oV)).length q1) (dX oV)→Nt 0 u (.slice b (ws (dX oD)).length cb) (dX oD)→Calls Tryz.prog 47 #[.agg #[.bool (dN oV),.slice p1 (ws (dX oV)).length q1,.int .i64 (dE oV),.bool (dN oD),.slice b (ws (dX oD)).length cb,.int .i64 (dE oD)],.int .i64 mode] u fun r w'=>r=.returned (.tuple #[.float .f64 X,.int .i64 E])∧Below u.heap.size u w'):=fun u b cb hTu n1 n2=>by
       have:=QuotG14 mode HSO.out (HRV.out HSO.out) FD n1 n2 hTu;rw [hz] at this;exact this
      have hdr:=(Below.refl U.heap.size U).drew;have BD:=qsd (ai (B1.out.2.1.below hdr) (B1.out.2.2.trans (hdr.mono B1.out.2.2.size)));have kS:Aside (U.drew.cell? ⟨g12,0,none⟩=some (.bool (dN oV))∧U.drew.cell? ⟨g12,1,none⟩=some (.slice p1 (ws (dX oV)).length q1)∧U.drew.cell? ⟨g12,2,none⟩=some (.int .i64 (dE oV))):=⟨(B1.out.1.below hdr).facts.1,(B1.out.1.below hdr).facts.2.1,(B1.out.1.below hdr).facts.2.2.1⟩;have C1:=hid (HSH.out U.drew (HT.out.belows BD.out.2));clear hz HZ hoD FD hdr hN6 hle HSO HRV HL B1
      go_wp2_with fail
      go_region_held3 (fun w'=>w'.cell? ⟨g12,0,none⟩=some (.bool (dN oV))∧w'.cell? ⟨g12,1,none⟩=some (.slice p1 (ws (dX oV)).length q1)∧w'.cell? ⟨g12,2,none⟩=some (.int .i64 (dE oV))) (with_reducible exact kS.out) (first
       | (go_at_call 74
          with_reducible refine C1.out.mono ?_
          rintro r u4 ⟨hd,hb⟩;obtain ⟨a4,c4,rfl,hN4⟩:=hd.shp14;have BG:=qsd (ai (BD.out.1.below hb) (ai (BD.out.2.trans (hb.mono BD.out.2.size)) hN4));have kS:=qsd (ai (cb14 kS.out.1 hb) (ai (cb14 kS.out.2.1 hb) (cb14 kS.out.2.2 hb)));have C3:=hid (HR.out u4 a4 c4 (HT.out.belows BG.out.2.1) BG.out.1 BG.out.2.2);clear hb hd hN4 C1)
       | (go_at_call 47
          with_reducible refine C3.out.mono ?_
          rintro r u5 ⟨rfl,hb⟩;have BF:=qsd (BG.out.2.1.trans (hb.mono BG.out.2.1.size));have kS:=qsd (ai (cb14 kS.out.1 hb) (ai (cb14 kS.out.2.1 hb) (cb14 kS.out.2.2 hb)));clear hb C3))
      go_wp2;exact bodyPost_ret (v:=.tuple #[.float .f64 X,.int .i64 E]) (by simp [results,Tryz.results38,go_sem]) rfl ⟨rfl,BF.out⟩
theorem Of14 {w:World}{as' ap:Option Addr}{ls cs lp cp:Nat}{xs ys:List Nat}(n:Int) (ns np:Bool) (es ep less mode:Int) (h1:Arg w as' ls cs xs) (h2:Arg w ap lp cp ys) (hT:Tab w) (hn:-9223372036854775808≤n∧n≤9223372036854775807) (b1:-9223372036854775808≤es∧es≤9223372036854775807) (b2:-9223372036854775808≤ep∧ep≤9223372036854775807)
 (z:Nat×Int) (hz:ofR14 n (difO (mulD (gV 0 n) (mkS np (val ys) ep)) (mulD (mkS ns (val xs) es) (mkS ns (val xs) es))) less mode=z) :
 Calls Tryz.prog 38 #[.int .i64 n,.agg #[.bool ns,.slice as' ls cs,.int .i64 es],.agg #[.bool np,.slice ap lp cp,.int .i64 ep],.int .i64 less,.int .i64 mode] w fun r w'=>r=.returned (.tuple #[.float .f64 z.1,.int .i64 z.2])∧Below w.heap.size w w':=by
 refine Of_core w n ns np as' ap ls cs lp cp es ep less mode _ hT (fun h=>?_) (hid fun u hu=>difference14 n np ns ns ep es es (h2.below hu) (h1.below hu) (h1.below hu) (hT.belows hu) hn b2 b1 b1) z hz
 unfold difO at h ⊢
 split at h
 · rename_i q
   rw [if_pos q];rw [Bool.and_eq_true] at q;exact addD_re (mulD_re q.1) h
 · cases h
def zS {α:Type} (f:α→Int):List α→Int
 | []=>0
 | a::l=>f a+zS f l
theorem zS_fold {α:Type}(f:α→Int):∀ (l:List α) (v:Int),l.foldl (fun v x=>v+f x) v=v+zS f l
 | [],v=>by simp [zS]
 | x::l,v=>by rw [List.foldl_cons,zS_fold f l];show _=v+(f x+zS f l);omega
theorem zS_congr {α:Type}{f g:α→Int}:∀ {l:List α},(∀ x ∈ l,f x=g x)→zS f l=zS g l
 | [],_=>rfl
 | x::l,h=>by show f x+zS f l=g x+zS g l;rw [h x List.mem_cons_self,zS_congr fun y hy=>h y (List.mem_cons_of_mem _ hy)]
theorem zS_mul {α:Type}(f:α→Int) (c:Int):∀ l:List α,zS (fun x=>f x*c) l=zS f l*c
 | []=>by simp [zS]
 | x::l=>by show f x*c+zS _ l=(f x+zS f l)*c;rw [zS_mul f c l,Int.add_mul]
theorem zS_le {α:Type}{f:α→Int}{m:Nat}:∀ {l:List α},(∀ x ∈ l,Bd m (f x))→(zS f l).natAbs≤l.length*2^m
 | [],_=>by simp [zS]
 | x::l,h=>by
   have h1:=zS_le (l:=l) fun y hy=>h y (List.mem_cons_of_mem _ hy)
   have h2:=h x List.mem_cons_self;unfold Bd at h2
   show (f x+zS f l).natAbs≤(l.length+1)*2^m
   rw [Nat.succ_mul];omega
theorem zS_bd {α:Type}{f:α→Int}{m:Nat}{l:List α}(h:∀ x ∈ l,Bd m (f x)) (hn:l.length≤65536):Bd (m+16) (zS f l):=by
 have h1:=zS_le h;have h2:l.length*2^m≤65536*2^m:=Nat.mul_le_mul_right _ hn;unfold Bd;rw [Nat.pow_add,Nat.mul_comm (2^m)];exact Nat.le_trans h1 h2
theorem fv_one (k:Nat) (hk:k=1074):fvW 4607182418800017408=((2^k:Nat):Int):=by subst hk;decide +kernel
theorem vS_zS (k:Nat) (hk:k=1074) {xs:List Nat}(hW:W64 xs) (hf:∀ x ∈ xs,finW x):vS xs=zS fvW xs*((2^k:Nat):Int):=by
 unfold vS;rw [zS_fold,Int.zero_add,←zS_mul];refine zS_congr fun x hx=>?_
 rw [(pT_mul (hW x hx) (by decide) (hf x hx) (by decide)).1,fv_one k hk]
theorem g_scale {u k m:Nat}{V:Int}(hu:u+k≤100000) (hm:m+k≤90000) (hV:Bd m V):gV (u+k) (V*((2^k:Nat):Int))=gV u V:=by
 have F:=g_fm (u:=u+k) hu (m:=m+k) (by omega) (hV.mul (Bd.nat (Nat.le_refl (2^k))))
 have G:=g_fm (u:=u) (by omega) (m:=m) (by omega) hV
 obtain ⟨j1,e1⟩:=exK (u+k) (by omega)
 obtain ⟨j2,e2⟩:=exK u (by omega)
 refine valO_inj F G ?_;rw [val_g F (by omega) j1 e1,val_g G (by omega) j2 e2,Int.mul_assoc,←Int.natCast_mul,←Nat.pow_add,show k+j1=j2 by omega]
theorem fS_bd19 {xs:List Nat}(hW:W64 xs) (hf:∀ x ∈ xs,finW x) (hl:xs.length≤65536):Bd 2114 (zS fvW xs):=zS_bd (m:=2098) (fun x hx=>fv_bd (hW x hx) (hf x hx)) hl
theorem ex_g (V:Int):exV V=gV 2148 V:=rfl
theorem exS19 {xs:List Nat}(hW:W64 xs) (hf:∀ x ∈ xs,finW x) (hl:xs.length≤65536):exV (vS xs)=gV 1074 (zS fvW xs):=by
 obtain ⟨k,hk⟩:∃ k:Nat,k=1074:=⟨_,rfl⟩;rw [vS_zS k hk hW hf,ex_g];have:=g_scale (u:=1074) (k:=k) (m:=2114) (by omega) (by omega) (fS_bd19 hW hf hl)
 rw [show 1074+k=2148 by omega] at this
 exact this
theorem zS_snoc {α:Type}(f:α→Int) (l:List α) (x:α):zS f (l++[x])=zS f l+f x:=by
 have h1:=zS_fold f (l++[x]) 0;have h2:=zS_fold f l 0;rw [List.foldl_append] at h1;simp only [List.foldl_cons,List.foldl_nil] at h1;omega
theorem tS_zS (f:Nat→Int) (xs:List Nat):∀ n,n≤xs.length→tS (fun i=>f (xs.getD i 0)) n=zS f (xs.take n)
 | 0,_=>by rw [List.take_zero];rfl
 | n+1,h=>by
   rw [take_snoc10 xs n (by omega),zS_snoc,←tS_zS f xs n (by omega)]
   rfl
theorem zS_fin {f:Nat→Int}:∀ {xs:List Nat},(∀ x ∈ xs,¬ kd x≤2→f x=0)→zS f (Ps.fin xs)=zS f xs
 | [],_=>rfl
 | x::xs,h=>by
   have ih:=zS_fin (f:=f) (xs:=xs) fun y hy=>h y (List.mem_cons_of_mem _ hy)
   unfold Ps.fin at ih ⊢;rw [List.filter_cons]
   by_cases hk:kd x≤2
   · rw [if_pos (by simpa using hk)]
     show f x+zS f _=f x+zS f xs
     rw [ih]
   · rw [if_neg (by simpa using hk),ih]
     show _=f x+zS f xs
     rw [h x List.mem_cons_self hk];omega
theorem sq_zS {xs:List Nat}(hW:W64 xs):vI (qI20 xs)=zS (fun x=>fvW x*fvW x) (Ps.fin xs):=by
 have h1:vI (qI20 xs)=zS (fun x=>pT x x) xs:=by
  unfold vI qI20;rw [List.foldl_map,zS_fold (fun x=>pT x x)];omega
 rw [h1,←zS_fin (f:=fun x=>pT x x) (xs:=xs) fun x hx hk=>(pT_odd (x:=x) (y:=x) fun h=>hk ((pK_one13 (hW x hx)).2.2 h.1)).1]
 refine zS_congr fun x hx=>?_
 have hx':=fin_W64 hW x hx;have hf:=fin_all hW x hx;exact (pT_mul hx' hx' hf hf).1
theorem dif_eq {xs:List Nat}(hW:W64 xs) (hl:xs.length≤4096):difO (mulD (gV 0 ((Ps.fin xs).length:Int)) (exV (vI (qI20 xs)))) (mulD (exV (vS xs)) (exV (vS xs)))=gV 2148 (cS (Ps.fin xs) (Ps.fin xs))∧(gV 2148 (cS (Ps.fin xs) (Ps.fin xs))).isSome=true:=by
 have hW':=fin_W64 hW;have hf:=fin_all hW;have hle:(Ps.fin xs).length≤xs.length:=List.length_filter_le _ _;have hl':(Ps.fin xs).length≤65536:=by omega
 have bn:Bd 16 ((Ps.fin xs).length:Int):=Bd.nat (by omega)
 have bP0:=prod_bd14 (f:=fX (Ps.fin xs)) (g:=fX (Ps.fin xs)) (n:=(Ps.fin xs).length) (fun i hi=>fX_bd hW' hf i hi) (fun i hi=>fX_bd hW' hf i hi) hl' _ (Nat.le_refl _)
 have eP:tS (fun i=>fX (Ps.fin xs) i*fX (Ps.fin xs) i) (Ps.fin xs).length=vI (qI20 xs):=by
  rw [sq_zS hW];have:=tS_zS (fun x=>fvW x*fvW x) (Ps.fin xs) _ (Nat.le_refl _)
  rw [List.take_length] at this;exact this
 have eS:sX (Ps.fin xs)=zS fvW (Ps.fin xs):=by
  have:=tS_zS fvW (Ps.fin xs) _ (Nat.le_refl _);rw [List.take_length] at this;exact this
 have bS:=sX_bd hW' hf hl' _ (Nat.le_refl _);have bP:Bd 4212 (vI (qI20 xs)):=by rw [←eP];exact bP0
 have eX:exV (vS xs)=gV 1074 (sX (Ps.fin xs)):=by rw [←vS_fin hW,exS19 hW' hf hl',eS]
 have bS':Bd 2114 (sX (Ps.fin xs)):=bS;have b1:Bd 4228 (((Ps.fin xs).length:Int)*vI (qI20 xs)):=(bn.mul bP).mono (by decide)
 have b2:Bd 4228 (sX (Ps.fin xs)*sX (Ps.fin xs)):=(bS'.mul bS').mono (by decide)
 have m1:mulD (gV 0 ((Ps.fin xs).length:Int)) (exV (vI (qI20 xs)))=gV 2148 (((Ps.fin xs).length:Int)*vI (qI20 xs)):=by
  rw [ex_g];exact g_mul (u:=0) (v:=2148) (by decide) (by decide) (by decide) (by decide) bn bP
 have m2:mulD (exV (vS xs)) (exV (vS xs))=gV 2148 (sX (Ps.fin xs)*sX (Ps.fin xs)):=by
  rw [eX];exact g_mul (u:=1074) (v:=1074) (by decide) (by decide) (by decide) (by decide) bS' bS'
 have F4:Fm (gV 2148 (((Ps.fin xs).length:Int)*vI (qI20 xs))):=g_fm (by decide) (by decide) b1
 have F5:Fm (gV 2148 (sX (Ps.fin xs)*sX (Ps.fin xs))):=g_fm (by decide) (by decide) b2
 have ec:cS (Ps.fin xs) (Ps.fin xs)=((Ps.fin xs).length:Int)*vI (qI20 xs)-sX (Ps.fin xs)*sX (Ps.fin xs):=by unfold cS;rw [eP]
 refine ⟨?_,by rw [ec];exact (g_fm (by decide) (by decide) (b1.sub b2)).sm⟩
 rw [m1,m2,ec];unfold difO;rw [F4.sm,F5.sm,if_pos (show (true&&true)=true from rfl)]
 exact g_sub (by decide) (by decide) b1 b2
theorem rf_sift20 {xs:List Nat}{mode a b:Int}(hW:W64 xs) (h:¬ (mode<0∨4<mode)) (hl:xs.length≤4096):rfE20 (sS xs) mode a b=Ps.siftE a b xs:=by
 rw [(rf_good20 h hl).1];unfold sfE Ps.siftE;rw [sS_cn hW]
theorem var_parts {xs:List Nat}(less mode a b:Int) (hW:W64 xs) (hl:xs.length≤4096) :
 varR qR14 xs less mode a b=(if lsB less=true then (if rfE20 (sS xs) mode a b=0 then
  (if (vd (snd (sS xs).n (sS xs).u (sS xs).d (sS xs).m (sS xs).p (sS xs).a&&may a b) (sS xs).n (sS xs).u (sS xs).d a b).2=true then (9221120237041090560,0)
   else if ((Ps.fin xs).length:Int)≤less then (0,3)
   else ofR14 ((Ps.fin xs).length:Int) (difO (mulD (gV 0 ((Ps.fin xs).length:Int)) (exV (vI (qI20 xs)))) (mulD (exV (vS xs)) (exV (vS xs)))) less mode)
  else (0,rfE20 (sS xs) mode a b)) else (0,1)):=by
 unfold varR
 cases hs:lsB less with
 | false=>rw [Bool.and_false,if_neg (by decide),if_neg (by decide)]
 | true =>
   rw [Bool.and_true,if_pos rfl]
   by_cases h0:mode<0∨4<mode
   · have e:mdB mode=false:=by unfold mdB;rcases h0 with h | h <;> simp <;> omega
     obtain ⟨e1,_⟩:=rf_bad20 (s:=sS xs) (a:=a) (b:=b) h0;rw [e,e1,if_neg (by decide),if_neg (by decide)]
   · have e:mdB mode=true:=by unfold mdB;simp;omega
     rw [e,if_pos rfl,rf_sift20 hW h0 hl]
     by_cases he:Ps.siftE a b xs=0
     · rw [if_pos he,if_pos he]
       have hv:=vd14 he;have hc:=sS_cn hW;rw [hc];simp only;rw [hv]
       cases crB a b xs with
       | true=>rfl
       | false =>
         rw [if_neg (show ¬ false=true by decide),if_neg (show ¬ false=true by decide)]
         by_cases hn:((Ps.fin xs).length:Int)≤less
         · rw [if_pos hn,if_pos hn]
         · rw [if_neg hn,if_neg hn,(dif_eq hW hl).1]
           unfold ofR14;have hls:=ls_ok hs;have hle:(Ps.fin xs).length≤xs.length:=List.length_filter_le _ _;rw [e,hs,decide_eq_true (show (1:Int)≤((Ps.fin xs).length:Int) by omega),decide_eq_true (show ((Ps.fin xs).length:Int)≤1099511627776 by omega),if_pos (by rfl),if_pos (dif_eq hW hl).2,if_neg hn]
     · rw [if_neg he,if_neg he]
theorem q_fm {xs:List Nat}(hW:W64 xs) (hl:xs.length≤4096):Fm (exV (vI (qI20 xs))):=by
 have hle:(Ps.fin xs).length≤xs.length:=List.length_filter_le _ _;have bP0:=prod_bd14 (f:=fX (Ps.fin xs)) (g:=fX (Ps.fin xs)) (n:=(Ps.fin xs).length) (fun i hi=>fX_bd (fin_W64 hW) (fin_all hW) i hi) (fun i hi=>fX_bd (fin_W64 hW) (fin_all hW) i hi) (by omega) _ (Nat.le_refl _)
 have eP:tS (fun i=>fX (Ps.fin xs) i*fX (Ps.fin xs) i) (Ps.fin xs).length=vI (qI20 xs):=by
  rw [sq_zS hW];have:=tS_zS (fun x=>fvW x*fvW x) (Ps.fin xs) _ (Nat.le_refl _)
  rw [List.take_length] at this;exact this
 rw [eP] at bP0;rw [ex_g];exact g_fm (by decide) (by decide) bP0
theorem Var20 {w:World}{lo hi g n:Nat}{xs:List Nat}(less mode a b:Int) (h:Sl w lo hi g n xs) (hT:Tab w) (z:Nat×Int) (hz:varR qR14 xs less mode a b=z) :
 Calls Tryz.prog 10 #[.pointer (some ⟨g,0,none⟩),.int .i64 less,.int .i64 mode,.agg #[.int .i64 a,.int .i64 b]] w fun r w'=>r=.returned (.tuple #[.float .f64 z.1,.int .i64 z.2])∧Below w.heap.size w w':=by
 obtain ⟨gl,b1,b2,gs,gq,s,s1,c1,s2,c2,L,R1,R2,hv⟩:=h;obtain ⟨X,E⟩:=z;simp only;have hl:xs.length≤4096:=Nat.le_trans hv.hc hv.hn;rw [var_parts less mode a b hv.hW hl] at hz;obtain ⟨k0,k1,k2,k3,k4⟩:=sS_bd20 hv.hW hl;obtain ⟨W,hWW⟩:∃ W,W=w.alloc (Obj.cells #[.int .i64 a,.int .i64 b] 24):=⟨_,rfl⟩;have hb0:Below w.heap.size w W:=by rw [hWW];exact bel_alloc _ _
 have hP:Bl W w.heap.size 24 [.int .i64 a,.int .i64 b]:=by rw [hWW];exact Bl.new _ _ [_,_]
 have hA:=hv.hS.1;rw [(aI_vS xs).1,(aI_vS xs).2] at hA;have hAq:=hv.hQ.1;have HS:=hid (Specials7 gs _ _ W (hA.bel hb0));have HRF:=hid (fun u:World=>refused20 (sS xs) mode a b u k0 k1 k2)
 have HFI:=hid (fun u:World=>finite20 (sS xs) u k0 k1 k2 k3)
 have HN:=hid (fun u:World=>B.nan_any u)
 rw [k4] at HFI;obtain ⟨re,hre⟩:∃ e,e=rfE20 (sS xs) mode a b:=⟨_,rfl⟩;rw [←hre] at HRF hz;obtain ⟨fl,hfl⟩:∃ e:Int,e=((Ps.fin xs).length:Int):=⟨_,rfl⟩;have hflb:0≤fl∧fl≤4096:=by rw [hfl];have hle:(Ps.fin xs).length≤xs.length:=List.length_filter_le _ _;omega
 rw [←hfl] at HFI hz;obtain ⟨t,ht⟩:∃ t,t=sS xs:=⟨_,rfl⟩;rw [←ht] at HS HRF HFI hA hz;obtain ⟨tn,tu,td,tm,tp,ta⟩:=t;simp only [Sp.agg] at HS HRF HFI hz;have HVD:=hid (fun u:World=>Verdict_any tn tu td tm tp ta a b u)
 obtain ⟨⟨vx,vt⟩,hvd⟩:∃ v,v=vd (snd tn tu td tm tp ta&&may a b) tn tu td a b:=⟨_,rfl⟩;rw [←hvd] at HVD hz;simp only at HVD hz;have d:W.cell? ⟨g,11,none⟩=some (.pointer (some ⟨gs,0,none⟩)):=(hv.bl.below hb0 hv.bl.lt).cell 11 _ rfl;have HW:=(qsd (ai hWW (ai hb0 (ai hP (ai hv.bl hT)))));have HE1:Hid (∀ u:World,Below w.heap.size w u→Calls Tryz.prog 32 #[.pointer (some ⟨gs,0,none⟩)] u fun r w'=>∃ v,r=.returned (.agg #[.bool (dN (exV (vS xs))),v,.int .i64 (dE (exV (vS xs)))])∧Nt u.heap.size w' v (dX (exV (vS xs)))∧Below u.heap.size u w'):=fun u hu=>Exact7 gs (vS xs) _ u (hA.bel hu) (hT.belows hu)
 have HE2:Hid (∀ u:World,Below w.heap.size w u→Calls Tryz.prog 32 #[.pointer (some ⟨gq,0,none⟩)] u fun r w'=>∃ v,r=.returned (.agg #[.bool (dN (exV (vI (qI20 xs)))),v,.int .i64 (dE (exV (vI (qI20 xs))))])∧Nt u.heap.size w' v (dX (exV (vI (qI20 xs))))∧Below u.heap.size u w'):=fun u hu=>Exact7 gq _ _ u (hAq.bel hu) (hT.belows hu)
 have FV:=qsd (vS_fm hv.hW (by omega))
 have FQ:=qsd (q_fm hv.hW hl);obtain ⟨o,ho⟩:∃ o,o=exV (vS xs):=⟨_,rfl⟩;obtain ⟨oq,hoq⟩:∃ o,o=exV (vI (qI20 xs)):=⟨_,rfl⟩;rw [←ho] at HE1 FV hz;rw [←hoq] at HE2 FQ hz;clear hv hA hAq hb0 hWW hP hT k0 k1 k2 k3 k4 hvd ht hre hfl hl ho hoq
 cases hs:lsB less
 case false =>
  rw [hs,if_neg (by decide)] at hz
  obtain ⟨rfl,rfl⟩:=Prod.mk.inj hz;unfold lsB at hs;simp only [Bool.or_eq_false_iff,decide_eq_false_iff_not] at hs;have t0:(less != 0)=true:=by simp [hs.1]
  have t1:(less != 1)=true:=by simp [hs.2]
  clear hz HRF HFI HVD HE1 HE2 hs hflb;go_enter Tryz.func10,Tryz.ntmps10
  go_upto_region 1 with fail
  rw [←HW.out.1]
  go_wp2_with fail
  refine HS.out.mono ?_;rintro r w1 ⟨rfl,hb1⟩;have KB:=qsd ((HW.out.2.1.trans (hb1.mono HW.out.2.1.size)).trans ((bel_alloc w1 (Obj.cells #[.int .i64 tn,.int .i64 tu,.int .i64 td,.int .i64 tm,.int .i64 tp,.int .i64 ta] 59)).mono (Nat.le_trans HW.out.2.1.size hb1.size)));clear hb1;go_wp2;refine bodyPost_ret (v:=.tuple #[.float .f64 0,.int .i64 1]) (by simp [results,Tryz.results10,go_sem]) rfl ?_
  exact ⟨rfl,KB.out⟩
 case true =>
 rw [hs,if_pos rfl] at hz;have hls:=ls_ok hs;clear hs
 rcases hls with rfl|rfl
 · go_enter Tryz.func10,Tryz.ntmps10
   go_upto_region 1 with fail
   rw [←HW.out.1]
   go_wp2_with fail
   refine HS.out.mono ?_;rintro r w1 ⟨rfl,hb1⟩
   go_upto_region 2 with fail
   obtain ⟨V,hV⟩:∃ V,V=w1.alloc (Obj.cells #[.int .i64 tn,.int .i64 tu,.int .i64 td,.int .i64 tm,.int .i64 tp,.int .i64 ta] 59):=⟨_,rfl⟩;rw [←hV];have hB6:Bl V w1.heap.size 59 [.int .i64 tn,.int .i64 tu,.int .i64 td,.int .i64 tm,.int .i64 tp,.int .i64 ta]:=by rw [hV];exact Bl.new _ _ [_,_,_,_,_,_]
   have hbV:Below w1.heap.size w1 V:=by rw [hV];exact bel_alloc _ _
   obtain ⟨gS,hgS⟩:∃ q,q=w1.heap.size:=⟨_,rfl⟩;have hbT:Below w.heap.size w V:=(HW.out.2.1.trans (hb1.mono HW.out.2.1.size)).trans (hbV.mono (by have:=HW.out.2.1.size;have:=hb1.size;omega))
   have hPV:Bl V w.heap.size 24 [.int .i64 a,.int .i64 b]:=(HW.out.2.2.1.below hb1 HW.out.2.2.1.lt).below hbV (by have:=HW.out.2.2.1.lt;have:=hb1.size;omega)
   rw [←hgS] at hB6 ⊢;have KK:=(qsd (ai hB6 (ai hbT hPV)));clear hV hbV hb1 hgS HS d;have q0:=hB6.cell 0 _ rfl;have q1:=hB6.cell 1 _ rfl;have q2:=hB6.cell 2 _ rfl;have q3:=hB6.cell 3 _ rfl;have q4:=hB6.cell 4 _ rfl;have q5:=hB6.cell 5 _ rfl;have p0:=hPV.cell 0 _ rfl;have p1:=hPV.cell 1 _ rfl;clear hB6 hbT hPV
   go_wp2_with fail
   refine (HRF.out _).mono ?_;rintro r v1 ⟨rfl,hb1⟩;have K1:=qsd (ai (KK.out.1.below hb1 KK.out.1.lt) (ai (KK.out.2.1.trans (hb1.mono KK.out.2.1.size)) (KK.out.2.2.below hb1 KK.out.2.2.lt)));clear hb1 KK HRF q0 q1 q2 q3 q4 q5 p0 p1
   by_cases hr0:re=0
   case neg =>
    rw [if_neg hr0] at hz;obtain ⟨rfl,rfl⟩:=Prod.mk.inj hz;have t0:(re==0)=false:=by simp [hr0]
    clear hz;go_wp2;refine bodyPost_ret (v:=.tuple #[.float .f64 0,.int .i64 re]) (by simp [results,Tryz.results10,go_sem]) rfl ?_
    exact ⟨rfl,K1.out.2.1⟩
   case pos =>
   rw [if_pos hr0] at hz;subst hr0;have q0:=K1.out.1.cell 0 _ rfl;have q1:=K1.out.1.cell 1 _ rfl;have q2:=K1.out.1.cell 2 _ rfl;have q3:=K1.out.1.cell 3 _ rfl;have q4:=K1.out.1.cell 4 _ rfl;have q5:=K1.out.1.cell 5 _ rfl;have p0:=K1.out.2.2.cell 0 _ rfl;have p1:=K1.out.2.2.cell 1 _ rfl
   go_wp2_with fail
   refine (HVD.out _).mono ?_;rintro r v2 ⟨rfl,hb2⟩;have K2:=qsd (ai (K1.out.1.below hb2 K1.out.1.lt) (K1.out.2.1.trans (hb2.mono K1.out.2.1.size)));clear hb2 K1 HVD q0 q1 q2 q3 q4 q5 p0 p1
   cases vt
   case true =>
    rw [if_pos rfl] at hz;obtain ⟨rfl,rfl⟩:=Prod.mk.inj hz;clear hz
    go_wp2_with (go_at_call 37;refine (HN.out _).mono ?_;rintro r v ⟨rfl,rfl⟩)
    refine bodyPost_ret (v:=.tuple #[.float .f64 9221120237041090560,.int .i64 0]) (by simp [results,Tryz.results10,go_sem]) rfl ?_
    exact ⟨rfl,K2.out.2⟩
   case false =>
   rw [if_neg (by decide)] at hz
   have q0:=K2.out.1.cell 0 _ rfl;have q1:=K2.out.1.cell 1 _ rfl;have q2:=K2.out.1.cell 2 _ rfl;have q3:=K2.out.1.cell 3 _ rfl;have q4:=K2.out.1.cell 4 _ rfl;have q5:=K2.out.1.cell 5 _ rfl
   go_wp2_with fail
   refine (HFI.out _).mono ?_;rintro r v3 ⟨rfl,hb3⟩;have K3:=qsd (K2.out.2.trans (hb3.mono K2.out.2.size));clear hb3 K2 HFI q0 q1 q2 q3 q4 q5 HN
   by_cases hn:fl≤0
   case pos =>
    rw [if_pos hn] at hz;obtain ⟨rfl,rfl⟩:=Prod.mk.inj hz;have t0:decide (fl≤0)=true:=decide_eq_true hn;clear hz hflb;go_wp2;refine bodyPost_ret (v:=.tuple #[.float .f64 0,.int .i64 3]) (by simp [results,Tryz.results10,go_sem]) rfl ?_
    exact ⟨rfl,K3.out⟩
   case neg =>
   rw [if_neg hn] at hz;have t0:decide (fl≤0)=false:=decide_eq_false hn
   have HOF:Hid (∀ (u:World) (a1 a2:Option Addr) (c1 c2:Nat),Below w.heap.size w u→Nt 0 u (.slice a1 (ws (dX o)).length c1) (dX o)→Nt 0 u (.slice a2 (ws (dX oq)).length c2) (dX oq)→Calls Tryz.prog 38 #[.int .i64 fl,.agg #[.bool (dN o),.slice a1 (ws (dX o)).length c1,.int .i64 (dE o)],.agg #[.bool (dN oq),.slice a2 (ws (dX oq)).length c2,.int .i64 (dE oq)],.int .i64 0,.int .i64 mode] u fun r w'=>r=.returned (.tuple #[.float .f64 X,.int .i64 E])∧Below u.heap.size u w'):=by
    intro u a1 a2 c1 c2 hu n1 n2;obtain ⟨_,A1⟩:=Nt.arg' n1 (Nat.le_trans FV.out.len (by decide))
    obtain ⟨_,A2⟩:=Nt.arg' n2 (Nat.le_trans FQ.out.len (by decide))
    exact Of14 fl (dN o) (dN oq) (dE o) (dE oq) 0 mode A1 A2 (HW.out.2.2.2.2.belows hu) (by omega) FV.out.rng FQ.out.rng (X,E) (by rw [val_ws,val_ws,FV.out.re,FQ.out.re];exact hz)
   have HB0:Aside (Below w.heap.size w v3.drew):=K3.out.drew;have HKS:Aside (∀ u:World,Below w.heap.size w u→(u.cell? ⟨g,11,none⟩=some (.pointer (some ⟨gs,0,none⟩))∧u.cell? ⟨g,12,none⟩=some (.pointer (some ⟨gq,0,none⟩)))):=qsd fun u h2=>⟨(HW.out.2.2.2.1.below h2 HW.out.2.2.2.1.lt).cell 11 _ rfl,(HW.out.2.2.2.1.below h2 HW.out.2.2.2.1.lt).cell 12 _ rfl⟩
   have kS:=qsd (HKS.out v3.drew HB0.out);have CE:=hid (HE1.out v3.drew HB0.out);clear hz hn hflb
   go_wp2_with fail
   go_region_held3 (fun w'=>w'.cell? ⟨g,11,none⟩=some (.pointer (some ⟨gs,0,none⟩))∧w'.cell? ⟨g,12,none⟩=some (.pointer (some ⟨gq,0,none⟩))) (with_reducible exact kS.out) (first
    | (go_at_call 32
       with_reducible refine CE.out.mono ?_
       rintro r u1 ⟨vv,rfl,hN,hb⟩;obtain ⟨a1,c1',rfl,hN0⟩:=Lo.shape FV.out hN;have hbE:Below w.heap.size w u1:=HB0.out.trans (hb.mono HB0.out.size);have BE:=(qsd (ai hbE hN0));have kS:=qsd (HKS.out u1 hbE);have CQ:=hid (HE2.out u1 hbE);clear hb hN hN0 hbE CE)
    | (go_at_call 32
       with_reducible refine CQ.out.mono ?_
       rintro r u2 ⟨vv,rfl,hN,hb⟩;obtain ⟨a2,c2',rfl,hN0⟩:=Lo.shape FQ.out hN;have hbE:Below w.heap.size w u2:=BE.out.1.trans (hb.mono BE.out.1.size);have BG:=(qsd (ai hbE (ai (BE.out.2.below hb) hN0)));have kS:=qsd (HKS.out u2 hbE);have CO:=hid (HOF.out u2 a1 a2 c1' c2' hbE BG.out.2.1 hN0);clear hb hN hN0 hbE CQ)
    | (go_at_call 38
       with_reducible refine CO.out.mono ?_
       rintro r u3 ⟨rfl,hb⟩;have hbE:Below w.heap.size w u3:=BG.out.1.trans (hb.mono BG.out.1.size);have BK:=qsd hbE;have kS:=qsd (HKS.out u3 hbE);clear hb hbE CO))
   go_wp2;refine bodyPost_ret (v:=.tuple #[.float .f64 X,.int .i64 E]) (by simp [results,Tryz.results10,go_sem]) rfl ?_
   exact ⟨rfl,BK.out⟩
 · go_enter Tryz.func10,Tryz.ntmps10
   go_upto_region 1 with fail
   rw [←HW.out.1]
   go_wp2_with fail
   refine HS.out.mono ?_;rintro r w1 ⟨rfl,hb1⟩
   go_upto_region 2 with fail
   obtain ⟨V,hV⟩:∃ V,V=w1.alloc (Obj.cells #[.int .i64 tn,.int .i64 tu,.int .i64 td,.int .i64 tm,.int .i64 tp,.int .i64 ta] 59):=⟨_,rfl⟩;rw [←hV];have hB6:Bl V w1.heap.size 59 [.int .i64 tn,.int .i64 tu,.int .i64 td,.int .i64 tm,.int .i64 tp,.int .i64 ta]:=by rw [hV];exact Bl.new _ _ [_,_,_,_,_,_]
   have hbV:Below w1.heap.size w1 V:=by rw [hV];exact bel_alloc _ _
   obtain ⟨gS,hgS⟩:∃ q,q=w1.heap.size:=⟨_,rfl⟩;have hbT:Below w.heap.size w V:=(HW.out.2.1.trans (hb1.mono HW.out.2.1.size)).trans (hbV.mono (by have:=HW.out.2.1.size;have:=hb1.size;omega))
   have hPV:Bl V w.heap.size 24 [.int .i64 a,.int .i64 b]:=(HW.out.2.2.1.below hb1 HW.out.2.2.1.lt).below hbV (by have:=HW.out.2.2.1.lt;have:=hb1.size;omega)
   rw [←hgS] at hB6 ⊢;have KK:=(qsd (ai hB6 (ai hbT hPV)));clear hV hbV hb1 hgS HS d;have q0:=hB6.cell 0 _ rfl;have q1:=hB6.cell 1 _ rfl;have q2:=hB6.cell 2 _ rfl;have q3:=hB6.cell 3 _ rfl;have q4:=hB6.cell 4 _ rfl;have q5:=hB6.cell 5 _ rfl;have p0:=hPV.cell 0 _ rfl;have p1:=hPV.cell 1 _ rfl;clear hB6 hbT hPV
   go_wp2_with fail
   refine (HRF.out _).mono ?_;rintro r v1 ⟨rfl,hb1⟩;have K1:=qsd (ai (KK.out.1.below hb1 KK.out.1.lt) (ai (KK.out.2.1.trans (hb1.mono KK.out.2.1.size)) (KK.out.2.2.below hb1 KK.out.2.2.lt)));clear hb1 KK HRF q0 q1 q2 q3 q4 q5 p0 p1
   by_cases hr0:re=0
   case neg =>
    rw [if_neg hr0] at hz;obtain ⟨rfl,rfl⟩:=Prod.mk.inj hz;have t0:(re==0)=false:=by simp [hr0]
    clear hz;go_wp2;refine bodyPost_ret (v:=.tuple #[.float .f64 0,.int .i64 re]) (by simp [results,Tryz.results10,go_sem]) rfl ?_
    exact ⟨rfl,K1.out.2.1⟩
   case pos =>
   rw [if_pos hr0] at hz;subst hr0;have q0:=K1.out.1.cell 0 _ rfl;have q1:=K1.out.1.cell 1 _ rfl;have q2:=K1.out.1.cell 2 _ rfl;have q3:=K1.out.1.cell 3 _ rfl;have q4:=K1.out.1.cell 4 _ rfl;have q5:=K1.out.1.cell 5 _ rfl;have p0:=K1.out.2.2.cell 0 _ rfl;have p1:=K1.out.2.2.cell 1 _ rfl
   go_wp2_with fail
   refine (HVD.out _).mono ?_;rintro r v2 ⟨rfl,hb2⟩;have K2:=qsd (ai (K1.out.1.below hb2 K1.out.1.lt) (K1.out.2.1.trans (hb2.mono K1.out.2.1.size)));clear hb2 K1 HVD q0 q1 q2 q3 q4 q5 p0 p1
   cases vt
   case true =>
    rw [if_pos rfl] at hz;obtain ⟨rfl,rfl⟩:=Prod.mk.inj hz;clear hz
    go_wp2_with (go_at_call 37;refine (HN.out _).mono ?_;rintro r v ⟨rfl,rfl⟩)
    refine bodyPost_ret (v:=.tuple #[.float .f64 9221120237041090560,.int .i64 0]) (by simp [results,Tryz.results10,go_sem]) rfl ?_
    exact ⟨rfl,K2.out.2⟩
   case false =>
   rw [if_neg (by decide)] at hz
   have q0:=K2.out.1.cell 0 _ rfl;have q1:=K2.out.1.cell 1 _ rfl;have q2:=K2.out.1.cell 2 _ rfl;have q3:=K2.out.1.cell 3 _ rfl;have q4:=K2.out.1.cell 4 _ rfl;have q5:=K2.out.1.cell 5 _ rfl
   go_wp2_with fail
   refine (HFI.out _).mono ?_;rintro r v3 ⟨rfl,hb3⟩;have K3:=qsd (K2.out.2.trans (hb3.mono K2.out.2.size));clear hb3 K2 HFI q0 q1 q2 q3 q4 q5 HN
   by_cases hn:fl≤1
   case pos =>
    rw [if_pos hn] at hz;obtain ⟨rfl,rfl⟩:=Prod.mk.inj hz;have t0:decide (fl≤1)=true:=decide_eq_true hn;clear hz hflb;go_wp2;refine bodyPost_ret (v:=.tuple #[.float .f64 0,.int .i64 3]) (by simp [results,Tryz.results10,go_sem]) rfl ?_
    exact ⟨rfl,K3.out⟩
   case neg =>
   rw [if_neg hn] at hz;have t0:decide (fl≤1)=false:=decide_eq_false hn
   have HOF:Hid (∀ (u:World) (a1 a2:Option Addr) (c1 c2:Nat),Below w.heap.size w u→Nt 0 u (.slice a1 (ws (dX o)).length c1) (dX o)→Nt 0 u (.slice a2 (ws (dX oq)).length c2) (dX oq)→Calls Tryz.prog 38 #[.int .i64 fl,.agg #[.bool (dN o),.slice a1 (ws (dX o)).length c1,.int .i64 (dE o)],.agg #[.bool (dN oq),.slice a2 (ws (dX oq)).length c2,.int .i64 (dE oq)],.int .i64 1,.int .i64 mode] u fun r w'=>r=.returned (.tuple #[.float .f64 X,.int .i64 E])∧Below u.heap.size u w'):=by
    intro u a1 a2 c1 c2 hu n1 n2;obtain ⟨_,A1⟩:=Nt.arg' n1 (Nat.le_trans FV.out.len (by decide))
    obtain ⟨_,A2⟩:=Nt.arg' n2 (Nat.le_trans FQ.out.len (by decide))
    exact Of14 fl (dN o) (dN oq) (dE o) (dE oq) 1 mode A1 A2 (HW.out.2.2.2.2.belows hu) (by omega) FV.out.rng FQ.out.rng (X,E) (by rw [val_ws,val_ws,FV.out.re,FQ.out.re];exact hz)
   have HB0:Aside (Below w.heap.size w v3.drew):=K3.out.drew;have HKS:Aside (∀ u:World,Below w.heap.size w u→(u.cell? ⟨g,11,none⟩=some (.pointer (some ⟨gs,0,none⟩))∧u.cell? ⟨g,12,none⟩=some (.pointer (some ⟨gq,0,none⟩)))):=qsd fun u h2=>⟨(HW.out.2.2.2.1.below h2 HW.out.2.2.2.1.lt).cell 11 _ rfl,(HW.out.2.2.2.1.below h2 HW.out.2.2.2.1.lt).cell 12 _ rfl⟩
   have kS:=qsd (HKS.out v3.drew HB0.out);have CE:=hid (HE1.out v3.drew HB0.out);clear hz hn hflb
   go_wp2_with fail
   go_region_held3 (fun w'=>w'.cell? ⟨g,11,none⟩=some (.pointer (some ⟨gs,0,none⟩))∧w'.cell? ⟨g,12,none⟩=some (.pointer (some ⟨gq,0,none⟩))) (with_reducible exact kS.out) (first
    | (go_at_call 32
       with_reducible refine CE.out.mono ?_
       rintro r u1 ⟨vv,rfl,hN,hb⟩;obtain ⟨a1,c1',rfl,hN0⟩:=Lo.shape FV.out hN;have hbE:Below w.heap.size w u1:=HB0.out.trans (hb.mono HB0.out.size);have BE:=(qsd (ai hbE hN0));have kS:=qsd (HKS.out u1 hbE);have CQ:=hid (HE2.out u1 hbE);clear hb hN hN0 hbE CE)
    | (go_at_call 32
       with_reducible refine CQ.out.mono ?_
       rintro r u2 ⟨vv,rfl,hN,hb⟩;obtain ⟨a2,c2',rfl,hN0⟩:=Lo.shape FQ.out hN;have hbE:Below w.heap.size w u2:=BE.out.1.trans (hb.mono BE.out.1.size);have BG:=(qsd (ai hbE (ai (BE.out.2.below hb) hN0)));have kS:=qsd (HKS.out u2 hbE);have CO:=hid (HOF.out u2 a1 a2 c1' c2' hbE BG.out.2.1 hN0);clear hb hN hN0 hbE CQ)
    | (go_at_call 38
       with_reducible refine CO.out.mono ?_
       rintro r u3 ⟨rfl,hb⟩;have hbE:Below w.heap.size w u3:=BG.out.1.trans (hb.mono BG.out.1.size);have BK:=qsd hbE;have kS:=qsd (HKS.out u3 hbE);clear hb hbE CO))
   go_wp2;refine bodyPost_ret (v:=.tuple #[.float .f64 X,.int .i64 E]) (by simp [results,Tryz.results10,go_sem]) rfl ?_
   exact ⟨rfl,BK.out⟩
attribute [local go_sem] st_float
theorem ExactT (xs:List Nat) (a:Option Addr) (n c:Nat) (mode pa pb:Int) (w:World) (hn:n=xs.length) (hF:Fs w.heap.size w a xs) (hW:W64 xs) (hT:Tab w) (hl:n≤65536) (z:Nat×Int) (hz:exR xs mode pa pb=z) :
 Calls Tryz.prog 11 #[.slice a n c,.int .i64 mode,.agg #[.int .i64 pa,.int .i64 pb]] w fun r w'=>r=.returned (.tuple #[.float .f64 z.1,.int .i64 z.2])∧Below w.heap.size w w':=by
 unfold exR at hz
 by_cases hm:mode<0∨4<mode∨may pa pb=false
 · rw [if_pos hm] at hz
   subst hz;exact Exact10_arg a n c mode pa pb w hm
 · rw [if_neg hm,if_neg (by omega)] at hz
   subst hz;exact Exact10_any xs a n c mode pa pb w hn hF hW hT (by omega) (by omega) (by cases q:may pa pb with | true=>rfl | false=>exact absurd (.inr (.inr q)) hm) hl
structure Wt20 (w u:World) (l1 h1 g1 n:Nat) (X:List Nat) (pa pb:Int):Prop where
 s1:Sl u l1 h1 g1 n X
 pl:Bl u w.heap.size 24 [.int .i64 pa,.int .i64 pb]
 bw:Below w.heap.size w u
 o1:w.heap.size<l1
theorem Wt20.bel {w u u':World}{l1 h1 g1 n:Nat}{X:List Nat}{pa pb:Int}(h:Wt20 w u l1 h1 g1 n X pa pb) (hb:Below u.heap.size u u'):Wt20 w u' l1 h1 g1 n X pa pb :=
 ⟨h.s1.bel hb,h.pl.below hb h.pl.lt,h.bw.trans (hb.mono h.bw.size),h.o1⟩
theorem Wt20.push {w u u':World}{l1 h1 g1 n:Nat}{X X':List Nat}{pa pb:Int}(h:Wt20 w u l1 h1 g1 n X pa pb) (hs:Sl u' l1 h1 g1 n X') (hf:Fr20 l1 h1 u u'):Wt20 w u' l1 h1 g1 n X' pa pb:=by
 have o1:=h.o1;exact ⟨hs,h.pl.blk (hf.block _ h.pl.lt (by omega)),Fr20.below h.bw hf h.bw.size (by omega),o1⟩
theorem t300 (z:Int):-300<z.tmod 300∧z.tmod 300<300:=by
 have h:(z.tmod 300).natAbs=z.natAbs%300:=Int.natAbs_tmod z 300;have:=Nat.mod_lt z.natAbs (show 300 > 0 by decide)
 generalize z.tmod 300=t at *;omega
theorem wrapNT {n:Nat}(h:n≤1000):RowKit.wrap64 (n:Int)=(n:Int):=IntWalk.wrap64_in _ (by omega)
theorem quarterT:exR [4602678819172646912,4598175219545276416] 0 0 0=(4604930618986332160,0):=by decide +kernel
set_option maxRecDepth 100000 in
theorem walk2_TopSlides (a1:Option Addr) (n1 c1:Nat) (xs:List Nat) (size mode pa pb:Int) (w:World) (hT:Tab w) (hC:CameF w a1 n1 c1 xs) (hm1:n1≤17592186043904) (hz0:-9223372036854775808≤size) (hz1:size≤9223372036854775807) :
 Calls Tryz.prog 3 #[.slice a1 n1 c1,.int .i64 size,.int .i64 mode,.agg #[.int .i64 pa,.int .i64 pb]] w fun r w'=>r=.returned (.bool true)∧Below w.heap.size w w':=by
 obtain ⟨W,hWW⟩:∃ W,W=w.alloc (Obj.cells #[.int .i64 pa,.int .i64 pb] 24):=⟨_,rfl⟩;have hb0:Below w.heap.size w W:=by rw [hWW];exact bel_alloc _ _
 have hP:Bl W w.heap.size 24 [.int .i64 pa,.int .i64 pb]:=by rw [hWW];exact Bl.new _ _ [_,_]
 obtain ⟨m1,e1⟩:∃ m:Int,size.tmod 300=m:=⟨_,rfl⟩;have hm1a:=t300 size;rw [e1] at hm1a;obtain ⟨m2,e2⟩:∃ m:Nat,m1+300=(m:Int):=⟨(m1+300).toNat,by omega⟩
 obtain ⟨m3,e3⟩:∃ m:Nat,m=m2%300:=⟨_,rfl⟩;have e3':(m2:Int).tmod 300=(m3:Int):=by rw [e3];rfl
 obtain ⟨n,hn⟩:∃ n:Nat,n=m3+1:=⟨_,rfl⟩;have hm3:m3<300:=by rw [e3];exact Nat.mod_lt _ (by decide)
 have e4:(1:Int)+(m3:Int)=(n:Int):=by rw [hn,Int.natCast_add,Int.add_comm];rfl
 have hm2:m2≤600:=by clear e3' e3 hn e4 hm3 hz0 hz1;omega
 have hn1:1≤n:=by rw [hn];exact Nat.le_add_left _ _
 have hn2:n≤300:=by rw [hn];exact hm3
 have w2:RowKit.wrap64 (m2:Int)=(m2:Int):=wrapNT (Nat.le_trans hm2 (by decide))
 have w3:RowKit.wrap64 (m3:Int)=(m3:Int):=wrapNT (Nat.le_trans (Nat.le_of_lt hm3) (by decide))
 have w4:RowKit.wrap64 (n:Int)=(n:Int):=wrapNT (Nat.le_trans hn2 (by decide))
 have hn3:n≤4096:=Nat.le_trans hn2 (by decide)
 obtain ⟨N,hN⟩:∃ N,N=min n1 4096:=⟨_,rfl⟩;have hC0:=hC.len;have hC1:=hC.cap;obtain ⟨R,hR⟩:∃ R,R=xs.take N:=⟨_,rfl⟩;have RL:N=R.length:=by rw [hR,List.length_take,←hC0,hN,Nat.min_assoc,Nat.min_comm 4096 n1,←Nat.min_assoc,Nat.min_self]
 have RW:W64 R:=fun x hx=>hC.wf x (by rw [hR] at hx;exact List.mem_of_mem_take hx)
 have RF:Fs w.heap.size w a1 R:=by
  intro hne;have hx:xs≠[]:=by rintro rfl;apply hne;rw [hR];simp
  obtain ⟨b,off,h1,h2,h3⟩:=hC.rd hx;refine ⟨b,off,h1,h2,fun i hi=>?_⟩
  have hi2:i<N:=by rw [RL];exact hi
  rw [h3 i (by rw [←hC0];exact Nat.lt_of_lt_of_le hi2 (by rw [hN];exact Nat.min_le_left _ _)),hR,List.getD_eq_getElem?_getD,List.getD_eq_getElem?_getD,List.getElem?_take,if_pos hi2]
 have CS:=hid (fun u:World=>shortT a1 n1 c1 N u hC.cap hN)
 have CN:=hid (fun u:World=>New20 n hn1 hn3 u)
 have CO:=hid (fun u:World=>order20 (x:=4607182418800017408) (y:=4611686018427387904) (by decide) (by decide) u)
 have CQ:=hid (fun u:World=>order20 (x:=4611686018427387904) (y:=4607182418800017408) (by decide) (by decide) u)
 rw [show B.oc (tk20 4607182418800017408) (tk20 4611686018427387904)=-1 by decide +kernel] at CO
 rw [show B.oc (tk20 4611686018427387904) (tk20 4607182418800017408)=1 by decide +kernel] at CQ
 have hNb:N≤4096:=by rw [hN];exact Nat.min_le_right _ _
 have hNc:N≤c1:=by rw [hN];exact Nat.le_trans (Nat.min_le_left _ _) hC1
 have A:=(qsd (ai hb0 (ai hP hT)));have HR:=(qsd (ai RL (ai RW (ai RF (ai hn1 (ai hn2 (ai hNb hNc)))))));have HW:=qsd hWW;clear hT hC hm1 hb0 hP hWW hz0 hz1 e3 hn hN hC0 hC1 hR RL RW RF hn1 hn2 hNb hNc hm3 hm2 hn3;go_enter Tryz.func3,Tryz.ntmps3
 go_upto_region 1 with fail
 rw [←HW.out];clear HW
 go_wp2_with fail
 refine (CN.out _).mono ?_;rintro r u1 ⟨g1,rfl,hs,hb⟩;have H0:Aside (Wt20 w u1 W.heap.size u1.heap.size g1 n [] pa pb):=⟨hs,A.out.2.1.below hb A.out.2.1.lt,A.out.1.trans (hb.mono A.out.1.size),A.out.2.1.lt⟩;clear hs hb CN e1 e2 e3' e4 w2 w3 hm1a
 go_wp2_with fail
 refine (CO.out _).mono ?_;rintro r u ⟨rfl,hu⟩;rw [hu];clear hu u CO
 go_wp2_with fail
 refine (CQ.out _).mono ?_;rintro r u ⟨rfl,hu⟩;rw [hu];clear hu u CQ
 go_wp2_with fail
 refine (CS.out _).mono ?_;rintro r u ⟨rfl,hu⟩;rw [hu];clear hu u CS;obtain ⟨l1,el1⟩:∃ l,l=W.heap.size:=⟨_,rfl⟩;obtain ⟨h1,eh1⟩:∃ l,l=u1.heap.size:=⟨_,rfl⟩;rw [←el1,←eh1] at H0;clear el1 eh1;go_wp2
 go_loopg [55] N (fun gk iv wr=>∃ k:Nat,gk+k=N∧iv=.int .i64 (k:Nat)∧Aside (Wt20 w wr l1 h1 g1 n (lst20 n k R) pa pb))
 case atStart=>exact ⟨0,by omega,by simp,qsd (by rw [show lst20 n 0 R=[] by simp];exact H0.out)⟩
 case round =>
  clear H0;obtain ⟨k,hgk,rfl,HA⟩:=hrel
  by_cases hk:k<N
  · have hkR:k<R.length:=by rw [←HR.out.1];exact hk
    obtain ⟨b,off,rfl,hc⟩:=HR.out.2.2.1.at HA.out.bw k hkR;obtain ⟨x,hx⟩:∃ x,x=R.getD k 0:=⟨_,rfl⟩;rw [←hx] at hc;have hx6:x<18446744073709551616:=by rw [hx];exact HR.out.2.1.get k
    have C:=hid (Push20 x HA.out.s1 hx6 HR.out.2.2.2.1);rw [hx,psh_lst HR.out.2.2.2.1 hkR,←hx] at C;have hd:decide ((k:Int)<N)=true:=by simp;omega
    have hNb:=HR.out.2.2.2.2.2.1;have hkb:k<4611686018427387904:=by omega
    clear hx hx6
    go_wp2_with fail
    refine C.out.mono ?_;rintro r W1 ⟨rfl,hs,hf⟩;replace HA:=qsd (HA.out.push hs hf);clear C hs hf hc;obtain ⟨f,ef⟩:∃ f:Nat,f=k+1-n:=⟨_,rfl⟩;have HFE:=qsd ef;have hnb:=HR.out.2.2.2.2.1
    go_upto_if 66 with fail
    go_cut [12] from 63 to 70 (fun v wx=>v=.int .i64 (f:Nat)∧W1=wx)
    case first =>
     by_cases hkn:n<k+1
     · have d1:decide ((n:Int)<(k:Int)+1)=true:=by simp;omega
       have d2:(k:Int)+1-(n:Int)=(f:Int):=by omega
       clear ef HFE;go_wp2
       go_meet
       case rel=>exact ⟨by first | rfl | simp,rfl⟩
     · have d1:decide ((n:Int)<(k:Int)+1)=false:=by simp;omega
       have d2:f=0:=by omega
       clear ef HFE;subst d2;go_wp2
       go_meet
       case rel=>exact ⟨by first | rfl | simp,rfl⟩
    obtain ⟨rfl,rfl⟩:=hcut;obtain ⟨P,hP⟩:∃ P,P=lst20 n (k+1) R:=⟨_,rfl⟩;rw [←hP] at HA;have hfk:f≤k:=by have:=HR.out.2.2.2.1;omega
    obtain ⟨k1,ek1⟩:∃ k1,k1=k+1:=⟨_,rfl⟩;obtain ⟨m,em⟩:∃ m,m=k1-f:=⟨_,rfl⟩;have hPl:m=P.length:=by rw [hP,List.length_drop,List.length_take];omega
    have hPW:W64 P:=fun z hz=>HR.out.2.1 z (by rw [hP] at hz;exact List.mem_of_mem_take (List.mem_of_mem_drop hz))
    have hPF:Aside (∀ u:World,Below w.heap.size w u→Fs u.heap.size u (some ⟨b,off+f,none⟩) P):=fun u hu=>by
     have q:=(HR.out.2.2.1.piece f (k1-f) (by omega))
     have e:(R.drop f).take (k1-f)=P:=by
      rw [hP]
      show (R.drop f).take (k1-f)=(R.take (k+1)).drop (k+1-n)
      rw [←ef,←ek1,List.drop_take]
     rw [e] at q;exact (q.below hu).mono hu.size
    have hPne:P≠[]:=by rintro rfl;simp at hPl;omega
    have hfc:c1≠f:=by have:=HR.out.2.2.2.2.2.2;omega
    have hfc2:k1≤c1:=by have:=HR.out.2.2.2.2.2.2;omega
    have hfk1:f≤k1:=by omega
    have ek2:(k:Int)+1=(k1:Int):=by omega
    obtain ⟨⟨x1,y1⟩,z1⟩:∃ z,exR P mode pa pb=z:=⟨_,rfl⟩;obtain ⟨⟨x2,y2⟩,z2⟩:∃ z,meanR P mode pa pb=z:=⟨_,rfl⟩;obtain ⟨⟨x3,y3⟩,z3⟩:∃ z,varR qR14 P 0 mode pa pb=z:=⟨_,rfl⟩;have hm4:m≤300:=by omega
    have K1:=hid (fun (u:World) (o:Wt20 w u l1 h1 g1 n P pa pb)=>Sum20 mode pa pb o.s1 (A.out.2.2.belows o.bw) _ z1)
    have K2:=hid (fun (u:World) (o:Wt20 w u l1 h1 g1 n P pa pb)=>Mean20 mode pa pb o.s1 (A.out.2.2.belows o.bw) _ z2)
    have K3:=hid (fun (u:World) (o:Wt20 w u l1 h1 g1 n P pa pb)=>Var20 0 mode pa pb o.s1 (A.out.2.2.belows o.bw) _ z3)
    have K4:=hid (fun (u:World) (o:Wt20 w u l1 h1 g1 n P pa pb)=>ExactT P (some ⟨b,off+f,none⟩) m (c1-f) mode pa pb u hPl (hPF.out u o.bw) hPW (A.out.2.2.belows o.bw) (by omega) _ z1)
    have K5:=hid (fun (u:World) (o:Wt20 w u l1 h1 g1 n P pa pb)=>Mean13 P (some ⟨b,off+f,none⟩) m (c1-f) mode pa pb u hPl (hPF.out u o.bw) hPW (A.out.2.2.belows o.bw) (by omega) _ z2)
    have K6:=hid (fun (u:World) (o:Wt20 w u l1 h1 g1 n P pa pb)=>Var14 P (some ⟨b,off+f,none⟩) m (c1-f) 0 mode pa pb u hPl (hPF.out u o.bw) hPW (A.out.2.2.belows o.bw) (by omega) _ z3)
    have KL:=hid (fun (u:World) (o:Wt20 w u l1 h1 g1 n P pa pb)=>Len20 o.s1)
    rw [←hPl] at KL;have KE:=hid (fun (u:World) (o:Wt20 w u l1 h1 g1 n P pa pb)=>endsT P (some ⟨b,off+f,none⟩) m (c1-f) u (hPF.out u o.bw) hPl hPW (by omega))
    have HBE:Aside (∀ lo hi,Bst tk20 P m lo→Bst hk20 P m hi→endR tk20 P=(lo,0)∧endR hk20 P=(hi,0)):=fun lo hi q1 q2=>by
     rw [hPl] at q1 q2;exact ⟨q1.end hPW hPne (fun _ _ a b c d e=>tk_inj20 a b c d e),q2.end hPW hPne (fun _ _ a b c d e=>hk_inj20 a b c d e)⟩
    have S1:=hid (fun u:World=>sameT1 x1 u)
    have S2:=hid (fun u:World=>sameT1 x2 u)
    have S3:=hid (fun u:World=>sameT1 x3 u)
    simp only at K1 K2 K3 K4 K5 K6;have HP:=qsd hP;have HKN:=(qsd (ai hgk (ai hk ek1)));have hme:k1-f=m:=em.symm;clear hP ef hPl hPW hPne z1 z2 z3 em hkR hfk hm4 ek1;have p0:=HA.out.pl.cell 0 _ rfl;have p1:=HA.out.pl.cell 1 _ rfl;have C:=hid (K1.out _ HA.out)
    go_wp2_with fail
    refine C.out.mono ?_;rintro r vK1 ⟨rfl,hb⟩;replace HA:=qsd (HA.out.bel hb);clear hb C p0 p1 K1;have p0:=HA.out.pl.cell 0 _ rfl;have p1:=HA.out.pl.cell 1 _ rfl;have C:=hid (K2.out _ HA.out)
    go_wp2_with fail
    refine C.out.mono ?_;rintro r vK2 ⟨rfl,hb⟩;replace HA:=qsd (HA.out.bel hb);clear hb C p0 p1 K2;have p0:=HA.out.pl.cell 0 _ rfl;have p1:=HA.out.pl.cell 1 _ rfl;have C:=hid (K3.out _ HA.out)
    go_wp2_with fail
    refine C.out.mono ?_;rintro r vK3 ⟨rfl,hb⟩;replace HA:=qsd (HA.out.bel hb);clear hb C p0 p1 K3;have p0:=HA.out.pl.cell 0 _ rfl;have p1:=HA.out.pl.cell 1 _ rfl;have C:=hid (K4.out _ HA.out)
    go_wp2_with fail
    refine C.out.mono ?_;rintro r vK4 ⟨rfl,hb⟩;replace HA:=qsd (HA.out.bel hb);clear hb C p0 p1 K4;have p0:=HA.out.pl.cell 0 _ rfl;have p1:=HA.out.pl.cell 1 _ rfl;have C:=hid (K5.out _ HA.out)
    go_wp2_with fail
    refine C.out.mono ?_;rintro r vK5 ⟨rfl,hb⟩;replace HA:=qsd (HA.out.bel hb);clear hb C p0 p1 K5;have p0:=HA.out.pl.cell 0 _ rfl;have p1:=HA.out.pl.cell 1 _ rfl;have C:=hid (K6.out _ HA.out)
    go_wp2_with fail
    refine C.out.mono ?_;rintro r vK6 ⟨rfl,hb⟩;replace HA:=qsd (HA.out.bel hb);clear hb C p0 p1 K6;have C:=hid (KL.out _ HA.out)
    go_wp2_with fail
    refine C.out.mono ?_;rintro r u ⟨rfl,hu⟩;rw [hu];clear hu u C KL
    go_wp2_with fail
    refine (S1.out _).mono ?_;rintro r u ⟨rfl,hu⟩;rw [hu];clear hu u S1
    go_wp2_with fail
    refine (S2.out _).mono ?_;rintro r u ⟨rfl,hu⟩;rw [hu];clear hu u S2
    go_wp2_with fail
    refine (S3.out _).mono ?_;rintro r u ⟨rfl,hu⟩;rw [hu];clear hu u S3;have C:=hid (KE.out _ HA.out)
    go_wp2_with fail
    refine C.out.mono ?_;rintro r u ⟨⟨lo,hi,rfl,q1,q2⟩,hu⟩;rw [hu];clear hu u C KE;obtain ⟨r1,r2⟩:=HBE.out lo hi q1 q2;have K7:=hid (fun (u:World) (o:Wt20 w u l1 h1 g1 n P pa pb)=>Least20 o.s1 _ r1)
    have K8:=hid (fun (u:World) (o:Wt20 w u l1 h1 g1 n P pa pb)=>Most20 o.s1 _ r2)
    have S4:=hid (fun u:World=>sameT1 lo u)
    have S5:=hid (fun u:World=>sameT1 hi u)
    simp only at K7 K8;clear q1 q2 r1 r2 HBE;have C:=hid (K7.out _ HA.out)
    go_wp2_with fail
    refine C.out.mono ?_;rintro r vK7 ⟨rfl,hb⟩;replace HA:=qsd (HA.out.bel hb);clear hb C K7;have C:=hid (K8.out _ HA.out)
    go_wp2_with fail
    refine C.out.mono ?_;rintro r vK8 ⟨rfl,hb⟩;replace HA:=qsd (HA.out.bel hb);clear hb C K8
    go_wp2_with fail
    refine (S4.out _).mono ?_;rintro r u ⟨rfl,hu⟩;rw [hu];clear hu u S4
    go_wp2_with fail
    refine (S5.out _).mono ?_;rintro r u ⟨rfl,hu⟩;rw [hu];clear hu u S5
    go_wp2_with fail
    obtain ⟨hgk,hk,ek1⟩:=HKN.out
    go_roundg (gk-1)
    case measure=>omega
    case rel=>exact ⟨k+1,by omega,by first | rfl | (rw [←ek1];done) | (rw [←ek1];rfl) | (simp;omega),qsd (by rw [←HP.out];exact HA.out)⟩
  · obtain rfl:N=k:=by omega
    have hd:decide ((N:Int)<N)=false:=by simp
    obtain ⟨V,hV⟩:∃ V,V=wr.alloc (Obj.cells #[.float .f64 4602678819172646912,.float .f64 4598175219545276416] 28):=⟨_,rfl⟩;have hbv:Below wr.heap.size wr V:=by rw [hV];exact bel_alloc _ _
    have hbw:Below w.heap.size w V:=HA.out.bw.trans (hbv.mono HA.out.bw.size)
    have hFV:Fs V.heap.size V (some ⟨wr.heap.size,0,none⟩) [4602678819172646912,4598175219545276416]:=by
     intro _;refine ⟨wr.heap.size,0,by rw [hV];simp,rfl,fun i hi=>?_⟩
     have hi2:i<2:=hi;rw [hV];unfold World.cell?;simp only [heap_alloc_new]
     match i,hi2 with
     | 0,_=>rfl
     | 1,_=>rfl
    have C:=hid (ExactT [4602678819172646912,4598175219545276416] (some ⟨wr.heap.size,0,none⟩) 2 2 0 0 0 V rfl hFV (by intro z hz;rcases List.mem_cons.1 hz with rfl | hz;decide;rw [List.mem_singleton.1 hz];decide) (A.out.2.2.belows hbw) (by decide) _ quarterT)
    simp only at C;have HV:=(qsd (ai hV hbw));have oq:(FloatKind.f64.format.order 4604930618986332160 4604930618986332160==some .eq)=true:=by decide +kernel
    clear hV hbv hbw hFV hgk hk HA
    go_wp2_with fail
    rw [←HV.out.1];refine C.out.mono ?_;rintro r v ⟨rfl,hb⟩;have HB:=qsd (HV.out.2.trans (hb.mono HV.out.2.size));clear hb C HV;go_wp2;go_ret;exact ⟨rfl,HB.out⟩
end
end Go.Proofs.YthejkolknalpaaaGreatDoor
