import Derived.Test.YtflkmfdlpfimcaaGreatDoorMO7ox
import Derived.Test.YtflkmfdlpfimcaaGreatDoorD4x
import Derived.Test.YtflkmfdlpfimcaaGreatDoorZ14x
import Derived.Test.YtflkmfdlpfimcaaGreatDoorD30x
import Derived.Test.YtflkmfdlpfimcaaGreatDoorW40x
import Derived.BigQuiet
import Derived.Deep.Cut
import Derived.Test.YtflkmfdlpfimcaaGreatDoorD11x
import Derived.Test.YtflkmfdlpfimcaaGreatDoorD21x
import Derived.Deep.RegionWith
import Derived.Deep.RegionHeld3
import Derived.Deep.CutRange
import Derived.Test.YtflkmfdlpfimcaaGreatDoorW10x
import Derived.OwnWalk
import Derived.ArgAppend
import Derived.Maps.AppendAt
import Derived.WalkMore
import Derived.Test.YtflkmfdlpfimcaaGreatDoorM1x
import Derived.Test.YtflkmfdlpfimcaaGreatDoorMO2x
import Derived.Deep.LoopGhost
set_option linter.unusedVariables false
set_option linter.unusedSimpArgs false
set_option maxHeartbeats 16000000
set_option maxRecDepth 20000
namespace Go.Proofs.YtflkmfdlpfimcaaGreatDoor
namespace J
end J
section
open Go Go.RowKit J
def mdB (mode:Int):Bool:=decide (0≤mode)&&decide (mode≤4)
def lsB (less:Int):Bool:=decide (less=0) || decide (less=1)
theorem md_ok {mode:Int}(h:mdB mode=true):0≤mode∧mode≤4:=by unfold mdB at h;simpa using h
theorem ls_ok {less:Int}(h:lsB less=true):less=0∨less=1:=by unfold lsB at h;simpa using h
theorem isMode14 (mode:Int) (w:World):Calls Tryz.prog 38 #[.int .i64 mode] w fun r w'=>r=.returned (.bool (mdB mode))∧w'=w:=by
 unfold mdB
 by_cases h0:0≤mode
 · have d0:decide (0≤mode)=true:=decide_eq_true h0
   by_cases h4:mode≤4
   · have d4:decide (mode≤4)=true:=decide_eq_true h4
     rw [d0,d4];go_enter Tryz.func38,Tryz.ntmps38;go_wp2;go_ret;exact ⟨rfl,rfl⟩
   · have d4:decide (mode≤4)=false:=decide_eq_false h4
     rw [d0,d4];go_enter Tryz.func38,Tryz.ntmps38;go_wp2;go_ret;exact ⟨rfl,rfl⟩
 · have d0:decide (0≤mode)=false:=decide_eq_false h0
   rw [d0,Bool.false_and];go_enter Tryz.func38,Tryz.ntmps38;go_wp2;go_ret;exact ⟨rfl,rfl⟩
theorem isLess14 (less:Int) (w:World):Calls Tryz.prog 44 #[.int .i64 less] w fun r w'=>r=.returned (.bool (lsB less))∧w'=w:=by
 unfold lsB
 by_cases h0:less=0
 · subst h0
   go_enter Tryz.func44,Tryz.ntmps44;go_wp2;go_ret;exact ⟨rfl,rfl⟩
 · by_cases h1:less=1
   · subst h1
     go_enter Tryz.func44,Tryz.ntmps44;go_wp2;go_ret;exact ⟨rfl,rfl⟩
   · rw [decide_eq_false h0,decide_eq_false h1]
     have d0:(less==0)=false:=by simp [h0]
     have d1:(less==1)=false:=by simp [h1]
     go_enter Tryz.func44,Tryz.ntmps44;go_wp2;go_ret;exact ⟨rfl,rfl⟩
theorem shares14 (n:Nat) (less:Int) (w:World) (hT:Tab w) (hn:n≤1099511627776) (h0:0≤less) (h1:less≤1) (hl:less<n) :
 Calls Tryz.prog 46 #[.int .i64 (n:Nat),.int .i64 less] w fun r w'=>DVal 0 w' r (gV 0 ((n:Int)*((n:Int)-less)))∧Below w.heap.size w w':=by
 have b1:Bd 41 (n:Int):=Bd.nat (by omega)
 have b2:Bd 41 ((n:Int)-less):=by unfold Bd;omega
 obtain ⟨oA,hA⟩:∃ o,o=gV 0 (n:Int):=⟨_,rfl⟩;obtain ⟨oB,hB⟩:∃ o,o=gV 0 ((n:Int)-less):=⟨_,rfl⟩;obtain ⟨oC,hC⟩:∃ o,o=gV 0 ((n:Int)*((n:Int)-less)):=⟨_,rfl⟩;have FA:Fm oA:=by rw [hA];exact g_fm (by decide) (by decide) b1
 have FB:Fm oB:=by rw [hB];exact g_fm (by decide) (by decide) b2
 have FC:Fm oC:=by rw [hC];exact g_fm (by decide) (by decide) (b1.mul b2)
 have E:mulD oA oB=oC:=by rw [hA,hB,hC];exact g_mul (by decide) (by decide) (by decide) (by decide) b1 b2
 rw [←hC];have HI1:Hid (∀ u:World,Tab u→Calls Tryz.prog 52 #[.int .i64 (n:Nat)] u fun r w'=>DVal 0 w' r oA∧Below u.heap.size u w'):=fun u hu=>by rw [hA];exact Int14 n u hu (by omega) (by omega)
 have HI2:Hid (∀ u:World,Tab u→Calls Tryz.prog 52 #[.int .i64 ((n:Int)-less)] u fun r w'=>DVal 0 w' r oB∧Below u.heap.size u w'):=fun u hu=>by rw [hB];exact Int14 _ u hu (by omega) (by omega)
 have HX:=qsd (ai FA (ai FB (ai FC (ai E hT))));have hwr:IntKind.i64.wrap ((n:Int)-less)=(n:Int)-less:=by rw [IntKind.wrap_i64];omega
 clear hA hB hC FA FB FC E hT b1 b2;obtain ⟨W,hW⟩:∃ W,W=w.alloc (Obj.cells #[.bool false,.slice none 0 0,.int .i64 0] 37):=⟨_,rfl⟩;have H0:Aside (Lo W w.heap.size o00∧Below w.heap.size w W):=by rw [hW];exact ⟨Lo.zero _,below_alloc _ _⟩
 have HW:=qsd hW;clear hW;go_enter Tryz.func46,Tryz.ntmps46
 go_upto_region 1 with fail
 rw [←HW.out];clear HW;have C:=hid (HI1.out W (HX.out.2.2.2.2.belows H0.out.2))
 go_wp2_with fail
 refine C.out.mono ?_;rintro r u1 ⟨hd,hb⟩;obtain ⟨a1,c1,rfl,hN1⟩:=hd.shp14;have H1:=(qsd (ai (H0.out.1.below hb) (ai (H0.out.2.trans (hb.mono H0.out.2.size)) hN1)));clear hb hd hN1 H0 C;have C:=hid (HI2.out u1 (HX.out.2.2.2.2.belows H1.out.2.1))
 go_wp2_with fail
 refine C.out.mono ?_;rintro r u2 ⟨hd,hb⟩;obtain ⟨a2,c2,rfl,hN2⟩:=hd.shp14;have H2:=(qsd (ai (H1.out.1.below hb) (ai (H1.out.2.1.trans (hb.mono H1.out.2.1.size)) (ai (H1.out.2.2.below hb) hN2))));clear hb hd hN2 H1 C;have C:=hid (times14 HX.out.1 HX.out.2.1 HX.out.2.2.1 H2.out.2.2.1 H2.out.2.2.2 (HX.out.2.2.2.2.belows H2.out.2.1) HX.out.2.2.2.1)
 go_wp2_with fail
 refine C.out.mono ?_;rintro r u3 ⟨hd,hb⟩;obtain ⟨a3,c3,rfl,hN3⟩:=hd.shp14;have H3:=(qsd (ai (H2.out.1.below hb) (ai (H2.out.2.1.trans (hb.mono H2.out.2.1.size)) hN3)));clear hb hd hN3 H2 C;obtain ⟨p2,q2,D2,M2⟩:=H3.out.1;obtain ⟨y0,y1,y2,yf0,yf1,yf2⟩:=D2.facts;clear D2 M2;go_wp2;exact end14 Tryz.results46 rfl H3.out.1 H3.out.2.1 (Nat.le_refl _) H3.out.2.2
noncomputable def qR14 (V D:Option (Bool×Nat×Int)) (mode:Int):Nat×Int:=quoR rndS ⟨dN V,.bool false,dX V,dE V,dN D,.bool false,dX D,dE D⟩ mode
noncomputable def sR14 (V D:Option (Bool×Nat×Int)) (mode:Int):Nat×Int:=sqrR rndS ⟨dN V,.bool false,dX V,dE V,dN D,.bool false,dX D,dE D⟩ mode
theorem Quot14 {u:World}{a b:Option Addr}{ca cb:Nat}{V D:Option (Bool×Nat×Int)}(mode:Int) (FV:Fm V) (FD:Fm D) (n1:Nt 0 u (.slice a (ws (dX V)).length ca) (dX V)) (n2:Nt 0 u (.slice b (ws (dX D)).length cb) (dX D)) (hT:Tab u) :
 Calls Tryz.prog 37 #[.agg #[.bool (dN V),.slice a (ws (dX V)).length ca,.int .i64 (dE V),.bool (dN D),.slice b (ws (dX D)).length cb,.int .i64 (dE D)],.int .i64 mode] u fun r w'=>r=.returned (.tuple #[.float .f64 (qR14 V D mode).1,.int .i64 (qR14 V D mode).2])∧Below u.heap.size u w' :=
 Quot11 (w:=u) (n:=dN V) (m:=dN D) (X:=dX V) (Y:=dX D) (e:=dE V) (f:=dE D) mode ⟨n1.av (Nat.le_trans FV.len (by decide)),n2.av (Nat.le_trans FD.len (by decide)),FV.rng,FD.rng⟩ hT
theorem Root14 {u:World}{a b:Option Addr}{ca cb:Nat}{V D:Option (Bool×Nat×Int)}(mode:Int) (FV:Fm V) (FD:Fm D) (n1:Nt 0 u (.slice a (ws (dX V)).length ca) (dX V)) (n2:Nt 0 u (.slice b (ws (dX D)).length cb) (dX D)) (hT:Tab u) :
 Calls Tryz.prog 53 #[.agg #[.bool (dN V),.slice a (ws (dX V)).length ca,.int .i64 (dE V),.bool (dN D),.slice b (ws (dX D)).length cb,.int .i64 (dE D)],.int .i64 mode] u fun r w'=>r=.returned (.tuple #[.float .f64 (sR14 V D mode).1,.int .i64 (sR14 V D mode).2])∧Below u.heap.size u w' :=
 Root11 (w:=u) (n:=dN V) (m:=dN D) (X:=dX V) (Y:=dX D) (e:=dE V) (f:=dE D) mode ⟨n1.av (Nat.le_trans FV.len (by decide)),n2.av (Nat.le_trans FD.len (by decide)),FV.rng,FD.rng⟩ hT
theorem ps_rd14 {B:Nat}{w:World}{a:Option Addr}{xs:List Nat}(h:Fs B w a xs):Ps.Rd B w a xs:=h
theorem lt_fs14 {lo:Nat}{w:World}{v:Value}{xs:List Nat}(h:Ps.Lt lo w v xs):∃ a c,v=.slice a xs.length c∧Fs w.heap.size w a xs:=by
 have h2:=h.2;unfold Ps.Lt at h
 rcases h2 with ⟨rfl,h0⟩|⟨g,cap,cur,rfl,hlo,hg,rest⟩
 · exact ⟨none,0,by rw [h0],fun hne=>absurd (List.eq_nil_of_length_eq_zero h0) hne⟩
 · refine ⟨_,cap,rfl,fun _=>⟨g,0,(Array.getElem?_eq_some_iff.1 hg).1,rfl,fun i hi=>?_⟩⟩
   have h1:=h.cells (g:=g) (by simp [Value.ownBlock]) i (.float .f64 (xs.getD i 0)) (by simp [Ps.U,hi])
   have e:(⟨g,0,none⟩:Addr).add i=⟨g,0+i,none⟩:=by unfold Addr.add;split <;> simp_all
   rw [e] at h1;exact h1
theorem Sift14 (xs:List Nat) (a:Option Addr) (n c:Nat) (pa pb:Int) (w:World) (hn:n=xs.length) (hm:n≤35184372088832) (hF:Fs w.heap.size w a xs) (hW:W64 xs) :
 Calls Tryz.prog 78 #[.slice a n c,.agg #[.int .i64 pa,.int .i64 pb]] w fun r w' =>
  ((Ps.siftE pa pb xs≠0∧∃ a' c',r=.returned (.tuple #[.slice a' 0 c',.agg #[.int .i64 0,.int .i64 0,.int .i64 0,.int .i64 0,.int .i64 0,.int .i64 0],.int .i64 (Ps.siftE pa pb xs)])) ∨
   (Ps.siftE pa pb xs=0∧∃ a' c',r=.returned (.tuple #[.slice a' (Ps.fin xs).length c',.agg #[.int .i64 (Ps.cn 5 xs:Nat),.int .i64 (Ps.cn 3 xs:Nat),.int .i64 (Ps.cn 4 xs:Nat),.int .i64 (Ps.cn 1 xs:Nat),.int .i64 (Ps.cn 2 xs:Nat),.int .i64 (xs.length:Nat)],.int .i64 0])∧Fs w'.heap.size w' a' (Ps.fin xs)))∧Below w.heap.size w w':=by
 refine (Ps.Sift_any xs a n c w.heap.size pa pb w hn hm hW (ps_rd14 hF) (Nat.le_refl _)).mono ?_;rintro r w' ⟨v,rfl,hL,hb⟩;refine ⟨?_,hb⟩;unfold Ps.siftS;unfold Ps.siftL at hL
 by_cases h0:Ps.siftE pa pb xs=0
 · rw [if_pos h0] at hL ⊢
   obtain ⟨a',c',rfl,hF'⟩:=lt_fs14 hL;exact .inr ⟨h0,a',c',by rw [h0],hF'⟩
 · rw [if_neg h0] at hL ⊢
   obtain ⟨a',c',rfl,_⟩:=lt_fs14 hL;exact .inl ⟨h0,a',c',rfl⟩
def crB (pa pb:Int) (xs:List Nat):Bool:=(decide (0<Ps.cn 5 xs)&&decide (pa=0)) || (decide (0<Ps.cn 3 xs+Ps.cn 4 xs)&&decide (pb=0))
theorem siftE_ok14 {pa pb:Int}{xs:List Nat}(h:Ps.siftE pa pb xs=0):may pa pb=true∧xs.length≤65536:=by
 unfold Ps.siftE at h
 cases hm:may pa pb with
 | false=>rw [hm] at h;simp at h
 | true =>
   rw [hm,if_neg (by decide)] at h
   by_cases hl:65536<xs.length
   · rw [if_pos hl] at h;exact absurd h (by decide)
   · exact ⟨rfl,by omega⟩
theorem cn_sum14:∀ xs:List Nat,Ps.cn 5 xs+Ps.cn 3 xs+Ps.cn 4 xs+Ps.cn 1 xs+Ps.cn 2 xs≤xs.length
 | []=>by simp [Ps.cn]
 | x::xs=>by
   have ih:=cn_sum14 xs;unfold Ps.cn at ih ⊢;simp only [List.countP_cons,List.length_cons];have hk:=Ps.kd_le x;obtain q|q|q|q|q|q:kd x=0∨kd x=1∨kd x=2∨kd x=3∨kd x=4∨kd x=5:=by omega
   all_goals (rw [q];simp;omega)
theorem vd14 {pa pb:Int}{xs:List Nat}(h:Ps.siftE pa pb xs=0):(vd (snd (Ps.cn 5 xs:Nat) (Ps.cn 3 xs:Nat) (Ps.cn 4 xs:Nat) (Ps.cn 1 xs:Nat) (Ps.cn 2 xs:Nat) (xs.length:Nat)&&may pa pb) (Ps.cn 5 xs:Nat) (Ps.cn 3 xs:Nat) (Ps.cn 4 xs:Nat) pa pb).2=crB pa pb xs:=by
 obtain ⟨hm,hl⟩:=siftE_ok14 h;have hs:=cn_sum14 xs
 have e:snd (Ps.cn 5 xs:Nat) (Ps.cn 3 xs:Nat) (Ps.cn 4 xs:Nat) (Ps.cn 1 xs:Nat) (Ps.cn 2 xs:Nat) (xs.length:Nat)=true:=by
  unfold snd ct;simp;omega
 rw [e,hm];unfold vd crB
 by_cases h5:0<Ps.cn 5 xs∧pa=0
 · have h5':0<((Ps.cn 5 xs:Nat):Int)∧pa=0:=⟨by omega,h5.2⟩
   rw [if_neg (by decide),if_pos h5']
   simp [h5.1,h5.2]
 · have h5':¬ (0<((Ps.cn 5 xs:Nat):Int)∧pa=0):=fun q=>h5 ⟨by omega,q.2⟩
   have e5:(decide (0<Ps.cn 5 xs)&&decide (pa=0))=false:=by
    rcases Nat.lt_or_ge 0 (Ps.cn 5 xs) with q|q
    · have:¬ pa=0:=fun r=>h5 ⟨q,r⟩
      simp [this]
    · have:¬ 0<Ps.cn 5 xs:=by omega
      simp [this]
   rw [if_neg (by decide),if_neg h5',e5,Bool.false_or]
   by_cases hb:pb=0
   · subst hb
     rw [if_neg (by simp)]
     by_cases h3:0<Ps.cn 3 xs
     · have:0<Ps.cn 3 xs+Ps.cn 4 xs:=by omega
       by_cases h4:0<Ps.cn 4 xs
       · rw [if_pos ⟨by omega,by omega⟩];simp [this]
       · rw [if_neg (by omega),if_pos (by omega)];simp [this]
     · by_cases h4:0<Ps.cn 4 xs
       · have:0<Ps.cn 3 xs+Ps.cn 4 xs:=by omega
         rw [if_neg (by omega),if_neg (by omega),if_pos (by omega)];simp [this]
       · have:¬ 0<Ps.cn 3 xs+Ps.cn 4 xs:=by omega
         rw [if_neg (by omega),if_neg (by omega),if_neg (by omega)];simp [this]
   · rw [if_pos hb];simp [hb]
theorem Verdict14 {pa pb:Int}{xs:List Nat}(h:Ps.siftE pa pb xs=0) (w:World):Calls Tryz.prog 79 #[.agg #[.int .i64 (Ps.cn 5 xs:Nat),.int .i64 (Ps.cn 3 xs:Nat),.int .i64 (Ps.cn 4 xs:Nat),.int .i64 (Ps.cn 1 xs:Nat),.int .i64 (Ps.cn 2 xs:Nat),.int .i64 (xs.length:Nat)],.agg #[.int .i64 pa,.int .i64 pb]] w fun r w'=>(∃ x,r=.returned (.tuple #[.float .f64 x,.bool (crB pa pb xs)]))∧Below w.heap.size w w':=by
 refine (Verdict_any _ _ _ _ _ _ pa pb w).mono ?_;rintro r w' ⟨rfl,hb⟩;exact ⟨⟨_,by rw [vd14 h]⟩,hb⟩
theorem fin_W14 {xs:List Nat}(h:W64 xs):W64 (Ps.fin xs):=fun x hx=>h x (List.mem_filter.1 hx).1
theorem fin_all14 {xs:List Nat}(h:W64 xs):∀ x ∈ Ps.fin xs,finW x:=fun x hx=>by
 have hk:kd x≤2:=by simpa using (List.mem_filter.1 hx).2
 have hl:=h x (List.mem_filter.1 hx).1
 show magW x<9218868437227405312
 have em:magW x=x%9223372036854775808:=rfl;unfold kd at hk
 rcases Nat.lt_or_ge (magW x) 9218868437227405312 with q|q
 · exact q
 · rcases Nat.eq_or_lt_of_le q with r | r
   · rw [if_neg (by omega),if_pos (by omega)] at hk;split at hk <;> omega
   · rw [if_pos (by omega)] at hk;omega
theorem fin_len14 {pa pb:Int}{xs:List Nat}(h:Ps.siftE pa pb xs=0):(Ps.fin xs).length≤65536:=Nat.le_trans (Ps.fin_le xs) (siftE_ok14 h).2
theorem fin_ex14 {pa pb:Int}{xs:List Nat}(hW:W64 xs) (h:Ps.siftE pa pb xs=0):exE (Ps.fin xs)=0:=by
 unfold exE;rw [if_neg (by have:=fin_len14 h;omega),if_pos ((fiB_iff _).2 (fin_all14 hW))]
end
section
open Go Go.RowKit J
open Go.Proofs.YtflkmfdlpfimcaaGreatDoor.B (f64bits f64frombits)
attribute [local go_sem] f64bits f64frombits
def cS (xs ys:List Nat):Int:=(xs.length:Int)*tS (fun i=>fX xs i*fX ys i) xs.length-sX xs*sX ys
noncomputable def varR (rd:Option (Bool×Nat×Int)→Option (Bool×Nat×Int)→Int→Nat×Int) (xs:List Nat) (less mode pa pb:Int):Nat×Int :=
 if mdB mode&&lsB less then
  if Ps.siftE pa pb xs=0 then
   if crB pa pb xs then (9221120237041090560,0)
   else if ((Ps.fin xs).length:Int)≤less then (0,3)
   else rd (gV 2148 (cS (Ps.fin xs) (Ps.fin xs))) (gV 0 (((Ps.fin xs).length:Int)*(((Ps.fin xs).length:Int)-less))) mode
  else (0,Ps.siftE pa pb xs)
 else (0,1)
theorem cS_bd {xs ys:List Nat}(hx:W64 xs) (fx:∀ x ∈ xs,finW x) (hy:W64 ys) (fy:∀ x ∈ ys,finW x) (hl:xs.length≤65536) (he:xs.length=ys.length):Bd 4229 (cS xs ys):=by
 have bP:=prod_bd14 (f:=fX xs) (g:=fX ys) (n:=xs.length) (fun i hi=>fX_bd hx fx i hi) (fun i hi=>fX_bd hy fy i (by omega)) hl xs.length (Nat.le_refl _)
 have b1:=sX_bd hx fx hl xs.length (Nat.le_refl _);have b2:=sX_bd hy fy (by omega) ys.length (Nat.le_refl _)
 exact Bd.sub (m:=4228) (((Bd.nat (k:=16) (n:=xs.length) (by omega)).mul bP).mono (by decide)) ((b1.mul b2).mono (by decide))
theorem sh_bd {n:Nat}{less:Int}(hn:n≤1099511627776) (h0:0≤less) (h1:less≤1):Bd 82 ((n:Int)*((n:Int)-less)) :=
 (Bd.mul (a:=41) (b:=41) (Bd.nat (by omega)) (by unfold Bd;omega))
theorem varied14_q (xs:List Nat) (a:Option Addr) (n c:Nat) (less mode pa pb:Int) (w:World) (hn:n=xs.length) (hF:Fs w.heap.size w a xs) (hW:W64 xs) (hT:Tab w) (hl:n≤35184372088832) (z:Nat×Int) (hz:varR qR14 xs less mode pa pb=z) :
 Calls Tryz.prog 36 #[.slice a n c,.int .i64 less,.int .i64 mode,.agg #[.int .i64 pa,.int .i64 pb],.func (.func 37) #[] #[]] w fun r w'=>r=.returned (.tuple #[.float .f64 z.1,.int .i64 z.2])∧Below w.heap.size w w':=by
 obtain ⟨X,E⟩:=z;simp only;obtain ⟨W,hWW⟩:∃ W,W=w.alloc (Obj.cells #[.int .i64 pa,.int .i64 pb] 26):=⟨_,rfl⟩
 have B0:Aside (Bl W w.heap.size 26 [.int .i64 pa,.int .i64 pb]∧Below w.heap.size w W):=by
  rw [hWW];exact ⟨Bl.new _ 26 [_,_],bel_alloc _ _⟩
 have HWW:=qsd hWW;clear hWW;unfold varR at hz
 cases hm:mdB mode with
 | false =>
   rw [hm,Bool.false_and,if_neg (by decide)] at hz
   obtain ⟨rfl,rfl⟩:=Prod.mk.inj hz;clear hz hn hF hW hT;go_enter Tryz.func36,Tryz.ntmps36
   go_upto_region 1 with fail
   rw [←HWW.out];clear HWW;have C:=hid (isMode14 mode W);rw [hm] at C
   go_wp2_with fail
   refine C.out.mono ?_;rintro r v ⟨rfl,hv⟩;rw [hv];clear hv v C;go_wp2;exact bodyPost_ret (v:=.tuple #[.float .f64 0,.int .i64 1]) (by simp [results,Tryz.results36,go_sem]) rfl ⟨rfl,B0.out.2⟩
 | true =>
 cases hs:lsB less with
 | false =>
   rw [hm,hs,Bool.true_and,if_neg (by decide)] at hz
   obtain ⟨rfl,rfl⟩:=Prod.mk.inj hz;clear hz hn hF hW hT;go_enter Tryz.func36,Tryz.ntmps36
   go_upto_region 1 with fail
   rw [←HWW.out];clear HWW;have C:=hid (isMode14 mode W);rw [hm] at C
   go_wp2_with fail
   refine C.out.mono ?_;rintro r v ⟨rfl,hv⟩;rw [hv];clear hv v C;have C:=hid (isLess14 less W);rw [hs] at C
   go_wp2_with fail
   refine C.out.mono ?_;rintro r v ⟨rfl,hv⟩;rw [hv];clear hv v C;go_wp2;exact bodyPost_ret (v:=.tuple #[.float .f64 0,.int .i64 1]) (by simp [results,Tryz.results36,go_sem]) rfl ⟨rfl,B0.out.2⟩
 | true =>
   rw [hm,hs,Bool.true_and,if_pos rfl] at hz;have HS:=hid (Sift14 xs a n c pa pb W hn hl ((hF.below B0.out.2).mono B0.out.2.size) hW);have HX:=qsd (ai hn (ai hF (ai hW (ai hT (ai (md_ok hm) (ls_ok hs))))));have HZ:=qsd hz;obtain ⟨es,hes⟩:∃ e,Ps.siftE pa pb xs=e:=⟨_,rfl⟩;rw [hes] at HS;have HES:=qsd hes;have p0:=B0.out.1.cell 0 _ rfl;have p1:=B0.out.1.cell 1 _ rfl;clear hz hn hF hW hT hl hes;go_enter Tryz.func36,Tryz.ntmps36
   go_upto_region 1 with fail
   rw [←HWW.out];clear HWW;have C:=hid (isMode14 mode W);rw [hm] at C
   go_wp2_with fail
   refine C.out.mono ?_;rintro r v ⟨rfl,hv⟩;rw [hv];clear hv v C;have C:=hid (isLess14 less W);rw [hs] at C
   go_wp2_with fail
   refine C.out.mono ?_;rintro r v ⟨rfl,hv⟩;rw [hv];clear hv v C
   go_wp2_with fail
   refine HS.out.mono ?_;rintro r v ⟨hr,hb⟩;have B1:=(qsd (ai (B0.out.1.below hb B0.out.1.lt) (B0.out.2.trans (hb.mono B0.out.2.size))));clear hb HS p0 p1 B0
   rcases hr with ⟨he,a',c',rfl⟩|⟨he,a',c',rfl,hF'⟩
   · have h1:(es==0)=false:=by simp [he]
     have hz:=HZ.out;rw [if_neg (by rw [HES.out];exact he),HES.out] at hz
     obtain ⟨rfl,rfl⟩:=Prod.mk.inj hz;have BE:Aside (Below w.heap.size w (v.alloc (Obj.cells #[.int .i64 0,.int .i64 0,.int .i64 0,.int .i64 0,.int .i64 0,.int .i64 0] 99))):=B1.out.2.trans ((bel_alloc _ _).mono B1.out.2.size);clear hz HZ HES B1 he;go_wp2;exact bodyPost_ret (v:=.tuple #[.float .f64 0,.int .i64 es]) (by simp [results,Tryz.results36,go_sem]) rfl ⟨rfl,BE.out⟩
   · subst he
     have HV:=hid (fun u:World=>Verdict14 HES.out u)
     have hz:=HZ.out;rw [if_pos HES.out] at hz;obtain ⟨s5,hs5⟩:∃ s:Int,(Ps.cn 5 xs:Nat)=s:=⟨_,rfl⟩;obtain ⟨s3,hs3⟩:∃ s:Int,(Ps.cn 3 xs:Nat)=s:=⟨_,rfl⟩;obtain ⟨s4,hs4⟩:∃ s:Int,(Ps.cn 4 xs:Nat)=s:=⟨_,rfl⟩;obtain ⟨s1,hs1⟩:∃ s:Int,(Ps.cn 1 xs:Nat)=s:=⟨_,rfl⟩;obtain ⟨s2,hs2⟩:∃ s:Int,(Ps.cn 2 xs:Nat)=s:=⟨_,rfl⟩;obtain ⟨sl,hsl⟩:∃ s:Int,(xs.length:Nat)=s:=⟨_,rfl⟩;rw [hs5,hs3,hs4,hs1,hs2,hsl] at HV ⊢;clear hs5 hs3 hs4 hs1 hs2 hsl;obtain ⟨fl,hfl⟩:∃ f,Ps.fin xs=f:=⟨_,rfl⟩;rw [hfl] at hF' hz ⊢
     have PF:Aside (W64 fl∧(∀ x ∈ fl,finW x)∧fl.length≤65536∧exE fl=0):=by
      rw [←hfl];exact ⟨fin_W14 HX.out.2.2.1,fin_all14 HX.out.2.2.1,fin_len14 HES.out,fin_ex14 HX.out.2.2.1 HES.out⟩
     obtain ⟨m,hml⟩:∃ m,fl.length=m:=⟨_,rfl⟩;obtain ⟨U,hU⟩:∃ U,U=v.alloc (Obj.cells #[.int .i64 s5,.int .i64 s3,.int .i64 s4,.int .i64 s1,.int .i64 s2,.int .i64 sl] 99):=⟨_,rfl⟩;obtain ⟨gs,hgs⟩:∃ g,g=v.heap.size:=⟨_,rfl⟩
     have B2:Aside (Bl U gs 99 [.int .i64 s5,.int .i64 s3,.int .i64 s4,.int .i64 s1,.int .i64 s2,.int .i64 sl]∧Bl U w.heap.size 26 [.int .i64 pa,.int .i64 pb]∧Below w.heap.size w U∧Fs U.heap.size U a' fl):=by
      rw [hU,hgs];exact ⟨Bl.new _ 99 [_,_,_,_,_,_],B1.out.1.alloc _,B1.out.2.trans ((bel_alloc _ _).mono B1.out.2.size),(hF'.below (bel_alloc _ _)).mono (by simp)⟩
     rw [hml] at hz ⊢;have HML:=qsd hml;have HU:=(qsd (ai hU hgs));obtain ⟨cr,hcr⟩:∃ b,crB pa pb xs=b:=⟨_,rfl⟩;rw [hcr] at HV hz;clear hU hgs hF' B1 hfl HES HZ hml hcr
     go_upto_region 6 with fail
     rw [←HU.out.1,←HU.out.2];clear HU;have q0:=B2.out.1.cell 0 _ rfl;have q1:=B2.out.1.cell 1 _ rfl;have q2:=B2.out.1.cell 2 _ rfl;have q3:=B2.out.1.cell 3 _ rfl;have q4:=B2.out.1.cell 4 _ rfl;have q5:=B2.out.1.cell 5 _ rfl;have p0:=B2.out.2.1.cell 0 _ rfl;have p1:=B2.out.2.1.cell 1 _ rfl
     go_wp2_with fail
     refine (HV.out _).mono ?_;rintro r u ⟨⟨x,rfl⟩,hb⟩;have B3:=(qsd (ai (B2.out.2.2.1.trans (hb.mono B2.out.2.2.1.size)) ((B2.out.2.2.2.below hb).mono hb.size)));clear hb HV q0 q1 q2 q3 q4 q5 p0 p1 B2
     cases cr with
     | true =>
       rw [if_pos rfl] at hz;obtain ⟨rfl,rfl⟩:=Prod.mk.inj hz;clear hz PF HML;go_wp2;exact bodyPost_ret (v:=.tuple #[.float .f64 9221120237041090560,.int .i64 0]) (by simp [results,Tryz.results36,go_sem]) rfl ⟨rfl,B3.out.1⟩
     | false =>
       rw [if_neg (by decide)] at hz
       have HZ:=qsd hz;have HE:=hid (exact14 fl a' m c' u HML.out.symm B3.out.2 PF.out.1 (HX.out.2.2.2.1.belows B3.out.1) (by have:=PF.out.2.2.1;have:=HML.out;omega))
       rw [PF.out.2.2.2] at HE;clear hz
       go_wp2_with fail
       refine HE.out.mono ?_;rintro r u2 ⟨hr,hb⟩
       rcases hr with ⟨hr,_⟩|⟨_,v2,rfl,hR⟩
       · exact absurd rfl hr
       obtain ⟨gA,p1,q1,rfl,hD,hN⟩:=hR;obtain ⟨oS,hoS⟩:∃ o,o=gV 1074 (sX fl):=⟨_,rfl⟩;rw [←hoS] at hN ⊢;obtain ⟨V,hV⟩:∃ V,V=u2.alloc (Obj.cells #[.slice (some ⟨gA,0,none⟩) m m,.bool (dN oS),.slice p1 (ws (dX oS)).length q1,.int .i64 (dE oS)] 62):=⟨_,rfl⟩;obtain ⟨g7,hg7⟩:∃ g,g=u2.heap.size:=⟨_,rfl⟩
       have B4:Aside (Bl V g7 62 [.slice (some ⟨gA,0,none⟩) m m,.bool (dN oS),.slice p1 (ws (dX oS)).length q1,.int .i64 (dE oS)]∧Below w.heap.size w V∧Dr V gA m m (fun i=>gV 1074 (fX fl i))∧Nt 0 V (.slice p1 (ws (dX oS)).length q1) (dX oS)):=by
        rw [hV,hg7];have b3:=B3.out.1.trans (hb.mono B3.out.1.size);exact ⟨Bl.new _ 62 [_,_,_,_],b3.trans ((bel_alloc _ _).mono b3.size),hD.below (bel_alloc _ _),hN.below (bel_alloc _ _)⟩
       have HV:=(qsd (ai hV hg7));have HOS:=qsd hoS;clear hV hg7 hb hD hN HE B3 hoS
       go_upto_region 10 with fail
       rw [←HV.out.1,←HV.out.2];clear HV;have s0:=B4.out.1.cell 0 _ rfl
       by_cases hle:(m:Int)≤less
       · have dle:decide ((m:Int)≤less)=true:=decide_eq_true hle
         have hz:=HZ.out;rw [if_pos hle] at hz;obtain ⟨rfl,rfl⟩:=Prod.mk.inj hz;clear hz HZ;go_wp2;exact bodyPost_ret (v:=.tuple #[.float .f64 0,.int .i64 3]) (by simp [results,Tryz.results36,go_sem]) rfl ⟨rfl,B4.out.2.1⟩
       · have dle:decide ((m:Int)≤less)=false:=decide_eq_false hle
         have hz:=HZ.out;rw [if_neg hle] at hz;have m6:m≤65536:=by have:=PF.out.2.2.1;have:=HML.out;omega
         have l01:0≤less∧less≤1:=by have:=HX.out.2.2.2.2.2;omega
         obtain ⟨oV,hoV⟩:∃ o,o=gV 2148 (cS fl fl):=⟨_,rfl⟩;obtain ⟨oD,hoD⟩:∃ o,o=gV 0 ((m:Int)*((m:Int)-less)):=⟨_,rfl⟩;rw [←hoV,←hoD] at hz;have FV:Fm oV:=by rw [hoV];exact g_fm (by decide) (by decide) (cS_bd PF.out.1 PF.out.2.1 PF.out.1 PF.out.2.1 PF.out.2.2.1 rfl)
         have FD:Fm oD:=by rw [hoD];exact g_fm (by decide) (by decide) (sh_bd (by omega) l01.1 l01.2)
         have HSP:Hid (∀ u:World,Below V.heap.size V u→Calls Tryz.prog 41 #[.agg #[.slice (some ⟨gA,0,none⟩) m m,.bool (dN oS),.slice p1 (ws (dX oS)).length q1,.int .i64 (dE oS)],.agg #[.slice (some ⟨gA,0,none⟩) m m,.bool (dN oS),.slice p1 (ws (dX oS)).length q1,.int .i64 (dE oS)]] u fun r w'=>DVal 0 w' r oV∧Below u.heap.size u w'):=fun u hu=>by
          have hR:Rr u (.agg #[.slice (some ⟨gA,0,none⟩) m m,.bool (dN oS),.slice p1 (ws (dX oS)).length q1,.int .i64 (dE oS)]) m (fun i=>gV 1074 (fX fl i)) (gV 1074 (sX fl)):=by
           rw [HOS.out];exact ⟨gA,p1,q1,rfl,B4.out.2.2.1.below hu,by have:=B4.out.2.2.2.below hu;rw [HOS.out] at this;exact this⟩
          have:=spread14 (f:=fX fl) (g:=fX fl) (S:=sX fl) (T:=sX fl) m6 (HX.out.2.2.2.1.belows (B4.out.2.1.trans (hu.mono B4.out.2.1.size))) (fun i hi=>fX_bd PF.out.1 PF.out.2.1 i (by rw [HML.out];exact hi)) (fun i hi=>fX_bd PF.out.1 PF.out.2.1 i (by rw [HML.out];exact hi)) (sX_bd PF.out.1 PF.out.2.1 PF.out.2.2.1 _ (Nat.le_refl _)) (sX_bd PF.out.1 PF.out.2.1 PF.out.2.2.1 _ (Nat.le_refl _)) hR hR
          rw [hoV];unfold cS;rw [HML.out];exact this
         have HSH:Hid (∀ u:World,Tab u→Calls Tryz.prog 46 #[.int .i64 (m:Nat),.int .i64 less] u fun r w'=>DVal 0 w' r oD∧Below u.heap.size u w'):=fun u hu=>by
          rw [hoD];exact shares14 m less u hu (by omega) l01.1 l01.2 (by omega)
         have HR:Hid (∀ (u:World) (a b:Option Addr) (ca cb:Nat),Tab u→Nt 0 u (.slice a (ws (dX oV)).length ca) (dX oV)→Nt 0 u (.slice b (ws (dX oD)).length cb) (dX oD)→Calls Tryz.prog 37 #[.agg #[.bool (dN oV),.slice a (ws (dX oV)).length ca,.int .i64 (dE oV),.bool (dN oD),.slice b (ws (dX oD)).length cb,.int .i64 (dE oD)],.int .i64 mode] u fun r w'=>r=.returned (.tuple #[.float .f64 X,.int .i64 E])∧Below u.heap.size u w'):=fun u a b ca cb hTu n1 n2=>by
          have:=Quot14 mode FV FD n1 n2 hTu;rw [hz] at this;exact this
         have FF:=(qsd (ai FV FD));have HT:=qsd HX.out.2.2.2.1;have hdr:=(Below.refl V.heap.size V).drew;have BD:=(qsd (ai (B4.out.1.below hdr B4.out.1.lt) (B4.out.2.1.trans (hdr.mono B4.out.2.1.size))));have C1:=hid (HSP.out V.drew hdr);clear hz HZ hoV hoD FV FD hdr HML m6 l01 PF HX HSP;have kS:Aside (V.drew.cell? ⟨g7,0,none⟩=some (.slice (some ⟨gA,0,none⟩) m m)∧V.drew.cell? ⟨g7,1,none⟩=some (.bool (dN oS))∧V.drew.cell? ⟨g7,2,none⟩=some (.slice p1 (ws (dX oS)).length q1)∧V.drew.cell? ⟨g7,3,none⟩=some (.int .i64 (dE oS))):=⟨BD.out.1.cell 0 _ rfl,BD.out.1.cell 1 _ rfl,BD.out.1.cell 2 _ rfl,BD.out.1.cell 3 _ rfl⟩
         go_wp2_with fail
         clear s0 B4
         go_region_held3 (fun w'=>w'.cell? ⟨g7,0,none⟩=some (.slice (some ⟨gA,0,none⟩) m m)∧w'.cell? ⟨g7,1,none⟩=some (.bool (dN oS))∧w'.cell? ⟨g7,2,none⟩=some (.slice p1 (ws (dX oS)).length q1)∧w'.cell? ⟨g7,3,none⟩=some (.int .i64 (dE oS))) (with_reducible exact kS.out) (first
          | (go_at_call 41
             with_reducible refine C1.out.mono ?_
             rintro r u3 ⟨hd,hb⟩;obtain ⟨a3,c3,rfl,hN3⟩:=hd.shp14;have BD:=qsd (ai (BD.out.1.below hb BD.out.1.lt) (ai (BD.out.2.trans (hb.mono BD.out.2.size)) hN3));have kS:=qsd (ai (cb14 kS.out.1 hb) (ai (cb14 kS.out.2.1 hb) (ai (cb14 kS.out.2.2.1 hb) (cb14 kS.out.2.2.2 hb))));have C2:=hid (HSH.out u3 (HT.out.belows BD.out.2.1));clear hb hd hN3 C1)
          | (go_at_call 46
             with_reducible refine C2.out.mono ?_
             rintro r u4 ⟨hd,hb⟩;obtain ⟨a4,c4,rfl,hN4⟩:=hd.shp14;have BE:=qsd (ai (BD.out.2.1.trans (hb.mono BD.out.2.1.size)) (ai (BD.out.2.2.below hb) hN4));have kS:=qsd (ai (cb14 kS.out.1 hb) (ai (cb14 kS.out.2.1 hb) (ai (cb14 kS.out.2.2.1 hb) (cb14 kS.out.2.2.2 hb))));have C3:=hid (HR.out u4 a3 a4 c3 c4 (HT.out.belows BE.out.1) BE.out.2.1 BE.out.2.2);clear hb hd hN4 C2)
          | (go_at_call 37
             with_reducible refine C3.out.mono ?_
             rintro r u5 ⟨rfl,hb⟩;have BF:=qsd (BE.out.1.trans (hb.mono BE.out.1.size));have kS:=qsd (ai (cb14 kS.out.1 hb) (ai (cb14 kS.out.2.1 hb) (ai (cb14 kS.out.2.2.1 hb) (cb14 kS.out.2.2.2 hb))));clear hb C3))
         go_wp2;exact bodyPost_ret (v:=.tuple #[.float .f64 X,.int .i64 E]) (by simp [results,Tryz.results36,go_sem]) rfl ⟨rfl,BF.out⟩
theorem Var14 (xs:List Nat) (a:Option Addr) (n c:Nat) (less mode pa pb:Int) (w:World) (hn:n=xs.length) (hF:Fs w.heap.size w a xs) (hW:W64 xs) (hT:Tab w) (hl:n≤35184372088832) (z:Nat×Int) (hz:varR qR14 xs less mode pa pb=z) :
 Calls Tryz.prog 10 #[.slice a n c,.int .i64 less,.int .i64 mode,.agg #[.int .i64 pa,.int .i64 pb]] w fun r w'=>r=.returned (.tuple #[.float .f64 z.1,.int .i64 z.2])∧Below w.heap.size w w':=by
 obtain ⟨W,hWW⟩:∃ W,W=w.alloc (Obj.cells #[.int .i64 pa,.int .i64 pb] 26):=⟨_,rfl⟩
 have B0:Aside (Bl W w.heap.size 26 [.int .i64 pa,.int .i64 pb]∧Below w.heap.size w W):=by
  rw [hWW];exact ⟨Bl.new _ 26 [_,_],bel_alloc _ _⟩
 have C:=hid (varied14_q xs a n c less mode pa pb W hn ((hF.below B0.out.2).mono B0.out.2.size) hW (hT.belows B0.out.2) hl z hz);have HWW:=qsd hWW;obtain ⟨X,E⟩:=z;clear hWW hn hF hW hT hl hz;simp only at C ⊢;go_enter Tryz.func10,Tryz.ntmps10
 go_upto_region 1 with fail
 rw [←HWW.out];clear HWW;have p0:=B0.out.1.cell 0 _ rfl;have p1:=B0.out.1.cell 1 _ rfl
 go_wp2_with fail
 refine C.out.mono ?_;rintro r v ⟨rfl,hb⟩;have B1:=qsd (B0.out.2.trans (hb.mono B0.out.2.size));clear hb C p0 p1;go_wp2;exact bodyPost_ret (v:=.tuple #[.float .f64 X,.int .i64 E]) (by simp [results,Tryz.results10,go_sem]) rfl ⟨rfl,B1.out⟩
end
section
open Go Go.RowKit J
open Go.Proofs.YtflkmfdlpfimcaaGreatDoor.B (f64bits f64frombits)
attribute [local go_sem] f64bits f64frombits
theorem varied14_s (xs:List Nat) (a:Option Addr) (n c:Nat) (less mode pa pb:Int) (w:World) (hn:n=xs.length) (hF:Fs w.heap.size w a xs) (hW:W64 xs) (hT:Tab w) (hl:n≤35184372088832) (z:Nat×Int) (hz:varR sR14 xs less mode pa pb=z) :
 Calls Tryz.prog 36 #[.slice a n c,.int .i64 less,.int .i64 mode,.agg #[.int .i64 pa,.int .i64 pb],.func (.func 53) #[] #[]] w fun r w'=>r=.returned (.tuple #[.float .f64 z.1,.int .i64 z.2])∧Below w.heap.size w w':=by
 obtain ⟨X,E⟩:=z;simp only;obtain ⟨W,hWW⟩:∃ W,W=w.alloc (Obj.cells #[.int .i64 pa,.int .i64 pb] 26):=⟨_,rfl⟩
 have B0:Aside (Bl W w.heap.size 26 [.int .i64 pa,.int .i64 pb]∧Below w.heap.size w W):=by
  rw [hWW];exact ⟨Bl.new _ 26 [_,_],bel_alloc _ _⟩
 have HWW:=qsd hWW;clear hWW;unfold varR at hz
 cases hm:mdB mode with
 | false =>
   rw [hm,Bool.false_and,if_neg (by decide)] at hz
   obtain ⟨rfl,rfl⟩:=Prod.mk.inj hz;clear hz hn hF hW hT;go_enter Tryz.func36,Tryz.ntmps36
   go_upto_region 1 with fail
   rw [←HWW.out];clear HWW;have C:=hid (isMode14 mode W);rw [hm] at C
   go_wp2_with fail
   refine C.out.mono ?_;rintro r v ⟨rfl,hv⟩;rw [hv];clear hv v C;go_wp2;exact bodyPost_ret (v:=.tuple #[.float .f64 0,.int .i64 1]) (by simp [results,Tryz.results36,go_sem]) rfl ⟨rfl,B0.out.2⟩
 | true =>
 cases hs:lsB less with
 | false =>
   rw [hm,hs,Bool.true_and,if_neg (by decide)] at hz
   obtain ⟨rfl,rfl⟩:=Prod.mk.inj hz;clear hz hn hF hW hT;go_enter Tryz.func36,Tryz.ntmps36
   go_upto_region 1 with fail
   rw [←HWW.out];clear HWW;have C:=hid (isMode14 mode W);rw [hm] at C
   go_wp2_with fail
   refine C.out.mono ?_;rintro r v ⟨rfl,hv⟩;rw [hv];clear hv v C;have C:=hid (isLess14 less W);rw [hs] at C
   go_wp2_with fail
   refine C.out.mono ?_;rintro r v ⟨rfl,hv⟩;rw [hv];clear hv v C;go_wp2;exact bodyPost_ret (v:=.tuple #[.float .f64 0,.int .i64 1]) (by simp [results,Tryz.results36,go_sem]) rfl ⟨rfl,B0.out.2⟩
 | true =>
   rw [hm,hs,Bool.true_and,if_pos rfl] at hz;have HS:=hid (Sift14 xs a n c pa pb W hn hl ((hF.below B0.out.2).mono B0.out.2.size) hW);have HX:=qsd (ai hn (ai hF (ai hW (ai hT (ai (md_ok hm) (ls_ok hs))))));have HZ:=qsd hz;obtain ⟨es,hes⟩:∃ e,Ps.siftE pa pb xs=e:=⟨_,rfl⟩;rw [hes] at HS;have HES:=qsd hes;have p0:=B0.out.1.cell 0 _ rfl;have p1:=B0.out.1.cell 1 _ rfl;clear hz hn hF hW hT hl hes;go_enter Tryz.func36,Tryz.ntmps36
   go_upto_region 1 with fail
   rw [←HWW.out];clear HWW;have C:=hid (isMode14 mode W);rw [hm] at C
   go_wp2_with fail
   refine C.out.mono ?_;rintro r v ⟨rfl,hv⟩;rw [hv];clear hv v C;have C:=hid (isLess14 less W);rw [hs] at C
   go_wp2_with fail
   refine C.out.mono ?_;rintro r v ⟨rfl,hv⟩;rw [hv];clear hv v C
   go_wp2_with fail
   refine HS.out.mono ?_;rintro r v ⟨hr,hb⟩;have B1:=(qsd (ai (B0.out.1.below hb B0.out.1.lt) (B0.out.2.trans (hb.mono B0.out.2.size))));clear hb HS p0 p1 B0
   rcases hr with ⟨he,a',c',rfl⟩|⟨he,a',c',rfl,hF'⟩
   · have h1:(es==0)=false:=by simp [he]
     have hz:=HZ.out;rw [if_neg (by rw [HES.out];exact he),HES.out] at hz
     obtain ⟨rfl,rfl⟩:=Prod.mk.inj hz;have BE:Aside (Below w.heap.size w (v.alloc (Obj.cells #[.int .i64 0,.int .i64 0,.int .i64 0,.int .i64 0,.int .i64 0,.int .i64 0] 99))):=B1.out.2.trans ((bel_alloc _ _).mono B1.out.2.size);clear hz HZ HES B1 he;go_wp2;exact bodyPost_ret (v:=.tuple #[.float .f64 0,.int .i64 es]) (by simp [results,Tryz.results36,go_sem]) rfl ⟨rfl,BE.out⟩
   · subst he
     have HV:=hid (fun u:World=>Verdict14 HES.out u)
     have hz:=HZ.out;rw [if_pos HES.out] at hz;obtain ⟨s5,hs5⟩:∃ s:Int,(Ps.cn 5 xs:Nat)=s:=⟨_,rfl⟩;obtain ⟨s3,hs3⟩:∃ s:Int,(Ps.cn 3 xs:Nat)=s:=⟨_,rfl⟩;obtain ⟨s4,hs4⟩:∃ s:Int,(Ps.cn 4 xs:Nat)=s:=⟨_,rfl⟩;obtain ⟨s1,hs1⟩:∃ s:Int,(Ps.cn 1 xs:Nat)=s:=⟨_,rfl⟩;obtain ⟨s2,hs2⟩:∃ s:Int,(Ps.cn 2 xs:Nat)=s:=⟨_,rfl⟩;obtain ⟨sl,hsl⟩:∃ s:Int,(xs.length:Nat)=s:=⟨_,rfl⟩;rw [hs5,hs3,hs4,hs1,hs2,hsl] at HV ⊢;clear hs5 hs3 hs4 hs1 hs2 hsl;obtain ⟨fl,hfl⟩:∃ f,Ps.fin xs=f:=⟨_,rfl⟩;rw [hfl] at hF' hz ⊢
     have PF:Aside (W64 fl∧(∀ x ∈ fl,finW x)∧fl.length≤65536∧exE fl=0):=by
      rw [←hfl];exact ⟨fin_W14 HX.out.2.2.1,fin_all14 HX.out.2.2.1,fin_len14 HES.out,fin_ex14 HX.out.2.2.1 HES.out⟩
     obtain ⟨m,hml⟩:∃ m,fl.length=m:=⟨_,rfl⟩;obtain ⟨U,hU⟩:∃ U,U=v.alloc (Obj.cells #[.int .i64 s5,.int .i64 s3,.int .i64 s4,.int .i64 s1,.int .i64 s2,.int .i64 sl] 99):=⟨_,rfl⟩;obtain ⟨gs,hgs⟩:∃ g,g=v.heap.size:=⟨_,rfl⟩
     have B2:Aside (Bl U gs 99 [.int .i64 s5,.int .i64 s3,.int .i64 s4,.int .i64 s1,.int .i64 s2,.int .i64 sl]∧Bl U w.heap.size 26 [.int .i64 pa,.int .i64 pb]∧Below w.heap.size w U∧Fs U.heap.size U a' fl):=by
      rw [hU,hgs];exact ⟨Bl.new _ 99 [_,_,_,_,_,_],B1.out.1.alloc _,B1.out.2.trans ((bel_alloc _ _).mono B1.out.2.size),(hF'.below (bel_alloc _ _)).mono (by simp)⟩
     rw [hml] at hz ⊢;have HML:=qsd hml;have HU:=(qsd (ai hU hgs));obtain ⟨cr,hcr⟩:∃ b,crB pa pb xs=b:=⟨_,rfl⟩;rw [hcr] at HV hz;clear hU hgs hF' B1 hfl HES HZ hml hcr
     go_upto_region 6 with fail
     rw [←HU.out.1,←HU.out.2];clear HU;have q0:=B2.out.1.cell 0 _ rfl;have q1:=B2.out.1.cell 1 _ rfl;have q2:=B2.out.1.cell 2 _ rfl;have q3:=B2.out.1.cell 3 _ rfl;have q4:=B2.out.1.cell 4 _ rfl;have q5:=B2.out.1.cell 5 _ rfl;have p0:=B2.out.2.1.cell 0 _ rfl;have p1:=B2.out.2.1.cell 1 _ rfl
     go_wp2_with fail
     refine (HV.out _).mono ?_;rintro r u ⟨⟨x,rfl⟩,hb⟩;have B3:=(qsd (ai (B2.out.2.2.1.trans (hb.mono B2.out.2.2.1.size)) ((B2.out.2.2.2.below hb).mono hb.size)));clear hb HV q0 q1 q2 q3 q4 q5 p0 p1 B2
     cases cr with
     | true =>
       rw [if_pos rfl] at hz;obtain ⟨rfl,rfl⟩:=Prod.mk.inj hz;clear hz PF HML;go_wp2;exact bodyPost_ret (v:=.tuple #[.float .f64 9221120237041090560,.int .i64 0]) (by simp [results,Tryz.results36,go_sem]) rfl ⟨rfl,B3.out.1⟩
     | false =>
       rw [if_neg (by decide)] at hz
       have HZ:=qsd hz;have HE:=hid (exact14 fl a' m c' u HML.out.symm B3.out.2 PF.out.1 (HX.out.2.2.2.1.belows B3.out.1) (by have:=PF.out.2.2.1;have:=HML.out;omega))
       rw [PF.out.2.2.2] at HE;clear hz
       go_wp2_with fail
       refine HE.out.mono ?_;rintro r u2 ⟨hr,hb⟩
       rcases hr with ⟨hr,_⟩|⟨_,v2,rfl,hR⟩
       · exact absurd rfl hr
       obtain ⟨gA,p1,q1,rfl,hD,hN⟩:=hR;obtain ⟨oS,hoS⟩:∃ o,o=gV 1074 (sX fl):=⟨_,rfl⟩;rw [←hoS] at hN ⊢;obtain ⟨V,hV⟩:∃ V,V=u2.alloc (Obj.cells #[.slice (some ⟨gA,0,none⟩) m m,.bool (dN oS),.slice p1 (ws (dX oS)).length q1,.int .i64 (dE oS)] 62):=⟨_,rfl⟩;obtain ⟨g7,hg7⟩:∃ g,g=u2.heap.size:=⟨_,rfl⟩
       have B4:Aside (Bl V g7 62 [.slice (some ⟨gA,0,none⟩) m m,.bool (dN oS),.slice p1 (ws (dX oS)).length q1,.int .i64 (dE oS)]∧Below w.heap.size w V∧Dr V gA m m (fun i=>gV 1074 (fX fl i))∧Nt 0 V (.slice p1 (ws (dX oS)).length q1) (dX oS)):=by
        rw [hV,hg7];have b3:=B3.out.1.trans (hb.mono B3.out.1.size);exact ⟨Bl.new _ 62 [_,_,_,_],b3.trans ((bel_alloc _ _).mono b3.size),hD.below (bel_alloc _ _),hN.below (bel_alloc _ _)⟩
       have HV:=(qsd (ai hV hg7));have HOS:=qsd hoS;clear hV hg7 hb hD hN HE B3 hoS
       go_upto_region 10 with fail
       rw [←HV.out.1,←HV.out.2];clear HV;have s0:=B4.out.1.cell 0 _ rfl
       by_cases hle:(m:Int)≤less
       · have dle:decide ((m:Int)≤less)=true:=decide_eq_true hle
         have hz:=HZ.out;rw [if_pos hle] at hz;obtain ⟨rfl,rfl⟩:=Prod.mk.inj hz;clear hz HZ;go_wp2;exact bodyPost_ret (v:=.tuple #[.float .f64 0,.int .i64 3]) (by simp [results,Tryz.results36,go_sem]) rfl ⟨rfl,B4.out.2.1⟩
       · have dle:decide ((m:Int)≤less)=false:=decide_eq_false hle
         have hz:=HZ.out;rw [if_neg hle] at hz;have m6:m≤65536:=by have:=PF.out.2.2.1;have:=HML.out;omega
         have l01:0≤less∧less≤1:=by have:=HX.out.2.2.2.2.2;omega
         obtain ⟨oV,hoV⟩:∃ o,o=gV 2148 (cS fl fl):=⟨_,rfl⟩;obtain ⟨oD,hoD⟩:∃ o,o=gV 0 ((m:Int)*((m:Int)-less)):=⟨_,rfl⟩;rw [←hoV,←hoD] at hz;have FV:Fm oV:=by rw [hoV];exact g_fm (by decide) (by decide) (cS_bd PF.out.1 PF.out.2.1 PF.out.1 PF.out.2.1 PF.out.2.2.1 rfl)
         have FD:Fm oD:=by rw [hoD];exact g_fm (by decide) (by decide) (sh_bd (by omega) l01.1 l01.2)
         have HSP:Hid (∀ u:World,Below V.heap.size V u→Calls Tryz.prog 41 #[.agg #[.slice (some ⟨gA,0,none⟩) m m,.bool (dN oS),.slice p1 (ws (dX oS)).length q1,.int .i64 (dE oS)],.agg #[.slice (some ⟨gA,0,none⟩) m m,.bool (dN oS),.slice p1 (ws (dX oS)).length q1,.int .i64 (dE oS)]] u fun r w'=>DVal 0 w' r oV∧Below u.heap.size u w'):=fun u hu=>by
          have hR:Rr u (.agg #[.slice (some ⟨gA,0,none⟩) m m,.bool (dN oS),.slice p1 (ws (dX oS)).length q1,.int .i64 (dE oS)]) m (fun i=>gV 1074 (fX fl i)) (gV 1074 (sX fl)):=by
           rw [HOS.out];exact ⟨gA,p1,q1,rfl,B4.out.2.2.1.below hu,by have:=B4.out.2.2.2.below hu;rw [HOS.out] at this;exact this⟩
          have:=spread14 (f:=fX fl) (g:=fX fl) (S:=sX fl) (T:=sX fl) m6 (HX.out.2.2.2.1.belows (B4.out.2.1.trans (hu.mono B4.out.2.1.size))) (fun i hi=>fX_bd PF.out.1 PF.out.2.1 i (by rw [HML.out];exact hi)) (fun i hi=>fX_bd PF.out.1 PF.out.2.1 i (by rw [HML.out];exact hi)) (sX_bd PF.out.1 PF.out.2.1 PF.out.2.2.1 _ (Nat.le_refl _)) (sX_bd PF.out.1 PF.out.2.1 PF.out.2.2.1 _ (Nat.le_refl _)) hR hR
          rw [hoV];unfold cS;rw [HML.out];exact this
         have HSH:Hid (∀ u:World,Tab u→Calls Tryz.prog 46 #[.int .i64 (m:Nat),.int .i64 less] u fun r w'=>DVal 0 w' r oD∧Below u.heap.size u w'):=fun u hu=>by
          rw [hoD];exact shares14 m less u hu (by omega) l01.1 l01.2 (by omega)
         have HR:Hid (∀ (u:World) (a b:Option Addr) (ca cb:Nat),Tab u→Nt 0 u (.slice a (ws (dX oV)).length ca) (dX oV)→Nt 0 u (.slice b (ws (dX oD)).length cb) (dX oD)→Calls Tryz.prog 53 #[.agg #[.bool (dN oV),.slice a (ws (dX oV)).length ca,.int .i64 (dE oV),.bool (dN oD),.slice b (ws (dX oD)).length cb,.int .i64 (dE oD)],.int .i64 mode] u fun r w'=>r=.returned (.tuple #[.float .f64 X,.int .i64 E])∧Below u.heap.size u w'):=fun u a b ca cb hTu n1 n2=>by
          have:=Root14 mode FV FD n1 n2 hTu;rw [hz] at this;exact this
         have FF:=(qsd (ai FV FD));have HT:=qsd HX.out.2.2.2.1;have hdr:=(Below.refl V.heap.size V).drew;have BD:=(qsd (ai (B4.out.1.below hdr B4.out.1.lt) (B4.out.2.1.trans (hdr.mono B4.out.2.1.size))));have C1:=hid (HSP.out V.drew hdr);clear hz HZ hoV hoD FV FD hdr HML m6 l01 PF HX HSP;have kS:Aside (V.drew.cell? ⟨g7,0,none⟩=some (.slice (some ⟨gA,0,none⟩) m m)∧V.drew.cell? ⟨g7,1,none⟩=some (.bool (dN oS))∧V.drew.cell? ⟨g7,2,none⟩=some (.slice p1 (ws (dX oS)).length q1)∧V.drew.cell? ⟨g7,3,none⟩=some (.int .i64 (dE oS))):=⟨BD.out.1.cell 0 _ rfl,BD.out.1.cell 1 _ rfl,BD.out.1.cell 2 _ rfl,BD.out.1.cell 3 _ rfl⟩
         go_wp2_with fail
         clear s0 B4
         go_region_held3 (fun w'=>w'.cell? ⟨g7,0,none⟩=some (.slice (some ⟨gA,0,none⟩) m m)∧w'.cell? ⟨g7,1,none⟩=some (.bool (dN oS))∧w'.cell? ⟨g7,2,none⟩=some (.slice p1 (ws (dX oS)).length q1)∧w'.cell? ⟨g7,3,none⟩=some (.int .i64 (dE oS))) (with_reducible exact kS.out) (first
          | (go_at_call 41
             with_reducible refine C1.out.mono ?_
             rintro r u3 ⟨hd,hb⟩;obtain ⟨a3,c3,rfl,hN3⟩:=hd.shp14;have BD:=qsd (ai (BD.out.1.below hb BD.out.1.lt) (ai (BD.out.2.trans (hb.mono BD.out.2.size)) hN3));have kS:=qsd (ai (cb14 kS.out.1 hb) (ai (cb14 kS.out.2.1 hb) (ai (cb14 kS.out.2.2.1 hb) (cb14 kS.out.2.2.2 hb))));have C2:=hid (HSH.out u3 (HT.out.belows BD.out.2.1));clear hb hd hN3 C1)
          | (go_at_call 46
             with_reducible refine C2.out.mono ?_
             rintro r u4 ⟨hd,hb⟩;obtain ⟨a4,c4,rfl,hN4⟩:=hd.shp14;have BE:=qsd (ai (BD.out.2.1.trans (hb.mono BD.out.2.1.size)) (ai (BD.out.2.2.below hb) hN4));have kS:=qsd (ai (cb14 kS.out.1 hb) (ai (cb14 kS.out.2.1 hb) (ai (cb14 kS.out.2.2.1 hb) (cb14 kS.out.2.2.2 hb))));have C3:=hid (HR.out u4 a3 a4 c3 c4 (HT.out.belows BE.out.1) BE.out.2.1 BE.out.2.2);clear hb hd hN4 C2)
          | (go_at_call 53
             with_reducible refine C3.out.mono ?_
             rintro r u5 ⟨rfl,hb⟩;have BF:=qsd (BE.out.1.trans (hb.mono BE.out.1.size));have kS:=qsd (ai (cb14 kS.out.1 hb) (ai (cb14 kS.out.2.1 hb) (ai (cb14 kS.out.2.2.1 hb) (cb14 kS.out.2.2.2 hb))));clear hb C3))
         go_wp2;exact bodyPost_ret (v:=.tuple #[.float .f64 X,.int .i64 E]) (by simp [results,Tryz.results36,go_sem]) rfl ⟨rfl,BF.out⟩
theorem Std14 (xs:List Nat) (a:Option Addr) (n c:Nat) (less mode pa pb:Int) (w:World) (hn:n=xs.length) (hF:Fs w.heap.size w a xs) (hW:W64 xs) (hT:Tab w) (hl:n≤35184372088832) (z:Nat×Int) (hz:varR sR14 xs less mode pa pb=z) :
 Calls Tryz.prog 19 #[.slice a n c,.int .i64 less,.int .i64 mode,.agg #[.int .i64 pa,.int .i64 pb]] w fun r w'=>r=.returned (.tuple #[.float .f64 z.1,.int .i64 z.2])∧Below w.heap.size w w':=by
 obtain ⟨W,hWW⟩:∃ W,W=w.alloc (Obj.cells #[.int .i64 pa,.int .i64 pb] 26):=⟨_,rfl⟩
 have B0:Aside (Bl W w.heap.size 26 [.int .i64 pa,.int .i64 pb]∧Below w.heap.size w W):=by
  rw [hWW];exact ⟨Bl.new _ 26 [_,_],bel_alloc _ _⟩
 have C:=hid (varied14_s xs a n c less mode pa pb W hn ((hF.below B0.out.2).mono B0.out.2.size) hW (hT.belows B0.out.2) hl z hz);have HWW:=qsd hWW;obtain ⟨X,E⟩:=z;clear hWW hn hF hW hT hl hz;simp only at C ⊢;go_enter Tryz.func19,Tryz.ntmps19
 go_upto_region 1 with fail
 rw [←HWW.out];clear HWW;have p0:=B0.out.1.cell 0 _ rfl;have p1:=B0.out.1.cell 1 _ rfl
 go_wp2_with fail
 refine C.out.mono ?_;rintro r v ⟨rfl,hb⟩;have B1:=qsd (B0.out.2.trans (hb.mono B0.out.2.size));clear hb C p0 p1;go_wp2;exact bodyPost_ret (v:=.tuple #[.float .f64 X,.int .i64 E]) (by simp [results,Tryz.results19,go_sem]) rfl ⟨rfl,B1.out⟩
end
section
open Go Go.RowKit J
theorem until_two14 {P:Program}{ops:Array Oper}{Q:Exit→Act→World→Prop}{md:Region.Mode}{S:World→Prop}{stop i j:Nat}{oi oj:Oper}{fuel:Nat}{listed:Array Bool}{a:Act}{w:World}(hr:Region.ready md ops listed=[i,j]) (ei:ops[i]?=some oi) (ej:ops[j]?=some oj)
 (hi:∀ K':Act→World→Prop,Shut (∀ b u,(i<stop→S u)→wpUntil P md ops Q S stop fuel (listed.setIfInBounds i true) b u→K' b u)→if Region.wanted oi (yielded ops a.tmps)=true then Oper.wp P oi a w K' Q else K' (a.put oi.dst undef) w)
 (hj:∀ K':Act→World→Prop,Shut (∀ b u,(j<stop→S u)→wpUntil P md ops Q S stop fuel (listed.setIfInBounds j true) b u→K' b u)→if Region.wanted oj (yielded ops a.tmps)=true then Oper.wp P oj a w K' Q else K' (a.put oj.dst undef) w) :
 wpUntil P md ops Q S stop (fuel+1) listed a w :=
 ⟨fun h0=>(by rw [hr] at h0;cases h0),fun q hq=>by
  rw [hr] at hq;simp only [List.mem_cons,List.not_mem_nil,or_false] at hq
  rcases hq with rfl|rfl
  · exact wpOp_step ei (fun K' hK=>hi K' (fun b u h1 h2=>hK b u ⟨h1,h2⟩))
  · exact wpOp_step ej (fun K' hK=>hj K' (fun b u h1 h2=>hK b u ⟨h1,h2⟩))⟩
theorem until_three14 {P:Program}{ops:Array Oper}{Q:Exit→Act→World→Prop}{md:Region.Mode}{S:World→Prop}{stop i j k:Nat}{oi oj ok:Oper}{fuel:Nat}{listed:Array Bool}{a:Act}{w:World}(hr:Region.ready md ops listed=[i,j,k]) (ei:ops[i]?=some oi) (ej:ops[j]?=some oj) (ek:ops[k]?=some ok)
 (hi:∀ K':Act→World→Prop,Shut (∀ b u,(i<stop→S u)→wpUntil P md ops Q S stop fuel (listed.setIfInBounds i true) b u→K' b u)→if Region.wanted oi (yielded ops a.tmps)=true then Oper.wp P oi a w K' Q else K' (a.put oi.dst undef) w)
 (hj:∀ K':Act→World→Prop,Shut (∀ b u,(j<stop→S u)→wpUntil P md ops Q S stop fuel (listed.setIfInBounds j true) b u→K' b u)→if Region.wanted oj (yielded ops a.tmps)=true then Oper.wp P oj a w K' Q else K' (a.put oj.dst undef) w)
 (hk:∀ K':Act→World→Prop,Shut (∀ b u,(k<stop→S u)→wpUntil P md ops Q S stop fuel (listed.setIfInBounds k true) b u→K' b u)→if Region.wanted ok (yielded ops a.tmps)=true then Oper.wp P ok a w K' Q else K' (a.put ok.dst undef) w) :
 wpUntil P md ops Q S stop (fuel+1) listed a w :=
 ⟨fun h0=>(by rw [hr] at h0;cases h0),fun q hq=>by
  rw [hr] at hq;simp only [List.mem_cons,List.not_mem_nil,or_false] at hq
  rcases hq with rfl|rfl|rfl
  · exact wpOp_step ei (fun K' hK=>hi K' (fun b u h1 h2=>hK b u ⟨h1,h2⟩))
  · exact wpOp_step ej (fun K' hK=>hj K' (fun b u h1 h2=>hK b u ⟨h1,h2⟩))
  · exact wpOp_step ek (fun K' hK=>hk K' (fun b u h1 h2=>hK b u ⟨h1,h2⟩))⟩
end
section
open Go Go.RowKit J
theorem total14_p (w:World) (n h0 h1:Nat) (A T:Nat→Option (Bool×Nat×Int)) (hn:n≤65536) (hT:Tab w) (FA:∀ i,i<n→Fm (A i)) (FT:∀ i,i≤n→Fm (T i)) (ET:∀ i,i<n→addD (T i) (A i)=T (i+1)) (E0:o00=T 0)
 (HC:Hid (∀ (i:Nat) (u:World),i<n→Below w.heap.size w u→Calls Tryz.prog 142 #[.int .i64 (i:Nat),.pointer (some ⟨h0,0,none⟩),.pointer (some ⟨h1,0,none⟩)] u fun r w'=>DVal 0 w' r (A i)∧Below u.heap.size u w')) :
 Calls Tryz.prog 84 #[.int .i64 (n:Nat),.func (.func 142) #[] #[.pointer (some ⟨h0,0,none⟩),.pointer (some ⟨h1,0,none⟩)]] w fun r w'=>DVal 0 w' r (T n)∧Below w.heap.size w w':=by
 obtain ⟨W,hW⟩:∃ W,W=(w.alloc (Obj.cells #[.bool false,.slice none 0 0,.int .i64 0] 37)).alloc (Obj.cells #[.bool false,.slice none 0 0,.int .i64 0] 37):=⟨_,rfl⟩
 have H0:Aside (Lo W (w.heap.size+1) (T 0)∧Lo W w.heap.size o00∧Below w.heap.size w W):=by
  subst hW;rw [←E0];have z2:=Lo.zero (w.alloc (Obj.cells #[.bool false,.slice none 0 0,.int .i64 0] 37));rw [World.size_alloc] at z2;exact ⟨z2,(Lo.zero w).below (below_alloc _ _),(below_alloc _ _).trans ((below_alloc _ _).mono (by simp))⟩
 have HP:Hid (∀ (i:Nat) (u:World) (p q:Option Addr) (cp cq:Nat),i<n→Tab u→Nt 0 u (.slice p (ws (dX (T i))).length cp) (dX (T i))→Nt 0 u (.slice q (ws (dX (A i))).length cq) (dX (A i))→Calls Tryz.prog 131 #[.agg #[.bool (dN (T i)),.slice p (ws (dX (T i))).length cp,.int .i64 (dE (T i))],.agg #[.bool (dN (A i)),.slice q (ws (dX (A i))).length cq,.int .i64 (dE (A i))]] u fun r w'=>DVal 0 w' r (T (i+1))∧Below u.heap.size u w') :=
  fun i u p q cp cq hi hT n1 n2=>plus14 (FT i (by omega)) (FA i hi) (FT (i+1) (by omega)) n1 n2 hT (ET i hi)
 have HW:=qsd hW;have PF:=qsd (ai FT FA);have HT:=qsd hT;clear hW FT FA ET E0 hT;go_enter Tryz.func84,Tryz.ntmps84
 go_upto_region 2 with fail
 rw [←HW.out];clear HW;go_wp2
 go_loopg [8] n (fun gk i wr=>∃ j:Nat,gk+j=n∧i=.int .i64 (j:Nat)∧Aside (Lo wr (w.heap.size+1) (T j)∧Lo wr w.heap.size o00∧Below w.heap.size w wr))
 case atStart=>exact ⟨0,by omega,by simp,H0.out⟩
 case round =>
  obtain ⟨j,hgj,rfl,HA⟩:=hrel
  by_cases hj:j<n
  · obtain ⟨p1,q1,D1,M1⟩:=HA.out.1
    have hdr:=(Below.refl wr.heap.size wr).drew;have kS:=qsd (ai (D1.below hdr).facts.1 (ai (D1.below hdr).facts.2.1 (D1.below hdr).facts.2.2.1));have B1:=qsd (ai (D1.below hdr) (ai (M1.below hdr) (ai (HA.out.2.1.below hdr) (HA.out.2.2.trans (hdr.mono HA.out.2.2.size)))));have C:=hid (HC.out j wr.drew hj B1.out.2.2.2);clear D1 M1 hdr
    go_upto_region 5 with fail
    refine until_region (fun u=>u.cell? ⟨w.heap.size+1,0,none⟩=some (.bool (dN (T j)))∧u.cell? ⟨w.heap.size+1,1,none⟩=some (.slice p1 (ws (dX (T j))).length q1)∧u.cell? ⟨w.heap.size+1,2,none⟩=some (.int .i64 (dE (T j)))) 5 (by kernel_rfl) ?_
    refine until_take (i:=0) [4] (v:=?_) rfl (by kernel_rfl) (by kernel_rfl) (by kernel_rfl) (by kernel_rfl) (by kernel_rfl) (fun _ _ _ h=>h) (Or.inl ⟨by rfl,?_⟩) kS.out ?_
    rotate_left
    · intro u hSu
      try dsimp only at hSu
      first | (go_simp;done) | (go_simp;with_reducible rfl)
    try simp only [Act.put,List.setIfInBounds_toArray,List.set_cons_zero,List.set_cons_succ]
    refine until_take (i:=1) [3,4] (v:=?_) rfl (by kernel_rfl) (by kernel_rfl) (by kernel_rfl) (by kernel_rfl) (by kernel_rfl) (fun _ _ _ h=>h) (Or.inl ⟨by rfl,?_⟩) kS.out ?_
    rotate_left
    · intro u hSu
      try dsimp only at hSu
      first | (go_simp;done) | (go_simp;with_reducible rfl)
    try simp only [Act.put,List.setIfInBounds_toArray,List.set_cons_zero,List.set_cons_succ]
    refine until_take (i:=2) [3,4] (v:=?_) rfl (by kernel_rfl) (by kernel_rfl) (by kernel_rfl) (by kernel_rfl) (by kernel_rfl) (fun _ _ _ h=>h) (Or.inl ⟨by rfl,?_⟩) kS.out ?_
    rotate_left
    · intro u hSu
      try dsimp only at hSu
      first | (go_simp;done) | (go_simp;with_reducible rfl)
    try simp only [Act.put,List.setIfInBounds_toArray,List.set_cons_zero,List.set_cons_succ]
    refine until_one (i:=3) (by kernel_rfl) rfl (fun K' hK=>?_)
    go_simp
    refine C.out.mono ?_;rintro r u3 ⟨hd,hb⟩;obtain ⟨a3,c3,rfl,hN3⟩:=hd.shape14 (PF.out.2 j hj);have B2:=qsd (ai (B1.out.1.below hb) (ai (B1.out.2.1.below hb) (ai (B1.out.2.2.1.below hb) (ai (B1.out.2.2.2.trans (hb.mono B1.out.2.2.2.size)) hN3))));have kS:=qsd (ai B2.out.1.facts.1 (ai B2.out.1.facts.2.1 B2.out.1.facts.2.2.1));clear hb hd C B1 hN3
    dsimp only
    refine hK.out _ _ (fun _=>kS.out) ?_
    clear hK K'
    try simp only [Act.put,List.setIfInBounds_toArray,List.set_cons_zero,List.set_cons_succ]
    have C:=hid (HP.out j u3 p1 a3 q1 c3 hj (HT.out.belows B2.out.2.2.2.1) B2.out.2.1 B2.out.2.2.2.2);refine until_one (i:=4) (by kernel_rfl) rfl (fun K' hK=>?_)
    go_simp
    refine C.out.mono ?_;rintro r u4 ⟨hd,hb⟩;obtain ⟨a4,c4,rfl,hN4⟩:=hd.shape14 (PF.out.1 (j+1) (by omega))
    have B3:=qsd (ai (B2.out.1.below hb) (ai (B2.out.2.1.below hb) (ai (B2.out.2.2.1.below hb) (ai (B2.out.2.2.2.1.trans (hb.mono B2.out.2.2.2.1.size)) hN4))));have kS:=qsd (ai B3.out.1.facts.1 (ai B3.out.1.facts.2.1 B3.out.1.facts.2.2.1));clear hb hd C B2 hN4
    dsimp only
    refine hK.out _ _ (fun _=>kS.out) ?_
    clear hK K'
    try simp only [Act.put,List.setIfInBounds_toArray,List.set_cons_zero,List.set_cons_succ]
    obtain ⟨z0,z1,z2,zf0,zf1,zf2⟩:=B3.out.1.facts;refine until_one (i:=5) (by kernel_rfl) rfl (fun K' hK=>?_)
    go_simp
    refine hK.out _ _ (fun h=>absurd h (by decide)) ?_
    clear hK K' kS z0 z1 z2 zf0 zf1 zf2;refine until_done (by kernel_rfl) ?_ _
    have LB:Lo u4 (w.heap.size+1) (T j):=⟨_,_,B3.out.1,B3.out.2.1⟩;have b3:=B3.out.2.2.2.1;have H3:=qsd (ai (LB.set B3.out.2.2.2.2) (ai (B3.out.2.2.1.other LB (by omega) (.bool (dN (T (j+1)))) (.slice a4 (ws (dX (T (j+1)))).length c4) (.int .i64 (dE (T (j+1))))) (st3_bel12 b3 b3.size (show w.heap.size≤w.heap.size+1 by omega) (.bool (dN (T (j+1)))) (.slice a4 (ws (dX (T (j+1)))).length c4) (.int .i64 (dE (T (j+1)))))))
    clear LB b3;go_wp2
    go_roundg (gk-1)
    case measure=>omega
    case rel=>exact ⟨j+1,by omega,by first | rfl | simp,H3.out⟩
  · obtain rfl:n=j:=by omega
    have hd:decide ((n:Int)<n)=false:=by simp
    obtain ⟨p1,q1,D1,M1⟩:=HA.out.1;obtain ⟨p2,q2,D2,M2⟩:=HA.out.2.1;obtain ⟨x0,x1,x2,xf0,xf1,xf2⟩:=D1.facts;obtain ⟨y0,y1,y2,yf0,yf1,yf2⟩:=D2.facts;have MM1:=qsd M1;clear D1 D2 M1 M2;go_wp2;exact end14 Tryz.results84 rfl HA.out.2.1 HA.out.2.2 (by omega) MM1.out
end
section
open Go Go.RowKit J
theorem total14_a (w:World) (n h0 h1 h2 h3:Nat) (A T:Nat→Option (Bool×Nat×Int)) (hn:n≤65536) (hT:Tab w) (FA:∀ i,i<n→Fm (A i)) (FT:∀ i,i≤n→Fm (T i)) (ET:∀ i,i<n→addD (T i) (A i)=T (i+1)) (E0:o00=T 0)
 (HC:Hid (∀ (i:Nat) (u:World),i<n→Below w.heap.size w u→Calls Tryz.prog 95 #[.int .i64 (i:Nat),.pointer (some ⟨h0,0,none⟩),.pointer (some ⟨h1,0,none⟩),.pointer (some ⟨h2,0,none⟩),.pointer (some ⟨h3,0,none⟩)] u fun r w'=>DVal 0 w' r (A i)∧Below u.heap.size u w')) :
 Calls Tryz.prog 84 #[.int .i64 (n:Nat),.func (.func 95) #[] #[.pointer (some ⟨h0,0,none⟩),.pointer (some ⟨h1,0,none⟩),.pointer (some ⟨h2,0,none⟩),.pointer (some ⟨h3,0,none⟩)]] w fun r w'=>DVal 0 w' r (T n)∧Below w.heap.size w w':=by
 obtain ⟨W,hW⟩:∃ W,W=(w.alloc (Obj.cells #[.bool false,.slice none 0 0,.int .i64 0] 37)).alloc (Obj.cells #[.bool false,.slice none 0 0,.int .i64 0] 37):=⟨_,rfl⟩
 have H0:Aside (Lo W (w.heap.size+1) (T 0)∧Lo W w.heap.size o00∧Below w.heap.size w W):=by
  subst hW;rw [←E0];have z2:=Lo.zero (w.alloc (Obj.cells #[.bool false,.slice none 0 0,.int .i64 0] 37));rw [World.size_alloc] at z2;exact ⟨z2,(Lo.zero w).below (below_alloc _ _),(below_alloc _ _).trans ((below_alloc _ _).mono (by simp))⟩
 have HP:Hid (∀ (i:Nat) (u:World) (p q:Option Addr) (cp cq:Nat),i<n→Tab u→Nt 0 u (.slice p (ws (dX (T i))).length cp) (dX (T i))→Nt 0 u (.slice q (ws (dX (A i))).length cq) (dX (A i))→Calls Tryz.prog 131 #[.agg #[.bool (dN (T i)),.slice p (ws (dX (T i))).length cp,.int .i64 (dE (T i))],.agg #[.bool (dN (A i)),.slice q (ws (dX (A i))).length cq,.int .i64 (dE (A i))]] u fun r w'=>DVal 0 w' r (T (i+1))∧Below u.heap.size u w') :=
  fun i u p q cp cq hi hT n1 n2=>plus14 (FT i (by omega)) (FA i hi) (FT (i+1) (by omega)) n1 n2 hT (ET i hi)
 have HW:=qsd hW;have PF:=qsd (ai FT FA);have HT:=qsd hT;clear hW FT FA ET E0 hT;go_enter Tryz.func84,Tryz.ntmps84
 go_upto_region 2 with fail
 rw [←HW.out];clear HW;go_wp2
 go_loopg [8] n (fun gk i wr=>∃ j:Nat,gk+j=n∧i=.int .i64 (j:Nat)∧Aside (Lo wr (w.heap.size+1) (T j)∧Lo wr w.heap.size o00∧Below w.heap.size w wr))
 case atStart=>exact ⟨0,by omega,by simp,H0.out⟩
 case round =>
  obtain ⟨j,hgj,rfl,HA⟩:=hrel
  by_cases hj:j<n
  · obtain ⟨p1,q1,D1,M1⟩:=HA.out.1
    have hdr:=(Below.refl wr.heap.size wr).drew;have kS:=qsd (ai (D1.below hdr).facts.1 (ai (D1.below hdr).facts.2.1 (D1.below hdr).facts.2.2.1));have B1:=qsd (ai (D1.below hdr) (ai (M1.below hdr) (ai (HA.out.2.1.below hdr) (HA.out.2.2.trans (hdr.mono HA.out.2.2.size)))));have C:=hid (HC.out j wr.drew hj B1.out.2.2.2);clear D1 M1 hdr
    go_upto_region 5 with fail
    refine until_region (fun u=>u.cell? ⟨w.heap.size+1,0,none⟩=some (.bool (dN (T j)))∧u.cell? ⟨w.heap.size+1,1,none⟩=some (.slice p1 (ws (dX (T j))).length q1)∧u.cell? ⟨w.heap.size+1,2,none⟩=some (.int .i64 (dE (T j)))) 5 (by kernel_rfl) ?_
    refine until_take (i:=0) [4] (v:=?_) rfl (by kernel_rfl) (by kernel_rfl) (by kernel_rfl) (by kernel_rfl) (by kernel_rfl) (fun _ _ _ h=>h) (Or.inl ⟨by rfl,?_⟩) kS.out ?_
    rotate_left
    · intro u hSu
      try dsimp only at hSu
      first | (go_simp;done) | (go_simp;with_reducible rfl)
    try simp only [Act.put,List.setIfInBounds_toArray,List.set_cons_zero,List.set_cons_succ]
    refine until_take (i:=1) [3,4] (v:=?_) rfl (by kernel_rfl) (by kernel_rfl) (by kernel_rfl) (by kernel_rfl) (by kernel_rfl) (fun _ _ _ h=>h) (Or.inl ⟨by rfl,?_⟩) kS.out ?_
    rotate_left
    · intro u hSu
      try dsimp only at hSu
      first | (go_simp;done) | (go_simp;with_reducible rfl)
    try simp only [Act.put,List.setIfInBounds_toArray,List.set_cons_zero,List.set_cons_succ]
    refine until_take (i:=2) [3,4] (v:=?_) rfl (by kernel_rfl) (by kernel_rfl) (by kernel_rfl) (by kernel_rfl) (by kernel_rfl) (fun _ _ _ h=>h) (Or.inl ⟨by rfl,?_⟩) kS.out ?_
    rotate_left
    · intro u hSu
      try dsimp only at hSu
      first | (go_simp;done) | (go_simp;with_reducible rfl)
    try simp only [Act.put,List.setIfInBounds_toArray,List.set_cons_zero,List.set_cons_succ]
    refine until_one (i:=3) (by kernel_rfl) rfl (fun K' hK=>?_)
    go_simp
    refine C.out.mono ?_;rintro r u3 ⟨hd,hb⟩;obtain ⟨a3,c3,rfl,hN3⟩:=hd.shape14 (PF.out.2 j hj);have B2:=qsd (ai (B1.out.1.below hb) (ai (B1.out.2.1.below hb) (ai (B1.out.2.2.1.below hb) (ai (B1.out.2.2.2.trans (hb.mono B1.out.2.2.2.size)) hN3))));have kS:=qsd (ai B2.out.1.facts.1 (ai B2.out.1.facts.2.1 B2.out.1.facts.2.2.1));clear hb hd C B1 hN3
    dsimp only
    refine hK.out _ _ (fun _=>kS.out) ?_
    clear hK K'
    try simp only [Act.put,List.setIfInBounds_toArray,List.set_cons_zero,List.set_cons_succ]
    have C:=hid (HP.out j u3 p1 a3 q1 c3 hj (HT.out.belows B2.out.2.2.2.1) B2.out.2.1 B2.out.2.2.2.2);refine until_one (i:=4) (by kernel_rfl) rfl (fun K' hK=>?_)
    go_simp
    refine C.out.mono ?_;rintro r u4 ⟨hd,hb⟩;obtain ⟨a4,c4,rfl,hN4⟩:=hd.shape14 (PF.out.1 (j+1) (by omega))
    have B3:=qsd (ai (B2.out.1.below hb) (ai (B2.out.2.1.below hb) (ai (B2.out.2.2.1.below hb) (ai (B2.out.2.2.2.1.trans (hb.mono B2.out.2.2.2.1.size)) hN4))));have kS:=qsd (ai B3.out.1.facts.1 (ai B3.out.1.facts.2.1 B3.out.1.facts.2.2.1));clear hb hd C B2 hN4
    dsimp only
    refine hK.out _ _ (fun _=>kS.out) ?_
    clear hK K'
    try simp only [Act.put,List.setIfInBounds_toArray,List.set_cons_zero,List.set_cons_succ]
    obtain ⟨z0,z1,z2,zf0,zf1,zf2⟩:=B3.out.1.facts;refine until_one (i:=5) (by kernel_rfl) rfl (fun K' hK=>?_)
    go_simp
    refine hK.out _ _ (fun h=>absurd h (by decide)) ?_
    clear hK K' kS z0 z1 z2 zf0 zf1 zf2;refine until_done (by kernel_rfl) ?_ _
    have LB:Lo u4 (w.heap.size+1) (T j):=⟨_,_,B3.out.1,B3.out.2.1⟩;have b3:=B3.out.2.2.2.1;have H3:=qsd (ai (LB.set B3.out.2.2.2.2) (ai (B3.out.2.2.1.other LB (by omega) (.bool (dN (T (j+1)))) (.slice a4 (ws (dX (T (j+1)))).length c4) (.int .i64 (dE (T (j+1))))) (st3_bel12 b3 b3.size (show w.heap.size≤w.heap.size+1 by omega) (.bool (dN (T (j+1)))) (.slice a4 (ws (dX (T (j+1)))).length c4) (.int .i64 (dE (T (j+1)))))))
    clear LB b3;go_wp2
    go_roundg (gk-1)
    case measure=>omega
    case rel=>exact ⟨j+1,by omega,by first | rfl | simp,H3.out⟩
  · obtain rfl:n=j:=by omega
    have hd:decide ((n:Int)<n)=false:=by simp
    obtain ⟨p1,q1,D1,M1⟩:=HA.out.1;obtain ⟨p2,q2,D2,M2⟩:=HA.out.2.1;obtain ⟨x0,x1,x2,xf0,xf1,xf2⟩:=D1.facts;obtain ⟨y0,y1,y2,yf0,yf1,yf2⟩:=D2.facts;have MM1:=qsd M1;clear D1 D2 M1 M2;go_wp2;exact end14 Tryz.results84 rfl HA.out.2.1 HA.out.2.2 (by omega) MM1.out
end
section
open Go Go.RowKit J
def cbN:Nat→Nat→Int
 | _,0=>1
 | 1,1=>1
 | 2,1=>2
 | 2,2=>1
 | 3,1=>3
 | 3,2=>3
 | 3,3=>1
 | 4,1=>4
 | 4,2=>6
 | 4,3=>4
 | 4,4=>1
 | _,_=>0
theorem over_1_0 (w:World):Calls Tryz.prog 97 #[.int .i64 1,.int .i64 0] w fun r w'=>r=.returned (.int .i64 1)∧w'=w:=by
 go_enter Tryz.func97,Tryz.ntmps97;go_wp2
 go_loopg [5,8] 0 (fun gk v i wr=>wr=w∧((gk=0∧i=.int .i64 0∧v=.int .i64 1)))
 case atStart=>exact ⟨rfl,by simp⟩
 case round =>
  obtain ⟨rfl,hrel⟩:=hrel
  rcases hrel with ⟨rfl,rfl,rfl⟩
  · go_wp2
    go_ret;exact ⟨rfl,rfl⟩
theorem over_1_1 (w:World):Calls Tryz.prog 97 #[.int .i64 1,.int .i64 1] w fun r w'=>r=.returned (.int .i64 1)∧w'=w:=by
 go_enter Tryz.func97,Tryz.ntmps97;go_wp2
 go_loopg [5,8] 1 (fun gk v i wr=>wr=w∧((gk=1∧i=.int .i64 0∧v=.int .i64 1)∨(gk=0∧i=.int .i64 1∧v=.int .i64 1)))
 case atStart=>exact ⟨rfl,by simp⟩
 case round =>
  obtain ⟨rfl,hrel⟩:=hrel
  rcases hrel with ⟨rfl,rfl,rfl⟩|⟨rfl,rfl,rfl⟩
  · go_wp2
    go_roundg 0
    case measure=>omega
    case rel=>exact ⟨rfl,by simp⟩
  · go_wp2
    go_ret;exact ⟨rfl,rfl⟩
theorem over_2_0 (w:World):Calls Tryz.prog 97 #[.int .i64 2,.int .i64 0] w fun r w'=>r=.returned (.int .i64 1)∧w'=w:=by
 go_enter Tryz.func97,Tryz.ntmps97;go_wp2
 go_loopg [5,8] 0 (fun gk v i wr=>wr=w∧((gk=0∧i=.int .i64 0∧v=.int .i64 1)))
 case atStart=>exact ⟨rfl,by simp⟩
 case round =>
  obtain ⟨rfl,hrel⟩:=hrel
  rcases hrel with ⟨rfl,rfl,rfl⟩
  · go_wp2
    go_ret;exact ⟨rfl,rfl⟩
theorem over_2_1 (w:World):Calls Tryz.prog 97 #[.int .i64 2,.int .i64 1] w fun r w'=>r=.returned (.int .i64 2)∧w'=w:=by
 go_enter Tryz.func97,Tryz.ntmps97;go_wp2
 go_loopg [5,8] 1 (fun gk v i wr=>wr=w∧((gk=1∧i=.int .i64 0∧v=.int .i64 1)∨(gk=0∧i=.int .i64 1∧v=.int .i64 2)))
 case atStart=>exact ⟨rfl,by simp⟩
 case round =>
  obtain ⟨rfl,hrel⟩:=hrel
  rcases hrel with ⟨rfl,rfl,rfl⟩|⟨rfl,rfl,rfl⟩
  · go_wp2
    go_roundg 0
    case measure=>omega
    case rel=>exact ⟨rfl,by simp⟩
  · go_wp2
    go_ret;exact ⟨rfl,rfl⟩
theorem over_2_2 (w:World):Calls Tryz.prog 97 #[.int .i64 2,.int .i64 2] w fun r w'=>r=.returned (.int .i64 1)∧w'=w:=by
 go_enter Tryz.func97,Tryz.ntmps97;go_wp2
 go_loopg [5,8] 2 (fun gk v i wr=>wr=w∧((gk=2∧i=.int .i64 0∧v=.int .i64 1)∨(gk=1∧i=.int .i64 1∧v=.int .i64 2)∨(gk=0∧i=.int .i64 2∧v=.int .i64 1)))
 case atStart=>exact ⟨rfl,by simp⟩
 case round =>
  obtain ⟨rfl,hrel⟩:=hrel
  rcases hrel with ⟨rfl,rfl,rfl⟩|⟨rfl,rfl,rfl⟩|⟨rfl,rfl,rfl⟩
  · go_wp2
    go_roundg 1
    case measure=>omega
    case rel=>exact ⟨rfl,by simp⟩
  · go_wp2
    go_roundg 0
    case measure=>omega
    case rel=>exact ⟨rfl,by simp⟩
  · go_wp2
    go_ret;exact ⟨rfl,rfl⟩
theorem over_3_0 (w:World):Calls Tryz.prog 97 #[.int .i64 3,.int .i64 0] w fun r w'=>r=.returned (.int .i64 1)∧w'=w:=by
 go_enter Tryz.func97,Tryz.ntmps97;go_wp2
 go_loopg [5,8] 0 (fun gk v i wr=>wr=w∧((gk=0∧i=.int .i64 0∧v=.int .i64 1)))
 case atStart=>exact ⟨rfl,by simp⟩
 case round =>
  obtain ⟨rfl,hrel⟩:=hrel
  rcases hrel with ⟨rfl,rfl,rfl⟩
  · go_wp2
    go_ret;exact ⟨rfl,rfl⟩
theorem over_3_1 (w:World):Calls Tryz.prog 97 #[.int .i64 3,.int .i64 1] w fun r w'=>r=.returned (.int .i64 3)∧w'=w:=by
 go_enter Tryz.func97,Tryz.ntmps97;go_wp2
 go_loopg [5,8] 1 (fun gk v i wr=>wr=w∧((gk=1∧i=.int .i64 0∧v=.int .i64 1)∨(gk=0∧i=.int .i64 1∧v=.int .i64 3)))
 case atStart=>exact ⟨rfl,by simp⟩
 case round =>
  obtain ⟨rfl,hrel⟩:=hrel
  rcases hrel with ⟨rfl,rfl,rfl⟩|⟨rfl,rfl,rfl⟩
  · go_wp2
    go_roundg 0
    case measure=>omega
    case rel=>exact ⟨rfl,by simp⟩
  · go_wp2
    go_ret;exact ⟨rfl,rfl⟩
theorem over_3_2 (w:World):Calls Tryz.prog 97 #[.int .i64 3,.int .i64 2] w fun r w'=>r=.returned (.int .i64 3)∧w'=w:=by
 go_enter Tryz.func97,Tryz.ntmps97;go_wp2
 go_loopg [5,8] 2 (fun gk v i wr=>wr=w∧((gk=2∧i=.int .i64 0∧v=.int .i64 1)∨(gk=1∧i=.int .i64 1∧v=.int .i64 3)∨(gk=0∧i=.int .i64 2∧v=.int .i64 3)))
 case atStart=>exact ⟨rfl,by simp⟩
 case round =>
  obtain ⟨rfl,hrel⟩:=hrel
  rcases hrel with ⟨rfl,rfl,rfl⟩|⟨rfl,rfl,rfl⟩|⟨rfl,rfl,rfl⟩
  · go_wp2
    go_roundg 1
    case measure=>omega
    case rel=>exact ⟨rfl,by simp⟩
  · go_wp2
    go_roundg 0
    case measure=>omega
    case rel=>exact ⟨rfl,by simp⟩
  · go_wp2
    go_ret;exact ⟨rfl,rfl⟩
theorem over_3_3 (w:World):Calls Tryz.prog 97 #[.int .i64 3,.int .i64 3] w fun r w'=>r=.returned (.int .i64 1)∧w'=w:=by
 go_enter Tryz.func97,Tryz.ntmps97;go_wp2
 go_loopg [5,8] 3 (fun gk v i wr=>wr=w∧((gk=3∧i=.int .i64 0∧v=.int .i64 1)∨(gk=2∧i=.int .i64 1∧v=.int .i64 3)∨(gk=1∧i=.int .i64 2∧v=.int .i64 3)∨(gk=0∧i=.int .i64 3∧v=.int .i64 1)))
 case atStart=>exact ⟨rfl,by simp⟩
 case round =>
  obtain ⟨rfl,hrel⟩:=hrel
  rcases hrel with ⟨rfl,rfl,rfl⟩|⟨rfl,rfl,rfl⟩|⟨rfl,rfl,rfl⟩|⟨rfl,rfl,rfl⟩
  · go_wp2
    go_roundg 2
    case measure=>omega
    case rel=>exact ⟨rfl,by simp⟩
  · go_wp2
    go_roundg 1
    case measure=>omega
    case rel=>exact ⟨rfl,by simp⟩
  · go_wp2
    go_roundg 0
    case measure=>omega
    case rel=>exact ⟨rfl,by simp⟩
  · go_wp2
    go_ret;exact ⟨rfl,rfl⟩
theorem over_4_0 (w:World):Calls Tryz.prog 97 #[.int .i64 4,.int .i64 0] w fun r w'=>r=.returned (.int .i64 1)∧w'=w:=by
 go_enter Tryz.func97,Tryz.ntmps97;go_wp2
 go_loopg [5,8] 0 (fun gk v i wr=>wr=w∧((gk=0∧i=.int .i64 0∧v=.int .i64 1)))
 case atStart=>exact ⟨rfl,by simp⟩
 case round =>
  obtain ⟨rfl,hrel⟩:=hrel
  rcases hrel with ⟨rfl,rfl,rfl⟩
  · go_wp2
    go_ret;exact ⟨rfl,rfl⟩
theorem over_4_1 (w:World):Calls Tryz.prog 97 #[.int .i64 4,.int .i64 1] w fun r w'=>r=.returned (.int .i64 4)∧w'=w:=by
 go_enter Tryz.func97,Tryz.ntmps97;go_wp2
 go_loopg [5,8] 1 (fun gk v i wr=>wr=w∧((gk=1∧i=.int .i64 0∧v=.int .i64 1)∨(gk=0∧i=.int .i64 1∧v=.int .i64 4)))
 case atStart=>exact ⟨rfl,by simp⟩
 case round =>
  obtain ⟨rfl,hrel⟩:=hrel
  rcases hrel with ⟨rfl,rfl,rfl⟩|⟨rfl,rfl,rfl⟩
  · go_wp2
    go_roundg 0
    case measure=>omega
    case rel=>exact ⟨rfl,by simp⟩
  · go_wp2
    go_ret;exact ⟨rfl,rfl⟩
theorem over_4_2 (w:World):Calls Tryz.prog 97 #[.int .i64 4,.int .i64 2] w fun r w'=>r=.returned (.int .i64 6)∧w'=w:=by
 go_enter Tryz.func97,Tryz.ntmps97;go_wp2
 go_loopg [5,8] 2 (fun gk v i wr=>wr=w∧((gk=2∧i=.int .i64 0∧v=.int .i64 1)∨(gk=1∧i=.int .i64 1∧v=.int .i64 4)∨(gk=0∧i=.int .i64 2∧v=.int .i64 6)))
 case atStart=>exact ⟨rfl,by simp⟩
 case round =>
  obtain ⟨rfl,hrel⟩:=hrel
  rcases hrel with ⟨rfl,rfl,rfl⟩|⟨rfl,rfl,rfl⟩|⟨rfl,rfl,rfl⟩
  · go_wp2
    go_roundg 1
    case measure=>omega
    case rel=>exact ⟨rfl,by simp⟩
  · go_wp2
    go_roundg 0
    case measure=>omega
    case rel=>exact ⟨rfl,by simp⟩
  · go_wp2
    go_ret;exact ⟨rfl,rfl⟩
theorem over_4_3 (w:World):Calls Tryz.prog 97 #[.int .i64 4,.int .i64 3] w fun r w'=>r=.returned (.int .i64 4)∧w'=w:=by
 go_enter Tryz.func97,Tryz.ntmps97;go_wp2
 go_loopg [5,8] 3 (fun gk v i wr=>wr=w∧((gk=3∧i=.int .i64 0∧v=.int .i64 1)∨(gk=2∧i=.int .i64 1∧v=.int .i64 4)∨(gk=1∧i=.int .i64 2∧v=.int .i64 6)∨(gk=0∧i=.int .i64 3∧v=.int .i64 4)))
 case atStart=>exact ⟨rfl,by simp⟩
 case round =>
  obtain ⟨rfl,hrel⟩:=hrel
  rcases hrel with ⟨rfl,rfl,rfl⟩|⟨rfl,rfl,rfl⟩|⟨rfl,rfl,rfl⟩|⟨rfl,rfl,rfl⟩
  · go_wp2
    go_roundg 2
    case measure=>omega
    case rel=>exact ⟨rfl,by simp⟩
  · go_wp2
    go_roundg 1
    case measure=>omega
    case rel=>exact ⟨rfl,by simp⟩
  · go_wp2
    go_roundg 0
    case measure=>omega
    case rel=>exact ⟨rfl,by simp⟩
  · go_wp2
    go_ret;exact ⟨rfl,rfl⟩
theorem over_4_4 (w:World):Calls Tryz.prog 97 #[.int .i64 4,.int .i64 4] w fun r w'=>r=.returned (.int .i64 1)∧w'=w:=by
 go_enter Tryz.func97,Tryz.ntmps97;go_wp2
 go_loopg [5,8] 4 (fun gk v i wr=>wr=w∧((gk=4∧i=.int .i64 0∧v=.int .i64 1)∨(gk=3∧i=.int .i64 1∧v=.int .i64 4)∨(gk=2∧i=.int .i64 2∧v=.int .i64 6)∨(gk=1∧i=.int .i64 3∧v=.int .i64 4)∨(gk=0∧i=.int .i64 4∧v=.int .i64 1)))
 case atStart=>exact ⟨rfl,by simp⟩
 case round =>
  obtain ⟨rfl,hrel⟩:=hrel
  rcases hrel with ⟨rfl,rfl,rfl⟩|⟨rfl,rfl,rfl⟩|⟨rfl,rfl,rfl⟩|⟨rfl,rfl,rfl⟩|⟨rfl,rfl,rfl⟩
  · go_wp2
    go_roundg 3
    case measure=>omega
    case rel=>exact ⟨rfl,by simp⟩
  · go_wp2
    go_roundg 2
    case measure=>omega
    case rel=>exact ⟨rfl,by simp⟩
  · go_wp2
    go_roundg 1
    case measure=>omega
    case rel=>exact ⟨rfl,by simp⟩
  · go_wp2
    go_roundg 0
    case measure=>omega
    case rel=>exact ⟨rfl,by simp⟩
  · go_wp2
    go_ret;exact ⟨rfl,rfl⟩
theorem over14 (k j:Nat) (hk:1≤k) (hk4:k≤4) (hj:j≤k) (w:World):Calls Tryz.prog 97 #[.int .i64 (k:Nat),.int .i64 (j:Nat)] w fun r w'=>r=.returned (.int .i64 (cbN k j))∧w'=w:=by
 obtain rfl|rfl|rfl|rfl:k=1∨k=2∨k=3∨k=4:=by omega
 · obtain rfl | rfl:j=0∨j=1:=by omega
   · exact over_1_0 w
   · exact over_1_1 w
 · obtain rfl | rfl | rfl:j=0∨j=1∨j=2:=by omega
   · exact over_2_0 w
   · exact over_2_1 w
   · exact over_2_2 w
 · obtain rfl | rfl | rfl | rfl:j=0∨j=1∨j=2∨j=3:=by omega
   · exact over_3_0 w
   · exact over_3_1 w
   · exact over_3_2 w
   · exact over_3_3 w
 · obtain rfl | rfl | rfl | rfl | rfl:j=0∨j=1∨j=2∨j=3∨j=4:=by omega
   · exact over_4_0 w
   · exact over_4_1 w
   · exact over_4_2 w
   · exact over_4_3 w
   · exact over_4_4 w
theorem cb_bd (k j:Nat) (hk:1≤k) (hk4:k≤4) (hj:j≤k):0≤cbN k j∧cbN k j≤6:=by
 obtain rfl|rfl|rfl|rfl:k=1∨k=2∨k=3∨k=4:=by omega
 · obtain rfl | rfl:j=0∨j=1:=by omega
   · decide
   · decide
 · obtain rfl | rfl | rfl:j=0∨j=1∨j=2:=by omega
   · decide
   · decide
   · decide
 · obtain rfl | rfl | rfl | rfl:j=0∨j=1∨j=2∨j=3:=by omega
   · decide
   · decide
   · decide
   · decide
 · obtain rfl | rfl | rfl | rfl | rfl:j=0∨j=1∨j=2∨j=3∨j=4:=by omega
   · decide
   · decide
   · decide
   · decide
   · decide
theorem raisedg14 {w:World}{a:Option Addr}{ca k u m:Nat}{V:Int}(hk:k≤5) (hu:u≤1100) (hm:m≤2200) (bV:Bd m V) (hT:Tab w) (N1:Nt 0 w (.slice a (ws (dX (gV u V))).length ca) (dX (gV u V))) :
 Calls Tryz.prog 51 #[.agg #[.bool (dN (gV u V)),.slice a (ws (dX (gV u V))).length ca,.int .i64 (dE (gV u V))],.int .i64 (k:Nat)] w fun r w'=>DVal 0 w' r (gV (u*k) (V^k))∧Below w.heap.size w w':=by
 have hq:∀ i,i≤k→u*i≤5500∧m*i≤11000:=fun i hi=>⟨Nat.le_trans (Nat.mul_le_mul hu (by omega:i≤5)) (by decide),Nat.le_trans (Nat.mul_le_mul hm (by omega:i≤5)) (by decide)⟩
 refine raised14 w a ca k (gV u V) (fun i=>gV (u*i) (V^i)) (by omega) hT (g_fm (by omega) (by omega) bV) (fun i hi=>g_fm (by have:=hq i hi;omega) (by have:=hq i hi;omega) (bV.pow i)) (fun i hi=>?_) ?_ N1
 · have:=hq i (by omega)
   rw [g_mul (by omega) (by omega) (by omega) (by omega) (bV.pow i) bV,←Nat.mul_succ,←Int.pow_succ]
 · show gV 0 1=gV (u*0) (V^0)
   rw [Nat.mul_zero,Int.pow_zero]
theorem powersC14 (i n k h0 h1 gx:Nat) (A:Nat→Option (Bool×Nat×Int)) (c:Option (Bool×Nat×Int)) (u:World) (hi:i<n) (hn:n≤65536)
 (HR:Hid (∀ (v:World) (a:Option Addr) (d:Nat),Below u.heap.size u v→Nt 0 v (.slice a (ws (dX (A i))).length d) (dX (A i))→Calls Tryz.prog 51 #[.agg #[.bool (dN (A i)),.slice a (ws (dX (A i))).length d,.int .i64 (dE (A i))],.int .i64 (k:Nat)] v fun r w'=>DVal 0 w' r c∧Below v.heap.size v w'))
 (k0:u.cell? ⟨h0,0,none⟩=some (.slice (some ⟨gx,0,none⟩) n n)) (k1:u.cell? ⟨h1,0,none⟩=some (.int .i64 (k:Nat))) (hx:Dr u gx n n A) :
 Calls Tryz.prog 142 #[.int .i64 (i:Nat),.pointer (some ⟨h0,0,none⟩),.pointer (some ⟨h1,0,none⟩)] u fun r w'=>DVal 0 w' r c∧Below u.heap.size u w':=by
 obtain ⟨W,hW⟩:∃ W,W=u.alloc (Obj.cells #[.bool false,.slice none 0 0,.int .i64 0] 37):=⟨_,rfl⟩;have LT:Aside (h0<u.heap.size∧h1<u.heap.size∧gx<u.heap.size):=⟨World.block_lt_of_cell? u _ k0,World.block_lt_of_cell? u _ k1,hx.lt⟩;have hb:Below u.heap.size u W.drew:=by rw [hW];exact addW14 u
 have L0:Lo W.drew u.heap.size o00:=by rw [hW];exact zerW14 u
 obtain ⟨p1,q1,x0,x1,x2,M1⟩:=(hx.below hb).facts i hi;have kS:Aside (W.drew.cell? ⟨h0,0,none⟩=some (.slice (some ⟨gx,0,none⟩) n n)∧W.drew.cell? ⟨h1,0,none⟩=some (.int .i64 (k:Nat))∧W.drew.cell? ⟨gx,i*3,none⟩=some (.bool (dN (A i)))∧W.drew.cell? ⟨gx,i*3+1,none⟩=some (.slice p1 (ws (dX (A i))).length q1)∧W.drew.cell? ⟨gx,i*3+2,none⟩=some (.int .i64 (dE (A i)))):=⟨cb14 k0 hb,cb14 k1 hb,x0,x1,x2⟩;have C:=hid (HR.out W.drew p1 q1 hb M1);have BD:=(qsd (ai hb L0));have HW:=qsd hW;have HI:=qsd hi;clear hW hb L0 x0 x1 x2 M1 k0 k1 hx HR;go_enter Tryz.func142,Tryz.ntmps142
 go_upto_region 1 with fail
 rw [←HW.out];clear HW
 go_region_held3 (fun w'=>w'.cell? ⟨h0,0,none⟩=some (.slice (some ⟨gx,0,none⟩) n n)∧w'.cell? ⟨h1,0,none⟩=some (.int .i64 (k:Nat))∧w'.cell? ⟨gx,i*3,none⟩=some (.bool (dN (A i)))∧w'.cell? ⟨gx,i*3+1,none⟩=some (.slice p1 (ws (dX (A i))).length q1)∧w'.cell? ⟨gx,i*3+2,none⟩=some (.int .i64 (dE (A i)))) (first | with_reducible exact kS.out | with_reducible exact kT.out) (first
  | (go_at_call 51
     with_reducible refine C.out.mono ?_
     rintro r u3 ⟨hd,hb⟩;obtain ⟨a3,c3,rfl,hN3⟩:=hd.shp14;have BD:=qsd (ai (BD.out.1.trans (hb.mono BD.out.1.size)) (ai (BD.out.2.below hb) hN3));have kS:=qsd (ai (cb14 kS.out.1 hb) (ai (cb14 kS.out.2.1 hb) (ai (cb14 kS.out.2.2.1 hb) (ai (cb14 kS.out.2.2.2.1 hb) (cb14 kS.out.2.2.2.2 hb)))));have kT:=qsd (ai (cs14 (g:=u.heap.size) (x:=.bool (dN c)) (y:=.slice a3 (ws (dX c)).length c3) (z:=.int .i64 (dE c)) kS.out.1 (Nat.ne_of_lt LT.out.1)) (ai (cs14 (g:=u.heap.size) (x:=.bool (dN c)) (y:=.slice a3 (ws (dX c)).length c3) (z:=.int .i64 (dE c)) kS.out.2.1 (Nat.ne_of_lt LT.out.2.1)) (ai (cs14 (g:=u.heap.size) (x:=.bool (dN c)) (y:=.slice a3 (ws (dX c)).length c3) (z:=.int .i64 (dE c)) kS.out.2.2.1 (Nat.ne_of_lt LT.out.2.2)) (ai (cs14 (g:=u.heap.size) (x:=.bool (dN c)) (y:=.slice a3 (ws (dX c)).length c3) (z:=.int .i64 (dE c)) kS.out.2.2.2.1 (Nat.ne_of_lt LT.out.2.2)) (cs14 (g:=u.heap.size) (x:=.bool (dN c)) (y:=.slice a3 (ws (dX c)).length c3) (z:=.int .i64 (dE c)) kS.out.2.2.2.2 (Nat.ne_of_lt LT.out.2.2))))));obtain ⟨zp,zq,DZ,MZ⟩:=BD.out.2.1;obtain ⟨z0,z1,z2,zf0,zf1,zf2⟩:=DZ.facts;clear hb hd hN3 DZ MZ C))
 go_wp2;exact end14 Tryz.results142 rfl BD.out.2.1 BD.out.1 (Nat.le_refl _) BD.out.2.2
theorem powers_core (w:World) (n k gx:Nat) (ax:Option Addr) (cx:Nat) (oS oP:Option (Bool×Nat×Int))
 (HC:Hid (∀ u:World,Below w.heap.size w u→u.cell? ⟨w.heap.size,0,none⟩=some (.slice (some ⟨gx,0,none⟩) n n)→u.cell? ⟨w.heap.size+1,0,none⟩=some (.int .i64 (k:Nat))→Calls Tryz.prog 84 #[.int .i64 (n:Nat),.func (.func 142) #[] #[.pointer (some ⟨w.heap.size,0,none⟩),.pointer (some ⟨w.heap.size+1,0,none⟩)]] u fun r w'=>DVal 0 w' r oP∧Below u.heap.size u w')) :
 Calls Tryz.prog 96 #[.agg #[.slice (some ⟨gx,0,none⟩) n n,.bool (dN oS),.slice ax (ws (dX oS)).length cx,.int .i64 (dE oS)],.int .i64 (k:Nat)] w fun r w'=>DVal 0 w' r oP∧Below w.heap.size w w':=by
 obtain ⟨W,hW⟩:∃ W,W=((w.alloc (Obj.cells #[.slice (some ⟨gx,0,none⟩) n n,.bool (dN oS),.slice ax (ws (dX oS)).length cx,.int .i64 (dE oS)] 62)).alloc (Obj.cells #[.int .i64 (k:Nat)] 3)).alloc (Obj.cells #[.bool false,.slice none 0 0,.int .i64 0] 37):=⟨_,rfl⟩
 have H0:Aside (Bl W w.heap.size 62 [.slice (some ⟨gx,0,none⟩) n n,.bool (dN oS),.slice ax (ws (dX oS)).length cx,.int .i64 (dE oS)]∧Bl W (w.heap.size+1) 3 [.int .i64 (k:Nat)]∧Lo W (w.heap.size+2) o00∧Below w.heap.size w W):=by
  have hbW:Below w.heap.size w W:=by rw [hW];exact ((below_alloc _ _).trans ((below_alloc _ _).mono (by simp))).trans ((below_alloc _ _).mono (by simp;omega))
  refine ⟨?_,?_,?_,hbW⟩
  · rw [hW];exact ((Bl.new w 62 [.slice (some ⟨gx,0,none⟩) n n,.bool (dN oS),.slice ax (ws (dX oS)).length cx,.int .i64 (dE oS)]).alloc _).alloc _
  · have z1:=Bl.new (w.alloc (Obj.cells #[.slice (some ⟨gx,0,none⟩) n n,.bool (dN oS),.slice ax (ws (dX oS)).length cx,.int .i64 (dE oS)] 62)) 3 [.int .i64 (k:Nat)]
    rw [World.size_alloc] at z1;rw [hW];exact z1.alloc _
  · have z2:=Lo.zero ((w.alloc (Obj.cells #[.slice (some ⟨gx,0,none⟩) n n,.bool (dN oS),.slice ax (ws (dX oS)).length cx,.int .i64 (dE oS)] 62)).alloc (Obj.cells #[.int .i64 (k:Nat)] 3))
    rw [World.size_alloc,World.size_alloc] at z2;rw [hW];exact z2
 have HW:=qsd hW;clear hW;go_enter Tryz.func96,Tryz.ntmps96
 go_upto_region 1 with fail
 rw [←HW.out];clear HW;have s0:=H0.out.1.cell 0 _ rfl;have hmf:∀ (fn:Fn) (first cap:Array Value) (w:World),(Instr.makeFunc fn first cap).run Tryz.prog w=.ok (.func fn first cap) w:=fun _ _ _ _=>rfl
 have C:=hid (HC.out W H0.out.2.2.2 (H0.out.1.cell 0 _ rfl) (H0.out.2.1.cell 0 _ rfl))
 go_wp2_with fail
 refine C.out.mono ?_;rintro r u1 ⟨hd,hb⟩;obtain ⟨a1,c1,rfl,hN1⟩:=hd.shp14;have H1:=(qsd (ai (H0.out.2.2.1.below hb) (ai (H0.out.2.2.2.trans (hb.mono H0.out.2.2.2.size)) hN1)));clear hb hd hN1 C s0 H0;obtain ⟨p2,q2,D2,M2⟩:=H1.out.1;obtain ⟨y0,y1,y2,yf0,yf1,yf2⟩:=D2.facts;clear D2 M2;go_wp2;exact end14 Tryz.results96 rfl H1.out.1 H1.out.2.1 (by omega) H1.out.2.2
theorem pw_bd14 {f:Nat→Int}{n k:Nat}(bf:∀ i,i<n→Bd 2098 (f i)) (hn:n≤65536) (hk:k≤4) (j:Nat) (hj:j≤n):Bd (2098*k+16) (tS (fun i=>f i^k) j) :=
 tS_bd (fun i hi=>(bf i hi).pow k) hn j hj
theorem powers14 {w:World}{v:Value}{n k:Nat}{f:Nat→Int}{oS:Option (Bool×Nat×Int)}(hn:n≤65536) (hk:k≤4) (hT:Tab w) (bf:∀ i,i<n→Bd 2098 (f i)) (h1:Rr w v n (fun i=>gV 1074 (f i)) oS) :
 Calls Tryz.prog 96 #[v,.int .i64 (k:Nat)] w fun r w'=>DVal 0 w' r (gV (1074*k) (tS (fun i=>f i^k) n))∧Below w.heap.size w w':=by
 obtain ⟨gx,ax,cx,rfl,hx,n1⟩:=h1;have hq:1074*k≤4296∧2098*k≤8392:=by omega
 refine powers_core w n k gx ax cx oS _ (hid fun u hu k0 k1=>?_)
 refine total14_p u n w.heap.size (w.heap.size+1) (fun i=>gV (1074*k) (f i^k)) (fun i=>gV (1074*k) (tS (fun i=>f i^k) i)) hn (hT.belows hu) (fun i hi=>g_fm (by omega) (by omega) ((bf i hi).pow k)) (fun i hi=>g_fm (by omega) (by omega) (pw_bd14 bf hn hk i hi)) (fun i hi=>g_add (by omega) (by omega) (pw_bd14 bf hn hk i (by omega)) (((bf i hi).pow k).mono (by omega))) (g_zero _).symm (hid fun i v hi hv=>?_)
 have hv2:Below w.heap.size w v:=hu.trans (hv.mono hu.size);exact powersC14 i n k w.heap.size (w.heap.size+1) gx (fun i=>gV 1074 (f i)) (gV (1074*k) (f i^k)) v hi hn (hid fun y a d hy hN=>raisedg14 (by omega) (by decide) (by decide) (bf i hi) (hT.belows (hv2.trans (hy.mono hv2.size))) hN) (cb14 k0 hv) (cb14 k1 hv) (hx.below hv2)
end
end Go.Proofs.YtflkmfdlpfimcaaGreatDoor
