import Derived.Test.YtopgffjnejaijaaGreatDoorFI6x
import Derived.Test.YtopgffjnejaijaaGreatDoorZ8x
import Derived.Test.YtopgffjnejaijaaGreatDoorJ2x
import Derived.Test.YtopgffjnejaijaaGreatDoorS11ax
import Derived.Test.YtopgffjnejaijaaGreatDoorM1x
import Derived.Test.YtopgffjnejaijaaGreatDoorBIeeex
import Derived.Test.YtopgffjnejaijaaGreatDoorW14x
import Derived.BigQuiet
import Derived.Test.YtopgffjnejaijaaGreatDoorD16x
import Derived.ProofKit
import Derived.OpenShut
import Derived.ChangeOld
import Derived.ChangeArms
import Derived.SizedLaws
import Derived.Laws.Cover2
import Derived.OwnWalk
import Derived.Maps.AppendAt
set_option linter.unusedVariables false
set_option linter.unusedSimpArgs false
set_option maxHeartbeats 16000000
set_option maxRecDepth 20000
namespace Go.Proofs.YtopgffjnejaijaaGreatDoor
namespace J
end J
section
open Go Go.RowKit J
structure Gd (xs ys:List Nat):Prop where
 x64:W64 xs
 y64:W64 ys
 xf:∀ x ∈ xs,finW x
 yf:∀ x ∈ ys,finW x
 len:xs.length=ys.length
 le:xs.length≤65536
def fD (xs ys:List Nat):Int:=(xs.length:Int)*pS xs xs-zS fvW xs*zS fvW xs
def fC (xs ys:List Nat):Int:=(xs.length:Int)*pS xs ys-zS fvW xs*zS fvW ys
def fT (xs ys:List Nat):Int:=(xs.length:Int)*pS ys ys-zS fvW ys*zS fvW ys
def fK (xs ys:List Nat):Int:=pS xs xs*zS fvW ys-zS fvW xs*pS xs ys
section
variable {xs ys : List Nat} (G : Gd xs ys)
include G
theorem Gd.n16:Bd 16 ((xs.length:Nat):Int):=Bd.nat (by have:=G.le;omega)
theorem Gd.sx:Bd 2114 (zS fvW xs):=fS_bd19 G.x64 G.xf G.le
theorem Gd.sy:Bd 2114 (zS fvW ys):=fS_bd19 G.y64 G.yf (by have:=G.len;have:=G.le;omega)
theorem Gd.xx:Bd 4212 (pS xs xs):=pS_bd G.x64 G.x64 G.xf G.xf G.le
theorem Gd.xy:Bd 4212 (pS xs ys):=pS_bd G.x64 G.y64 G.xf G.yf G.le
theorem Gd.yy:Bd 4212 (pS ys ys):=pS_bd G.y64 G.y64 G.yf G.yf (by have:=G.len;have:=G.le;omega)
theorem Gd.d:Bd 4229 (fD xs ys):=Bd.sub (m:=4228) (G.n16.mul G.xx) (G.sx.mul G.sx)
theorem Gd.c:Bd 4229 (fC xs ys):=Bd.sub (m:=4228) (G.n16.mul G.xy) (G.sx.mul G.sy)
theorem Gd.t:Bd 4229 (fT xs ys):=Bd.sub (m:=4228) (G.n16.mul G.yy) (G.sy.mul G.sy)
theorem Gd.k:Bd 6327 (fK xs ys):=Bd.sub (m:=6326) (G.xx.mul G.sy) (G.sx.mul G.xy)
end
theorem gm {u v a b:Nat}{V W:Int}(h1:Bd a V) (h2:Bd b W) (hu:u≤50000:=by decide) (hv:v≤50000:=by decide) (ha:a≤40000:=by decide) (hb:b≤40000:=by decide):mulD (gV u V) (gV v W)=gV (u+v) (V*W):=g_mul hu hv ha hb h1 h2
theorem gf {u m:Nat}{V:Int}(h:Bd m V) (hu:u≤100000:=by decide) (hm:m≤99999:=by decide):Fm (gV u V):=g_fm hu hm h
theorem gs {u m:Nat}{V W:Int}(h1:Bd m V) (h2:Bd m W) (hu:u≤100000:=by decide) (hm:m≤90000:=by decide):addD (gV u V) (mkS (!dN (gV u W)) (dX (gV u W)) (dE (gV u W)))=gV u (V-W):=g_sub hu hm h1 h2
theorem ga {u m:Nat}{V W:Int}(h1:Bd m V) (h2:Bd m W) (hu:u≤100000:=by decide) (hm:m≤90000:=by decide):addD (gV u V) (gV u W)=gV u (V+W):=g_add hu hm h1 h2
theorem gz {u m:Nat}{V:Int}(h:Bd m V) (hu:u≤100000:=by decide) (hm:m≤90000:=by decide):dX (gV u V)=0↔V=0:=(g_sign hu hm h).1
theorem lineOf19 {xs ys:List Nat}(G:Gd xs ys) (a b:Option Addr) (n c d:Nat) (w:World) (hn:n=xs.length) (hF:Fs w.heap.size w a xs) (hF2:Fs w.heap.size w b ys) (hT:Tab w) :
 Calls Tryz.prog 22 #[.slice a n c,.slice b n d] w fun r w'=>(∃ v,r=.returned v∧Ln19 w' v (gV 0 (n:Nat)) (gV 2148 (fD xs ys)) (gV 2148 (fC xs ys)) (gV 2148 (fT xs ys)) (gV 3222 (fK xs ys)))∧Below w.heap.size w w':=by
 have hl:=G.le;have hm:n=ys.length:=by rw [hn];exact G.len
 have b1:=G.n16.mul G.xx;have b2:=G.sx.mul G.sx;have b3:=G.n16.mul G.xy;have b4:=G.sx.mul G.sy;have b5:=G.n16.mul G.yy;have b6:=G.sy.mul G.sy;have b7:=G.xx.mul G.sy;have b8:=G.sx.mul G.xy;have e:=hn;have hs:∀ u:World,Below w.heap.size w u→Fs u.heap.size u a xs:=fun u hu=>(hF.below hu).mono hu.size
 have hs2:∀ u:World,Below w.heap.size w u→Fs u.heap.size u b ys:=fun u hu=>(hF2.below hu).mono hu.size
 refine lineOf_core w a b n c d (by omega) (gV 0 (n:Nat)) (gV 1074 (zS fvW xs)) (gV 1074 (zS fvW ys)) (gV 2148 (pS xs xs)) (gV 2148 (pS xs ys)) (gV 2148 (pS ys ys))
  (gV 2148 ((xs.length:Int)*pS xs xs)) (gV 2148 (zS fvW xs*zS fvW xs)) (gV 2148 ((xs.length:Int)*pS xs ys)) (gV 2148 (zS fvW xs*zS fvW ys)) (gV 2148 ((xs.length:Int)*pS ys ys)) (gV 2148 (zS fvW ys*zS fvW ys)) (gV 3222 (pS xs xs*zS fvW ys)) (gV 3222 (zS fvW xs*pS xs ys))
  (gV 2148 (fD xs ys)) (gV 2148 (fC xs ys)) (gV 2148 (fT xs ys)) (gV 3222 (fK xs ys))
  ⟨?_,gf G.sx,gf G.sy,gf G.xx,gf G.xy,gf G.yy,gf b1,gf b2,gf b3,gf b4,gf b5,gf b6,gf b7,gf b8,gf G.d,gf G.c,gf G.t,gf G.k⟩
  ⟨?_,gm G.sx G.sx,?_,gm G.sx G.sy,?_,gm G.sy G.sy,gm G.xx G.sy,gm G.sx G.xy,gs b1 b2,gs b3 b4,gs b5 b6,gs b7 b8⟩
  (hid fun u hu=>Int14 n u (hT.belows hu) (by omega) (by omega)) (hid fun u hu=>total19 xs a n c u hn (hs u hu) G.x64 G.xf (hT.belows hu) (by omega)) (hid fun u hu=>total19 ys b n d u hm (hs2 u hu) G.y64 G.yf (hT.belows hu) (by omega))
  (hid fun u hu=>products19 xs xs a a n c c u hn hn (hs u hu) (hs u hu) G.x64 G.x64 G.xf G.xf (hT.belows hu) (by omega)) (hid fun u hu=>products19 xs ys a b n c d u hn hm (hs u hu) (hs2 u hu) G.x64 G.y64 G.xf G.yf (hT.belows hu) (by omega)) (hid fun u hu=>products19 ys ys b b n d d u hm hm (hs2 u hu) (hs2 u hu) G.y64 G.y64 G.yf G.yf (hT.belows hu) (by omega))
  (qsd fun u hu=>hT.belows hu)
 · rw [hn];exact gf G.n16
 · rw [hn];exact gm (u:=0) G.n16 G.xx
 · rw [hn];exact gm (u:=0) G.n16 G.xy
 · rw [hn];exact gm (u:=0) G.n16 G.yy
theorem am_ok {xs ys zs:List Nat}{mode:Int}{least:Nat}(hW:W64 xs) (hV:W64 ys) (h:amE xs ys zs mode least=0):Gd xs ys∧0≤mode∧mode≤4∧least≤xs.length∧fiB zs=true:=by
 unfold amE at h
 by_cases h1:mode<0∨4<mode
 · rw [if_pos h1] at h;omega
 rw [if_neg h1] at h
 by_cases h2:65536<xs.length∨65536<ys.length
 · rw [if_pos h2] at h;omega
 rw [if_neg h2] at h
 by_cases h3:xs.length≠ys.length
 · rw [if_pos h3] at h;omega
 rw [if_neg h3] at h
 by_cases h4:(fiB xs&&fiB ys&&fiB zs)=false
 · rw [if_pos h4] at h;omega
 rw [if_neg h4] at h
 by_cases h5:xs.length<least
 · rw [if_pos h5] at h;omega
 rw [Bool.not_eq_false,Bool.and_eq_true,Bool.and_eq_true] at h4;exact ⟨⟨hW,hV,(fiB_iff _).1 h4.1.1,(fiB_iff _).1 h4.1.2,by omega,by omega⟩,by omega,by omega,by omega,h4.2⟩
noncomputable def fitR (xs ys:List Nat) (mode:Int):Int×Nat×Nat×Nat×Nat×Int :=
 if amE xs ys [] mode 2≠0 then (0,0,0,0,0,amE xs ys [] mode 2) else if fD xs ys=0 then (0,0,0,0,0,190) else
  ((xs.length:Nat),(qR19 (gV 2148 (fC xs ys)) (gV 2148 (fD xs ys)) mode).1,(qR19 (gV 3222 (fK xs ys)) (gV 2148 (fD xs ys)) mode).1,
    (if fT xs ys=0 then 4607182418800017408 else (qR19 (gV 4296 (fC xs ys*fC xs ys)) (gV 4296 (fD xs ys*fT xs ys)) mode).1),
    (qR19 (gV 4296 (fD xs ys*fT xs ys-fC xs ys*fC xs ys)) (gV 2148 ((xs.length:Int)*fD xs ys)) mode).1,0)
abbrev fitV (z:Int×Nat×Nat×Nat×Nat×Int):Value:=.tuple #[.agg #[.int .i64 z.1,.float .f64 z.2.1,.float .f64 z.2.2.1,.float .f64 z.2.2.2.1,.float .f64 z.2.2.2.2.1],.int .i64 z.2.2.2.2.2]
theorem fs_nil19 (B:Nat) (w:World) (a:Option Addr):Fs B w a []:=fun h=>absurd rfl h
theorem w64_nil:W64 []:=fun x hx=>by cases hx
theorem Line19 (xs ys:List Nat) (a b:Option Addr) (n m c d:Nat) (mode:Int) (w:World) (hn:n=xs.length) (hm:m=ys.length) (hF:Fs w.heap.size w a xs) (hF2:Fs w.heap.size w b ys) (hW:W64 xs) (hV:W64 ys) (hT:Tab w) :
 Calls Tryz.prog 10 #[.slice a n c,.slice b m d,.int .i64 mode] w fun r w'=>r=.returned (fitV (fitR xs ys mode))∧Below w.heap.size w w':=by
 have hs:∀ u:World,Below w.heap.size w u→Fs u.heap.size u a xs:=fun u hu=>(hF.below hu).mono hu.size
 have hs2:∀ u:World,Below w.heap.size w u→Fs u.heap.size u b ys:=fun u hu=>(hF2.below hu).mono hu.size
 have HA:∀ u:World,Below w.heap.size w u→Calls Tryz.prog 21 #[.slice a n c,.slice b m d,.int .i64 mode,.int .i64 2,.slice none 0 0] u fun r w'=>r=.returned (.int .i64 (amE xs ys [] mode 2))∧Below u.heap.size u w' :=
  fun u hu=>amiss19 xs ys [] a b none n m 0 c d 0 mode 2 u hn hm rfl (by omega) (by omega) (hs u hu) (hs2 u hu) (fs_nil19 _ _ _) hW hV w64_nil
 unfold fitR
 by_cases hE:amE xs ys [] mode 2=0
 · rw [if_neg (by simpa using hE)]
   rw [hE] at HA;obtain ⟨G,h0,h4,h2,_⟩:=am_ok hW hV hE;have hnm:n=m:=by rw [hn,hm];exact G.len
   have HL:Hid (∀ u:World,Below w.heap.size w u→Calls Tryz.prog 22 #[.slice a n c,.slice b m d] u fun r w'=>(∃ v,r=.returned v∧Ln19 w' v (gV 0 (n:Nat)) (gV 2148 (fD xs ys)) (gV 2148 (fC xs ys)) (gV 2148 (fT xs ys)) (gV 3222 (fK xs ys)))∧Below u.heap.size u w') :=
    fun u hu=>by subst hnm;exact lineOf19 G a b n c d u hn (hs u hu) (hs2 u hu) (hT.belows hu)
   have bn:Bd 16 ((n:Nat):Int):=by rw [hn];exact G.n16
   have FF:Aside (Fm (gV 0 ((n:Nat):Int))∧Fm (gV 2148 (fD xs ys))∧Fm (gV 2148 (fC xs ys))∧Fm (gV 2148 (fT xs ys))∧Fm (gV 3222 (fK xs ys))∧Fm (gV 4296 (fC xs ys*fC xs ys))∧Fm (gV 4296 (fD xs ys*fT xs ys))∧Fm (gV 4296 (fD xs ys*fT xs ys-fC xs ys*fC xs ys))∧Fm (gV 2148 ((n:Int)*fD xs ys))) :=
    ⟨gf bn,gf G.d,gf G.c,gf G.t,gf G.k,gf (G.c.mul G.c),gf (G.d.mul G.t),gf ((G.d.mul G.t).sub (G.c.mul G.c)),gf (bn.mul G.d)⟩
   by_cases hD:fD xs ys=0
   · rw [if_pos hD]
     exact Line_flat mode ((gz G.d).2 hD) FF (hid HA) HL
   · rw [if_neg hD]
     have C:=Line_ok (a:=a) (b:=b) (n:=n) (m:=m) (c:=c) (d:=d) mode hnm (fun h=>hD ((gz G.d).1 h)) FF ⟨gm G.d G.t,gm G.c G.c,gs (G.d.mul G.t) (G.c.mul G.c),gm (u:=0) bn G.d⟩ (qsd fun u hu=>hT.belows hu) (hid HA) HL
     refine C.mono ?_;rintro r w' ⟨rfl,hb⟩;refine ⟨?_,hb⟩;have ht:(dX (gV 2148 (fT xs ys))=0)=(fT xs ys=0):=propext (gz G.t);simp only [ht,hn]
 · rw [if_pos hE]
   exact Line_no mode _ hE (hid HA)
noncomputable def atR (xs ys:List Nat) (x:Nat) (mode:Int):Nat×Int :=
 if amE xs ys [x] mode 2≠0 then (0,amE xs ys [x] mode 2) else if fD xs ys=0 then (0,190) else
  ((qR19 (gV 3222 (fK xs ys+fC xs ys*fvW x)) (gV 2148 (fD xs ys)) mode).1,0)
theorem At19 (xs ys:List Nat) (x:Nat) (a b:Option Addr) (n m c d:Nat) (mode:Int) (w:World) (hn:n=xs.length) (hm:m=ys.length) (hF:Fs w.heap.size w a xs) (hF2:Fs w.heap.size w b ys) (hW:W64 xs) (hV:W64 ys) (hx:x<18446744073709551616) (hT:Tab w) :
 Calls Tryz.prog 13 #[.slice a n c,.slice b m d,.float .f64 x,.int .i64 mode] w fun r w'=>r=.returned (.tuple #[.float .f64 (atR xs ys x mode).1,.int .i64 (atR xs ys x mode).2])∧Below w.heap.size w w':=by
 have hs:∀ u:World,Below w.heap.size w u→Fs u.heap.size u a xs:=fun u hu=>(hF.below hu).mono hu.size
 have hs2:∀ u:World,Below w.heap.size w u→Fs u.heap.size u b ys:=fun u hu=>(hF2.below hu).mono hu.size
 have HA:∀ u:World,Below w.heap.size w u→∀ g:Nat,w.heap.size≤g→u.cell? ⟨g,0,none⟩=some (.float .f64 x)→Calls Tryz.prog 21 #[.slice a n c,.slice b m d,.int .i64 mode,.int .i64 2,.slice (some ⟨g,0,none⟩) 1 1] u fun r w'=>r=.returned (.int .i64 (amE xs ys [x] mode 2))∧Below u.heap.size u w' :=
  fun u hu g hg hc=>amiss19 xs ys [x] a b (some ⟨g,0,none⟩) n m 1 c d 1 mode 2 u hn hm rfl (by omega) (by omega) (hs u hu) (hs2 u hu) (fun _=>⟨g,0,World.block_lt_of_cell? u _ hc,rfl,fun i hi=>by
   have:i=0:=by simp at hi;omega
   subst this;exact hc⟩) hW hV (fun z hz=>by rw [List.mem_singleton] at hz;rw [hz];exact hx)
 unfold atR
 by_cases hE:amE xs ys [x] mode 2=0
 · rw [if_neg (by simpa using hE)]
   rw [hE] at HA;obtain ⟨G,h0,h4,h2,h5⟩:=am_ok hW hV hE;have fx:finW x:=(fiB_iff _).1 h5 x List.mem_cons_self;have hnm:n=m:=by rw [hn,hm];exact G.len
   have HL:Hid (∀ u:World,Below w.heap.size w u→Calls Tryz.prog 22 #[.slice a n c,.slice b m d] u fun r w'=>(∃ v,r=.returned v∧Ln19 w' v (gV 0 (n:Nat)) (gV 2148 (fD xs ys)) (gV 2148 (fC xs ys)) (gV 2148 (fT xs ys)) (gV 3222 (fK xs ys)))∧Below u.heap.size u w') :=
    fun u hu=>by subst hnm;exact lineOf19 G a b n c d u hn (hs u hu) (hs2 u hu) (hT.belows hu)
   have bx:=fv_bd hx fx
   have FF:Aside (Fm (gV 2148 (fD xs ys))∧Fm (gV 2148 (fC xs ys))∧Fm (gV 3222 (fK xs ys))∧Fm (gV 1074 (fvW x))∧Fm (gV 3222 (fC xs ys*fvW x))∧Fm (gV 3222 (fK xs ys+fC xs ys*fvW x))) :=
    ⟨gf G.d,gf G.c,gf G.k,gf bx,gf (G.c.mul bx),gf (G.k.add (G.c.mul bx))⟩
   by_cases hD:fD xs ys=0
   · rw [if_pos hD]
     exact At_flat x mode ((gz G.d).2 hD) FF (hid HA) HL
   · rw [if_neg hD]
     exact At_ok x mode (fun h=>hD ((gz G.d).1 h)) FF ⟨gm G.c bx,ga G.k (G.c.mul bx)⟩ (qsd fun u hu=>hT.belows hu) (hid HA) HL (hid fun u hu=>of_any8 x ⟨hx,fx⟩ u (hT.belows hu))
 · rw [if_pos hE]
   exact At_no x mode _ hE (hid HA)
noncomputable def thR (xs ys:List Nat) (mode:Int):Nat×Int :=
 if amE xs ys [] mode 1≠0 then (0,amE xs ys [] mode 1) else if pS xs xs=0 then (0,190) else ((qR19 (gV 2148 (pS xs ys)) (gV 2148 (pS xs xs)) mode).1,0)
theorem Through19 (xs ys:List Nat) (a b:Option Addr) (n m c d:Nat) (mode:Int) (w:World) (hn:n=xs.length) (hm:m=ys.length) (hF:Fs w.heap.size w a xs) (hF2:Fs w.heap.size w b ys) (hW:W64 xs) (hV:W64 ys) (hT:Tab w) :
 Calls Tryz.prog 12 #[.slice a n c,.slice b m d,.int .i64 mode] w fun r w'=>r=.returned (.tuple #[.float .f64 (thR xs ys mode).1,.int .i64 (thR xs ys mode).2])∧Below w.heap.size w w':=by
 have hs:∀ u:World,Below w.heap.size w u→Fs u.heap.size u a xs:=fun u hu=>(hF.below hu).mono hu.size
 have hs2:∀ u:World,Below w.heap.size w u→Fs u.heap.size u b ys:=fun u hu=>(hF2.below hu).mono hu.size
 have HA:∀ u:World,Below w.heap.size w u→Calls Tryz.prog 21 #[.slice a n c,.slice b m d,.int .i64 mode,.int .i64 1,.slice none 0 0] u fun r w'=>r=.returned (.int .i64 (amE xs ys [] mode 1))∧Below u.heap.size u w' :=
  fun u hu=>amiss19 xs ys [] a b none n m 0 c d 0 mode 1 u hn hm rfl (by omega) (by omega) (hs u hu) (hs2 u hu) (fs_nil19 _ _ _) hW hV w64_nil
 unfold thR
 by_cases hE:amE xs ys [] mode 1=0
 · rw [if_neg (by simpa using hE)]
   rw [hE] at HA;obtain ⟨G,h0,h4,h2,_⟩:=am_ok hW hV hE;have hnm:n=m:=by rw [hn,hm];exact G.len
   have hl:=G.le
   have HX:Hid (∀ u:World,Below w.heap.size w u→Calls Tryz.prog 27 #[.slice a n c,.slice a n c] u fun r w'=>DVal 0 w' r (gV 2148 (pS xs xs))∧Below u.heap.size u w') :=
    fun u hu=>products19 xs xs a a n c c u hn hn (hs u hu) (hs u hu) G.x64 G.x64 G.xf G.xf (hT.belows hu) (by omega)
   have HY:Hid (∀ u:World,Below w.heap.size w u→Calls Tryz.prog 27 #[.slice a n c,.slice b m d] u fun r w'=>DVal 0 w' r (gV 2148 (pS xs ys))∧Below u.heap.size u w') :=
    fun u hu=>by subst hnm;exact products19 xs ys a b n c d u hn hm (hs u hu) (hs2 u hu) G.x64 G.y64 G.xf G.yf (hT.belows hu) (by omega)
   have FF:Aside (Fm (gV 2148 (pS xs xs))∧Fm (gV 2148 (pS xs ys))):=⟨gf G.xx,gf G.xy⟩
   by_cases hD:pS xs xs=0
   · rw [if_pos hD]
     exact Through_flat mode ((gz G.xx).2 hD) FF (hid HA) HX
   · rw [if_neg hD]
     exact Through_ok mode (fun h=>hD ((gz G.xx).1 h)) FF (qsd fun u hu=>hT.belows hu) (hid HA) HX HY
 · rw [if_pos hE]
   exact Through_no mode _ hE (hid HA)
end
section
open Go Go.RowKit J
theorem g_parts {u k:Nat}{V:Int}(hu:u≤100000) (hV:V≠0) (hk:k≤90000) (hb:Bd k V):∃ X e,gV u V=some (decide (V<0),X,e)∧X%2=1∧-(u:Int)≤e∧e≤200000∧X*2^(e+(u:Int)).toNat=V.natAbs∧bl X≤262144∧Frm (decide (V<0)) X e:=by
 obtain ⟨n,X,e,ho,F,hx⟩:=g_iv (u:=u) hu (by omega) hb
 have hm:mkS (decide (V<0)) V.natAbs (-(u:Int))=some (n,X,e):=ho;have hz:=zv_mkS hm (-(u:Int)) (.inr (by omega))
 unfold zv at hz;simp only at hz;rw [show (-(u:Int) - -(u:Int)).toNat=0 by omega,Nat.pow_zero,Nat.mul_one] at hz
 have hX0:X≠0:=by
  rintro rfl;simp [sg1] at hz
  split at hz <;> omega
 have hp:0<X*2^(e - -(u:Int)).toNat:=Nat.mul_pos (by omega) (Nat.two_pow_pos _)
 rcases hx with h|⟨h1,h2⟩
 · exact absurd h hX0
 have hn:n=decide (V<0):=by
  by_cases hs:V<0
  · rw [decide_eq_true hs] at hz ⊢
    cases n with
    | true=>rfl
    | false=>simp only [sg1,if_true,Bool.false_eq_true,if_false] at hz;omega
  · rw [decide_eq_false hs] at hz ⊢
    cases n with
    | false=>rfl
    | true=>simp only [sg1,if_true,Bool.false_eq_true,if_false] at hz;omega
 rw [hn] at hz ho F
 have hv:X*2^(e - -(u:Int)).toNat=V.natAbs:=by
  by_cases hs:V<0
  · rw [decide_eq_true hs] at hz;simp only [sg1,if_true] at hz;omega
  · rw [decide_eq_false hs] at hz;simp only [sg1,Bool.false_eq_true,if_false] at hz;omega
 refine ⟨X,e,ho,?_,h1,by omega,?_,by omega,F⟩
 · rcases F.odd with q | q
   · exact q
   · exact absurd q.1 hX0
 · rw [show (e+(u:Int)).toNat=(e - -(u:Int)).toNat by congr 1;omega]
   exact hv
theorem rat14 {x S V S' V':Nat}(hS:0<S) (hS':0<S') (e:V*S'=V'*S):(x*S<V↔x*S'<V')∧(x*S=V↔x*S'=V')∧(V<x*S↔V'<x*S'):=by
 have a1:x*S*S'=x*S'*S:=by rw [Nat.mul_assoc,Nat.mul_comm S,←Nat.mul_assoc]
 have t1:x*S<V↔x*S*S'<V*S':=(Nat.mul_lt_mul_right hS').symm;have t2:x*S'<V'↔x*S'*S<V'*S:=(Nat.mul_lt_mul_right hS).symm;have t3:V<x*S↔V*S'<x*S*S':=(Nat.mul_lt_mul_right hS').symm;have t4:V'<x*S'↔V'*S<x*S'*S:=(Nat.mul_lt_mul_right hS).symm;rw [t1,t2,t3,t4,a1,e];refine ⟨Iff.rfl,?_,Iff.rfl⟩;rw [a1,e] at t1;rw [a1,e] at t3;omega
theorem LiesG.ratio14 {v:Nat→Nat}{top n K:Nat}{t:Bool}{m:Int}{V S V' S':Nat}(h:LiesG v top n K t m V S) (hS':0<S') (e:V*S'=V'*S):LiesG v top n K t m V' S':=by
 obtain ⟨h1,h2,h3,h4,h5,h6⟩:=h;have e2:(2^n*V)*S'=(2^n*V')*S:=by rw [Nat.mul_assoc,e,Nat.mul_assoc]
 refine ⟨h1,hS',fun a=>((rat14 h2 hS' e).2.1.1 (h3 a).symm).symm,fun a=>(rat14 h2 hS' e).1.1 (h4 a),fun a b=>?_,fun a=>?_⟩
 · have:=h5 a ((rat14 h2 hS' e).2.2.2 b)
   obtain ⟨r1,r2,r3⟩:=rat14 (x:=(v K+v (K+1))^n) h2 hS' e2
   rcases this with ⟨q,r⟩|⟨q,r⟩|⟨q,r⟩
   · exact .inl ⟨q,r3.1 r⟩
   · exact .inr (.inl ⟨q,(r2.1 r.symm).symm⟩)
   · exact .inr (.inr ⟨q,r1.1 r⟩)
 · rcases h6 a with q | q
   · exact .inl ((rat14 h2 hS' e).2.2.1 q)
   · exact .inr q
theorem qR_ok {u v k:Nat}{V D:Int}(hu:u≤100000) (hv:v≤100000) (hk:k≤90000) (hV:V≠0) (hD:0<D) (bV:Bd k V) (bD:Bd k D) :
 ∃ K t m,(∀ j,j=1074→LiesG vK 9218868437227405312 1 K t m (V.natAbs*2^(j+v)) (D.natAbs*2^u))∧∀ mode:Int,0≤mode→mode≤4→qR19 (gV u V) (gV v D) mode=(rK mode (decide (V<0)) K t m+(if V<0 then 9223372036854775808 else 0),0):=by
 obtain ⟨Y,f,ho2,hY,hf0,hf1,hv2,hbl2,F2⟩:=g_parts (u:=v) (V:=D) hv (by omega) hk bD
 rw [decide_eq_false (by omega)] at ho2 F2
 obtain ⟨X,e,ho,hX,he0,he1,hvv,hbl,F⟩:=g_parts (u:=u) (V:=V) hu hV hk bV;have hm1:mkS (decide (V<0)) X e=some (decide (V<0),X,e):=mkS_idem F;have hm2:mkS false Y f=some (false,Y,f):=mkS_idem F2;obtain ⟨K,t,m,hL,hR⟩:=quo64 (decide (V<0)) X e Y f hX (by omega) hbl hbl2
 refine ⟨K,t,m,fun j hj=>?_,fun mode hm0 hm4=>?_⟩
 · refine hL.ratio14 (Nat.mul_pos (by omega) (Nat.two_pow_pos _)) ?_
   unfold rV11 rS11;rw [←hvv,←hv2]
   have e1:X*2^(e-f+((1*1074:Nat):Int)).toNat*(Y*2^(f+(v:Int)).toNat*2^u)=X*Y*(2^((e-f+((1*1074:Nat):Int)).toNat+((f+(v:Int)).toNat+u))):=by
    rw [Nat.pow_add,Nat.pow_add,Nat.mul_assoc Y,Nat.mul_mul_mul_comm]
   have e2:X*2^(e+(u:Int)).toNat*2^(j+v)*(Y*2^(-(e-f+((1*1074:Nat):Int))).toNat)=X*Y*(2^((e+(u:Int)).toNat+(j+v)+(-(e-f+((1*1074:Nat):Int))).toNat)):=by
    rw [Nat.pow_add _ (_+_),Nat.pow_add _ (e+(u:Int)).toNat,Nat.mul_assoc X,Nat.mul_mul_mul_comm]
   rw [e1,e2]
   congr 2
   omega
 · unfold qR19
   rw [ho,ho2]
   show quoR rndS ⟨decide (V<0),.bool false,X,e,false,.bool false,Y,f⟩ mode=_
   unfold quoR;rw [if_neg (by omega),if_pos (by rw [errL_one];show errN X (decide (V<0)) e Y false f=0;unfold errN;rw [if_neg (by unfold sgn;simp;split <;> omega),hm1,hm2];simp [dX];omega),hm1,hm2]
   have:=hR mode hm0 hm4;simp only [decide_eq_true_eq] at this;exact this
theorem qR_zero {u v k:Nat}{D:Int}(hv:v≤100000) (hk:k≤90000) (hD:0<D) (bD:Bd k D) (mode:Int) (m0:0≤mode) (m4:mode≤4):qR19 (gV u 0) (gV v D) mode=(0,0):=by
 obtain ⟨Y,f,ho2,hY,hf0,hf1,hv2,hbl2,F2⟩:=g_parts (u:=v) (V:=D) hv (by omega) hk bD
 rw [decide_eq_false (by omega)] at ho2 F2
 have hm2:mkS false Y f=some (false,Y,f):=mkS_idem F2;unfold qR19;rw [g_zero,ho2]
 show quoR rndS ⟨false,.bool false,0,0,false,.bool false,Y,f⟩ mode=_
 unfold quoR;rw [if_neg (by omega),if_pos (by rw [errL_one];show errN 0 false 0 Y false f=0;unfold errN;rw [if_neg (by unfold sgn;simp;split <;> omega),hm2,mkS_zero];simp [dX];omega),mkS_zero,hm2]
 show rndS (quoZ false 0 0 Y f) mode=_
 rw [quoZ_nought _ _ _ _ (by omega) hbl2,rndS_form mode false 0 0 m0 m4]
 rfl
theorem LiesG.uniq14 {n K K':Nat}{t t':Bool}{m m':Int}{V S:Nat}(hn:n≠0) (h:LiesG vK 9218868437227405312 n K t m V S) (h':LiesG vK 9218868437227405312 n K' t' m' V S):K=K'∧t=t'∧(t=false→m=m'):=by
 have a1:vK K^n*S≤V:=by
  cases t with
  | true=>have:=h.one rfl;omega
  | false=>have:=h.low rfl;omega
 have a2:K+1=9218868437227405312∨V<vK (K+1)^n*S:=by
  cases t with
  | true =>
    have:=h.one rfl;have:=Nat.mul_lt_mul_of_pos_right (Nat.pow_lt_pow_left (grid64.mono (show K<K+1 by omega)) hn) h.pos
    omega
  | false =>
    rcases h.high rfl with q|q
    · exact .inr q
    · omega
 obtain ⟨e1,e2,e3⟩:=LiesG.doc grid64 (Nat.pos_of_ne_zero hn) h' K h.fin a1 a2;obtain ⟨_,f2,f3⟩:=LiesG.doc grid64 (Nat.pos_of_ne_zero hn) h K h.fin a1 a2;subst e1;rw [←f2] at e2;refine ⟨rfl,e2.symm,fun ht=>?_⟩
 rw [f3 ht,e3 (by rw [e2];exact ht)]
theorem rK_same14 {mode:Int}{n:Bool}{K K':Nat}{t t':Bool}{m m':Int}(h:K=K'∧t=t'∧(t=false→m=m')):rK mode n K t m=rK mode n K' t' m':=by
 obtain ⟨rfl,rfl,h⟩:=h
 cases t with
 | true=>rfl
 | false=>rw [h rfl]
theorem rK_true (mode:Int) (n:Bool) (K:Nat) (m:Int):rK mode n K true m=K:=by unfold rK;simp
theorem q_exact {u v k:Nat}{V D:Int}(hu:u≤100000) (hv:v≤100000) (hk:k≤90000) (hD:0<D) (bV:Bd k V) (bD:Bd k D) {y:Nat}(hy:y<18446744073709551616) (fy:finW y) (hz:y≠9223372036854775808)
 (e:∀ j,j=1074→fvW y*(D*((2^u:Nat):Int))=V*((2^(j+v):Nat):Int)) (mode:Int) (m0:0≤mode) (m4:mode≤4) :
 qR19 (gV u V) (gV v D) mode=(y,0):=by
 obtain ⟨j,hj⟩:∃ j:Nat,j=1074:=⟨_,rfl⟩;have e:=e j hj;have p1:(0:Int)<D*((2^u:Nat):Int):=Int.mul_pos hD (by have:=Nat.two_pow_pos u;omega)
 have p2:(0:Int)<((2^(j+v):Nat):Int):=by have:=Nat.two_pow_pos (j+v);omega
 have hmag:(fvW y).natAbs=vK (magW y):=by unfold fvW B.sg;cases negW y <;> simp
 have hyy:y=magW y+(if negW y then 9223372036854775808 else 0):=by
  unfold magW negW
  by_cases h:9223372036854775808≤y
  · simp [h];omega
  · simp [h];omega
 have v0:∀ m:Nat,vK m=0→m=0:=fun m h=>by
  rcases Nat.eq_zero_or_pos m with q|q
  · exact q
  · have:=grid64.mono q;omega
 by_cases hV:V=0
 · subst hV
   rw [Int.zero_mul] at e;have h0:fvW y=0:=by rcases Int.mul_eq_zero.1 e with h | h;exact h;omega
   have:magW y=0:=v0 _ (by rw [←hmag,h0];rfl)
   have:y=0:=by rw [this] at hyy;revert hyy;split <;> omega
   rw [this,qR_zero hv hk hD bD mode m0 m4]
 · obtain ⟨K,t,m,hL,hR⟩:=qR_ok hu hv hk hV hD bV bD
   have eN:vK (magW y)^1*(D.natAbs*2^u)=V.natAbs*2^(j+v):=by
    have:=congrArg Int.natAbs e;rw [Int.natAbs_mul,Int.natAbs_mul,Int.natAbs_mul,Int.natAbs_natCast,Int.natAbs_natCast,hmag] at this;rw [Nat.pow_one];exact this
   have hT:LiesG vK 9218868437227405312 1 (magW y) true 0 (V.natAbs*2^(j+v)) (D.natAbs*2^u):=⟨fy,Nat.mul_pos (by omega) (Nat.two_pow_pos _),fun _=>eN.symm,fun q=>(by cases q),fun q=>(by cases q),fun q=>(by cases q)⟩
   rw [hR mode m0 m4,rK_same14 ((hL j hj).uniq14 (by decide) hT),rK_true]
   have hs:negW y=decide (V<0):=by
    have hf:fvW y=B.sg (negW y) (vK (magW y)):=rfl
    have hp:0<vK (magW y):=by
     rcases Nat.eq_zero_or_pos (vK (magW y)) with q|q
     · rw [q,Nat.pow_one,Nat.zero_mul] at eN
       rcases Nat.mul_eq_zero.1 eN.symm with h|h
       · omega
       · have:=Nat.two_pow_pos (j+v);omega
     · exact q
    cases hn:negW y with
    | true =>
      rw [hn] at hf;have:fvW y<0:=by rw [hf];unfold B.sg;simp;omega
      have h2:V<0:=by
       rcases Int.lt_or_le V 0 with q|q
       · exact q
       · have a1:=Int.mul_nonneg q (Int.le_of_lt p2)
         have a2:=Int.mul_neg_of_neg_of_pos this p1;omega
      rw [decide_eq_true h2]
    | false =>
      rw [hn] at hf;have:0<fvW y:=by rw [hf];unfold B.sg;simp;omega
      have h2:¬ V<0:=by
       intro q;have a1:=Int.mul_neg_of_neg_of_pos q p2;have a2:=Int.mul_pos this p1;omega
      rw [decide_eq_false h2]
   rw [hs] at hyy;simp only [decide_eq_true_eq] at hyy;rw [←hyy]
end
section
open Go Go.RowKit J
def sP (x:Nat):Int:=sK (negW x) (magW x)
abbrev nnW (x:Nat):Prop:=magW x≤9218868437227405312
theorem wd_own17 (x:Nat) (hx:x<18446744073709551616):wd64 (negW x) (magW x)=x:=by
 unfold wd64 negW magW
 by_cases h:9223372036854775808≤x <;> simp [h] <;> omega
theorem eq17 {x y:Nat}(hx:x<18446744073709551616) (hy:y<18446744073709551616) (fx:nnW x) (fy:nnW y):(FloatKind.f64.format.order x y==some .eq)=decide (sP x=sP y):=by
 have h:=eq64 (negW x) (negW y) (magW x) (magW y) fx fy;rw [wd_own17 x hx,wd_own17 y hy] at h;exact h
section
variable {xs ys : List Nat} (G : Gd xs ys)
include G
end
end
section
open Go Go.RowKit J
section
variable {α : Type}
theorem zS_const (c:Int):∀ l:List α,zS (fun _=>c) l=(l.length:Int)*c
 | []=>by simp [zS]
 | x::l=>by
   show c+zS (fun _=>c) l=((l.length+1:Nat):Int)*c
   rw [zS_const c l]
   grind
theorem zS_nn {f:α→Int}:∀ {l:List α},(∀ x ∈ l,0≤f x)→0≤zS f l
 | [],_=>Int.le_refl _
 | x::l,h=>Int.add_nonneg (h x List.mem_cons_self) (zS_nn fun y hy=>h y (List.mem_cons_of_mem _ hy))
theorem zS_sq (f g:α→Int) (c d e:Int):∀ l:List α,zS (fun x=>(c*f x+d*g x+e)*(c*f x+d*g x+e)) l
 = c*c*zS (fun x=>f x*f x) l+d*d*zS (fun x=>g x*g x) l+2*c*d*zS (fun x=>f x*g x) l+2*c*e*zS f l+2*d*e*zS g l+(l.length:Int)*(e*e)
 | []=>by simp [zS]
 | x::l=>by
   have h:=zS_sq f g c d e l
   show (c*f x+d*g x+e)*(c*f x+d*g x+e)+zS _ l=c*c*(f x*f x+zS _ l)+d*d*(g x*g x+zS _ l)+2*c*d*(f x*g x+zS _ l)+2*c*e*(f x+zS f l)+2*d*e*(g x+zS g l)+((l.length+1:Nat):Int)*(e*e)
   rw [h]
   grind
theorem sq_nn (a:Int):0≤a*a:=by
 rcases Int.le_total 0 a with h|h
 · exact Int.mul_nonneg h h
 · have:=Int.mul_nonneg (show (0:Int)≤-a by omega) (show (0:Int)≤-a by omega)
   rw [Int.neg_mul_neg] at this;exact this
theorem var_nn (f g:α→Int) (c d:Int) (l:List α):0≤(l.length:Int)*zS (fun x=>(c*f x+d*g x+0)*(c*f x+d*g x+0)) l-(c*zS f l+d*zS g l)*(c*zS f l+d*zS g l):=by
 rcases l with _|⟨x,l⟩
 · simp [zS]
 obtain ⟨L,hL⟩:∃ L,L=x::l:=⟨_,rfl⟩;rw [←hL];have hp:(0:Int)<(L.length:Int):=by rw [hL];simp
 obtain ⟨n,hn⟩:∃ n:Int,n=(L.length:Int):=⟨_,rfl⟩;have h1:=zS_nn (f:=fun x=>((n*c)*f x+(n*d)*g x+-(c*zS f L+d*zS g L))*((n*c)*f x+(n*d)*g x+-(c*zS f L+d*zS g L))) (l:=L) (fun x _=>sq_nn _)
 rw [zS_sq] at h1;rw [zS_sq,←hn];rw [←hn] at h1 hp;obtain ⟨A,hA⟩:∃ A,A=zS (fun x=>f x*f x) L:=⟨_,rfl⟩
 obtain ⟨B,hB⟩:∃ B,B=zS (fun x=>g x*g x) L:=⟨_,rfl⟩
 obtain ⟨M,hM⟩:∃ B,B=zS (fun x=>f x*g x) L:=⟨_,rfl⟩
 obtain ⟨S,hS⟩:∃ B,B=zS f L:=⟨_,rfl⟩;obtain ⟨T,hT⟩:∃ B,B=zS g L:=⟨_,rfl⟩;rw [←hA,←hB,←hM,←hS,←hT] at h1 ⊢;clear hA hB hM hS hT hn hL
 have e:n*c*(n*c)*A+n*d*(n*d)*B+2*(n*c)*(n*d)*M+2*(n*c)*-(c*S+d*T)*S+2*(n*d)*-(c*S+d*T)*T+n*(-(c*S+d*T)*-(c*S+d*T))
  = n*(n*(c*c*A+d*d*B+2*c*d*M+2*c*0*S+2*d*0*T+n*(0*0))-(c*S+d*T)*(c*S+d*T)):=by grind
 rw [e] at h1;exact Int.nonneg_of_mul_nonneg_right h1 hp
end
theorem zS_fst {f:Nat→Int}:∀ {xs ys:List Nat},xs.length=ys.length→zS (fun p:Nat×Nat=>f p.1) (xs.zip ys)=zS f xs
 | [],_,_=>by simp [zS]
 | x::xs,[],h=>by simp at h
 | x::xs,y::ys,h=>by
   show f x+zS _ (xs.zip ys)=f x+zS f xs
   rw [zS_fst (by simpa using h)]
theorem zS_snd {f:Nat→Int}:∀ {xs ys:List Nat},xs.length=ys.length→zS (fun p:Nat×Nat=>f p.2) (xs.zip ys)=zS f ys
 | [],[],_=>rfl
 | [],y::ys,h=>by simp at h
 | x::xs,[],h=>by simp at h
 | x::xs,y::ys,h=>by
   show f y+zS _ (xs.zip ys)=f y+zS f ys
   rw [zS_snd (by simpa using h)]
theorem pS_self:∀ xs:List Nat,pS xs xs=zS (fun x=>fvW x*fvW x) xs
 | []=>rfl
 | x::xs=>by
   show fvW x*fvW x+pS xs xs=fvW x*fvW x+zS _ xs
   rw [pS_self xs]
section
variable {xs ys : List Nat} (hl : xs.length = ys.length)
include hl
theorem zip_len:(xs.zip ys).length=xs.length:=by rw [List.length_zip];omega
theorem pS_fst:zS (fun p:Nat×Nat=>fvW p.1*fvW p.1) (xs.zip ys)=pS xs xs:=by
 rw [pS_self];exact zS_fst (f:=fun x=>fvW x*fvW x) hl
theorem pS_snd:zS (fun p:Nat×Nat=>fvW p.2*fvW p.2) (xs.zip ys)=pS ys ys:=by
 rw [pS_self];exact zS_snd (f:=fun x=>fvW x*fvW x) hl
theorem quad_nn (c d:Int):0≤c*c*fD xs ys+d*d*fT xs ys+2*c*d*fC xs ys:=by
 have h:=var_nn (fun p:Nat×Nat=>fvW p.1) (fun p:Nat×Nat=>fvW p.2) c d (xs.zip ys)
 rw [zS_sq,pS_fst hl,pS_snd hl,zS_fst (f:=fvW) hl,zS_snd (f:=fvW) hl,zip_len hl] at h;have e:zS (fun x:Nat×Nat=>fvW x.1*fvW x.2) (xs.zip ys)=pS xs ys:=rfl
 rw [e] at h;unfold fD fT fC
 grind
theorem fD_nn:0≤fD xs ys:=by have:=quad_nn hl 1 0;simpa using this
theorem fT_nn:0≤fT xs ys:=by have:=quad_nn hl 0 1;simpa using this
end
end
section
open Go Go.RowKit J
open Go.Proofs.YtopgffjnejaijaaGreatDoor.B (f64bits f64frombits)
attribute [local go_sem] Ps.st_floatP f64bits f64frombits
theorem lit19 (w:World) (L:List Nat) (g:Nat) (hg:g=w.heap.size):Fs (w.alloc (Obj.cells (L.map (Value.float .f64)).toArray 24)).heap.size (w.alloc (Obj.cells (L.map (Value.float .f64)).toArray 24)) (some ⟨g,0,none⟩) L:=by
 subst hg;intro _;refine ⟨w.heap.size,0,by simp,rfl,fun i hi=>?_⟩
 have:=(Bl.new w 24 (L.map (Value.float .f64))).cell i (.float .f64 (L.getD i 0)) (by simp [List.getD_eq_getElem?_getD,List.getElem?_eq_getElem hi])
 rw [Nat.zero_add];exact this
abbrev one19:Nat:=4607182418800017408
abbrev two19:Nat:=4611686018427387904
theorem gd_of {xs ys:List Nat}{mode:Int}(hW:W64 xs) (hV:W64 ys) (h:amE xs ys [] mode 2=0):Gd xs ys:=(am_ok hW hV h).1
theorem fit_ok {xs ys:List Nat}{mode:Int}(hE:amE xs ys [] mode 2=0) (hD:fD xs ys≠0):fitR xs ys mode=(((xs.length:Nat):Int),(qR19 (gV 2148 (fC xs ys)) (gV 2148 (fD xs ys)) mode).1,(qR19 (gV 3222 (fK xs ys)) (gV 2148 (fD xs ys)) mode).1,
 (if fT xs ys=0 then 4607182418800017408 else (qR19 (gV 4296 (fC xs ys*fC xs ys)) (gV 4296 (fD xs ys*fT xs ys)) mode).1),
 (qR19 (gV 4296 (fD xs ys*fT xs ys-fC xs ys*fC xs ys)) (gV 2148 ((xs.length:Int)*fD xs ys)) mode).1,0):=by
 unfold fitR;rw [if_neg (by simpa using hE),if_neg hD]
theorem live_line:∃ k l,fitR [0,one19,two19] [0,one19,one19] 0=(3,4602678819172646912,k,4604930618986332160,l,0):=by
 have hE:amE [0,one19,two19] [0,one19,one19] [] 0 2=0:=by decide +kernel
 have G:=gd_of (by unfold W64;decide) (by unfold W64;decide) hE
 have hD:0<fD [0,one19,two19] [0,one19,one19]:=by decide +kernel
 have hT:0<fT [0,one19,two19] [0,one19,one19]:=by decide +kernel
 have h:=fit_ok hE (show fD [0,one19,two19] [0,one19,one19]≠0 by omega)
 rw [if_neg (by omega)] at h
 rw [q_exact (u:=2148) (v:=2148) (by omega) (by omega) (k:=4229) (by omega) hD G.c G.d (y:=4602678819172646912) (by decide) (by decide) (by decide) (fun j hj=>by subst hj;decide +kernel) 0 (by decide) (by decide)] at h
 rw [q_exact (u:=4296) (v:=4296) (by omega) (by omega) (k:=8458) (by omega) (Int.mul_pos hD hT) (G.c.mul G.c) (G.d.mul G.t) (y:=4604930618986332160) (by decide) (by decide) (by decide) (fun j hj=>by subst hj;decide +kernel) 0 (by decide) (by decide)] at h
 exact ⟨_,_,h⟩
theorem live_through:thR [two19] [4613937818241073152] 0=(4609434218613702656,0):=by
 have hE:amE [two19] [4613937818241073152] [] 0 1=0:=by decide +kernel
 have G:=(am_ok (xs:=[two19]) (ys:=[4613937818241073152]) (zs:=[]) (mode:=0) (least:=1) (by unfold W64;decide) (by unfold W64;decide) hE).1
 have hD:0<pS [two19] [two19]:=by decide +kernel
 unfold thR;rw [if_neg (by simpa using hE),if_neg (by omega),q_exact (u:=2148) (v:=2148) (by omega) (by omega) (k:=4212) (by omega) hD G.xy G.xx (y:=4609434218613702656) (by decide) (by decide) (by decide) (fun j hj=>by subst hj;decide +kernel) 0 (by decide) (by decide)]
theorem live_at:atR [0,one19,two19] [one19,4613937818241073152,4617315517961601024] 4621819117588971520 0=(4626604192193052672,0):=by
 have hE:amE [0,one19,two19] [one19,4613937818241073152,4617315517961601024] [4621819117588971520] 0 2=0:=by decide +kernel
 have G:=(am_ok (xs:=[0,one19,two19]) (ys:=[one19,4613937818241073152,4617315517961601024]) (zs:=[4621819117588971520]) (mode:=0) (least:=2) (by unfold W64;decide) (by unfold W64;decide) hE).1
 have hD:0<fD [0,one19,two19] [one19,4613937818241073152,4617315517961601024]:=by decide +kernel
 unfold atR;rw [if_neg (by simpa using hE),if_neg (by omega),q_exact (u:=3222) (v:=2148) (by omega) (by omega) (k:=6328) (by omega) hD (G.k.add (G.c.mul (fv_bd (by decide) (by decide)))) (G.d.mono (by decide)) (y:=4626604192193052672) (by decide) (by decide) (by decide) (fun j hj=>by subst hj;decide +kernel) 0 (by decide) (by decide)]
theorem Line19z (xs ys:List Nat) (a b:Option Addr) (n m c d:Nat) (mode:Int) (w:World) (hn:n=xs.length) (hm:m=ys.length) (hF:Fs w.heap.size w a xs) (hF2:Fs w.heap.size w b ys) (hW:W64 xs) (hV:W64 ys) (hT:Tab w) {N E:Int}{s k t l:Nat}(hz:fitR xs ys mode=(N,s,k,t,l,E)) :
 Calls Tryz.prog 10 #[.slice a n c,.slice b m d,.int .i64 mode] w fun r w'=>r=.returned (.tuple #[.agg #[.int .i64 N,.float .f64 s,.float .f64 k,.float .f64 t,.float .f64 l],.int .i64 E])∧Below w.heap.size w w':=by
 have:=Line19 xs ys a b n m c d mode w hn hm hF hF2 hW hV hT;rw [hz] at this;exact this
theorem At19z (xs ys:List Nat) (x:Nat) (a b:Option Addr) (n m c d:Nat) (mode:Int) (w:World) (hn:n=xs.length) (hm:m=ys.length) (hF:Fs w.heap.size w a xs) (hF2:Fs w.heap.size w b ys) (hW:W64 xs) (hV:W64 ys) (hx:x<18446744073709551616) (hT:Tab w) {s:Nat}{E:Int}(hz:atR xs ys x mode=(s,E)) :
 Calls Tryz.prog 13 #[.slice a n c,.slice b m d,.float .f64 x,.int .i64 mode] w fun r w'=>r=.returned (.tuple #[.float .f64 s,.int .i64 E])∧Below w.heap.size w w':=by
 have:=At19 xs ys x a b n m c d mode w hn hm hF hF2 hW hV hx hT;rw [hz] at this;exact this
theorem Through19z (xs ys:List Nat) (a b:Option Addr) (n m c d:Nat) (mode:Int) (w:World) (hn:n=xs.length) (hm:m=ys.length) (hF:Fs w.heap.size w a xs) (hF2:Fs w.heap.size w b ys) (hW:W64 xs) (hV:W64 ys) (hT:Tab w) {s:Nat}{E:Int}(hz:thR xs ys mode=(s,E)) :
 Calls Tryz.prog 12 #[.slice a n c,.slice b m d,.int .i64 mode] w fun r w'=>r=.returned (.tuple #[.float .f64 s,.int .i64 E])∧Below w.heap.size w w':=by
 have:=Through19 xs ys a b n m c d mode w hn hm hF hF2 hW hV hT;rw [hz] at this;exact this
end
section
open Go Go.RowKit J
theorem zS_zero {α:Type}{f:α→Int}:∀ {l:List α},(∀ x ∈ l,0≤f x)→zS f l=0→∀ x ∈ l,f x=0
 | [],_,_=>fun x hx=>by cases hx
 | a::l,h,e=>fun x hx=>by
   have h1:=h a List.mem_cons_self;have h2:=zS_nn (f:=f) (l:=l) fun y hy=>h y (List.mem_cons_of_mem _ hy)
   have e':f a+zS f l=0:=e
   rcases List.mem_cons.1 hx with q|q
   · subst q;omega
   · exact zS_zero (fun y hy=>h y (List.mem_cons_of_mem _ hy)) (by omega) x q
theorem fD_sq (xs ys:List Nat):zS (fun x=>((xs.length:Int)*fvW x+0*fvW x+-(zS fvW xs))*((xs.length:Int)*fvW x+0*fvW x+-(zS fvW xs))) xs=(xs.length:Int)*fD xs ys:=by
 rw [zS_sq];unfold fD;rw [pS_self]
 grind
theorem fD_pos {xs:List Nat}(ys:List Nat) (hl:xs.length=ys.length) {x y:Nat}(hx:x ∈ xs) (hy:y ∈ xs) (h:fvW x≠fvW y):0<fD xs ys:=by
 have h0:=fD_nn hl
 rcases Int.lt_or_le 0 (fD xs ys) with q|q
 · exact q
 · exfalso
   have e:=fD_sq xs ys;rw [show fD xs ys=0 by omega,Int.mul_zero] at e
   have z:=zS_zero (fun _ _=>sq_nn _) e
   have z1:=z x hx;have z2:=z y hy;simp only [Int.zero_mul,Int.add_zero] at z1 z2;have a1:(xs.length:Int)*fvW x+-(zS fvW xs)=0:=by rcases Int.mul_eq_zero.1 z1 with q | q <;> exact q
   have a2:(xs.length:Int)*fvW y+-(zS fvW xs)=0:=by rcases Int.mul_eq_zero.1 z2 with q | q <;> exact q
   have hn:(xs.length:Int)≠0:=by
    have:=List.length_pos_of_mem hx;omega
   exact h (Int.eq_of_mul_eq_mul_left hn (by omega))
theorem fD_like {xs:List Nat}(ys:List Nat) (c:Int) (h:∀ x ∈ xs,fvW x=c):fD xs ys=0:=by
 unfold fD;rw [pS_self,zS_congr (g:=fun _=>c*c) (fun x hx=>by rw [h x hx]),zS_congr (f:=fvW) (g:=fun _=>c) h,zS_const,zS_const]
 grind
section
variable {xs : List Nat} (G : Gd xs xs) (hD : 0 < fD xs xs) {mode : Int} (m0 : 0 ≤ mode) (m4 : mode ≤ 4)
include G hD m0 m4
end
end
section
open Go.RowKit J

def Fw10 (n:Nat):Value:=.float .f64 n
theorem Tryz.und_floats:Tryz.prog.underlying 23=some (.slice 24):=by kernel_rfl
theorem Tryz.info_f64:(Tryz.prog.info? 24).map (fun i=>(i.zero,i.size,i.bytes))=some (some (.float .f64 0),1,8):=by kernel_rfl
end
section
open Go Go.RowKit J
def Wh (x:Nat) (k:Int):Prop:=x<18446744073709551616∧finW x∧fvW x=k*((2^1074:Nat):Int)
theorem isF_whole (k:Int) (h0:-9007199254740992≤k) (h1:k≤9007199254740992):IsF (k*((2^1074:Nat):Int)):=by
 obtain ⟨e,he⟩:∃ e,e=1074:=⟨_,rfl⟩;rw [←he];exact ⟨k,e,by rw [Int.natCast_pow];rfl,h0,h1⟩
theorem whole_small (k:Int) (h0:-9007199254740992≤k) (h1:k≤9007199254740992):(k*((2^1074:Nat):Int)).natAbs≤3*QQ:=by
 obtain ⟨e,he⟩:∃ e,e=1074:=⟨_,rfl⟩;rw [←he,Int.natAbs_mul,Int.natAbs_natCast,Q_eq];have h2:k.natAbs*2^e≤2^53*2^e:=Nat.mul_le_mul_right _ (by omega)
 have h3:2^53*2^e≤2^EQ:=by
  rw [←Nat.pow_add];exact Nat.pow_le_pow_right (by decide) (by rw [he];decide)
 generalize 2^EQ=K at *;omega
theorem wh_zero:Wh 0 0:=⟨by decide,by unfold finW magW;decide,by
 obtain ⟨e,he⟩:∃ e,e=1074:=⟨_,rfl⟩;rw [←he];have h:fvW 0=0:=by unfold fvW;rw [show magW 0=0 from rfl,show vK 0=0 from B.val_zero _];rfl
 rw [h];simp⟩
theorem int_whole (k:Int) (h0:-9007199254740992≤k) (h1:k≤9007199254740992):Wh (floatOfInt .f64 k) k:=by
 have e0:floatOfInt .f64 k=Ieee.double.nearest (decide (k<0)) k.natAbs 0:=rfl
 by_cases hz:k=0
 · subst hz
   have:floatOfInt .f64 0=0:=by decide
   rw [this];exact wh_zero
 · obtain ⟨R,hR,hN⟩:=nearest_ne (decide (k<0)) k.natAbs B.LP 0 (by omega)
   rw [B.dLP,show -(B.LP:Int)+(B.LP:Int)-((0:Nat):Int)=0 by omega,←e0,B.dInf,←wd_word] at hR
   rw [Nat.pow_zero] at hN
   have hV:(k*((2^1074:Nat):Int)).natAbs=k.natAbs*2^B.LP:=by
    rw [Int.natAbs_mul,Int.natAbs_natCast,show B.LP=1074 from rfl]
   rw [←hV] at hN;have hf:=ne_fin hN (whole_small k h0 h1);rw [Nat.min_eq_left (by omega)] at hR
   have hr:IsRn (k*((2^1074:Nat):Int)) (B.sg (decide (k<0)) (vK R)):=ne_rn hN (fun _=>by
    obtain ⟨e,he⟩:∃ e,e=1074:=⟨_,rfl⟩;rw [←he,decide_eq_decide];have:=Nat.two_pow_pos e;generalize 2^e=K at *
    constructor
    · intro h;exact Int.mul_neg_of_neg_of_pos h (by omega)
    · intro h;apply Int.lt_of_not_ge;intro h2;have:=Int.mul_nonneg h2 (show (0:Int)≤K by omega);omega)
   have hv:=hr.own (isF_whole k h0 h1);obtain ⟨k1,k2⟩:=fv_wd (decide (k<0)) R hf;rw [hR];exact ⟨(magW_wd _ R (by omega)).2.2,k1,by rw [k2,hv]⟩
abbrev iw (k:Int):Nat:=floatOfInt .f64 k
theorem iw_ok {k:Int}(h0:-9007199254740992≤k) (h1:k≤9007199254740992) (j:Nat) (hj:j=1074):iw k<18446744073709551616∧finW (iw k)∧fvW (iw k)=k*((2^j:Nat):Int)∧iw k≠9223372036854775808:=by
 have h:=int_whole k h0 h1;refine ⟨h.1,h.2.1,by rw [hj];exact h.2.2,fun q=>?_⟩
 have q:floatOfInt .f64 k=9223372036854775808:=q
 by_cases hk:k=0
 · subst hk
   have:floatOfInt .f64 0=0:=by decide
   omega
 · have e:=h.2.2
   rw [q] at e;have e0:fvW 9223372036854775808=0:=by decide +kernel
   rw [e0] at e;obtain ⟨i,hi⟩:∃ i:Nat,i=1074:=⟨_,rfl⟩;rw [←hi] at e;have:=Nat.two_pow_pos i
   rcases Int.mul_eq_zero.1 e.symm with r|r
   · exact hk r
   · omega
theorem iw_eq {k:Int}(h0:-9007199254740992≤k) (h1:k≤9007199254740992):(FloatKind.f64.format.order (iw k) (iw k)==some .eq)=true:=by
 obtain ⟨w1,w2,_⟩:=iw_ok h0 h1 1074 rfl;have nn:nnW (iw k):=Nat.le_of_lt w2;rw [eq17 w1 w1 nn nn];simp
def onX (ts:List Int):List Nat:=ts.map iw
def onY (s c:Int) (ts:List Int):List Nat:=ts.map fun t=>iw (c+s*t)
theorem on_zip (s c:Int):∀ ts:List Int,(onX ts).zip (onY s c ts)=ts.map fun t=>(iw t,iw (c+s*t))
 | []=>rfl
 | t::ts=>by
   show (iw t,iw (c+s*t))::(onX ts).zip (onY s c ts)=_::_
   rw [on_zip s c ts]
structure OnS (s c:Int) (ts:List Int):Prop where
 s:-1000<s∧s<1000
 c:-1000000<c∧c<1000000
 t:∀ t ∈ ts,-1000000<t∧t<1000000
section
variable {s c : Int} {ts : List Int} (H : OnS s c ts)
include H
theorem OnS.yb {t:Int}(ht:t ∈ ts):-9007199254740992≤c+s*t∧c+s*t≤9007199254740992:=by
 obtain ⟨t0,t1⟩:=H.t t ht;obtain ⟨s0,s1⟩:=H.s;obtain ⟨c0,c1⟩:=H.c;have h:(s*t).natAbs≤1000*1000000:=by rw [Int.natAbs_mul];exact Nat.mul_le_mul (by omega) (by omega)
 omega
theorem OnS.xb {t:Int}(ht:t ∈ ts):-9007199254740992≤t∧t≤9007199254740992:=by
 obtain ⟨t0,t1⟩:=H.t t ht;omega
theorem OnS.x64:W64 (onX ts):=fun x hx=>by
 obtain ⟨t,ht,rfl⟩:=List.mem_map.1 hx;exact (iw_ok (H.xb ht).1 (H.xb ht).2 1074 rfl).1
theorem OnS.y64:W64 (onY s c ts):=fun x hx=>by
 obtain ⟨t,ht,rfl⟩:=List.mem_map.1 hx;exact (iw_ok (H.yb ht).1 (H.yb ht).2 1074 rfl).1
theorem OnS.xf:∀ x ∈ onX ts,finW x:=fun x hx=>by
 obtain ⟨t,ht,rfl⟩:=List.mem_map.1 hx;exact (iw_ok (H.xb ht).1 (H.xb ht).2 1074 rfl).2.1
theorem OnS.yf:∀ x ∈ onY s c ts,finW x:=fun x hx=>by
 obtain ⟨t,ht,rfl⟩:=List.mem_map.1 hx;exact (iw_ok (H.yb ht).1 (H.yb ht).2 1074 rfl).2.1
theorem OnS.vals (j:Nat) (hj:j=1074) {t:Int}(ht:t ∈ ts):fvW (iw (c+s*t))=s*fvW (iw t)+c*((2^j:Nat):Int):=by
 rw [(iw_ok (H.yb ht).1 (H.yb ht).2 j hj).2.2.1,(iw_ok (H.xb ht).1 (H.xb ht).2 j hj).2.2.1,Int.add_mul,Int.mul_assoc];omega
theorem OnS.sums (j:Nat) (hj:j=1074):zS fvW (onY s c ts)=s*zS fvW (onX ts)+(ts.length:Int)*(c*((2^j:Nat):Int))∧pS (onX ts) (onY s c ts)=s*pS (onX ts) (onX ts)+(c*((2^j:Nat):Int))*zS fvW (onX ts) ∧
 pS (onY s c ts) (onY s c ts)=s*s*pS (onX ts) (onX ts)+2*s*(c*((2^j:Nat):Int))*zS fvW (onX ts)+(ts.length:Int)*((c*((2^j:Nat):Int))*(c*((2^j:Nat):Int))):=by
 obtain ⟨K,hK⟩:∃ K:Int,K=c*((2^j:Nat):Int):=⟨_,rfl⟩;have hv:∀ t ∈ ts,fvW (iw (c+s*t))=s*fvW (iw t)+K:=fun t ht=>by rw [hK];exact H.vals j hj ht
 rw [←hK];have e1:zS fvW (onY s c ts)=zS (fun t:Int=>s*fvW (iw t)+K) ts:=by unfold onY;rw [zS_map];exact zS_congr hv
 have e2:zS fvW (onX ts)=zS (fun t:Int=>fvW (iw t)) ts:=by unfold onX;rw [zS_map]
 have e3:pS (onX ts) (onX ts)=zS (fun t:Int=>fvW (iw t)*fvW (iw t)) ts:=by rw [pS_self];unfold onX;rw [zS_map]
 have e4:pS (onX ts) (onY s c ts)=zS (fun t:Int=>fvW (iw t)*(s*fvW (iw t)+K)) ts:=by
  unfold pS;rw [on_zip,zS_map];exact zS_congr fun t ht=>by (try simp only);rw [hv t ht]
 have e5:pS (onY s c ts) (onY s c ts)=zS (fun t:Int=>(s*fvW (iw t)+K)*(s*fvW (iw t)+K)) ts:=by
  rw [pS_self];unfold onY;rw [zS_map];exact zS_congr fun t ht=>by (try simp only);rw [hv t ht]
 rw [e1,e2,e3,e4,e5];clear e1 e2 e3 e4 e5 hv hK H
 induction ts with
 | nil=>simp [zS]
 | cons x l ih =>
   obtain ⟨i1,i2,i3⟩:=ih;refine ⟨?_,?_,?_⟩
   · show s*fvW (iw x)+K+zS _ l=s*(fvW (iw x)+zS _ l)+((l.length+1:Nat):Int)*K
     rw [i1];grind
   · show fvW (iw x)*(s*fvW (iw x)+K)+zS _ l=s*(fvW (iw x)*fvW (iw x)+zS _ l)+K*(fvW (iw x)+zS _ l)
     rw [i2];grind
   · show (s*fvW (iw x)+K)*(s*fvW (iw x)+K)+zS _ l=s*s*(fvW (iw x)*fvW (iw x)+zS _ l)+2*s*K*(fvW (iw x)+zS _ l)+((l.length+1:Nat):Int)*(K*K)
     rw [i3];grind
theorem OnS.parts (j:Nat) (hj:j=1074):fC (onX ts) (onY s c ts)=s*fD (onX ts) (onY s c ts)∧fT (onX ts) (onY s c ts)=s*s*fD (onX ts) (onY s c ts)∧fK (onX ts) (onY s c ts)=c*((2^j:Nat):Int)*fD (onX ts) (onY s c ts):=by
 obtain ⟨h1,h2,h3⟩:=H.sums j hj;obtain ⟨K,hK⟩:∃ K:Int,K=c*((2^j:Nat):Int):=⟨_,rfl⟩;rw [←hK] at h1 h2 h3 ⊢;have hl:((onX ts).length:Int)=(ts.length:Int):=by unfold onX;rw [List.length_map]
 unfold fC fT fK fD;rw [hl,h1,h2,h3];refine ⟨?_,?_,?_⟩ <;> grind
theorem OnS.gd (hn:ts.length≤65536):Gd (onX ts) (onY s c ts):=⟨H.x64,H.y64,H.xf,H.yf,by unfold onX onY;simp,by unfold onX;simpa using hn⟩
theorem OnS.am (hn:ts.length≤65536) (mode:Int):amE (onX ts) (onY s c ts) [] mode 2=if mode<0∨4<mode then 1 else if ts.length<2 then 3 else 0:=by
 have l1:(onX ts).length=ts.length:=by unfold onX;simp
 have l2:(onY s c ts).length=ts.length:=by unfold onY;simp
 unfold amE
 by_cases h:mode<0∨4<mode
 · rw [if_pos h,if_pos h]
 · rw [if_neg h,if_neg h,if_neg (by omega),if_neg (by omega),(fiB_iff _).2 H.xf,(fiB_iff _).2 H.yf,if_neg (by decide),l1]
theorem OnS.answer (hn:ts.length≤65536) {mode:Int}(m0:0≤mode) (m4:mode≤4) (h2:2≤ts.length) (hD:0<fD (onX ts) (onY s c ts)) :
 fitR (onX ts) (onY s c ts) mode=(((ts.length:Nat):Int),iw s,iw c,4607182418800017408,0,0):=by
 have G:=H.gd hn;have hE:amE (onX ts) (onY s c ts) [] mode 2=0:=by rw [H.am hn,if_neg (by omega),if_neg (by omega)]
 obtain ⟨j,hj⟩:∃ j:Nat,j=1074:=⟨_,rfl⟩;obtain ⟨eC,eT,eK⟩:=H.parts j hj;obtain ⟨s1,s2,s3,s4⟩:=iw_ok (k:=s) (by have:=H.s;omega) (by have:=H.s;omega) j hj
 obtain ⟨c1,c2,c3,c4⟩:=iw_ok (k:=c) (by have:=H.c;omega) (by have:=H.c;omega) j hj
 have bC:=G.c;have bT:=G.t;have bK:=G.k;have l1:(onX ts).length=ts.length:=by unfold onX;simp
 have hn0:(0:Int)<((onX ts).length:Int):=by omega
 have q1:(qR19 (gV 2148 (fC (onX ts) (onY s c ts))) (gV 2148 (fD (onX ts) (onY s c ts))) mode).1=iw s:=by
  rw [q_exact (u:=2148) (v:=2148) (by omega) (by omega) (k:=4229) (by omega) hD bC G.d s1 s2 s4 (fun i hi=>by
   rw [s3,eC,hi.trans hj.symm,Nat.pow_add,Int.natCast_mul];generalize ((2^j:Nat):Int)=J;generalize ((2^2148:Nat):Int)=M
   grind) mode m0 m4]
 have q2:(qR19 (gV 3222 (fK (onX ts) (onY s c ts))) (gV 2148 (fD (onX ts) (onY s c ts))) mode).1=iw c:=by
  rw [q_exact (u:=3222) (v:=2148) (by omega) (by omega) (k:=6327) (by omega) hD bK (G.d.mono (by omega)) c1 c2 c4 (fun i hi=>by
   rw [c3,eK,show i+2148=3222 by omega]
   generalize ((2^j:Nat):Int)=J;generalize ((2^3222:Nat):Int)=M
   grind) mode m0 m4]
 have q3:(if fT (onX ts) (onY s c ts)=0 then 4607182418800017408 else (qR19 (gV 4296 (fC (onX ts) (onY s c ts)*fC (onX ts) (onY s c ts))) (gV 4296 (fD (onX ts) (onY s c ts)*fT (onX ts) (onY s c ts))) mode).1)=4607182418800017408:=by
  by_cases h0:fT (onX ts) (onY s c ts)=0
  · rw [if_pos h0]
  · rw [if_neg h0]
    have hTp:0<fT (onX ts) (onY s c ts):=by have:=fT_nn G.len;omega
    rw [q_exact (u:=4296) (v:=4296) (by omega) (by omega) (k:=8458) (by omega) (Int.mul_pos hD hTp) (bC.mul bC) (G.d.mul bT) (y:=4607182418800017408) (by decide) (by decide) (by decide) (fun i hi=>by
     rw [fv_one i hi,eC,eT,Nat.pow_add,Int.natCast_mul];generalize ((2^i:Nat):Int)=J;generalize ((2^4296:Nat):Int)=M
     grind) mode m0 m4]
 have q4:(qR19 (gV 4296 (fD (onX ts) (onY s c ts)*fT (onX ts) (onY s c ts)-fC (onX ts) (onY s c ts)*fC (onX ts) (onY s c ts))) (gV 2148 (((onX ts).length:Int)*fD (onX ts) (onY s c ts))) mode).1=0:=by
  have e:fD (onX ts) (onY s c ts)*fT (onX ts) (onY s c ts)-fC (onX ts) (onY s c ts)*fC (onX ts) (onY s c ts)=0:=by rw [eC,eT];grind
  rw [e,qR_zero (by omega) (k:=4245) (by omega) (Int.mul_pos hn0 hD) (G.n16.mul G.d) mode m0 m4]
 rw [fit_ok hE (by omega),q1,q2,q3,q4,l1]
theorem OnS.flat (hn:ts.length≤65536) {mode:Int}(m0:0≤mode) (m4:mode≤4) (h2:2≤ts.length) (hl:∀ t ∈ ts,t=ts.getD 0 0):fitR (onX ts) (onY s c ts) mode=(0,0,0,0,0,190):=by
 have hE:amE (onX ts) (onY s c ts) [] mode 2=0:=by rw [H.am hn,if_neg (by omega),if_neg (by omega)]
 have hD:fD (onX ts) (onY s c ts)=0:=fD_like _ (fvW (iw (ts.getD 0 0))) fun x hx=>by
  obtain ⟨t,ht,rfl⟩:=List.mem_map.1 hx;rw [hl t ht]
 unfold fitR;rw [if_neg (by simpa using hE),if_pos hD]
theorem OnS.pos {t:Int}(ht:t ∈ ts) (h0:ts.getD 0 0 ∈ ts) (hne:t≠ts.getD 0 0):0<fD (onX ts) (onY s c ts):=by
 refine fD_pos _ (by unfold onX onY;simp) (List.mem_map.2 ⟨t,ht,rfl⟩) (List.mem_map.2 ⟨_,h0,rfl⟩) ?_
 obtain ⟨j,hj⟩:∃ j:Nat,j=1074:=⟨_,rfl⟩;rw [(iw_ok (H.xb ht).1 (H.xb ht).2 j hj).2.2.1,(iw_ok (H.xb h0).1 (H.xb h0).2 j hj).2.2.1];intro q;have:=Nat.two_pow_pos j;exact hne (Int.eq_of_mul_eq_mul_right (show ((2^j:Nat):Int)≠0 by omega) q)
end
end
section
open Go.ChangeShapes Go.WideShapes Go.ChangeAt Go.RowKit
theorem add_noneF (b off i:Nat):(⟨b,off,none⟩:Addr).add i=⟨b,off+i,none⟩:=by unfold Addr.add;split <;> simp_all
end
section
open Go.RowKit
def Rf (lo:Nat) (w:World) (v:Value) (R:List Nat):Prop:=w.ownsRow lo 24 1 v R.length (R.map Fw10)
theorem Rf.nil (lo:Nat) (w:World):Rf lo w (.slice none 0 0) []:=World.ownsRow_nil w lo 24 1
theorem Rf.alloc {lo:Nat}{w:World}{v:Value}{R:List Nat}(h:Rf lo w v R) (o:Obj):Rf lo (w.alloc o) v R:=World.ownsRow.alloc h o
theorem Rf.grown {lo:Nat}{w w':World}{v:Value}{R:List Nat}{row:Option Nat}(h:Rf lo w v R) (hg:w.grownBy w' row) (hne:∀ b,v.ownBlock=some b→row≠some b):Rf lo w' v R:=by
 refine ⟨h.1,?_⟩
 rcases h.2 with hn|⟨g,cap,cur,rfl,hlo,hgc,rest⟩
 · exact .inl hn
 · exact .inr ⟨g,cap,cur,rfl,hlo,(hg.block g (Array.getElem?_eq_some_iff.1 hgc).1 (fun e=>hne g rfl e.symm)).trans hgc,rest⟩
theorem Rf.lt {lo:Nat}{w:World}{v:Value}{R:List Nat}(h:Rf lo w v R) (b:Nat) (hb:v.ownBlock=some b):lo≤b∧b<w.heap.size:=by
 rcases h.2 with ⟨rfl,_⟩|⟨g,cap,cur,rfl,hlo,hg,_⟩
 · simp [Value.ownBlock] at hb
 · simp [Value.ownBlock] at hb
   subst hb;exact ⟨hlo,(Array.getElem?_eq_some_iff.1 hg).1⟩
theorem Rf.shape {lo:Nat}{w:World}{v:Value}{R:List Nat}(h:Rf lo w v R) (hR:0<R.length):∃ g cap,v=.slice (some ⟨g,0,none⟩) R.length cap∧lo≤g∧g<w.heap.size∧R.length≤cap∧cap≤maxLen∧∀ i,i<R.length→w.cell? ⟨g,i,none⟩=some (.float .f64 (R.getD i 0)):=by
 have h':=h
 rcases h.2 with ⟨_,h0⟩|⟨g,cap,cur,rfl,hlo,hg,hn,hm,hs,ht⟩
 · omega
 · refine ⟨g,cap,rfl,hlo,(Array.getElem?_eq_some_iff.1 hg).1,hn,hm,fun i hi=>?_⟩
   have:=World.ownsRow.cellAt h' i (by omega)
   rw [this,List.getElem?_map,List.getElem?_eq_getElem hi,List.getD_eq_getElem?_getD,List.getElem?_eq_getElem hi]
   rfl
theorem Rf.shape0 {lo:Nat}{w:World}{v:Value}{R:List Nat}(h:Rf lo w v R):∃ ao cap,v=.slice ao R.length cap∧R.length≤cap:=by
 rcases h.2 with ⟨rfl,h0⟩|⟨g,cap,cur,rfl,_,_,hn,_⟩
 · exact ⟨none,0,by rw [h0],by omega⟩
 · exact ⟨_,cap,rfl,hn⟩
theorem Rf.fs {lo:Nat}{w:World}{ao:Option Addr}{n c:Nat}{R:List Nat}(h:Rf lo w (.slice ao n c) R):Fs w.heap.size w ao R:=by
 intro hne;obtain ⟨g,cap,e,h1,h2,h3,h4,h5⟩:=h.shape (List.length_pos_iff.2 hne)
 cases e
 exact ⟨g,0,h2,rfl,fun i hi=>by rw [Nat.zero_add];exact h5 i hi⟩
theorem append_flts (w:World) (lo:Nat) (v:Value) (xs src:List Nat) (ao:Option Addr) (m c:Nat) (ty:TypeId) (hown:Rf lo w v xs) (hm:m=src.length)
 (hR:src≠[]→∃ b off,ao=some ⟨b,off,none⟩∧∀ i,i<src.length→w.cell? ⟨b,off+i,none⟩=some (.float .f64 (src.getD i 0)))
 (hnn:ao≠none) (hbig:xs.length+m≤100000) (hlo:lo≤w.heap.size) :
 ∃ v' w',(Builtin.append_ #[23,23] ty #[v,.slice ao m c]).run Tryz.prog w=.ok v' w'∧Rf lo w' v' (xs++src)∧w.grownBy w' v.ownBlock∧(v'.ownBlock=v.ownBlock∨v'.ownBlock=some w.heap.size):=by
 obtain ⟨i0,hi,hz0,hz1,hz2⟩:=info_parts Tryz.info_f64;subst hm;obtain ⟨a,rfl⟩:∃ a,ao=some a:=by cases ao;exact absurd rfl hnn;exact ⟨_,rfl⟩
 obtain ⟨v',w',h1,h2,h3,_,h5⟩:=run_append_own_at (P:=Tryz.prog) w lo 23 ty 24 i0 (.float .f64 0) 1 8 Tryz.und_floats hi hz0 hz1 hz2 rfl (by decide) v xs.length (xs.map Fw10) hown a src.length c (src.map Fw10) (by simp) (by
  intro j u hj;have hj2:j<src.length:=by have:=(List.getElem?_eq_some_iff.1 hj).1;simpa using this
  obtain ⟨b,off,e,hc⟩:=hR (by intro e;subst e;simp at hj2)
  cases e
  have hadd:(⟨b,off,none⟩:Addr).add j=⟨b,off+j,none⟩:=by unfold Addr.add;split <;> simp_all
  rw [hadd,hc j hj2];rw [List.getElem?_map,List.getElem?_eq_getElem hj2] at hj
  rw [List.getD_eq_getElem?_getD,List.getElem?_eq_getElem hj2]
  exact hj) (by
  intro u hu;obtain ⟨x,_,rfl⟩:=List.mem_map.1 hu
  rfl) (by unfold maxLen;omega) (by omega) hlo
 exact ⟨v',w',h1,by unfold Rf;rw [List.map_append,List.length_append];exact h2,h3,h5⟩
theorem wpList_append_flt {w:World}{ops:Array Oper}{rest:List Oper}{o:Oper}{a:Act}{Q:Exit→Act→World→Prop}(hgd:o.guard=none) (s x:Operand)
 (ho:o.op=.call { callee:=.builtin .append,args:=#[s,x],argTypes:=#[23,23] }) (v u:Value) (hs:a.eval s=v) (hx:a.eval x=u) (v':Value) (w':World)
 (hrun:(Builtin.append_ #[23,23] o.type #[v,u]).run Tryz.prog w=.ok v' w') (h:wpList Tryz.prog ops Q rest (a.put o.dst v') w'):wpList Tryz.prog ops Q (o::rest) a w:=by
 refine wpList_plain hgd fun K hK=>?_
 unfold Oper.wp;simp [execOp,ho,resolve,invoke,builtin,hs,hx,hrun,Result.andThen];exact hK _ _ h
end
section
open Go.RowKit J
structure R2 (w v:World) (v1 v2:Value) (L1 L2:List Nat):Prop where
 a:Rf w.heap.size v v1 L1
 b:Rf w.heap.size v v2 L2
 d:∀ g,v1.ownBlock=some g→v2.ownBlock≠some g
 bel:Below w.heap.size w v
theorem R2.nil {w v:World}(h:Below w.heap.size w v):R2 w v (.slice none 0 0) (.slice none 0 0) [] []:=⟨Rf.nil _ _,Rf.nil _ _,fun g e=>by simp [Value.ownBlock] at e,h⟩
theorem R2.swap {w v:World}{v1 v2:Value}{L1 L2:List Nat}(h:R2 w v v1 v2 L1 L2):R2 w v v2 v1 L2 L1:=⟨h.b,h.a,fun g e q=>h.d g q e,h.bel⟩
theorem R2.push {w v:World}{v1 v2:Value}{L1 L2:List Nat}(h:R2 w v v1 v2 L1 L2) (x:Nat) (hl:L1.length≤90000) :
 ∃ v' w',(Builtin.append_ #[23,23] 23 #[v1,.slice (some ⟨v.heap.size,0,none⟩) 1 1]).run Tryz.prog (v.alloc (Obj.cells #[.float .f64 x] 24))=.ok v' w'∧R2 w w' v' v2 (L1++[x]) L2∧v.grownBy w' v1.ownBlock:=by
 have hs:=h.bel.size
 obtain ⟨v',w',r1,r2,r3,r4⟩:=append_flts (v.alloc (Obj.cells #[.float .f64 x] 24)) w.heap.size v1 L1 [x] (some ⟨v.heap.size,0,none⟩) 1 1 23 (h.a.alloc _) rfl
  (fun _=>⟨v.heap.size,0,rfl,fun i hi=>by
   obtain rfl:i=0:=by simp at hi;omega
   unfold World.cell?;simp only [heap_alloc_new];rfl⟩) (by simp) (by omega) (by simp;omega)
 refine ⟨v',w',r1,⟨r2,(h.b.alloc _).grown r3 (fun g hb e=>h.d g e hb),fun g e q=>?_,(h.bel.alloc hs _).grown r3 (by simp;omega) (fun k e=>(h.a.lt k e).1)⟩,?_⟩
 · rcases r4 with r | r
   · exact h.d g (by rw [←r];exact e) q
   · rw [r] at e
     have:=(h.b.lt g q).2;simp at e;omega
 · exact (World.grownBy_alloc v _ _).trans r3
end
section
open Go.ChangeShapes Go.WideShapes Go.ChangeAt Go.RowKit
def Is7 (B:Nat) (w:World) (ao:Option Addr) (xs:List Int):Prop :=
 xs≠[]→∃ b off,b<B∧ao=some ⟨b,off,none⟩∧∀ i,i<xs.length→w.cell? ⟨b,off+i,none⟩=some (.int .i64 (xs.getD i 0))
theorem Is7.at {B:Nat}{w w':World}{ao:Option Addr}{xs:List Int}(h:Is7 B w ao xs) (hb:Below B w w') (i:Nat) (hi:i<xs.length):∃ b off,ao=some ⟨b,off,none⟩∧w'.cell? ⟨b,off+i,none⟩=some (.int .i64 (xs.getD i 0)):=by
 obtain ⟨b,off,h1,h2,h3⟩:=h (by intro e;subst e;simp at hi)
 exact ⟨b,off,h2,(hb.cell (p:=⟨b,off+i,none⟩) h1).trans (h3 i hi)⟩
def I64 (xs:List Int):Prop:=∀ i,-9223372036854775808≤xs.getD i 0∧xs.getD i 0≤9223372036854775807
structure CameI (w:World) (a:Option Addr) (n c:Nat) (xs:List Int):Prop where
 len:n=xs.length
 cap:n≤c
 wf:I64 xs
 rd:Is7 w.heap.size w a xs
 nil:a=none→c=0
def numI {H:Type} (y:DataW H×List MemPlace):Int:=match y.1 with | .lit (.int _ n)=>n | _=>0
theorem Tryz.cellsI7:Tryz.prog.cellsOf 3=1:=by kernel_rfl
theorem Tryz.bytesI7:Tryz.prog.bytesOf 3=8:=by kernel_rfl
theorem cameI_of {H:Type}{enc:TypeId×Value→H}{W:World}{a:Option Addr}{n c:Nat}{d:DataW H}{p:List MemPlace}(h:DataW.Trod enc Tryz.prog W 0 (fun _=>true) true 36 (.slice a n c) d p) :
 ∃ xs,CameI W a n c xs∧((d=.nil∧c=0)∨∃ elems spare:List (DataW H),d=.slice elems spare∧elems.length+spare.length=c):=by
 obtain ⟨fuel,hf⟩:=h
 rcases DataW.trod_slice Tryz.underlying36 hf with ⟨hcs,hx⟩|⟨x,l,cp,elems,rest,m,_,hcs,hx,hb,hl,hm,hlen,hel,hsp,hns⟩
 · simp [Value.cells] at hcs
   obtain ⟨rfl,rfl,rfl⟩:=hcs;exact ⟨[],⟨rfl,Nat.le_refl _,(fun i=>by simp),(fun h=>absurd rfl h),fun _=>rfl⟩,.inl ⟨(Prod.mk.inj hx).1,rfl⟩⟩
 · simp [Value.cells] at hcs
   obtain ⟨rfl,rfl,rfl⟩:=hcs
   have each:∀ i y,i<n→elems[i]?=some y→y=(.lit (.int .i64 (numI y)),[])∧(-9223372036854775808≤numI y∧numI y≤9223372036854775807)∧W.cell? (x.add i)=some (.int .i64 (numI y)):=by
    intro i y hi hy;have hb':=hel i hi;rw [hy,Tryz.cellsI7,Nat.mul_one,Option.bind_eq_some_iff] at hb';obtain ⟨cs',hcs,hy'⟩:=hb';obtain ⟨e,e2,rfl,hw⟩:=DataW.trod_int Tryz.underlying3 hy';subst e2
    have hw':-9223372036854775808≤e∧e≤9223372036854775807:=by
     simp [Lit.wf,IntKind.min,IntKind.max,IntKind.signed,IntKind.bits] at hw;omega
    exact ⟨rfl,hw',cell_of_cells?_one hcs⟩
   refine ⟨elems.map numI,⟨by simp [hlen],hl,?_,?_,fun e=>by cases e⟩,.inr ⟨_,_,(Prod.mk.inj hx).1,?_⟩⟩
   · intro i
     by_cases hi:i<elems.length
     · have:=(each i (elems[i]'hi) (by omega) (List.getElem?_eq_getElem _)).2.1
       simpa [List.getD_eq_getElem?_getD,hi] using this
     · simp [List.getD_eq_getElem?_getD,hi]
   · intro hne
     obtain ⟨b,off,spot⟩:=x
     have hn0:0<n:=by
      rcases Nat.eq_zero_or_pos n with h0|h0
      · rw [h0] at hlen;have:=List.eq_nil_of_length_eq_zero hlen;subst this;simp at hne
      · exact h0
     have hc0:=(each 0 (elems[0]'(by omega)) hn0 (List.getElem?_eq_getElem _)).2.2
     have hspot:spot=none:=by simpa [Addr.add] using World.cell?_spot hc0
     subst hspot;refine ⟨b,off,World.block_lt_of_cell? W _ (by simpa [Addr.add] using hc0),rfl,fun i hi=>?_⟩
     rw [List.length_map] at hi;have hadd:=add_noneF b off i;have:=(each i (elems[i]'hi) (by omega) (List.getElem?_eq_getElem _)).2.2
     rw [hadd] at this;rw [this];simp [List.getD_eq_getElem?_getD,hi]
   · have hr:=(hsp rfl).1
     simp only [List.length_map];omega
theorem cameI_reach {H:Type}{ts:List TypeId}{ds:List (DataW H)}(h:(DataW.weightsEach Tryz.prog ts ds).all (·≤reachBytes)=true) {j:Nat}{d:DataW H}{c n:Nat}(ht:ts[j]?=some 36) (hd:ds[j]?=some d) (hn:n≤c)
 (hc:(d=.nil∧c=0)∨∃ elems spare:List (DataW H),d=.slice elems spare∧elems.length+spare.length=c):n≤17592186043904:=by
 rcases hc with ⟨_,rfl⟩|⟨elems,spare,rfl,hl⟩
 · omega
 · have:=sized_slice h ht hd Tryz.underlying36
   rw [Tryz.bytesI7,hl] at this;simp only [reachBytes] at this;omega
end
section
open Go Go.RowKit J
open Go.Proofs.YtopgffjnejaijaaGreatDoor.B (f64bits f64frombits)
attribute [local go_sem] Ps.st_floatP f64bits f64frombits
theorem live19 (w:World) (hT:Tab w):Calls Tryz.prog 9 #[] w fun r w'=>r=.returned (.bool true)∧Below w.heap.size w w':=by
 have o0:(FloatKind.f64.format.order 4602678819172646912 4602678819172646912==some .eq)=true:=by decide +kernel
 have o1:(FloatKind.f64.format.order 4604930618986332160 4604930618986332160==some .eq)=true:=by decide +kernel
 have o2:(FloatKind.f64.format.order 4609434218613702656 4609434218613702656==some .eq)=true:=by decide +kernel
 have o3:(FloatKind.f64.format.order 4626604192193052672 4626604192193052672==some .eq)=true:=by decide +kernel
 obtain ⟨Q2,Q4,hq⟩:=live_line;have HQ:=qsd hq;have HT:=qsd hT;clear hq hT;obtain ⟨V1,hV1⟩:∃ V,V=(w.alloc (Obj.cells #[.float .f64 0,.float .f64 4607182418800017408,.float .f64 4611686018427387904] 24)).alloc (Obj.cells #[.float .f64 0,.float .f64 4607182418800017408,.float .f64 4607182418800017408] 24):=⟨_,rfl⟩;obtain ⟨ga1,hga1⟩:∃ g,g=w.heap.size:=⟨_,rfl⟩;obtain ⟨gb1,hgb1⟩:∃ g,g=w.heap.size+1:=⟨_,rfl⟩
 have BV1:Aside (Below w.heap.size w V1∧Fs V1.heap.size V1 (some ⟨ga1,0,none⟩) [0,4607182418800017408,4611686018427387904]∧Fs V1.heap.size V1 (some ⟨gb1,0,none⟩) [0,4607182418800017408,4607182418800017408]):=by
  have z1:=lit19 w [0,4607182418800017408,4611686018427387904] ga1 hga1;have z2:=lit19 (w.alloc (Obj.cells #[.float .f64 0,.float .f64 4607182418800017408,.float .f64 4611686018427387904] 24)) [0,4607182418800017408,4607182418800017408] gb1 (by rw [hgb1];simp)
  rw [hV1];exact ⟨(bel_alloc _ _).trans ((bel_alloc _ _).mono (by simp)),(z1.below (bel_alloc _ _)).mono (by simp),z2⟩
 have HV1:=(qsd (ai hV1 (ai hga1 hgb1)));clear hV1 hga1 hgb1;have C:=hid (Line19z [0,4607182418800017408,4611686018427387904] [0,4607182418800017408,4607182418800017408] (some ⟨ga1,0,none⟩) (some ⟨gb1,0,none⟩) 3 3 3 3 0 V1 rfl rfl BV1.out.2.1 BV1.out.2.2 (by unfold W64;decide) (by unfold W64;decide) (HT.out.belows BV1.out.1) HQ.out)
 go_enter Tryz.func9,Tryz.ntmps9
 go_wp2_with fail
 rw [←HV1.out.1]
 try rw [←HV1.out.2.2]
 try rw [←HV1.out.2.1]
 clear HV1;refine C.out.mono ?_;clear C;rintro r u1 ⟨rfl,hb⟩;obtain ⟨U1,hU1⟩:∃ U,U=u1.alloc (Obj.cells #[.int .i64 3,.float .f64 4602678819172646912,.float .f64 Q2,.float .f64 4604930618986332160,.float .f64 Q4] 26):=⟨_,rfl⟩;obtain ⟨g1,hg1⟩:∃ g,g=u1.heap.size:=⟨_,rfl⟩
 have B1:Aside (Below w.heap.size w U1∧Bl U1 g1 26 [.int .i64 3,.float .f64 4602678819172646912,.float .f64 Q2,.float .f64 4604930618986332160,.float .f64 Q4]):=by
  rw [hU1,hg1];exact ⟨(BV1.out.1.trans (hb.mono BV1.out.1.size)).trans ((bel_alloc _ _).mono (Nat.le_trans BV1.out.1.size hb.size)),Bl.new _ 26 [.int .i64 3,.float .f64 4602678819172646912,.float .f64 Q2,.float .f64 4604930618986332160,.float .f64 Q4]⟩
 have HU1:=(qsd (ai hU1 hg1));clear hU1 hg1 hb BV1;obtain ⟨V2,hV2⟩:∃ V,V=(U1.alloc (Obj.cells #[.float .f64 4611686018427387904] 24)).alloc (Obj.cells #[.float .f64 4613937818241073152] 24):=⟨_,rfl⟩;obtain ⟨ga2,hga2⟩:∃ g,g=U1.heap.size:=⟨_,rfl⟩;obtain ⟨gb2,hgb2⟩:∃ g,g=U1.heap.size+1:=⟨_,rfl⟩
 have BV2:Aside (Below w.heap.size w V2∧Fs V2.heap.size V2 (some ⟨ga2,0,none⟩) [4611686018427387904]∧Fs V2.heap.size V2 (some ⟨gb2,0,none⟩) [4613937818241073152]):=by
  have z1:=lit19 U1 [4611686018427387904] ga2 hga2;have z2:=lit19 (U1.alloc (Obj.cells #[.float .f64 4611686018427387904] 24)) [4613937818241073152] gb2 (by rw [hgb2];simp)
  rw [hV2];exact ⟨(B1.out.1.trans ((bel_alloc _ _).mono B1.out.1.size)).trans ((bel_alloc _ _).mono (by simp;have:=B1.out.1.size;omega)),(z1.below (bel_alloc _ _)).mono (by simp),z2⟩
 have HV2:=(qsd (ai hV2 (ai hga2 hgb2)));clear hV2 hga2 hgb2;have C:=hid (Through19z [4611686018427387904] [4613937818241073152] (some ⟨ga2,0,none⟩) (some ⟨gb2,0,none⟩) 1 1 1 1 0 V2 rfl rfl BV2.out.2.1 BV2.out.2.2 (by unfold W64;decide) (by unfold W64;decide) (HT.out.belows BV2.out.1) live_through)
 have B2:Aside (Bl V2 g1 26 [.int .i64 3,.float .f64 4602678819172646912,.float .f64 Q2,.float .f64 4604930618986332160,.float .f64 Q4]):=by rw [HV2.out.1];exact (B1.out.2.alloc _).alloc _
 go_upto_region 2 with fail
 rw [←HU1.out.1,←HU1.out.2];clear HU1 B1
 go_wp2_with fail
 rw [←HV2.out.1]
 try rw [←HV2.out.2.2]
 try rw [←HV2.out.2.1]
 clear HV2;refine C.out.mono ?_;clear C;rintro r u2 ⟨rfl,hb⟩;have B3:=qsd (ai (BV2.out.1.trans (hb.mono BV2.out.1.size)) (B2.out.below hb B2.out.lt));clear hb BV2 B2;obtain ⟨V3,hV3⟩:∃ V,V=(u2.alloc (Obj.cells #[.float .f64 0,.float .f64 4607182418800017408,.float .f64 4611686018427387904] 24)).alloc (Obj.cells #[.float .f64 4607182418800017408,.float .f64 4613937818241073152,.float .f64 4617315517961601024] 24):=⟨_,rfl⟩;obtain ⟨ga3,hga3⟩:∃ g,g=u2.heap.size:=⟨_,rfl⟩;obtain ⟨gb3,hgb3⟩:∃ g,g=u2.heap.size+1:=⟨_,rfl⟩
 have BV3:Aside (Below w.heap.size w V3∧Fs V3.heap.size V3 (some ⟨ga3,0,none⟩) [0,4607182418800017408,4611686018427387904]∧Fs V3.heap.size V3 (some ⟨gb3,0,none⟩) [4607182418800017408,4613937818241073152,4617315517961601024]):=by
  have z1:=lit19 u2 [0,4607182418800017408,4611686018427387904] ga3 hga3;have z2:=lit19 (u2.alloc (Obj.cells #[.float .f64 0,.float .f64 4607182418800017408,.float .f64 4611686018427387904] 24)) [4607182418800017408,4613937818241073152,4617315517961601024] gb3 (by rw [hgb3];simp)
  rw [hV3];exact ⟨(B3.out.1.trans ((bel_alloc _ _).mono B3.out.1.size)).trans ((bel_alloc _ _).mono (by simp;have:=B3.out.1.size;omega)),(z1.below (bel_alloc _ _)).mono (by simp),z2⟩
 have HV3:=(qsd (ai hV3 (ai hga3 hgb3)));clear hV3 hga3 hgb3;have C:=hid (At19z [0,4607182418800017408,4611686018427387904] [4607182418800017408,4613937818241073152,4617315517961601024] 4621819117588971520 (some ⟨ga3,0,none⟩) (some ⟨gb3,0,none⟩) 3 3 3 3 0 V3 rfl rfl BV3.out.2.1 BV3.out.2.2 (by unfold W64;decide) (by unfold W64;decide) (by decide) (HT.out.belows BV3.out.1) live_at)
 have B4:Aside (Bl V3 g1 26 [.int .i64 3,.float .f64 4602678819172646912,.float .f64 Q2,.float .f64 4604930618986332160,.float .f64 Q4]):=by rw [HV3.out.1];exact (B3.out.2.alloc _).alloc _
 clear B3
 go_wp2_with fail
 rw [←HV3.out.1]
 try rw [←HV3.out.2.2]
 try rw [←HV3.out.2.1]
 clear HV3;refine C.out.mono ?_;clear C;rintro r u3 ⟨rfl,hb⟩;have B5:=qsd (ai (BV3.out.1.trans (hb.mono BV3.out.1.size)) (B4.out.below hb B4.out.lt));clear hb BV3 B4;have z0:=B5.out.2.cell 0 _ rfl;have z1:=B5.out.2.cell 1 _ rfl;have z3:=B5.out.2.cell 3 _ rfl;go_wp2;exact bodyPost_ret (v:=.bool true) (by simp [results,Tryz.results9,go_sem]) rfl ⟨rfl,B5.out.1⟩
end
end Go.Proofs.YtopgffjnejaijaaGreatDoor
