import Derived.Test.YtopgffjnejaijaaGreatDoorFI6x
import Derived.Test.YtopgffjnejaijaaGreatDoorZ14x
import Derived.Test.YtopgffjnejaijaaGreatDoorD30x
import Derived.Test.YtopgffjnejaijaaGreatDoorD4x
import Derived.Test.YtopgffjnejaijaaGreatDoorM1x
import Derived.ProofKit
import Derived.OpenShut
import Derived.ChangeOld
import Derived.ChangeArms
import Derived.SizedLaws
import Derived.Laws.Cover2
import Derived.Test.YtopgffjnejaijaaGreatDoorS6x
import Derived.Deep.Cut
set_option linter.unusedVariables false
set_option linter.unusedSimpArgs false
set_option maxHeartbeats 16000000
set_option maxRecDepth 20000
namespace Go.Proofs.YtopgffjnejaijaaGreatDoor
namespace J
end J
section
open Go Go.RowKit J
structure Gd (xs ys:List Nat):Prop where
 x64:W64 xs
 y64:W64 ys
 xf:∀ x ∈ xs,finW x
 yf:∀ x ∈ ys,finW x
 len:xs.length=ys.length
 le:xs.length≤65536
def fD (xs ys:List Nat):Int:=(xs.length:Int)*pS xs xs-zS fvW xs*zS fvW xs
def fC (xs ys:List Nat):Int:=(xs.length:Int)*pS xs ys-zS fvW xs*zS fvW ys
def fT (xs ys:List Nat):Int:=(xs.length:Int)*pS ys ys-zS fvW ys*zS fvW ys
def fK (xs ys:List Nat):Int:=pS xs xs*zS fvW ys-zS fvW xs*pS xs ys
section
variable {xs ys : List Nat} (G : Gd xs ys)
include G
theorem Gd.n16:Bd 16 ((xs.length:Nat):Int):=Bd.nat (by have:=G.le;omega)
theorem Gd.sx:Bd 2114 (zS fvW xs):=fS_bd19 G.x64 G.xf G.le
theorem Gd.sy:Bd 2114 (zS fvW ys):=fS_bd19 G.y64 G.yf (by have:=G.len;have:=G.le;omega)
theorem Gd.xx:Bd 4212 (pS xs xs):=pS_bd G.x64 G.x64 G.xf G.xf G.le
theorem Gd.xy:Bd 4212 (pS xs ys):=pS_bd G.x64 G.y64 G.xf G.yf G.le
theorem Gd.yy:Bd 4212 (pS ys ys):=pS_bd G.y64 G.y64 G.yf G.yf (by have:=G.len;have:=G.le;omega)
theorem Gd.d:Bd 4229 (fD xs ys):=Bd.sub (m:=4228) (G.n16.mul G.xx) (G.sx.mul G.sx)
theorem Gd.c:Bd 4229 (fC xs ys):=Bd.sub (m:=4228) (G.n16.mul G.xy) (G.sx.mul G.sy)
theorem Gd.t:Bd 4229 (fT xs ys):=Bd.sub (m:=4228) (G.n16.mul G.yy) (G.sy.mul G.sy)
theorem Gd.k:Bd 6327 (fK xs ys):=Bd.sub (m:=6326) (G.xx.mul G.sy) (G.sx.mul G.xy)
end
theorem gm {u v a b:Nat}{V W:Int}(h1:Bd a V) (h2:Bd b W) (hu:u≤50000:=by decide) (hv:v≤50000:=by decide) (ha:a≤40000:=by decide) (hb:b≤40000:=by decide):mulD (gV u V) (gV v W)=gV (u+v) (V*W):=g_mul hu hv ha hb h1 h2
theorem gf {u m:Nat}{V:Int}(h:Bd m V) (hu:u≤100000:=by decide) (hm:m≤99999:=by decide):Fm (gV u V):=g_fm hu hm h
theorem gs {u m:Nat}{V W:Int}(h1:Bd m V) (h2:Bd m W) (hu:u≤100000:=by decide) (hm:m≤90000:=by decide):addD (gV u V) (mkS (!dN (gV u W)) (dX (gV u W)) (dE (gV u W)))=gV u (V-W):=g_sub hu hm h1 h2
theorem ga {u m:Nat}{V W:Int}(h1:Bd m V) (h2:Bd m W) (hu:u≤100000:=by decide) (hm:m≤90000:=by decide):addD (gV u V) (gV u W)=gV u (V+W):=g_add hu hm h1 h2
theorem gz {u m:Nat}{V:Int}(h:Bd m V) (hu:u≤100000:=by decide) (hm:m≤90000:=by decide):dX (gV u V)=0↔V=0:=(g_sign hu hm h).1
theorem lineOf19 {xs ys:List Nat}(G:Gd xs ys) (a b:Option Addr) (n c d:Nat) (w:World) (hn:n=xs.length) (hF:Fs w.heap.size w a xs) (hF2:Fs w.heap.size w b ys) (hT:Tab w) :
 Calls Tryz.prog 22 #[.slice a n c,.slice b n d] w fun r w'=>(∃ v,r=.returned v∧Ln19 w' v (gV 0 (n:Nat)) (gV 2148 (fD xs ys)) (gV 2148 (fC xs ys)) (gV 2148 (fT xs ys)) (gV 3222 (fK xs ys)))∧Below w.heap.size w w':=by
 have hl:=G.le;have hm:n=ys.length:=by rw [hn];exact G.len
 have b1:=G.n16.mul G.xx;have b2:=G.sx.mul G.sx;have b3:=G.n16.mul G.xy;have b4:=G.sx.mul G.sy;have b5:=G.n16.mul G.yy;have b6:=G.sy.mul G.sy;have b7:=G.xx.mul G.sy;have b8:=G.sx.mul G.xy;have e:=hn;have hs:∀ u:World,Below w.heap.size w u→Fs u.heap.size u a xs:=fun u hu=>(hF.below hu).mono hu.size
 have hs2:∀ u:World,Below w.heap.size w u→Fs u.heap.size u b ys:=fun u hu=>(hF2.below hu).mono hu.size
 refine lineOf_core w a b n c d (by omega) (gV 0 (n:Nat)) (gV 1074 (zS fvW xs)) (gV 1074 (zS fvW ys)) (gV 2148 (pS xs xs)) (gV 2148 (pS xs ys)) (gV 2148 (pS ys ys))
  (gV 2148 ((xs.length:Int)*pS xs xs)) (gV 2148 (zS fvW xs*zS fvW xs)) (gV 2148 ((xs.length:Int)*pS xs ys)) (gV 2148 (zS fvW xs*zS fvW ys)) (gV 2148 ((xs.length:Int)*pS ys ys)) (gV 2148 (zS fvW ys*zS fvW ys)) (gV 3222 (pS xs xs*zS fvW ys)) (gV 3222 (zS fvW xs*pS xs ys))
  (gV 2148 (fD xs ys)) (gV 2148 (fC xs ys)) (gV 2148 (fT xs ys)) (gV 3222 (fK xs ys))
  ⟨?_,gf G.sx,gf G.sy,gf G.xx,gf G.xy,gf G.yy,gf b1,gf b2,gf b3,gf b4,gf b5,gf b6,gf b7,gf b8,gf G.d,gf G.c,gf G.t,gf G.k⟩
  ⟨?_,gm G.sx G.sx,?_,gm G.sx G.sy,?_,gm G.sy G.sy,gm G.xx G.sy,gm G.sx G.xy,gs b1 b2,gs b3 b4,gs b5 b6,gs b7 b8⟩
  (hid fun u hu=>Int14 n u (hT.belows hu) (by omega) (by omega)) (hid fun u hu=>total19 xs a n c u hn (hs u hu) G.x64 G.xf (hT.belows hu) (by omega)) (hid fun u hu=>total19 ys b n d u hm (hs2 u hu) G.y64 G.yf (hT.belows hu) (by omega))
  (hid fun u hu=>products19 xs xs a a n c c u hn hn (hs u hu) (hs u hu) G.x64 G.x64 G.xf G.xf (hT.belows hu) (by omega)) (hid fun u hu=>products19 xs ys a b n c d u hn hm (hs u hu) (hs2 u hu) G.x64 G.y64 G.xf G.yf (hT.belows hu) (by omega)) (hid fun u hu=>products19 ys ys b b n d d u hm hm (hs2 u hu) (hs2 u hu) G.y64 G.y64 G.yf G.yf (hT.belows hu) (by omega))
  (qsd fun u hu=>hT.belows hu)
 · rw [hn];exact gf G.n16
 · rw [hn];exact gm (u:=0) G.n16 G.xx
 · rw [hn];exact gm (u:=0) G.n16 G.xy
 · rw [hn];exact gm (u:=0) G.n16 G.yy
theorem am_ok {xs ys zs:List Nat}{mode:Int}{least:Nat}(hW:W64 xs) (hV:W64 ys) (h:amE xs ys zs mode least=0):Gd xs ys∧0≤mode∧mode≤4∧least≤xs.length∧fiB zs=true:=by
 unfold amE at h
 by_cases h1:mode<0∨4<mode
 · rw [if_pos h1] at h;omega
 rw [if_neg h1] at h
 by_cases h2:65536<xs.length∨65536<ys.length
 · rw [if_pos h2] at h;omega
 rw [if_neg h2] at h
 by_cases h3:xs.length≠ys.length
 · rw [if_pos h3] at h;omega
 rw [if_neg h3] at h
 by_cases h4:(fiB xs&&fiB ys&&fiB zs)=false
 · rw [if_pos h4] at h;omega
 rw [if_neg h4] at h
 by_cases h5:xs.length<least
 · rw [if_pos h5] at h;omega
 rw [Bool.not_eq_false,Bool.and_eq_true,Bool.and_eq_true] at h4;exact ⟨⟨hW,hV,(fiB_iff _).1 h4.1.1,(fiB_iff _).1 h4.1.2,by omega,by omega⟩,by omega,by omega,by omega,h4.2⟩
noncomputable def fitR (xs ys:List Nat) (mode:Int):Int×Nat×Nat×Nat×Nat×Int :=
 if amE xs ys [] mode 2≠0 then (0,0,0,0,0,amE xs ys [] mode 2) else if fD xs ys=0 then (0,0,0,0,0,190) else
  ((xs.length:Nat),(qR19 (gV 2148 (fC xs ys)) (gV 2148 (fD xs ys)) mode).1,(qR19 (gV 3222 (fK xs ys)) (gV 2148 (fD xs ys)) mode).1,
    (if fT xs ys=0 then 4607182418800017408 else (qR19 (gV 4296 (fC xs ys*fC xs ys)) (gV 4296 (fD xs ys*fT xs ys)) mode).1),
    (qR19 (gV 4296 (fD xs ys*fT xs ys-fC xs ys*fC xs ys)) (gV 2148 ((xs.length:Int)*fD xs ys)) mode).1,0)
abbrev fitV (z:Int×Nat×Nat×Nat×Nat×Int):Value:=.tuple #[.agg #[.int .i64 z.1,.float .f64 z.2.1,.float .f64 z.2.2.1,.float .f64 z.2.2.2.1,.float .f64 z.2.2.2.2.1],.int .i64 z.2.2.2.2.2]
theorem fs_nil19 (B:Nat) (w:World) (a:Option Addr):Fs B w a []:=fun h=>absurd rfl h
theorem w64_nil:W64 []:=fun x hx=>by cases hx
theorem Line19 (xs ys:List Nat) (a b:Option Addr) (n m c d:Nat) (mode:Int) (w:World) (hn:n=xs.length) (hm:m=ys.length) (hF:Fs w.heap.size w a xs) (hF2:Fs w.heap.size w b ys) (hW:W64 xs) (hV:W64 ys) (hT:Tab w) :
 Calls Tryz.prog 10 #[.slice a n c,.slice b m d,.int .i64 mode] w fun r w'=>r=.returned (fitV (fitR xs ys mode))∧Below w.heap.size w w':=by
 have hs:∀ u:World,Below w.heap.size w u→Fs u.heap.size u a xs:=fun u hu=>(hF.below hu).mono hu.size
 have hs2:∀ u:World,Below w.heap.size w u→Fs u.heap.size u b ys:=fun u hu=>(hF2.below hu).mono hu.size
 have HA:∀ u:World,Below w.heap.size w u→Calls Tryz.prog 21 #[.slice a n c,.slice b m d,.int .i64 mode,.int .i64 2,.slice none 0 0] u fun r w'=>r=.returned (.int .i64 (amE xs ys [] mode 2))∧Below u.heap.size u w' :=
  fun u hu=>amiss19 xs ys [] a b none n m 0 c d 0 mode 2 u hn hm rfl (by omega) (by omega) (hs u hu) (hs2 u hu) (fs_nil19 _ _ _) hW hV w64_nil
 unfold fitR
 by_cases hE:amE xs ys [] mode 2=0
 · rw [if_neg (by simpa using hE)]
   rw [hE] at HA;obtain ⟨G,h0,h4,h2,_⟩:=am_ok hW hV hE;have hnm:n=m:=by rw [hn,hm];exact G.len
   have HL:Hid (∀ u:World,Below w.heap.size w u→Calls Tryz.prog 22 #[.slice a n c,.slice b m d] u fun r w'=>(∃ v,r=.returned v∧Ln19 w' v (gV 0 (n:Nat)) (gV 2148 (fD xs ys)) (gV 2148 (fC xs ys)) (gV 2148 (fT xs ys)) (gV 3222 (fK xs ys)))∧Below u.heap.size u w') :=
    fun u hu=>by subst hnm;exact lineOf19 G a b n c d u hn (hs u hu) (hs2 u hu) (hT.belows hu)
   have bn:Bd 16 ((n:Nat):Int):=by rw [hn];exact G.n16
   have FF:Aside (Fm (gV 0 ((n:Nat):Int))∧Fm (gV 2148 (fD xs ys))∧Fm (gV 2148 (fC xs ys))∧Fm (gV 2148 (fT xs ys))∧Fm (gV 3222 (fK xs ys))∧Fm (gV 4296 (fC xs ys*fC xs ys))∧Fm (gV 4296 (fD xs ys*fT xs ys))∧Fm (gV 4296 (fD xs ys*fT xs ys-fC xs ys*fC xs ys))∧Fm (gV 2148 ((n:Int)*fD xs ys))) :=
    ⟨gf bn,gf G.d,gf G.c,gf G.t,gf G.k,gf (G.c.mul G.c),gf (G.d.mul G.t),gf ((G.d.mul G.t).sub (G.c.mul G.c)),gf (bn.mul G.d)⟩
   by_cases hD:fD xs ys=0
   · rw [if_pos hD]
     exact Line_flat mode ((gz G.d).2 hD) FF (hid HA) HL
   · rw [if_neg hD]
     have C:=Line_ok (a:=a) (b:=b) (n:=n) (m:=m) (c:=c) (d:=d) mode hnm (fun h=>hD ((gz G.d).1 h)) FF ⟨gm G.d G.t,gm G.c G.c,gs (G.d.mul G.t) (G.c.mul G.c),gm (u:=0) bn G.d⟩ (qsd fun u hu=>hT.belows hu) (hid HA) HL
     refine C.mono ?_;rintro r w' ⟨rfl,hb⟩;refine ⟨?_,hb⟩;have ht:(dX (gV 2148 (fT xs ys))=0)=(fT xs ys=0):=propext (gz G.t);simp only [ht,hn]
 · rw [if_pos hE]
   exact Line_no mode _ hE (hid HA)
noncomputable def atR (xs ys:List Nat) (x:Nat) (mode:Int):Nat×Int :=
 if amE xs ys [x] mode 2≠0 then (0,amE xs ys [x] mode 2) else if fD xs ys=0 then (0,190) else
  ((qR19 (gV 3222 (fK xs ys+fC xs ys*fvW x)) (gV 2148 (fD xs ys)) mode).1,0)
theorem At19 (xs ys:List Nat) (x:Nat) (a b:Option Addr) (n m c d:Nat) (mode:Int) (w:World) (hn:n=xs.length) (hm:m=ys.length) (hF:Fs w.heap.size w a xs) (hF2:Fs w.heap.size w b ys) (hW:W64 xs) (hV:W64 ys) (hx:x<18446744073709551616) (hT:Tab w) :
 Calls Tryz.prog 13 #[.slice a n c,.slice b m d,.float .f64 x,.int .i64 mode] w fun r w'=>r=.returned (.tuple #[.float .f64 (atR xs ys x mode).1,.int .i64 (atR xs ys x mode).2])∧Below w.heap.size w w':=by
 have hs:∀ u:World,Below w.heap.size w u→Fs u.heap.size u a xs:=fun u hu=>(hF.below hu).mono hu.size
 have hs2:∀ u:World,Below w.heap.size w u→Fs u.heap.size u b ys:=fun u hu=>(hF2.below hu).mono hu.size
 have HA:∀ u:World,Below w.heap.size w u→∀ g:Nat,w.heap.size≤g→u.cell? ⟨g,0,none⟩=some (.float .f64 x)→Calls Tryz.prog 21 #[.slice a n c,.slice b m d,.int .i64 mode,.int .i64 2,.slice (some ⟨g,0,none⟩) 1 1] u fun r w'=>r=.returned (.int .i64 (amE xs ys [x] mode 2))∧Below u.heap.size u w' :=
  fun u hu g hg hc=>amiss19 xs ys [x] a b (some ⟨g,0,none⟩) n m 1 c d 1 mode 2 u hn hm rfl (by omega) (by omega) (hs u hu) (hs2 u hu) (fun _=>⟨g,0,World.block_lt_of_cell? u _ hc,rfl,fun i hi=>by
   have:i=0:=by simp at hi;omega
   subst this;exact hc⟩) hW hV (fun z hz=>by rw [List.mem_singleton] at hz;rw [hz];exact hx)
 unfold atR
 by_cases hE:amE xs ys [x] mode 2=0
 · rw [if_neg (by simpa using hE)]
   rw [hE] at HA;obtain ⟨G,h0,h4,h2,h5⟩:=am_ok hW hV hE;have fx:finW x:=(fiB_iff _).1 h5 x List.mem_cons_self;have hnm:n=m:=by rw [hn,hm];exact G.len
   have HL:Hid (∀ u:World,Below w.heap.size w u→Calls Tryz.prog 22 #[.slice a n c,.slice b m d] u fun r w'=>(∃ v,r=.returned v∧Ln19 w' v (gV 0 (n:Nat)) (gV 2148 (fD xs ys)) (gV 2148 (fC xs ys)) (gV 2148 (fT xs ys)) (gV 3222 (fK xs ys)))∧Below u.heap.size u w') :=
    fun u hu=>by subst hnm;exact lineOf19 G a b n c d u hn (hs u hu) (hs2 u hu) (hT.belows hu)
   have bx:=fv_bd hx fx
   have FF:Aside (Fm (gV 2148 (fD xs ys))∧Fm (gV 2148 (fC xs ys))∧Fm (gV 3222 (fK xs ys))∧Fm (gV 1074 (fvW x))∧Fm (gV 3222 (fC xs ys*fvW x))∧Fm (gV 3222 (fK xs ys+fC xs ys*fvW x))) :=
    ⟨gf G.d,gf G.c,gf G.k,gf bx,gf (G.c.mul bx),gf (G.k.add (G.c.mul bx))⟩
   by_cases hD:fD xs ys=0
   · rw [if_pos hD]
     exact At_flat x mode ((gz G.d).2 hD) FF (hid HA) HL
   · rw [if_neg hD]
     exact At_ok x mode (fun h=>hD ((gz G.d).1 h)) FF ⟨gm G.c bx,ga G.k (G.c.mul bx)⟩ (qsd fun u hu=>hT.belows hu) (hid HA) HL (hid fun u hu=>of_any8 x ⟨hx,fx⟩ u (hT.belows hu))
 · rw [if_pos hE]
   exact At_no x mode _ hE (hid HA)
noncomputable def thR (xs ys:List Nat) (mode:Int):Nat×Int :=
 if amE xs ys [] mode 1≠0 then (0,amE xs ys [] mode 1) else if pS xs xs=0 then (0,190) else ((qR19 (gV 2148 (pS xs ys)) (gV 2148 (pS xs xs)) mode).1,0)
theorem Through19 (xs ys:List Nat) (a b:Option Addr) (n m c d:Nat) (mode:Int) (w:World) (hn:n=xs.length) (hm:m=ys.length) (hF:Fs w.heap.size w a xs) (hF2:Fs w.heap.size w b ys) (hW:W64 xs) (hV:W64 ys) (hT:Tab w) :
 Calls Tryz.prog 12 #[.slice a n c,.slice b m d,.int .i64 mode] w fun r w'=>r=.returned (.tuple #[.float .f64 (thR xs ys mode).1,.int .i64 (thR xs ys mode).2])∧Below w.heap.size w w':=by
 have hs:∀ u:World,Below w.heap.size w u→Fs u.heap.size u a xs:=fun u hu=>(hF.below hu).mono hu.size
 have hs2:∀ u:World,Below w.heap.size w u→Fs u.heap.size u b ys:=fun u hu=>(hF2.below hu).mono hu.size
 have HA:∀ u:World,Below w.heap.size w u→Calls Tryz.prog 21 #[.slice a n c,.slice b m d,.int .i64 mode,.int .i64 1,.slice none 0 0] u fun r w'=>r=.returned (.int .i64 (amE xs ys [] mode 1))∧Below u.heap.size u w' :=
  fun u hu=>amiss19 xs ys [] a b none n m 0 c d 0 mode 1 u hn hm rfl (by omega) (by omega) (hs u hu) (hs2 u hu) (fs_nil19 _ _ _) hW hV w64_nil
 unfold thR
 by_cases hE:amE xs ys [] mode 1=0
 · rw [if_neg (by simpa using hE)]
   rw [hE] at HA;obtain ⟨G,h0,h4,h2,_⟩:=am_ok hW hV hE;have hnm:n=m:=by rw [hn,hm];exact G.len
   have hl:=G.le
   have HX:Hid (∀ u:World,Below w.heap.size w u→Calls Tryz.prog 27 #[.slice a n c,.slice a n c] u fun r w'=>DVal 0 w' r (gV 2148 (pS xs xs))∧Below u.heap.size u w') :=
    fun u hu=>products19 xs xs a a n c c u hn hn (hs u hu) (hs u hu) G.x64 G.x64 G.xf G.xf (hT.belows hu) (by omega)
   have HY:Hid (∀ u:World,Below w.heap.size w u→Calls Tryz.prog 27 #[.slice a n c,.slice b m d] u fun r w'=>DVal 0 w' r (gV 2148 (pS xs ys))∧Below u.heap.size u w') :=
    fun u hu=>by subst hnm;exact products19 xs ys a b n c d u hn hm (hs u hu) (hs2 u hu) G.x64 G.y64 G.xf G.yf (hT.belows hu) (by omega)
   have FF:Aside (Fm (gV 2148 (pS xs xs))∧Fm (gV 2148 (pS xs ys))):=⟨gf G.xx,gf G.xy⟩
   by_cases hD:pS xs xs=0
   · rw [if_pos hD]
     exact Through_flat mode ((gz G.xx).2 hD) FF (hid HA) HX
   · rw [if_neg hD]
     exact Through_ok mode (fun h=>hD ((gz G.xx).1 h)) FF (qsd fun u hu=>hT.belows hu) (hid HA) HX HY
 · rw [if_pos hE]
   exact Through_no mode _ hE (hid HA)
end
section
open Go Go.RowKit J
theorem g_parts {u k:Nat}{V:Int}(hu:u≤100000) (hV:V≠0) (hk:k≤90000) (hb:Bd k V):∃ X e,gV u V=some (decide (V<0),X,e)∧X%2=1∧-(u:Int)≤e∧e≤200000∧X*2^(e+(u:Int)).toNat=V.natAbs∧bl X≤262144∧Frm (decide (V<0)) X e:=by
 obtain ⟨n,X,e,ho,F,hx⟩:=g_iv (u:=u) hu (by omega) hb
 have hm:mkS (decide (V<0)) V.natAbs (-(u:Int))=some (n,X,e):=ho;have hz:=zv_mkS hm (-(u:Int)) (.inr (by omega))
 unfold zv at hz;simp only at hz;rw [show (-(u:Int) - -(u:Int)).toNat=0 by omega,Nat.pow_zero,Nat.mul_one] at hz
 have hX0:X≠0:=by
  rintro rfl;simp [sg1] at hz
  split at hz <;> omega
 have hp:0<X*2^(e - -(u:Int)).toNat:=Nat.mul_pos (by omega) (Nat.two_pow_pos _)
 rcases hx with h|⟨h1,h2⟩
 · exact absurd h hX0
 have hn:n=decide (V<0):=by
  by_cases hs:V<0
  · rw [decide_eq_true hs] at hz ⊢
    cases n with
    | true=>rfl
    | false=>simp only [sg1,if_true,Bool.false_eq_true,if_false] at hz;omega
  · rw [decide_eq_false hs] at hz ⊢
    cases n with
    | false=>rfl
    | true=>simp only [sg1,if_true,Bool.false_eq_true,if_false] at hz;omega
 rw [hn] at hz ho F
 have hv:X*2^(e - -(u:Int)).toNat=V.natAbs:=by
  by_cases hs:V<0
  · rw [decide_eq_true hs] at hz;simp only [sg1,if_true] at hz;omega
  · rw [decide_eq_false hs] at hz;simp only [sg1,Bool.false_eq_true,if_false] at hz;omega
 refine ⟨X,e,ho,?_,h1,by omega,?_,by omega,F⟩
 · rcases F.odd with q | q
   · exact q
   · exact absurd q.1 hX0
 · rw [show (e+(u:Int)).toNat=(e - -(u:Int)).toNat by congr 1;omega]
   exact hv
theorem rat14 {x S V S' V':Nat}(hS:0<S) (hS':0<S') (e:V*S'=V'*S):(x*S<V↔x*S'<V')∧(x*S=V↔x*S'=V')∧(V<x*S↔V'<x*S'):=by
 have a1:x*S*S'=x*S'*S:=by rw [Nat.mul_assoc,Nat.mul_comm S,←Nat.mul_assoc]
 have t1:x*S<V↔x*S*S'<V*S':=(Nat.mul_lt_mul_right hS').symm;have t2:x*S'<V'↔x*S'*S<V'*S:=(Nat.mul_lt_mul_right hS).symm;have t3:V<x*S↔V*S'<x*S*S':=(Nat.mul_lt_mul_right hS').symm;have t4:V'<x*S'↔V'*S<x*S'*S:=(Nat.mul_lt_mul_right hS).symm;rw [t1,t2,t3,t4,a1,e];refine ⟨Iff.rfl,?_,Iff.rfl⟩;rw [a1,e] at t1;rw [a1,e] at t3;omega
theorem LiesG.ratio14 {v:Nat→Nat}{top n K:Nat}{t:Bool}{m:Int}{V S V' S':Nat}(h:LiesG v top n K t m V S) (hS':0<S') (e:V*S'=V'*S):LiesG v top n K t m V' S':=by
 obtain ⟨h1,h2,h3,h4,h5,h6⟩:=h;have e2:(2^n*V)*S'=(2^n*V')*S:=by rw [Nat.mul_assoc,e,Nat.mul_assoc]
 refine ⟨h1,hS',fun a=>((rat14 h2 hS' e).2.1.1 (h3 a).symm).symm,fun a=>(rat14 h2 hS' e).1.1 (h4 a),fun a b=>?_,fun a=>?_⟩
 · have:=h5 a ((rat14 h2 hS' e).2.2.2 b)
   obtain ⟨r1,r2,r3⟩:=rat14 (x:=(v K+v (K+1))^n) h2 hS' e2
   rcases this with ⟨q,r⟩|⟨q,r⟩|⟨q,r⟩
   · exact .inl ⟨q,r3.1 r⟩
   · exact .inr (.inl ⟨q,(r2.1 r.symm).symm⟩)
   · exact .inr (.inr ⟨q,r1.1 r⟩)
 · rcases h6 a with q | q
   · exact .inl ((rat14 h2 hS' e).2.2.1 q)
   · exact .inr q
theorem qR_ok {u v k:Nat}{V D:Int}(hu:u≤100000) (hv:v≤100000) (hk:k≤90000) (hV:V≠0) (hD:0<D) (bV:Bd k V) (bD:Bd k D) :
 ∃ K t m,(∀ j,j=1074→LiesG vK 9218868437227405312 1 K t m (V.natAbs*2^(j+v)) (D.natAbs*2^u))∧∀ mode:Int,0≤mode→mode≤4→qR19 (gV u V) (gV v D) mode=(rK mode (decide (V<0)) K t m+(if V<0 then 9223372036854775808 else 0),0):=by
 obtain ⟨Y,f,ho2,hY,hf0,hf1,hv2,hbl2,F2⟩:=g_parts (u:=v) (V:=D) hv (by omega) hk bD
 rw [decide_eq_false (by omega)] at ho2 F2
 obtain ⟨X,e,ho,hX,he0,he1,hvv,hbl,F⟩:=g_parts (u:=u) (V:=V) hu hV hk bV;have hm1:mkS (decide (V<0)) X e=some (decide (V<0),X,e):=mkS_idem F;have hm2:mkS false Y f=some (false,Y,f):=mkS_idem F2;obtain ⟨K,t,m,hL,hR⟩:=quo64 (decide (V<0)) X e Y f hX (by omega) hbl hbl2
 refine ⟨K,t,m,fun j hj=>?_,fun mode hm0 hm4=>?_⟩
 · refine hL.ratio14 (Nat.mul_pos (by omega) (Nat.two_pow_pos _)) ?_
   unfold rV11 rS11;rw [←hvv,←hv2]
   have e1:X*2^(e-f+((1*1074:Nat):Int)).toNat*(Y*2^(f+(v:Int)).toNat*2^u)=X*Y*(2^((e-f+((1*1074:Nat):Int)).toNat+((f+(v:Int)).toNat+u))):=by
    rw [Nat.pow_add,Nat.pow_add,Nat.mul_assoc Y,Nat.mul_mul_mul_comm]
   have e2:X*2^(e+(u:Int)).toNat*2^(j+v)*(Y*2^(-(e-f+((1*1074:Nat):Int))).toNat)=X*Y*(2^((e+(u:Int)).toNat+(j+v)+(-(e-f+((1*1074:Nat):Int))).toNat)):=by
    rw [Nat.pow_add _ (_+_),Nat.pow_add _ (e+(u:Int)).toNat,Nat.mul_assoc X,Nat.mul_mul_mul_comm]
   rw [e1,e2]
   congr 2
   omega
 · unfold qR19
   rw [ho,ho2]
   show quoR rndS ⟨decide (V<0),.bool false,X,e,false,.bool false,Y,f⟩ mode=_
   unfold quoR;rw [if_neg (by omega),if_pos (by rw [errL_one];show errN X (decide (V<0)) e Y false f=0;unfold errN;rw [if_neg (by unfold sgn;simp;split <;> omega),hm1,hm2];simp [dX];omega),hm1,hm2]
   have:=hR mode hm0 hm4;simp only [decide_eq_true_eq] at this;exact this
theorem qR_zero {u v k:Nat}{D:Int}(hv:v≤100000) (hk:k≤90000) (hD:0<D) (bD:Bd k D) (mode:Int) (m0:0≤mode) (m4:mode≤4):qR19 (gV u 0) (gV v D) mode=(0,0):=by
 obtain ⟨Y,f,ho2,hY,hf0,hf1,hv2,hbl2,F2⟩:=g_parts (u:=v) (V:=D) hv (by omega) hk bD
 rw [decide_eq_false (by omega)] at ho2 F2
 have hm2:mkS false Y f=some (false,Y,f):=mkS_idem F2;unfold qR19;rw [g_zero,ho2]
 show quoR rndS ⟨false,.bool false,0,0,false,.bool false,Y,f⟩ mode=_
 unfold quoR;rw [if_neg (by omega),if_pos (by rw [errL_one];show errN 0 false 0 Y false f=0;unfold errN;rw [if_neg (by unfold sgn;simp;split <;> omega),hm2,mkS_zero];simp [dX];omega),mkS_zero,hm2]
 show rndS (quoZ false 0 0 Y f) mode=_
 rw [quoZ_nought _ _ _ _ (by omega) hbl2,rndS_form mode false 0 0 m0 m4]
 rfl
theorem LiesG.uniq14 {n K K':Nat}{t t':Bool}{m m':Int}{V S:Nat}(hn:n≠0) (h:LiesG vK 9218868437227405312 n K t m V S) (h':LiesG vK 9218868437227405312 n K' t' m' V S):K=K'∧t=t'∧(t=false→m=m'):=by
 have a1:vK K^n*S≤V:=by
  cases t with
  | true=>have:=h.one rfl;omega
  | false=>have:=h.low rfl;omega
 have a2:K+1=9218868437227405312∨V<vK (K+1)^n*S:=by
  cases t with
  | true =>
    have:=h.one rfl;have:=Nat.mul_lt_mul_of_pos_right (Nat.pow_lt_pow_left (grid64.mono (show K<K+1 by omega)) hn) h.pos
    omega
  | false =>
    rcases h.high rfl with q|q
    · exact .inr q
    · omega
 obtain ⟨e1,e2,e3⟩:=LiesG.doc grid64 (Nat.pos_of_ne_zero hn) h' K h.fin a1 a2;obtain ⟨_,f2,f3⟩:=LiesG.doc grid64 (Nat.pos_of_ne_zero hn) h K h.fin a1 a2;subst e1;rw [←f2] at e2;refine ⟨rfl,e2.symm,fun ht=>?_⟩
 rw [f3 ht,e3 (by rw [e2];exact ht)]
theorem rK_same14 {mode:Int}{n:Bool}{K K':Nat}{t t':Bool}{m m':Int}(h:K=K'∧t=t'∧(t=false→m=m')):rK mode n K t m=rK mode n K' t' m':=by
 obtain ⟨rfl,rfl,h⟩:=h
 cases t with
 | true=>rfl
 | false=>rw [h rfl]
theorem rK_true (mode:Int) (n:Bool) (K:Nat) (m:Int):rK mode n K true m=K:=by unfold rK;simp
theorem q_exact {u v k:Nat}{V D:Int}(hu:u≤100000) (hv:v≤100000) (hk:k≤90000) (hD:0<D) (bV:Bd k V) (bD:Bd k D) {y:Nat}(hy:y<18446744073709551616) (fy:finW y) (hz:y≠9223372036854775808)
 (e:∀ j,j=1074→fvW y*(D*((2^u:Nat):Int))=V*((2^(j+v):Nat):Int)) (mode:Int) (m0:0≤mode) (m4:mode≤4) :
 qR19 (gV u V) (gV v D) mode=(y,0):=by
 obtain ⟨j,hj⟩:∃ j:Nat,j=1074:=⟨_,rfl⟩;have e:=e j hj;have p1:(0:Int)<D*((2^u:Nat):Int):=Int.mul_pos hD (by have:=Nat.two_pow_pos u;omega)
 have p2:(0:Int)<((2^(j+v):Nat):Int):=by have:=Nat.two_pow_pos (j+v);omega
 have hmag:(fvW y).natAbs=vK (magW y):=by unfold fvW B.sg;cases negW y <;> simp
 have hyy:y=magW y+(if negW y then 9223372036854775808 else 0):=by
  unfold magW negW
  by_cases h:9223372036854775808≤y
  · simp [h];omega
  · simp [h];omega
 have v0:∀ m:Nat,vK m=0→m=0:=fun m h=>by
  rcases Nat.eq_zero_or_pos m with q|q
  · exact q
  · have:=grid64.mono q;omega
 by_cases hV:V=0
 · subst hV
   rw [Int.zero_mul] at e;have h0:fvW y=0:=by rcases Int.mul_eq_zero.1 e with h | h;exact h;omega
   have:magW y=0:=v0 _ (by rw [←hmag,h0];rfl)
   have:y=0:=by rw [this] at hyy;revert hyy;split <;> omega
   rw [this,qR_zero hv hk hD bD mode m0 m4]
 · obtain ⟨K,t,m,hL,hR⟩:=qR_ok hu hv hk hV hD bV bD
   have eN:vK (magW y)^1*(D.natAbs*2^u)=V.natAbs*2^(j+v):=by
    have:=congrArg Int.natAbs e;rw [Int.natAbs_mul,Int.natAbs_mul,Int.natAbs_mul,Int.natAbs_natCast,Int.natAbs_natCast,hmag] at this;rw [Nat.pow_one];exact this
   have hT:LiesG vK 9218868437227405312 1 (magW y) true 0 (V.natAbs*2^(j+v)) (D.natAbs*2^u):=⟨fy,Nat.mul_pos (by omega) (Nat.two_pow_pos _),fun _=>eN.symm,fun q=>(by cases q),fun q=>(by cases q),fun q=>(by cases q)⟩
   rw [hR mode m0 m4,rK_same14 ((hL j hj).uniq14 (by decide) hT),rK_true]
   have hs:negW y=decide (V<0):=by
    have hf:fvW y=B.sg (negW y) (vK (magW y)):=rfl
    have hp:0<vK (magW y):=by
     rcases Nat.eq_zero_or_pos (vK (magW y)) with q|q
     · rw [q,Nat.pow_one,Nat.zero_mul] at eN
       rcases Nat.mul_eq_zero.1 eN.symm with h|h
       · omega
       · have:=Nat.two_pow_pos (j+v);omega
     · exact q
    cases hn:negW y with
    | true =>
      rw [hn] at hf;have:fvW y<0:=by rw [hf];unfold B.sg;simp;omega
      have h2:V<0:=by
       rcases Int.lt_or_le V 0 with q|q
       · exact q
       · have a1:=Int.mul_nonneg q (Int.le_of_lt p2)
         have a2:=Int.mul_neg_of_neg_of_pos this p1;omega
      rw [decide_eq_true h2]
    | false =>
      rw [hn] at hf;have:0<fvW y:=by rw [hf];unfold B.sg;simp;omega
      have h2:¬ V<0:=by
       intro q;have a1:=Int.mul_neg_of_neg_of_pos q p2;have a2:=Int.mul_pos this p1;omega
      rw [decide_eq_false h2]
   rw [hs] at hyy;simp only [decide_eq_true_eq] at hyy;rw [←hyy]
end
section
open Go Go.RowKit J
section
variable {α : Type}
end
theorem pS_self:∀ xs:List Nat,pS xs xs=zS (fun x=>fvW x*fvW x) xs
 | []=>rfl
 | x::xs=>by
   show fvW x*fvW x+pS xs xs=fvW x*fvW x+zS _ xs
   rw [pS_self xs]
section
variable {xs ys : List Nat} (hl : xs.length = ys.length)
include hl
end
end
section
open Go Go.RowKit J
open Go.Proofs.YtopgffjnejaijaaGreatDoor.B (f64bits f64frombits)
attribute [local go_sem] Ps.st_floatP f64bits f64frombits
theorem lit19 (w:World) (L:List Nat) (g:Nat) (hg:g=w.heap.size):Fs (w.alloc (Obj.cells (L.map (Value.float .f64)).toArray 24)).heap.size (w.alloc (Obj.cells (L.map (Value.float .f64)).toArray 24)) (some ⟨g,0,none⟩) L:=by
 subst hg;intro _;refine ⟨w.heap.size,0,by simp,rfl,fun i hi=>?_⟩
 have:=(Bl.new w 24 (L.map (Value.float .f64))).cell i (.float .f64 (L.getD i 0)) (by simp [List.getD_eq_getElem?_getD,List.getElem?_eq_getElem hi])
 rw [Nat.zero_add];exact this
abbrev one19:Nat:=4607182418800017408
abbrev two19:Nat:=4611686018427387904
theorem gd_of {xs ys:List Nat}{mode:Int}(hW:W64 xs) (hV:W64 ys) (h:amE xs ys [] mode 2=0):Gd xs ys:=(am_ok hW hV h).1
theorem fit_ok {xs ys:List Nat}{mode:Int}(hE:amE xs ys [] mode 2=0) (hD:fD xs ys≠0):fitR xs ys mode=(((xs.length:Nat):Int),(qR19 (gV 2148 (fC xs ys)) (gV 2148 (fD xs ys)) mode).1,(qR19 (gV 3222 (fK xs ys)) (gV 2148 (fD xs ys)) mode).1,
 (if fT xs ys=0 then 4607182418800017408 else (qR19 (gV 4296 (fC xs ys*fC xs ys)) (gV 4296 (fD xs ys*fT xs ys)) mode).1),
 (qR19 (gV 4296 (fD xs ys*fT xs ys-fC xs ys*fC xs ys)) (gV 2148 ((xs.length:Int)*fD xs ys)) mode).1,0):=by
 unfold fitR;rw [if_neg (by simpa using hE),if_neg hD]
theorem live_line:∃ k l,fitR [0,one19,two19] [0,one19,one19] 0=(3,4602678819172646912,k,4604930618986332160,l,0):=by
 have hE:amE [0,one19,two19] [0,one19,one19] [] 0 2=0:=by decide +kernel
 have G:=gd_of (by unfold W64;decide) (by unfold W64;decide) hE
 have hD:0<fD [0,one19,two19] [0,one19,one19]:=by decide +kernel
 have hT:0<fT [0,one19,two19] [0,one19,one19]:=by decide +kernel
 have h:=fit_ok hE (show fD [0,one19,two19] [0,one19,one19]≠0 by omega)
 rw [if_neg (by omega)] at h
 rw [q_exact (u:=2148) (v:=2148) (by omega) (by omega) (k:=4229) (by omega) hD G.c G.d (y:=4602678819172646912) (by decide) (by decide) (by decide) (fun j hj=>by subst hj;decide +kernel) 0 (by decide) (by decide)] at h
 rw [q_exact (u:=4296) (v:=4296) (by omega) (by omega) (k:=8458) (by omega) (Int.mul_pos hD hT) (G.c.mul G.c) (G.d.mul G.t) (y:=4604930618986332160) (by decide) (by decide) (by decide) (fun j hj=>by subst hj;decide +kernel) 0 (by decide) (by decide)] at h
 exact ⟨_,_,h⟩
theorem live_through:thR [two19] [4613937818241073152] 0=(4609434218613702656,0):=by
 have hE:amE [two19] [4613937818241073152] [] 0 1=0:=by decide +kernel
 have G:=(am_ok (xs:=[two19]) (ys:=[4613937818241073152]) (zs:=[]) (mode:=0) (least:=1) (by unfold W64;decide) (by unfold W64;decide) hE).1
 have hD:0<pS [two19] [two19]:=by decide +kernel
 unfold thR;rw [if_neg (by simpa using hE),if_neg (by omega),q_exact (u:=2148) (v:=2148) (by omega) (by omega) (k:=4212) (by omega) hD G.xy G.xx (y:=4609434218613702656) (by decide) (by decide) (by decide) (fun j hj=>by subst hj;decide +kernel) 0 (by decide) (by decide)]
theorem live_at:atR [0,one19,two19] [one19,4613937818241073152,4617315517961601024] 4621819117588971520 0=(4626604192193052672,0):=by
 have hE:amE [0,one19,two19] [one19,4613937818241073152,4617315517961601024] [4621819117588971520] 0 2=0:=by decide +kernel
 have G:=(am_ok (xs:=[0,one19,two19]) (ys:=[one19,4613937818241073152,4617315517961601024]) (zs:=[4621819117588971520]) (mode:=0) (least:=2) (by unfold W64;decide) (by unfold W64;decide) hE).1
 have hD:0<fD [0,one19,two19] [one19,4613937818241073152,4617315517961601024]:=by decide +kernel
 unfold atR;rw [if_neg (by simpa using hE),if_neg (by omega),q_exact (u:=3222) (v:=2148) (by omega) (by omega) (k:=6328) (by omega) hD (G.k.add (G.c.mul (fv_bd (by decide) (by decide)))) (G.d.mono (by decide)) (y:=4626604192193052672) (by decide) (by decide) (by decide) (fun j hj=>by subst hj;decide +kernel) 0 (by decide) (by decide)]
theorem exact19 (x y:Nat) (w:World):Calls Tryz.prog 14 #[.float .f64 x,.float .f64 y] w fun r w'=>r=.returned (.bool (decide (x=y)))∧w'=w:=by
 go_enter Tryz.func14,Tryz.ntmps14;go_wp2;go_ret;refine ⟨congrArg (fun z=>Ending.returned (Value.bool z)) ?_,rfl⟩
 first | rfl | (rw [Bool.eq_iff_iff];simp;done) | (rw [Bool.eq_iff_iff];simp;omega)
theorem Line19z (xs ys:List Nat) (a b:Option Addr) (n m c d:Nat) (mode:Int) (w:World) (hn:n=xs.length) (hm:m=ys.length) (hF:Fs w.heap.size w a xs) (hF2:Fs w.heap.size w b ys) (hW:W64 xs) (hV:W64 ys) (hT:Tab w) {N E:Int}{s k t l:Nat}(hz:fitR xs ys mode=(N,s,k,t,l,E)) :
 Calls Tryz.prog 10 #[.slice a n c,.slice b m d,.int .i64 mode] w fun r w'=>r=.returned (.tuple #[.agg #[.int .i64 N,.float .f64 s,.float .f64 k,.float .f64 t,.float .f64 l],.int .i64 E])∧Below w.heap.size w w':=by
 have:=Line19 xs ys a b n m c d mode w hn hm hF hF2 hW hV hT;rw [hz] at this;exact this
theorem At19z (xs ys:List Nat) (x:Nat) (a b:Option Addr) (n m c d:Nat) (mode:Int) (w:World) (hn:n=xs.length) (hm:m=ys.length) (hF:Fs w.heap.size w a xs) (hF2:Fs w.heap.size w b ys) (hW:W64 xs) (hV:W64 ys) (hx:x<18446744073709551616) (hT:Tab w) {s:Nat}{E:Int}(hz:atR xs ys x mode=(s,E)) :
 Calls Tryz.prog 13 #[.slice a n c,.slice b m d,.float .f64 x,.int .i64 mode] w fun r w'=>r=.returned (.tuple #[.float .f64 s,.int .i64 E])∧Below w.heap.size w w':=by
 have:=At19 xs ys x a b n m c d mode w hn hm hF hF2 hW hV hx hT;rw [hz] at this;exact this
theorem Through19z (xs ys:List Nat) (a b:Option Addr) (n m c d:Nat) (mode:Int) (w:World) (hn:n=xs.length) (hm:m=ys.length) (hF:Fs w.heap.size w a xs) (hF2:Fs w.heap.size w b ys) (hW:W64 xs) (hV:W64 ys) (hT:Tab w) {s:Nat}{E:Int}(hz:thR xs ys mode=(s,E)) :
 Calls Tryz.prog 12 #[.slice a n c,.slice b m d,.int .i64 mode] w fun r w'=>r=.returned (.tuple #[.float .f64 s,.int .i64 E])∧Below w.heap.size w w':=by
 have:=Through19 xs ys a b n m c d mode w hn hm hF hF2 hW hV hT;rw [hz] at this;exact this
end
section
open Go Go.RowKit J
def atL (xs:List Nat) (U:List Nat):List Nat:=U.map fun i=>xs.getD i 0
theorem atL_range:∀ xs:List Nat,atL xs (List.range xs.length)=xs:=fun xs=>by
 unfold atL;refine List.ext_getElem (by simp) fun i h1 h2=>?_
 simp [List.getD_eq_getElem?_getD,List.getElem?_eq_getElem h2]
theorem atL_zip (xs ys:List Nat):∀ U:List Nat,(atL xs U).zip (atL ys U)=U.map fun i=>(xs.getD i 0,ys.getD i 0)
 | []=>rfl
 | i::U=>by
   show (xs.getD i 0,ys.getD i 0)::(atL xs U).zip (atL ys U)=_::_
   rw [atL_zip xs ys U]
section
variable {xs ys U : List Nat} (hl : xs.length = ys.length) (hU : U.Perm (List.range xs.length))
include hl hU
theorem atL_px:(atL xs U).Perm xs:=by
 have _h:=hl;have:=hU.map fun i=>xs.getD i 0
 have e:=atL_range xs;unfold atL at e ⊢;rw [e] at this;exact this
theorem atL_py:(atL ys U).Perm ys:=by
 have:=hU.map fun i=>ys.getD i 0
 have e:=atL_range ys;unfold atL at e ⊢;rw [←hl] at e;rw [e] at this;exact this
theorem atL_pz:((atL xs U).zip (atL ys U)).Perm (xs.zip ys):=by
 have:=hU.map fun i=>(xs.getD i 0,ys.getD i 0)
 rw [atL_zip]
 have e:(List.range xs.length).map (fun i=>(xs.getD i 0,ys.getD i 0))=xs.zip ys:=by
  rw [←atL_zip,atL_range];have:=atL_range ys;rw [←hl] at this;rw [this]
 rw [e] at this;exact this
theorem ord_pS:pS (atL xs U) (atL ys U)=pS xs ys:=zS_perm _ (atL_pz hl hU)
theorem ord_xx:pS (atL xs U) (atL xs U)=pS xs xs:=by rw [pS_self,pS_self];exact zS_perm _ (atL_px hl hU)
theorem ord_yy:pS (atL ys U) (atL ys U)=pS ys ys:=by rw [pS_self,pS_self];exact zS_perm _ (atL_py hl hU)
theorem ord_x:zS fvW (atL xs U)=zS fvW xs:=zS_perm _ (atL_px hl hU)
theorem ord_y:zS fvW (atL ys U)=zS fvW ys:=zS_perm _ (atL_py hl hU)
theorem ord_fx:fiB (atL xs U)=fiB xs:=by
 rw [Bool.eq_iff_iff,fiB_iff,fiB_iff];exact ⟨fun h x hx=>h x ((atL_px hl hU).mem_iff.2 hx),fun h x hx=>h x ((atL_px hl hU).mem_iff.1 hx)⟩
theorem ord_fy:fiB (atL ys U)=fiB ys:=by
 rw [Bool.eq_iff_iff,fiB_iff,fiB_iff];exact ⟨fun h x hx=>h x ((atL_py hl hU).mem_iff.2 hx),fun h x hx=>h x ((atL_py hl hU).mem_iff.1 hx)⟩
theorem ord_am (zs:List Nat) (mode:Int) (k:Nat):amE (atL xs U) (atL ys U) zs mode k=amE xs ys zs mode k:=by
 unfold amE;rw [ord_fx hl hU,ord_fy hl hU,(atL_px hl hU).length_eq,(atL_py hl hU).length_eq]
theorem ord_D:fD (atL xs U) (atL ys U)=fD xs ys:=by unfold fD;rw [ord_xx hl hU,ord_x hl hU,(atL_px hl hU).length_eq]
theorem ord_C:fC (atL xs U) (atL ys U)=fC xs ys:=by unfold fC;rw [ord_pS hl hU,ord_x hl hU,ord_y hl hU,(atL_px hl hU).length_eq]
theorem ord_T:fT (atL xs U) (atL ys U)=fT xs ys:=by unfold fT;rw [ord_yy hl hU,ord_y hl hU,(atL_px hl hU).length_eq]
theorem ord_K:fK (atL xs U) (atL ys U)=fK xs ys:=by unfold fK;rw [ord_xx hl hU,ord_pS hl hU,ord_x hl hU,ord_y hl hU]
theorem ord_fit (mode:Int):fitR (atL xs U) (atL ys U) mode=fitR xs ys mode:=by
 unfold fitR;rw [ord_am hl hU,ord_D hl hU,ord_C hl hU,ord_T hl hU,ord_K hl hU,(atL_px hl hU).length_eq]
theorem ord_at (x:Nat) (mode:Int):atR (atL xs U) (atL ys U) x mode=atR xs ys x mode:=by
 unfold atR;rw [ord_am hl hU,ord_D hl hU,ord_C hl hU,ord_K hl hU]
theorem ord_th (mode:Int):thR (atL xs U) (atL ys U) mode=thR xs ys mode:=by
 unfold thR;rw [ord_am hl hU,ord_xx hl hU,ord_pS hl hU]
theorem ord_wx (h:W64 xs):W64 (atL xs U):=fun x hx=>h x ((atL_px hl hU).mem_iff.1 hx)
theorem ord_wy (h:W64 ys):W64 (atL ys U):=fun x hx=>h x ((atL_py hl hU).mem_iff.1 hx)
end
theorem turn_perm (O R:List Nat) (p:Nat) (hp:p<R.length):((O++[R.getD p 0])++(R.take p++R.drop (p+1))).Perm (O++R):=by
 have e:R=R.take p++R.getD p 0::R.drop (p+1):=by
  have h1:R.drop p=R.getD p 0::R.drop (p+1):=by rw [List.drop_eq_getElem_cons hp,List.getD_eq_getElem?_getD,List.getElem?_eq_getElem hp];rfl
  rw [←h1,List.take_append_drop]
 have h2:(R.getD p 0::(R.take p++R.drop (p+1))).Perm R:=by
  have:=(List.perm_middle (a:=R.getD p 0) (l₁:=R.take p) (l₂:=R.drop (p+1))).symm;rw [←e] at this;exact this
 rw [List.append_assoc,List.singleton_append];exact h2.append_left O
theorem atL_snoc (xs U:List Nat) (i:Nat):atL xs (U++[i])=atL xs U++[xs.getD i 0]:=by unfold atL;rw [List.map_append];rfl
end
section
open Go.ChangeShapes Go.WideShapes Go.ChangeAt Go.RowKit
def Is7 (B:Nat) (w:World) (ao:Option Addr) (xs:List Int):Prop :=
 xs≠[]→∃ b off,b<B∧ao=some ⟨b,off,none⟩∧∀ i,i<xs.length→w.cell? ⟨b,off+i,none⟩=some (.int .i64 (xs.getD i 0))
theorem Is7.at {B:Nat}{w w':World}{ao:Option Addr}{xs:List Int}(h:Is7 B w ao xs) (hb:Below B w w') (i:Nat) (hi:i<xs.length):∃ b off,ao=some ⟨b,off,none⟩∧w'.cell? ⟨b,off+i,none⟩=some (.int .i64 (xs.getD i 0)):=by
 obtain ⟨b,off,h1,h2,h3⟩:=h (by intro e;subst e;simp at hi)
 exact ⟨b,off,h2,(hb.cell (p:=⟨b,off+i,none⟩) h1).trans (h3 i hi)⟩
def I64 (xs:List Int):Prop:=∀ i,-9223372036854775808≤xs.getD i 0∧xs.getD i 0≤9223372036854775807
structure CameI (w:World) (a:Option Addr) (n c:Nat) (xs:List Int):Prop where
 len:n=xs.length
 cap:n≤c
 wf:I64 xs
 rd:Is7 w.heap.size w a xs
 nil:a=none→c=0
def numI {H:Type} (y:DataW H×List MemPlace):Int:=match y.1 with | .lit (.int _ n)=>n | _=>0
theorem Tryz.cellsI7:Tryz.prog.cellsOf 3=1:=by kernel_rfl
theorem Tryz.bytesI7:Tryz.prog.bytesOf 3=8:=by kernel_rfl
theorem cameI_of {H:Type}{enc:TypeId×Value→H}{W:World}{a:Option Addr}{n c:Nat}{d:DataW H}{p:List MemPlace}(h:DataW.Trod enc Tryz.prog W 0 (fun _=>true) true 36 (.slice a n c) d p) :
 ∃ xs,CameI W a n c xs∧((d=.nil∧c=0)∨∃ elems spare:List (DataW H),d=.slice elems spare∧elems.length+spare.length=c):=by
 obtain ⟨fuel,hf⟩:=h
 rcases DataW.trod_slice Tryz.underlying36 hf with ⟨hcs,hx⟩|⟨x,l,cp,elems,rest,m,_,hcs,hx,hb,hl,hm,hlen,hel,hsp,hns⟩
 · simp [Value.cells] at hcs
   obtain ⟨rfl,rfl,rfl⟩:=hcs;exact ⟨[],⟨rfl,Nat.le_refl _,(fun i=>by simp),(fun h=>absurd rfl h),fun _=>rfl⟩,.inl ⟨(Prod.mk.inj hx).1,rfl⟩⟩
 · simp [Value.cells] at hcs
   obtain ⟨rfl,rfl,rfl⟩:=hcs
   have each:∀ i y,i<n→elems[i]?=some y→y=(.lit (.int .i64 (numI y)),[])∧(-9223372036854775808≤numI y∧numI y≤9223372036854775807)∧W.cell? (x.add i)=some (.int .i64 (numI y)):=by
    intro i y hi hy;have hb':=hel i hi;rw [hy,Tryz.cellsI7,Nat.mul_one,Option.bind_eq_some_iff] at hb';obtain ⟨cs',hcs,hy'⟩:=hb';obtain ⟨e,e2,rfl,hw⟩:=DataW.trod_int Tryz.underlying3 hy';subst e2
    have hw':-9223372036854775808≤e∧e≤9223372036854775807:=by
     simp [Lit.wf,IntKind.min,IntKind.max,IntKind.signed,IntKind.bits] at hw;omega
    exact ⟨rfl,hw',cell_of_cells?_one hcs⟩
   refine ⟨elems.map numI,⟨by simp [hlen],hl,?_,?_,fun e=>by cases e⟩,.inr ⟨_,_,(Prod.mk.inj hx).1,?_⟩⟩
   · intro i
     by_cases hi:i<elems.length
     · have:=(each i (elems[i]'hi) (by omega) (List.getElem?_eq_getElem _)).2.1
       simpa [List.getD_eq_getElem?_getD,hi] using this
     · simp [List.getD_eq_getElem?_getD,hi]
   · intro hne
     obtain ⟨b,off,spot⟩:=x
     have hn0:0<n:=by
      rcases Nat.eq_zero_or_pos n with h0|h0
      · rw [h0] at hlen;have:=List.eq_nil_of_length_eq_zero hlen;subst this;simp at hne
      · exact h0
     have hc0:=(each 0 (elems[0]'(by omega)) hn0 (List.getElem?_eq_getElem _)).2.2
     have hspot:spot=none:=by simpa [Addr.add] using World.cell?_spot hc0
     subst hspot;refine ⟨b,off,World.block_lt_of_cell? W _ (by simpa [Addr.add] using hc0),rfl,fun i hi=>?_⟩
     rw [List.length_map] at hi;have hadd:=add_noneF b off i;have:=(each i (elems[i]'hi) (by omega) (List.getElem?_eq_getElem _)).2.2
     rw [hadd] at this;rw [this];simp [List.getD_eq_getElem?_getD,hi]
   · have hr:=(hsp rfl).1
     simp only [List.length_map];omega
theorem cameI_reach {H:Type}{ts:List TypeId}{ds:List (DataW H)}(h:(DataW.weightsEach Tryz.prog ts ds).all (·≤reachBytes)=true) {j:Nat}{d:DataW H}{c n:Nat}(ht:ts[j]?=some 36) (hd:ds[j]?=some d) (hn:n≤c)
 (hc:(d=.nil∧c=0)∨∃ elems spare:List (DataW H),d=.slice elems spare∧elems.length+spare.length=c):n≤17592186043904:=by
 rcases hc with ⟨_,rfl⟩|⟨elems,spare,rfl,hl⟩
 · omega
 · have:=sized_slice h ht hd Tryz.underlying36
   rw [Tryz.bytesI7,hl] at this;simp only [reachBytes] at this;omega
end
section
open Go Go.RowKit J
open Go.Proofs.YtopgffjnejaijaaGreatDoor.B (f64bits f64frombits)
attribute [local go_sem] Ps.st_floatP f64bits f64frombits
theorem live19 (w:World) (hT:Tab w):Calls Tryz.prog 9 #[] w fun r w'=>r=.returned (.bool true)∧Below w.heap.size w w':=by
 have o0:(FloatKind.f64.format.order 4602678819172646912 4602678819172646912==some .eq)=true:=by decide +kernel
 have o1:(FloatKind.f64.format.order 4604930618986332160 4604930618986332160==some .eq)=true:=by decide +kernel
 have o2:(FloatKind.f64.format.order 4609434218613702656 4609434218613702656==some .eq)=true:=by decide +kernel
 have o3:(FloatKind.f64.format.order 4626604192193052672 4626604192193052672==some .eq)=true:=by decide +kernel
 obtain ⟨Q2,Q4,hq⟩:=live_line;have HQ:=qsd hq;have HT:=qsd hT;clear hq hT;obtain ⟨V1,hV1⟩:∃ V,V=(w.alloc (Obj.cells #[.float .f64 0,.float .f64 4607182418800017408,.float .f64 4611686018427387904] 24)).alloc (Obj.cells #[.float .f64 0,.float .f64 4607182418800017408,.float .f64 4607182418800017408] 24):=⟨_,rfl⟩;obtain ⟨ga1,hga1⟩:∃ g,g=w.heap.size:=⟨_,rfl⟩;obtain ⟨gb1,hgb1⟩:∃ g,g=w.heap.size+1:=⟨_,rfl⟩
 have BV1:Aside (Below w.heap.size w V1∧Fs V1.heap.size V1 (some ⟨ga1,0,none⟩) [0,4607182418800017408,4611686018427387904]∧Fs V1.heap.size V1 (some ⟨gb1,0,none⟩) [0,4607182418800017408,4607182418800017408]):=by
  have z1:=lit19 w [0,4607182418800017408,4611686018427387904] ga1 hga1;have z2:=lit19 (w.alloc (Obj.cells #[.float .f64 0,.float .f64 4607182418800017408,.float .f64 4611686018427387904] 24)) [0,4607182418800017408,4607182418800017408] gb1 (by rw [hgb1];simp)
  rw [hV1];exact ⟨(bel_alloc _ _).trans ((bel_alloc _ _).mono (by simp)),(z1.below (bel_alloc _ _)).mono (by simp),z2⟩
 have HV1:=(qsd (ai hV1 (ai hga1 hgb1)));clear hV1 hga1 hgb1;have C:=hid (Line19z [0,4607182418800017408,4611686018427387904] [0,4607182418800017408,4607182418800017408] (some ⟨ga1,0,none⟩) (some ⟨gb1,0,none⟩) 3 3 3 3 0 V1 rfl rfl BV1.out.2.1 BV1.out.2.2 (by unfold W64;decide) (by unfold W64;decide) (HT.out.belows BV1.out.1) HQ.out)
 go_enter Tryz.func9,Tryz.ntmps9
 go_wp2_with fail
 rw [←HV1.out.1]
 try rw [←HV1.out.2.2]
 try rw [←HV1.out.2.1]
 clear HV1;refine C.out.mono ?_;clear C;rintro r u1 ⟨rfl,hb⟩;obtain ⟨U1,hU1⟩:∃ U,U=u1.alloc (Obj.cells #[.int .i64 3,.float .f64 4602678819172646912,.float .f64 Q2,.float .f64 4604930618986332160,.float .f64 Q4] 26):=⟨_,rfl⟩;obtain ⟨g1,hg1⟩:∃ g,g=u1.heap.size:=⟨_,rfl⟩
 have B1:Aside (Below w.heap.size w U1∧Bl U1 g1 26 [.int .i64 3,.float .f64 4602678819172646912,.float .f64 Q2,.float .f64 4604930618986332160,.float .f64 Q4]):=by
  rw [hU1,hg1];exact ⟨(BV1.out.1.trans (hb.mono BV1.out.1.size)).trans ((bel_alloc _ _).mono (Nat.le_trans BV1.out.1.size hb.size)),Bl.new _ 26 [.int .i64 3,.float .f64 4602678819172646912,.float .f64 Q2,.float .f64 4604930618986332160,.float .f64 Q4]⟩
 have HU1:=(qsd (ai hU1 hg1));clear hU1 hg1 hb BV1;obtain ⟨V2,hV2⟩:∃ V,V=(U1.alloc (Obj.cells #[.float .f64 4611686018427387904] 24)).alloc (Obj.cells #[.float .f64 4613937818241073152] 24):=⟨_,rfl⟩;obtain ⟨ga2,hga2⟩:∃ g,g=U1.heap.size:=⟨_,rfl⟩;obtain ⟨gb2,hgb2⟩:∃ g,g=U1.heap.size+1:=⟨_,rfl⟩
 have BV2:Aside (Below w.heap.size w V2∧Fs V2.heap.size V2 (some ⟨ga2,0,none⟩) [4611686018427387904]∧Fs V2.heap.size V2 (some ⟨gb2,0,none⟩) [4613937818241073152]):=by
  have z1:=lit19 U1 [4611686018427387904] ga2 hga2;have z2:=lit19 (U1.alloc (Obj.cells #[.float .f64 4611686018427387904] 24)) [4613937818241073152] gb2 (by rw [hgb2];simp)
  rw [hV2];exact ⟨(B1.out.1.trans ((bel_alloc _ _).mono B1.out.1.size)).trans ((bel_alloc _ _).mono (by simp;have:=B1.out.1.size;omega)),(z1.below (bel_alloc _ _)).mono (by simp),z2⟩
 have HV2:=(qsd (ai hV2 (ai hga2 hgb2)));clear hV2 hga2 hgb2;have C:=hid (Through19z [4611686018427387904] [4613937818241073152] (some ⟨ga2,0,none⟩) (some ⟨gb2,0,none⟩) 1 1 1 1 0 V2 rfl rfl BV2.out.2.1 BV2.out.2.2 (by unfold W64;decide) (by unfold W64;decide) (HT.out.belows BV2.out.1) live_through)
 have B2:Aside (Bl V2 g1 26 [.int .i64 3,.float .f64 4602678819172646912,.float .f64 Q2,.float .f64 4604930618986332160,.float .f64 Q4]):=by rw [HV2.out.1];exact (B1.out.2.alloc _).alloc _
 go_upto_region 2 with fail
 rw [←HU1.out.1,←HU1.out.2];clear HU1 B1
 go_wp2_with fail
 rw [←HV2.out.1]
 try rw [←HV2.out.2.2]
 try rw [←HV2.out.2.1]
 clear HV2;refine C.out.mono ?_;clear C;rintro r u2 ⟨rfl,hb⟩;have B3:=qsd (ai (BV2.out.1.trans (hb.mono BV2.out.1.size)) (B2.out.below hb B2.out.lt));clear hb BV2 B2;obtain ⟨V3,hV3⟩:∃ V,V=(u2.alloc (Obj.cells #[.float .f64 0,.float .f64 4607182418800017408,.float .f64 4611686018427387904] 24)).alloc (Obj.cells #[.float .f64 4607182418800017408,.float .f64 4613937818241073152,.float .f64 4617315517961601024] 24):=⟨_,rfl⟩;obtain ⟨ga3,hga3⟩:∃ g,g=u2.heap.size:=⟨_,rfl⟩;obtain ⟨gb3,hgb3⟩:∃ g,g=u2.heap.size+1:=⟨_,rfl⟩
 have BV3:Aside (Below w.heap.size w V3∧Fs V3.heap.size V3 (some ⟨ga3,0,none⟩) [0,4607182418800017408,4611686018427387904]∧Fs V3.heap.size V3 (some ⟨gb3,0,none⟩) [4607182418800017408,4613937818241073152,4617315517961601024]):=by
  have z1:=lit19 u2 [0,4607182418800017408,4611686018427387904] ga3 hga3;have z2:=lit19 (u2.alloc (Obj.cells #[.float .f64 0,.float .f64 4607182418800017408,.float .f64 4611686018427387904] 24)) [4607182418800017408,4613937818241073152,4617315517961601024] gb3 (by rw [hgb3];simp)
  rw [hV3];exact ⟨(B3.out.1.trans ((bel_alloc _ _).mono B3.out.1.size)).trans ((bel_alloc _ _).mono (by simp;have:=B3.out.1.size;omega)),(z1.below (bel_alloc _ _)).mono (by simp),z2⟩
 have HV3:=(qsd (ai hV3 (ai hga3 hgb3)));clear hV3 hga3 hgb3;have C:=hid (At19z [0,4607182418800017408,4611686018427387904] [4607182418800017408,4613937818241073152,4617315517961601024] 4621819117588971520 (some ⟨ga3,0,none⟩) (some ⟨gb3,0,none⟩) 3 3 3 3 0 V3 rfl rfl BV3.out.2.1 BV3.out.2.2 (by unfold W64;decide) (by unfold W64;decide) (by decide) (HT.out.belows BV3.out.1) live_at)
 have B4:Aside (Bl V3 g1 26 [.int .i64 3,.float .f64 4602678819172646912,.float .f64 Q2,.float .f64 4604930618986332160,.float .f64 Q4]):=by rw [HV3.out.1];exact (B3.out.2.alloc _).alloc _
 clear B3
 go_wp2_with fail
 rw [←HV3.out.1]
 try rw [←HV3.out.2.2]
 try rw [←HV3.out.2.1]
 clear HV3;refine C.out.mono ?_;clear C;rintro r u3 ⟨rfl,hb⟩;have B5:=qsd (ai (BV3.out.1.trans (hb.mono BV3.out.1.size)) (B4.out.below hb B4.out.lt));clear hb BV3 B4;have z0:=B5.out.2.cell 0 _ rfl;have z1:=B5.out.2.cell 1 _ rfl;have z3:=B5.out.2.cell 3 _ rfl;go_wp2;exact bodyPost_ret (v:=.bool true) (by simp [results,Tryz.results9,go_sem]) rfl ⟨rfl,B5.out.1⟩
end
section
open Go Go.RowKit J
open Go.Proofs.YtopgffjnejaijaaGreatDoor.B (f64bits f64frombits)
attribute [local go_sem] Ps.st_floatP f64bits f64frombits
theorem exact_self19 (x:Nat) (w:World):Calls Tryz.prog 14 #[.float .f64 x,.float .f64 x] w fun r w'=>r=.returned (.bool true)∧w'=w:=by
 have:=exact19 x x w;rw [decide_eq_true rfl] at this;exact this
theorem same19 (N:Int) (s k t l:Nat) (w:World):Calls Tryz.prog 11 #[.agg #[.int .i64 N,.float .f64 s,.float .f64 k,.float .f64 t,.float .f64 l],.agg #[.int .i64 N,.float .f64 s,.float .f64 k,.float .f64 t,.float .f64 l]] w fun r w'=>r=.returned (.bool true)∧Below w.heap.size w w':=by
 obtain ⟨V,hV⟩:∃ V,V=(w.alloc (Obj.cells #[.int .i64 N,.float .f64 s,.float .f64 k,.float .f64 t,.float .f64 l] 26)).alloc (Obj.cells #[.int .i64 N,.float .f64 s,.float .f64 k,.float .f64 t,.float .f64 l] 26):=⟨_,rfl⟩;obtain ⟨g,hg⟩:∃ g,g=w.heap.size:=⟨_,rfl⟩;obtain ⟨g2,hg2⟩:∃ g,g=w.heap.size+1:=⟨_,rfl⟩
 have B1:Aside (Bl V g 26 [.int .i64 N,.float .f64 s,.float .f64 k,.float .f64 t,.float .f64 l]∧Bl V g2 26 [.int .i64 N,.float .f64 s,.float .f64 k,.float .f64 t,.float .f64 l]∧Below w.heap.size w V):=by
  have z2:=Bl.new (w.alloc (Obj.cells #[.int .i64 N,.float .f64 s,.float .f64 k,.float .f64 t,.float .f64 l] 26)) 26 [.int .i64 N,.float .f64 s,.float .f64 k,.float .f64 t,.float .f64 l];rw [World.size_alloc] at z2;rw [hV,hg,hg2];exact ⟨(Bl.new _ 26 [.int .i64 N,.float .f64 s,.float .f64 k,.float .f64 t,.float .f64 l]).alloc _,z2,(bel_alloc _ _).trans ((bel_alloc _ _).mono (by simp))⟩
 have HV:=(qsd (ai hV (ai hg hg2)));have C1:=hid (exact_self19 s V);have C2:=hid (exact_self19 k V);have C3:=hid (exact_self19 t V);have C4:=hid (exact_self19 l V);clear hV hg hg2;go_enter Tryz.func11,Tryz.ntmps11
 go_upto_region 1 with fail
 rw [←HV.out.1]
 try rw [←HV.out.2.2]
 try rw [←HV.out.2.1]
 clear HV;have z0:=B1.out.1.cell 0 _ rfl;have y0:=B1.out.2.1.cell 0 _ rfl;have z1:=B1.out.1.cell 1 _ rfl;have y1:=B1.out.2.1.cell 1 _ rfl;have z2:=B1.out.1.cell 2 _ rfl;have y2:=B1.out.2.1.cell 2 _ rfl;have z3:=B1.out.1.cell 3 _ rfl;have y3:=B1.out.2.1.cell 3 _ rfl;have z4:=B1.out.1.cell 4 _ rfl;have y4:=B1.out.2.1.cell 4 _ rfl
 go_wp2_with fail
 refine C1.out.mono ?_;rintro r u ⟨rfl,hu⟩;rw [hu];clear hu u C1
 go_wp2_with fail
 refine C2.out.mono ?_;rintro r u ⟨rfl,hu⟩;rw [hu];clear hu u C2
 go_wp2_with fail
 refine C3.out.mono ?_;rintro r u ⟨rfl,hu⟩;rw [hu];clear hu u C3
 go_wp2_with fail
 refine C4.out.mono ?_;rintro r u ⟨rfl,hu⟩;rw [hu];clear hu u C4;go_wp2;exact bodyPost_ret (v:=.bool true) (by simp [results,Tryz.results11,go_sem]) rfl ⟨rfl,B1.out.2.2⟩
end
section
open Go.RowKit J
attribute [local go_sem] Ps.st_floatP
theorem wf19o {a:Nat}(h:(Lit.float .f64 a).wf=true):a<18446744073709551616:=by
 simpa [Lit.wf] using h
theorem take_fsO {B:Nat}{w:World}{a:Option Addr}{xs:List Nat}(h:Fs B w a xs) (k:Nat):Fs B w a (xs.take k):=by
 intro hne;obtain ⟨b,off,h1,h2,h3⟩:=h (by intro q;rw [q] at hne;simp at hne)
 refine ⟨b,off,h1,h2,fun i hi=>?_⟩
 rw [List.length_take] at hi;rw [h3 i (by omega)]
 congr 2
 rw [List.getD_eq_getElem?_getD,List.getD_eq_getElem?_getD,List.getElem?_take,if_pos (by omega)]
theorem pick19 (c:Int) (m:Nat) (w:World) (h0:-9223372036854775808≤c) (h1:c≤9223372036854775807) (hm:0<m) (hm2:m≤1000000) :
 Calls Tryz.prog 15 #[.int .i64 c,.int .i64 (m:Nat)] w fun r w'=>∃ p:Nat,r=.returned (.int .i64 (p:Nat))∧p<m∧w'=w:=by
 by_cases h:c<0
 · go_enter Tryz.func15,Tryz.ntmps15
   go_wp2;have e1:(-(c+1)).tmod (m:Int)=-(c+1)%(m:Int):=Int.tmod_eq_emod_of_nonneg (by omega)
   rw [Int.neg_tmod] at e1;have e2:=Int.emod_nonneg (-(c+1)) (b:=(m:Int)) (by omega)
   have e3:=Int.emod_lt_of_pos (-(c+1)) (b:=(m:Int)) (by omega)
   obtain ⟨p,hp⟩:∃ p:Nat,(p:Int)=-(c+1)%(m:Int):=⟨(-(c+1)%(m:Int)).toNat,by omega⟩
   rw [e1,←hp];exact bodyPost_ret (v:=.int .i64 (p:Nat)) (by simp [results,Tryz.results15,go_sem]) rfl ⟨p,rfl,by omega,rfl⟩
 · go_enter Tryz.func15,Tryz.ntmps15
   go_wp2;have e2:=Int.emod_nonneg c (b:=(m:Int)) (by omega)
   have e3:=Int.emod_lt_of_pos c (b:=(m:Int)) (by omega)
   obtain ⟨p,hp⟩:∃ p:Nat,(p:Int)=c%(m:Int):=⟨(c%(m:Int)).toNat,by omega⟩
   rw [←hp];exact bodyPost_ret (v:=.int .i64 (p:Nat)) (by simp [results,Tryz.results15,go_sem]) rfl ⟨p,rfl,by omega,rfl⟩
theorem walk_FitOrder (a b oo:Option Addr) (n m q c d e:Nat) (xs ys:List Nat) (os:List Int) (x:Nat) (mode:Int) (w:World) (hT:Tab w) (hC:CameF w a n c xs) (hm:n≤17592186043904) (hC2:CameF w b m d ys) (hm2:m≤17592186043904) (hC3:CameI w oo q e os) (hm3:q≤17592186043904) (hx:x<18446744073709551616) :
 Calls Tryz.prog 5 #[.slice a n c,.slice b m d,.slice oo q e,.float .f64 x,.int .i64 mode] w fun r w'=>r=.returned (.bool true)∧Below w.heap.size w w':=by
 obtain ⟨hl1,hcap,hW1,hF1,_⟩:=hC;obtain ⟨hl2,hcap2,hW2,hF2,_⟩:=hC2;have ho3:=hC3;obtain ⟨hl3,hcap3,hI6,hI3,_⟩:=hC3;obtain ⟨N,hN⟩:∃ N,N=min (min n m) 200:=⟨_,rfl⟩;obtain ⟨zx,hzx⟩:∃ z,z=xs.take N:=⟨_,rfl⟩;obtain ⟨zy,hzy⟩:∃ z,z=ys.take N:=⟨_,rfl⟩;have lx:zx.length=N:=by rw [hzx,List.length_take];omega
 have ly:zy.length=N:=by rw [hzy,List.length_take];omega
 have hWx:W64 zx:=fun x hx=>hW1 x (by rw [hzx] at hx;exact List.mem_of_mem_take hx)
 have hWy:W64 zy:=fun x hx=>hW2 x (by rw [hzy] at hx;exact List.mem_of_mem_take hx)
 have hFx:Fs w.heap.size w a zx:=by rw [hzx];exact take_fsO hF1 _
 have hFy:Fs w.heap.size w b zy:=by rw [hzy];exact take_fsO hF2 _
 have hmin:min (min (n:Int) (m:Int)) 200=(N:Int):=by omega
 have HL:=hid (live19 w hT);have HX:=(qsd (ai lx (ai ly (ai hWx (ai hWy (ai hFx (ai hFy (ai hT (ai hl3 (ai hI6 (ai hI3 hx)))))))))));have hN1:N≤200:=by omega
 have hNn:N≤n:=by omega
 have hNm:N≤m:=by omega
 have hNc:N≤c:=by omega
 have hNd:N≤d:=by omega
 clear hl1 hW1 hF1 hl2 hW2 hF2 hl3 hI6 hI3 hT lx ly hWx hWy hFx hFy hzx hzy hN hm hm2 ho3 hcap hcap2 hcap3;go_enter Tryz.func5,Tryz.ntmps5
 go_wp2_with fail
 refine HL.out.mono ?_;rintro r u ⟨rfl,hb⟩;have B2:=qsd hb;clear hb HL
 go_upto_region 2 with fail
 go_cut [12] from 32 to 36 (fun v wx=>v=.int .i64 (N:Nat)∧u=wx)
 case first =>
  go_wp2
  all_goals
   go_meet
   case rel =>
    refine ⟨?_,rfl⟩
    congr 1
    omega
 obtain ⟨rfl,rfl⟩:=hcut;clear hmin;go_wp2
 go_loopg [13,14] N (fun gk rv iv wr=>∃ (k:Nat) (v3:Value),gk+k=N∧iv=.int .i64 (k:Nat)∧rv=v3∧Aside (Rj w.heap.size wr v3 (List.range k)∧Below w.heap.size w wr))
 case atStart=>exact ⟨0,.slice none 0 0,by omega,by simp,rfl,Rj.nil _ _,B2.out⟩
 case round =>
  clear B2;obtain ⟨k,v3,hgk,rfl,h1,HA⟩:=hrel;have h1':=h1.symm;clear h1;subst h1'
  by_cases hk:k<N
  · obtain ⟨v4,W4,r1,r2,r3⟩:=HA.out.1.push HA.out.2 k (by rw [List.length_range];omega)
    rw [←List.range_succ] at r2;have HR:=qsd r1;have HN:=qsd (ai r2 r3);have hkb:k<4611686018427387904:=by omega
    clear r1 r2 r3 HA
    go_wp2_with (at_builtin;refine wpList_append_jnt rfl (.tmp 48) (.tmp 50) rfl _ _ rfl rfl _ _ HR.out ?_)
    go_roundg (gk-1)
    case measure=>omega
    case rel=>exact ⟨k+1,_,by omega,by first | rfl | simp,rfl,HN.out⟩
  · obtain rfl:k=N:=by omega
    have hd:¬ k<k:=by omega
    have D0:Aside (R3 w wr (.slice none 0 0) (.slice none 0 0) v3 [] [] (List.range k)):=⟨R2.nil HA.out.2,HA.out.1,fun g h=>by simp [Value.ownBlock],fun g h=>by simp [Value.ownBlock]⟩
    clear HA hk hgk;obtain ⟨V,hV⟩:∃ V,V=wr:=⟨_,rfl⟩;rw [←hV] at D0 ⊢;clear hV;go_wp2;clear hd
    go_loopg [13,15,16,17] k (fun gk rv uv vv iv wr=>∃ (j:Nat) (R U:List Nat) (v1 v2 v3:Value),gk=R.length∧j≤k∧j+R.length=k∧iv=.int .i64 (j:Nat)∧rv=v3∧uv=v1∧vv=v2∧Aside (R3 w wr v1 v2 v3 (atL zx U) (atL zy U) R∧(U++R).Perm (List.range k)))
    case atStart=>exact ⟨0,List.range k,[],_,_,_,by simp,by omega,by simp,by simp,rfl,rfl,rfl,D0.out,by simp⟩
    case round =>
     clear D0;obtain ⟨j,R,U,v1,v2,v3,hgk,hjk,hjR,rfl,h1,h2,h3,HA⟩:=hrel;have h1':=h1.symm;have h2':=h2.symm;have h3':=h3.symm;clear h1 h2 h3;subst h1' h2' h3'
     by_cases hR:0<R.length
     · obtain ⟨gR,cap,rfl,hglo,hglt,hRc,hcm,hcells⟩:=HA.out.1.c.shape hR
       have HCE:=qsd hcells;have hRl:R.length≤200:=by omega
       clear hcells hglo hglt hcm
       go_upto_if 60 with fail
       go_cut [18] from 57 to 67 (fun v wx=>∃ p:Nat,v=.int .i64 (p:Nat)∧p<R.length∧wr=wx)
       case first =>
        by_cases hq:j<q
        · have hjo:j<os.length:=by have:=HX.out.2.2.2.2.2.2.2.1;omega
          obtain ⟨b0,off,rfl,hco⟩:=HX.out.2.2.2.2.2.2.2.2.2.1.at HA.out.1.r.bel j hjo;obtain ⟨z,hz⟩:∃ z,z=os.getD j 0:=⟨_,rfl⟩;rw [←hz] at hco;have hz6:=HX.out.2.2.2.2.2.2.2.2.1 j;rw [←hz] at hz6;have C:=hid (pick19 z R.length wr hz6.1 hz6.2 hR (by omega))
          clear hz6 hz
          go_wp2_with fail
          refine C.out.mono ?_;clear C;rintro r w9 ⟨p,rfl,hp,hw⟩;rw [hw];clear hw;go_wp2
          go_meet
          case rel=>exact ⟨p,rfl,hp,rfl⟩
        · go_wp2
          go_meet
          case rel=>exact ⟨0,rfl,hR,rfl⟩
       obtain ⟨p,rfl,hp,rfl⟩:=hcut;have hcp:=HCE.out p hp;obtain ⟨r,hr⟩:∃ r,r=R.getD p 0:=⟨_,rfl⟩;rw [←hr] at hcp
       have hrk:r<k:=by
        have m1:r ∈ R:=by rw [hr,List.getD_eq_getElem?_getD,List.getElem?_eq_getElem hp];exact List.getElem_mem hp
        have:=HA.out.2.mem_iff.1 (List.mem_append_right U m1);exact List.mem_range.1 this
       obtain ⟨b1,off1,rfl,hcx⟩:=HX.out.2.2.2.2.1.at HA.out.1.r.bel r (by rw [HX.out.1];exact hrk)
       obtain ⟨zX,hzX⟩:∃ z,z=zx.getD r 0:=⟨_,rfl⟩;rw [←hzX] at hcx
       have lU:(atL zx U).length≤90000∧(atL zy U).length≤90000:=by
        have:=HA.out.2.length_eq;rw [List.length_append,List.length_range] at this;unfold atL;rw [List.length_map,List.length_map];omega
       obtain ⟨v5,W5,r1,r2⟩:=HA.out.1.push zX lU.1;obtain ⟨b2,off2,rfl,hcy⟩:=HX.out.2.2.2.2.2.1.at r2.r.bel r (by rw [HX.out.2.1];exact hrk)
       obtain ⟨zY,hzY⟩:∃ z,z=zy.getD r 0:=⟨_,rfl⟩;rw [←hzY] at hcy;obtain ⟨v6,W6,r3,r4⟩:=r2.swap.push zY lU.2;have r5:=r4.swap
       have hcp5:W5.cell? ⟨gR,p,none⟩=some (.int .i64 (r:Nat)):=by
        obtain ⟨g',cap',e',_,_,_,_,h⟩:=r2.c.shape hR
        cases e'
        rw [hr];exact h p hp
       have hR6:=r5.c;obtain ⟨v7,W7,v8,W8,s1,s2,s3,s4,s5,s6⟩:=drop19 w W6 R gR cap p hp (by omega) hR6 r5.r.bel
       have HN:Aside (R3 w W8 v5 v6 v8 (atL zx (U++[r])) (atL zy (U++[r])) (R.take p++R.drop (p+1))∧((U++[r])++(R.take p++R.drop (p+1))).Perm (List.range k)):=by
        refine ⟨⟨⟨?_,?_,r5.r.d,s5⟩,s3,fun g h1 h2=>?_,fun g h1 h2=>?_⟩,?_⟩
        · rw [atL_snoc,←hzX];exact s6 _ _ r5.r.a
        · rw [atL_snoc,←hzY];exact s6 _ _ r5.r.b
        · have:=s4 g h1;have:=(r5.r.a.lt g h2).2;omega
        · have:=s4 g h1;have:=(r5.r.b.lt g h2).2;omega
        · rw [hr];exact (turn_perm U R p hp).trans HA.out.2
       obtain ⟨ao2,hao2⟩:∃ a:Option Addr,a=if cap=p+1 then some ⟨gR,0,none⟩ else some ⟨gR,p+1,none⟩:=⟨_,rfl⟩
       rw [←hao2] at s2;have HJ:=(qsd (ai r1 (ai r3 (ai s1 s2))));have hu:IntKind.i64.wrap ((p:Int)+1)=((p+1:Nat):Int):=by rw [IntKind.wrap_i64];omega
       have hif:(if cap=p+1 then (some ⟨gR,0,none⟩:Option Addr) else some ⟨gR,p+1,none⟩)=ao2:=hao2.symm
       have hpc:p≤cap:=by omega
       have hp1:p+1≤R.length:=by omega
       have hb0:(0:Int)≤(p:Int)+1:=by omega
       have hb1:(p:Int)+1≤(R.length:Int):=by omega
       have hjb:j<4611686018427387904:=by omega
       have hrn:r<n:=by omega
       have hrm:r<m:=by omega
       have hlt:(R.take p++R.drop (p+1)).length+1=R.length:=by simp;omega
       clear hr r1 r2 r3 r4 r5 hR6 s1 s2 s3 s4 s5 s6 hao2 hzX hzY lU HCE HA
       go_wp2_with (first | (at_builtin;refine wpList_append_flt rfl (.tmp 68) (.tmp 76) rfl _ _ rfl rfl _ _ HJ.out.1 ?_) | (at_builtin;refine wpList_append_flt rfl (.tmp 78) (.tmp 86) rfl _ _ rfl rfl _ _ HJ.out.2.1 ?_))
       refine until_region (fun _=>True) 11 (by kernel_rfl) ?_
       refine until_take (i:=1) [] (v:=?_) rfl (by kernel_rfl) (by kernel_rfl) (by kernel_rfl) (by kernel_rfl) (by kernel_rfl) (fun _ _ _ h=>h) (Or.inl ⟨by rfl,?_⟩) trivial ?_
       rotate_left
       · intro u hSu
         first | (go_simp;done) | (go_simp;with_reducible rfl)
       try simp only [Act.put,List.setIfInBounds_toArray,List.set_cons_zero,List.set_cons_succ]
       refine until_take (i:=2) [] (v:=?_) rfl (by kernel_rfl) (by kernel_rfl) (by kernel_rfl) (by kernel_rfl) (by kernel_rfl) (fun _ _ _ h=>h) (Or.inl ⟨by rfl,?_⟩) trivial ?_
       rotate_left
       · intro u hSu
         first | (go_simp;done) | (go_simp;with_reducible rfl)
       try simp only [Act.put,List.setIfInBounds_toArray,List.set_cons_zero,List.set_cons_succ]
       refine until_take (i:=3) [] (v:=?_) rfl (by kernel_rfl) (by kernel_rfl) (by kernel_rfl) (by kernel_rfl) (by kernel_rfl) (fun _ _ _ h=>h) (Or.inl ⟨by rfl,?_⟩) trivial ?_
       rotate_left
       · intro u hSu
         first | (go_simp;done) | (go_simp;with_reducible rfl)
       try simp only [Act.put,List.setIfInBounds_toArray,List.set_cons_zero,List.set_cons_succ]
       refine until_take (i:=5) [] (v:=?_) rfl (by kernel_rfl) (by kernel_rfl) (by kernel_rfl) (by kernel_rfl) (by kernel_rfl) (fun _ _ _ h=>h) (Or.inl ⟨by rfl,?_⟩) trivial ?_
       rotate_left
       · intro u hSu
         first | (go_simp;done) | (go_simp;with_reducible rfl)
       try simp only [Act.put,List.setIfInBounds_toArray,List.set_cons_zero,List.set_cons_succ]
       refine until_take (i:=6) [] (v:=?_) rfl (by kernel_rfl) (by kernel_rfl) (by kernel_rfl) (by kernel_rfl) (by kernel_rfl) (fun _ _ _ h=>h) (Or.inl ⟨by rfl,?_⟩) trivial ?_
       rotate_left
       · intro u hSu
         first | (go_simp;done) | (go_simp;with_reducible rfl)
       try simp only [Act.put,List.setIfInBounds_toArray,List.set_cons_zero,List.set_cons_succ]
       refine until_take (i:=7) [] (v:=?_) rfl (by kernel_rfl) (by kernel_rfl) (by kernel_rfl) (by kernel_rfl) (by kernel_rfl) (fun _ _ _ h=>h) (Or.inl ⟨by rfl,?_⟩) trivial ?_
       rotate_left
       · intro u hSu
         first | (go_simp;done) | (go_simp;with_reducible rfl)
       try simp only [Act.put,List.setIfInBounds_toArray,List.set_cons_zero,List.set_cons_succ]
       refine until_take (i:=8) [] (v:=?_) rfl (by kernel_rfl) (by kernel_rfl) (by kernel_rfl) (by kernel_rfl) (by kernel_rfl) (fun _ _ _ h=>h) (Or.inl ⟨by rfl,?_⟩) trivial ?_
       rotate_left
       · intro u hSu
         first | (go_simp;done) | (go_simp;with_reducible rfl)
       try simp only [Act.put,List.setIfInBounds_toArray,List.set_cons_zero,List.set_cons_succ]
       refine until_one (i:=0) (by kernel_rfl) rfl (fun K' hK=>?_)
       go_simp
       refine hK.out _ _ (fun _=>trivial) ?_
       clear hK K'
       try simp only [Act.put,List.setIfInBounds_toArray,List.set_cons_zero,List.set_cons_succ]
       refine until_one (i:=4) (by kernel_rfl) rfl (fun K' hK=>?_)
       rw [if_pos (by rfl)]
       refine wp_append_jnt _ _ rfl _ _ rfl rfl v7 W7 HJ.out.2.2.1 ?_;refine hK.out _ _ (fun _=>trivial) ?_
       clear hK K'
       try simp only [Act.put,List.setIfInBounds_toArray,List.set_cons_zero,List.set_cons_succ]
       refine until_one (i:=9) (by kernel_rfl) rfl (fun K' hK=>?_)
       rw [if_pos (by rfl)]
       refine wp_append_jnt _ _ rfl _ _ rfl rfl v8 W8 HJ.out.2.2.2 ?_;refine hK.out _ _ (fun _=>trivial) ?_
       clear hK K'
       try simp only [Act.put,List.setIfInBounds_toArray,List.set_cons_zero,List.set_cons_succ]
       refine until_one (i:=10) (by kernel_rfl) rfl (fun K' hK=>?_)
       go_simp
       refine hK.out _ _ (fun _=>trivial) ?_
       clear hK K';refine until_done (by kernel_rfl) ?_ _
       go_wp2
       go_roundg (R.take p++R.drop (p+1)).length
       case measure=>omega
       case rel=>exact ⟨j+1,R.take p++R.drop (p+1),U++[r],_,_,_,rfl,by omega,by omega,by first | rfl | simp,rfl,rfl,rfl,HN.out⟩
     · obtain rfl:R=[]:=List.eq_nil_of_length_eq_zero (by omega)
       have hU:U.Perm (List.range zx.length):=by rw [HX.out.1];have:=HA.out.2;rw [List.append_nil] at this;exact this
       have hlz:zx.length=zy.length:=by rw [HX.out.1,HX.out.2.1]
       have lu:(atL zx U).length=k:=by rw [(atL_px hlz hU).length_eq];exact HX.out.1
       have lv:(atL zy U).length=k:=by rw [(atL_py hlz hU).length_eq];exact HX.out.2.1
       obtain ⟨au,cu,hv1,hcu⟩:=HA.out.1.r.a.shape0;obtain ⟨av,cv,hv2,hcv⟩:=HA.out.1.r.b.shape0;rw [lu] at hv1;rw [lv] at hv2;subst hv1 hv2;obtain ⟨a9,c9,hv9,_⟩:=HA.out.1.c.shape0;rw [List.length_nil] at hv9;subst hv9;obtain ⟨⟨N0,s,c0,tt,l,E⟩,hf⟩:∃ z,fitR zx zy mode=z:=⟨_,rfl⟩;obtain ⟨⟨p1,e1⟩,hat⟩:∃ z,atR zx zy x mode=z:=⟨_,rfl⟩;obtain ⟨⟨t1,e2⟩,hth⟩:∃ z,thR zx zy mode=z:=⟨_,rfl⟩;have hf2:=hf;rw [←ord_fit hlz hU] at hf2;have hat2:=hat;rw [←ord_at hlz hU] at hat2;have hth2:=hth;rw [←ord_th hlz hU] at hth2;have B0:=qsd HA.out.1.r.bel;have Fu:=HA.out.1.r.a.fs;have Fv:=HA.out.1.r.b.fs
       have KA:Hid (∀ u:World,Below wr.heap.size wr u→Calls Tryz.prog 10 #[.slice a k c,.slice b k d,.int .i64 mode] u fun r w'=>r=.returned (.tuple #[.agg #[.int .i64 N0,.float .f64 s,.float .f64 c0,.float .f64 tt,.float .f64 l],.int .i64 E])∧Below u.heap.size u w'):=fun u hu =>
        Line19z zx zy a b k k c d mode u HX.out.1.symm HX.out.2.1.symm ((HX.out.2.2.2.2.1.below (B0.out.trans (hu.mono B0.out.size))).mono (Nat.le_trans B0.out.size hu.size)) ((HX.out.2.2.2.2.2.1.below (B0.out.trans (hu.mono B0.out.size))).mono (Nat.le_trans B0.out.size hu.size)) HX.out.2.2.1 HX.out.2.2.2.1 ((HX.out.2.2.2.2.2.2.1.belows B0.out).belows hu) hf
       have KB:Hid (∀ u:World,Below wr.heap.size wr u→Calls Tryz.prog 10 #[.slice au k cu,.slice av k cv,.int .i64 mode] u fun r w'=>r=.returned (.tuple #[.agg #[.int .i64 N0,.float .f64 s,.float .f64 c0,.float .f64 tt,.float .f64 l],.int .i64 E])∧Below u.heap.size u w'):=fun u hu =>
        Line19z (atL zx U) (atL zy U) au av k k cu cv mode u lu.symm lv.symm ((Fu.below hu).mono hu.size) ((Fv.below hu).mono hu.size) (ord_wx hlz hU HX.out.2.2.1) (ord_wy hlz hU HX.out.2.2.2.1) ((HX.out.2.2.2.2.2.2.1.belows B0.out).belows hu) hf2
       have KC:Hid (∀ u:World,Below wr.heap.size wr u→Calls Tryz.prog 13 #[.slice a k c,.slice b k d,.float .f64 x,.int .i64 mode] u fun r w'=>r=.returned (.tuple #[.float .f64 p1,.int .i64 e1])∧Below u.heap.size u w'):=fun u hu =>
        At19z zx zy x a b k k c d mode u HX.out.1.symm HX.out.2.1.symm ((HX.out.2.2.2.2.1.below (B0.out.trans (hu.mono B0.out.size))).mono (Nat.le_trans B0.out.size hu.size)) ((HX.out.2.2.2.2.2.1.below (B0.out.trans (hu.mono B0.out.size))).mono (Nat.le_trans B0.out.size hu.size)) HX.out.2.2.1 HX.out.2.2.2.1 HX.out.2.2.2.2.2.2.2.2.2.2 ((HX.out.2.2.2.2.2.2.1.belows B0.out).belows hu) hat
       have KD:Hid (∀ u:World,Below wr.heap.size wr u→Calls Tryz.prog 13 #[.slice au k cu,.slice av k cv,.float .f64 x,.int .i64 mode] u fun r w'=>r=.returned (.tuple #[.float .f64 p1,.int .i64 e1])∧Below u.heap.size u w'):=fun u hu =>
        At19z (atL zx U) (atL zy U) x au av k k cu cv mode u lu.symm lv.symm ((Fu.below hu).mono hu.size) ((Fv.below hu).mono hu.size) (ord_wx hlz hU HX.out.2.2.1) (ord_wy hlz hU HX.out.2.2.2.1) HX.out.2.2.2.2.2.2.2.2.2.2 ((HX.out.2.2.2.2.2.2.1.belows B0.out).belows hu) hat2
       have KE:Hid (∀ u:World,Below wr.heap.size wr u→Calls Tryz.prog 12 #[.slice a k c,.slice b k d,.int .i64 mode] u fun r w'=>r=.returned (.tuple #[.float .f64 t1,.int .i64 e2])∧Below u.heap.size u w'):=fun u hu =>
        Through19z zx zy a b k k c d mode u HX.out.1.symm HX.out.2.1.symm ((HX.out.2.2.2.2.1.below (B0.out.trans (hu.mono B0.out.size))).mono (Nat.le_trans B0.out.size hu.size)) ((HX.out.2.2.2.2.2.1.below (B0.out.trans (hu.mono B0.out.size))).mono (Nat.le_trans B0.out.size hu.size)) HX.out.2.2.1 HX.out.2.2.2.1 ((HX.out.2.2.2.2.2.2.1.belows B0.out).belows hu) hth
       have KF:Hid (∀ u:World,Below wr.heap.size wr u→Calls Tryz.prog 12 #[.slice au k cu,.slice av k cv,.int .i64 mode] u fun r w'=>r=.returned (.tuple #[.float .f64 t1,.int .i64 e2])∧Below u.heap.size u w'):=fun u hu =>
        Through19z (atL zx U) (atL zy U) au av k k cu cv mode u lu.symm lv.symm ((Fu.below hu).mono hu.size) ((Fv.below hu).mono hu.size) (ord_wx hlz hU HX.out.2.2.1) (ord_wy hlz hU HX.out.2.2.2.1) ((HX.out.2.2.2.2.2.2.1.belows B0.out).belows hu) hth2
       have C:=hid (KA.out wr (Below.refl _ _));clear hf hf2 hat hat2 hth hth2 Fu Fv lu lv hcu hcv hlz hU HA KA hR
       go_wp2_with fail
       refine C.out.mono ?_;clear C;rintro r u1 ⟨rfl,hb⟩;obtain ⟨U1,hU1⟩:∃ U,U=u1.alloc (Obj.cells #[.int .i64 N0,.float .f64 s,.float .f64 c0,.float .f64 tt,.float .f64 l] 26):=⟨_,rfl⟩;obtain ⟨g1,hg1⟩:∃ g,g=u1.heap.size:=⟨_,rfl⟩
       have B1:Aside (Below wr.heap.size wr U1∧Bl U1 g1 26 [.int .i64 N0,.float .f64 s,.float .f64 c0,.float .f64 tt,.float .f64 l]):=by
        rw [hU1,hg1];exact ⟨hb.trans ((bel_alloc _ _).mono hb.size),Bl.new _ 26 [.int .i64 N0,.float .f64 s,.float .f64 c0,.float .f64 tt,.float .f64 l]⟩
       have HU1:=(qsd (ai hU1 hg1));have C:=hid (KB.out U1 B1.out.1);clear hU1 hg1 hb KB
       go_upto_region 22 with fail
       rw [←HU1.out.1,←HU1.out.2];clear HU1
       go_wp2_with fail
       refine C.out.mono ?_;clear C;rintro r u2 ⟨rfl,hb⟩;obtain ⟨U2,hU2⟩:∃ U,U=u2.alloc (Obj.cells #[.int .i64 N0,.float .f64 s,.float .f64 c0,.float .f64 tt,.float .f64 l] 26):=⟨_,rfl⟩;obtain ⟨g2,hg2⟩:∃ g,g=u2.heap.size:=⟨_,rfl⟩
       have B2:Aside (Below wr.heap.size wr U2∧Bl U2 g1 26 [.int .i64 N0,.float .f64 s,.float .f64 c0,.float .f64 tt,.float .f64 l]∧Bl U2 g2 26 [.int .i64 N0,.float .f64 s,.float .f64 c0,.float .f64 tt,.float .f64 l]):=by
        have hb2:Below U1.heap.size U1 U2:=by rw [hU2];exact hb.trans ((bel_alloc _ _).mono hb.size)
        refine ⟨B1.out.1.trans (hb2.mono B1.out.1.size),B1.out.2.below hb2 B1.out.2.lt,?_⟩;rw [hU2,hg2];exact Bl.new _ 26 [.int .i64 N0,.float .f64 s,.float .f64 c0,.float .f64 tt,.float .f64 l]
       have HU2:=(qsd (ai hU2 hg2));have C:=hid (KC.out U2 B2.out.1);clear hU2 hg2 hb KC B1
       go_upto_region 23 with fail
       rw [←HU2.out.1,←HU2.out.2];clear HU2
       go_wp2_with fail
       refine C.out.mono ?_;clear C;rintro r u3 ⟨rfl,hb⟩;have B3:=qsd (ai (B2.out.1.trans (hb.mono B2.out.1.size)) (ai (B2.out.2.1.below hb B2.out.2.1.lt) (B2.out.2.2.below hb B2.out.2.2.lt)));have C:=hid (KD.out u3 B3.out.1);clear hb KD B2
       go_wp2_with fail
       refine C.out.mono ?_;clear C;rintro r u4 ⟨rfl,hb⟩;have B4:=qsd (ai (B3.out.1.trans (hb.mono B3.out.1.size)) (ai (B3.out.2.1.below hb B3.out.2.1.lt) (B3.out.2.2.below hb B3.out.2.2.lt)));have C:=hid (KE.out u4 B4.out.1);clear hb KE B3
       go_wp2_with fail
       refine C.out.mono ?_;clear C;rintro r u5 ⟨rfl,hb⟩;have B5:=qsd (ai (B4.out.1.trans (hb.mono B4.out.1.size)) (ai (B4.out.2.1.below hb B4.out.2.1.lt) (B4.out.2.2.below hb B4.out.2.2.lt)));have C:=hid (KF.out u5 B5.out.1);clear hb KF B4
       go_wp2_with fail
       refine C.out.mono ?_;clear C;rintro r u6 ⟨rfl,hb⟩;have B6:=qsd (ai (B5.out.1.trans (hb.mono B5.out.1.size)) (ai (B5.out.2.1.below hb B5.out.2.1.lt) (B5.out.2.2.below hb B5.out.2.2.lt)));clear hb B5;have C:=hid (same19 N0 s c0 tt l u6);have y0:=B6.out.2.1.cell 0 _ rfl;have z0:=B6.out.2.2.cell 0 _ rfl;have y1:=B6.out.2.1.cell 1 _ rfl;have z1:=B6.out.2.2.cell 1 _ rfl;have y2:=B6.out.2.1.cell 2 _ rfl;have z2:=B6.out.2.2.cell 2 _ rfl;have y3:=B6.out.2.1.cell 3 _ rfl;have z3:=B6.out.2.2.cell 3 _ rfl;have y4:=B6.out.2.1.cell 4 _ rfl;have z4:=B6.out.2.2.cell 4 _ rfl;have o1:(E==E)=true:=by simp
       have o2:(e1==e1)=true:=by simp
       have o3:(e2==e2)=true:=by simp
       go_wp2_with fail
       refine C.out.mono ?_;clear C y0 y1 y2 y3 y4 z0 z1 z2 z3 z4;rintro r u7 ⟨rfl,hb⟩;have B7:=qsd (B0.out.trans ((B6.out.1.trans (hb.mono B6.out.1.size)).mono B0.out.size));clear hb B6;have C:=hid (exact_self19 p1 u7);have D:=hid (exact_self19 t1 u7)
       go_wp2_with fail
       refine C.out.mono ?_;clear C;rintro r u8 ⟨rfl,hu⟩;rw [hu];clear hu u8
       go_wp2_with fail
       refine D.out.mono ?_;clear D;rintro r u8 ⟨rfl,hu⟩;rw [hu];clear hu u8;go_wp2;exact bodyPost_ret (v:=.bool true) (by simp [results,Tryz.results5,go_sem]) rfl ⟨rfl,B7.out⟩
end
end Go.Proofs.YtopgffjnejaijaaGreatDoor
