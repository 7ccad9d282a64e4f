import Derived.Test.YtopgffjnejaijaaGreatDoorFI6x
import Derived.Test.YtopgffjnejaijaaGreatDoorE5x
import Derived.Test.YtopgffjnejaijaaGreatDoorN4x
import Derived.Test.YtopgffjnejaijaaGreatDoorS11ax
import Derived.Test.YtopgffjnejaijaaGreatDoorD30x
import Derived.Test.YtopgffjnejaijaaGreatDoorM1x
import Derived.ProofKit
import Derived.OpenShut
import Derived.ChangeOld
import Derived.ChangeArms
import Derived.SizedLaws
import Derived.Laws.Cover2
set_option linter.unusedVariables false
set_option linter.unusedSimpArgs false
set_option maxHeartbeats 16000000
set_option maxRecDepth 20000
namespace Go.Proofs.YtopgffjnejaijaaGreatDoor
namespace J
end J
section
open Go Go.RowKit J
structure Gd (xs ys:List Nat):Prop where
 x64:W64 xs
 y64:W64 ys
 xf:∀ x ∈ xs,finW x
 yf:∀ x ∈ ys,finW x
 len:xs.length=ys.length
 le:xs.length≤65536
def fD (xs ys:List Nat):Int:=(xs.length:Int)*pS xs xs-zS fvW xs*zS fvW xs
def fC (xs ys:List Nat):Int:=(xs.length:Int)*pS xs ys-zS fvW xs*zS fvW ys
def fT (xs ys:List Nat):Int:=(xs.length:Int)*pS ys ys-zS fvW ys*zS fvW ys
def fK (xs ys:List Nat):Int:=pS xs xs*zS fvW ys-zS fvW xs*pS xs ys
section
variable {xs ys : List Nat} (G : Gd xs ys)
include G
theorem Gd.n16:Bd 16 ((xs.length:Nat):Int):=Bd.nat (by have:=G.le;omega)
theorem Gd.sx:Bd 2114 (zS fvW xs):=fS_bd19 G.x64 G.xf G.le
theorem Gd.sy:Bd 2114 (zS fvW ys):=fS_bd19 G.y64 G.yf (by have:=G.len;have:=G.le;omega)
theorem Gd.xx:Bd 4212 (pS xs xs):=pS_bd G.x64 G.x64 G.xf G.xf G.le
theorem Gd.xy:Bd 4212 (pS xs ys):=pS_bd G.x64 G.y64 G.xf G.yf G.le
theorem Gd.yy:Bd 4212 (pS ys ys):=pS_bd G.y64 G.y64 G.yf G.yf (by have:=G.len;have:=G.le;omega)
theorem Gd.d:Bd 4229 (fD xs ys):=Bd.sub (m:=4228) (G.n16.mul G.xx) (G.sx.mul G.sx)
theorem Gd.c:Bd 4229 (fC xs ys):=Bd.sub (m:=4228) (G.n16.mul G.xy) (G.sx.mul G.sy)
theorem Gd.t:Bd 4229 (fT xs ys):=Bd.sub (m:=4228) (G.n16.mul G.yy) (G.sy.mul G.sy)
theorem Gd.k:Bd 6327 (fK xs ys):=Bd.sub (m:=6326) (G.xx.mul G.sy) (G.sx.mul G.xy)
end
theorem gm {u v a b:Nat}{V W:Int}(h1:Bd a V) (h2:Bd b W) (hu:u≤50000:=by decide) (hv:v≤50000:=by decide) (ha:a≤40000:=by decide) (hb:b≤40000:=by decide):mulD (gV u V) (gV v W)=gV (u+v) (V*W):=g_mul hu hv ha hb h1 h2
theorem gf {u m:Nat}{V:Int}(h:Bd m V) (hu:u≤100000:=by decide) (hm:m≤99999:=by decide):Fm (gV u V):=g_fm hu hm h
theorem gs {u m:Nat}{V W:Int}(h1:Bd m V) (h2:Bd m W) (hu:u≤100000:=by decide) (hm:m≤90000:=by decide):addD (gV u V) (mkS (!dN (gV u W)) (dX (gV u W)) (dE (gV u W)))=gV u (V-W):=g_sub hu hm h1 h2
theorem ga {u m:Nat}{V W:Int}(h1:Bd m V) (h2:Bd m W) (hu:u≤100000:=by decide) (hm:m≤90000:=by decide):addD (gV u V) (gV u W)=gV u (V+W):=g_add hu hm h1 h2
theorem gz {u m:Nat}{V:Int}(h:Bd m V) (hu:u≤100000:=by decide) (hm:m≤90000:=by decide):dX (gV u V)=0↔V=0:=(g_sign hu hm h).1
theorem lineOf19 {xs ys:List Nat}(G:Gd xs ys) (a b:Option Addr) (n c d:Nat) (w:World) (hn:n=xs.length) (hF:Fs w.heap.size w a xs) (hF2:Fs w.heap.size w b ys) (hT:Tab w) :
 Calls Tryz.prog 22 #[.slice a n c,.slice b n d] w fun r w'=>(∃ v,r=.returned v∧Ln19 w' v (gV 0 (n:Nat)) (gV 2148 (fD xs ys)) (gV 2148 (fC xs ys)) (gV 2148 (fT xs ys)) (gV 3222 (fK xs ys)))∧Below w.heap.size w w':=by
 have hl:=G.le;have hm:n=ys.length:=by rw [hn];exact G.len
 have b1:=G.n16.mul G.xx;have b2:=G.sx.mul G.sx;have b3:=G.n16.mul G.xy;have b4:=G.sx.mul G.sy;have b5:=G.n16.mul G.yy;have b6:=G.sy.mul G.sy;have b7:=G.xx.mul G.sy;have b8:=G.sx.mul G.xy;have e:=hn;have hs:∀ u:World,Below w.heap.size w u→Fs u.heap.size u a xs:=fun u hu=>(hF.below hu).mono hu.size
 have hs2:∀ u:World,Below w.heap.size w u→Fs u.heap.size u b ys:=fun u hu=>(hF2.below hu).mono hu.size
 refine lineOf_core w a b n c d (by omega) (gV 0 (n:Nat)) (gV 1074 (zS fvW xs)) (gV 1074 (zS fvW ys)) (gV 2148 (pS xs xs)) (gV 2148 (pS xs ys)) (gV 2148 (pS ys ys))
  (gV 2148 ((xs.length:Int)*pS xs xs)) (gV 2148 (zS fvW xs*zS fvW xs)) (gV 2148 ((xs.length:Int)*pS xs ys)) (gV 2148 (zS fvW xs*zS fvW ys)) (gV 2148 ((xs.length:Int)*pS ys ys)) (gV 2148 (zS fvW ys*zS fvW ys)) (gV 3222 (pS xs xs*zS fvW ys)) (gV 3222 (zS fvW xs*pS xs ys))
  (gV 2148 (fD xs ys)) (gV 2148 (fC xs ys)) (gV 2148 (fT xs ys)) (gV 3222 (fK xs ys))
  ⟨?_,gf G.sx,gf G.sy,gf G.xx,gf G.xy,gf G.yy,gf b1,gf b2,gf b3,gf b4,gf b5,gf b6,gf b7,gf b8,gf G.d,gf G.c,gf G.t,gf G.k⟩
  ⟨?_,gm G.sx G.sx,?_,gm G.sx G.sy,?_,gm G.sy G.sy,gm G.xx G.sy,gm G.sx G.xy,gs b1 b2,gs b3 b4,gs b5 b6,gs b7 b8⟩
  (hid fun u hu=>Int14 n u (hT.belows hu) (by omega) (by omega)) (hid fun u hu=>total19 xs a n c u hn (hs u hu) G.x64 G.xf (hT.belows hu) (by omega)) (hid fun u hu=>total19 ys b n d u hm (hs2 u hu) G.y64 G.yf (hT.belows hu) (by omega))
  (hid fun u hu=>products19 xs xs a a n c c u hn hn (hs u hu) (hs u hu) G.x64 G.x64 G.xf G.xf (hT.belows hu) (by omega)) (hid fun u hu=>products19 xs ys a b n c d u hn hm (hs u hu) (hs2 u hu) G.x64 G.y64 G.xf G.yf (hT.belows hu) (by omega)) (hid fun u hu=>products19 ys ys b b n d d u hm hm (hs2 u hu) (hs2 u hu) G.y64 G.y64 G.yf G.yf (hT.belows hu) (by omega))
  (qsd fun u hu=>hT.belows hu)
 · rw [hn];exact gf G.n16
 · rw [hn];exact gm (u:=0) G.n16 G.xx
 · rw [hn];exact gm (u:=0) G.n16 G.xy
 · rw [hn];exact gm (u:=0) G.n16 G.yy
theorem am_ok {xs ys zs:List Nat}{mode:Int}{least:Nat}(hW:W64 xs) (hV:W64 ys) (h:amE xs ys zs mode least=0):Gd xs ys∧0≤mode∧mode≤4∧least≤xs.length∧fiB zs=true:=by
 unfold amE at h
 by_cases h1:mode<0∨4<mode
 · rw [if_pos h1] at h;omega
 rw [if_neg h1] at h
 by_cases h2:65536<xs.length∨65536<ys.length
 · rw [if_pos h2] at h;omega
 rw [if_neg h2] at h
 by_cases h3:xs.length≠ys.length
 · rw [if_pos h3] at h;omega
 rw [if_neg h3] at h
 by_cases h4:(fiB xs&&fiB ys&&fiB zs)=false
 · rw [if_pos h4] at h;omega
 rw [if_neg h4] at h
 by_cases h5:xs.length<least
 · rw [if_pos h5] at h;omega
 rw [Bool.not_eq_false,Bool.and_eq_true,Bool.and_eq_true] at h4;exact ⟨⟨hW,hV,(fiB_iff _).1 h4.1.1,(fiB_iff _).1 h4.1.2,by omega,by omega⟩,by omega,by omega,by omega,h4.2⟩
noncomputable def fitR (xs ys:List Nat) (mode:Int):Int×Nat×Nat×Nat×Nat×Int :=
 if amE xs ys [] mode 2≠0 then (0,0,0,0,0,amE xs ys [] mode 2) else if fD xs ys=0 then (0,0,0,0,0,190) else
  ((xs.length:Nat),(qR19 (gV 2148 (fC xs ys)) (gV 2148 (fD xs ys)) mode).1,(qR19 (gV 3222 (fK xs ys)) (gV 2148 (fD xs ys)) mode).1,
    (if fT xs ys=0 then 4607182418800017408 else (qR19 (gV 4296 (fC xs ys*fC xs ys)) (gV 4296 (fD xs ys*fT xs ys)) mode).1),
    (qR19 (gV 4296 (fD xs ys*fT xs ys-fC xs ys*fC xs ys)) (gV 2148 ((xs.length:Int)*fD xs ys)) mode).1,0)
abbrev fitV (z:Int×Nat×Nat×Nat×Nat×Int):Value:=.tuple #[.agg #[.int .i64 z.1,.float .f64 z.2.1,.float .f64 z.2.2.1,.float .f64 z.2.2.2.1,.float .f64 z.2.2.2.2.1],.int .i64 z.2.2.2.2.2]
theorem fs_nil19 (B:Nat) (w:World) (a:Option Addr):Fs B w a []:=fun h=>absurd rfl h
theorem w64_nil:W64 []:=fun x hx=>by cases hx
theorem Line19 (xs ys:List Nat) (a b:Option Addr) (n m c d:Nat) (mode:Int) (w:World) (hn:n=xs.length) (hm:m=ys.length) (hF:Fs w.heap.size w a xs) (hF2:Fs w.heap.size w b ys) (hW:W64 xs) (hV:W64 ys) (hT:Tab w) :
 Calls Tryz.prog 10 #[.slice a n c,.slice b m d,.int .i64 mode] w fun r w'=>r=.returned (fitV (fitR xs ys mode))∧Below w.heap.size w w':=by
 have hs:∀ u:World,Below w.heap.size w u→Fs u.heap.size u a xs:=fun u hu=>(hF.below hu).mono hu.size
 have hs2:∀ u:World,Below w.heap.size w u→Fs u.heap.size u b ys:=fun u hu=>(hF2.below hu).mono hu.size
 have HA:∀ u:World,Below w.heap.size w u→Calls Tryz.prog 21 #[.slice a n c,.slice b m d,.int .i64 mode,.int .i64 2,.slice none 0 0] u fun r w'=>r=.returned (.int .i64 (amE xs ys [] mode 2))∧Below u.heap.size u w' :=
  fun u hu=>amiss19 xs ys [] a b none n m 0 c d 0 mode 2 u hn hm rfl (by omega) (by omega) (hs u hu) (hs2 u hu) (fs_nil19 _ _ _) hW hV w64_nil
 unfold fitR
 by_cases hE:amE xs ys [] mode 2=0
 · rw [if_neg (by simpa using hE)]
   rw [hE] at HA;obtain ⟨G,h0,h4,h2,_⟩:=am_ok hW hV hE;have hnm:n=m:=by rw [hn,hm];exact G.len
   have HL:Hid (∀ u:World,Below w.heap.size w u→Calls Tryz.prog 22 #[.slice a n c,.slice b m d] u fun r w'=>(∃ v,r=.returned v∧Ln19 w' v (gV 0 (n:Nat)) (gV 2148 (fD xs ys)) (gV 2148 (fC xs ys)) (gV 2148 (fT xs ys)) (gV 3222 (fK xs ys)))∧Below u.heap.size u w') :=
    fun u hu=>by subst hnm;exact lineOf19 G a b n c d u hn (hs u hu) (hs2 u hu) (hT.belows hu)
   have bn:Bd 16 ((n:Nat):Int):=by rw [hn];exact G.n16
   have FF:Aside (Fm (gV 0 ((n:Nat):Int))∧Fm (gV 2148 (fD xs ys))∧Fm (gV 2148 (fC xs ys))∧Fm (gV 2148 (fT xs ys))∧Fm (gV 3222 (fK xs ys))∧Fm (gV 4296 (fC xs ys*fC xs ys))∧Fm (gV 4296 (fD xs ys*fT xs ys))∧Fm (gV 4296 (fD xs ys*fT xs ys-fC xs ys*fC xs ys))∧Fm (gV 2148 ((n:Int)*fD xs ys))) :=
    ⟨gf bn,gf G.d,gf G.c,gf G.t,gf G.k,gf (G.c.mul G.c),gf (G.d.mul G.t),gf ((G.d.mul G.t).sub (G.c.mul G.c)),gf (bn.mul G.d)⟩
   by_cases hD:fD xs ys=0
   · rw [if_pos hD]
     exact Line_flat mode ((gz G.d).2 hD) FF (hid HA) HL
   · rw [if_neg hD]
     have C:=Line_ok (a:=a) (b:=b) (n:=n) (m:=m) (c:=c) (d:=d) mode hnm (fun h=>hD ((gz G.d).1 h)) FF ⟨gm G.d G.t,gm G.c G.c,gs (G.d.mul G.t) (G.c.mul G.c),gm (u:=0) bn G.d⟩ (qsd fun u hu=>hT.belows hu) (hid HA) HL
     refine C.mono ?_;rintro r w' ⟨rfl,hb⟩;refine ⟨?_,hb⟩;have ht:(dX (gV 2148 (fT xs ys))=0)=(fT xs ys=0):=propext (gz G.t);simp only [ht,hn]
 · rw [if_pos hE]
   exact Line_no mode _ hE (hid HA)
noncomputable def atR (xs ys:List Nat) (x:Nat) (mode:Int):Nat×Int :=
 if amE xs ys [x] mode 2≠0 then (0,amE xs ys [x] mode 2) else if fD xs ys=0 then (0,190) else
  ((qR19 (gV 3222 (fK xs ys+fC xs ys*fvW x)) (gV 2148 (fD xs ys)) mode).1,0)
theorem At19 (xs ys:List Nat) (x:Nat) (a b:Option Addr) (n m c d:Nat) (mode:Int) (w:World) (hn:n=xs.length) (hm:m=ys.length) (hF:Fs w.heap.size w a xs) (hF2:Fs w.heap.size w b ys) (hW:W64 xs) (hV:W64 ys) (hx:x<18446744073709551616) (hT:Tab w) :
 Calls Tryz.prog 13 #[.slice a n c,.slice b m d,.float .f64 x,.int .i64 mode] w fun r w'=>r=.returned (.tuple #[.float .f64 (atR xs ys x mode).1,.int .i64 (atR xs ys x mode).2])∧Below w.heap.size w w':=by
 have hs:∀ u:World,Below w.heap.size w u→Fs u.heap.size u a xs:=fun u hu=>(hF.below hu).mono hu.size
 have hs2:∀ u:World,Below w.heap.size w u→Fs u.heap.size u b ys:=fun u hu=>(hF2.below hu).mono hu.size
 have HA:∀ u:World,Below w.heap.size w u→∀ g:Nat,w.heap.size≤g→u.cell? ⟨g,0,none⟩=some (.float .f64 x)→Calls Tryz.prog 21 #[.slice a n c,.slice b m d,.int .i64 mode,.int .i64 2,.slice (some ⟨g,0,none⟩) 1 1] u fun r w'=>r=.returned (.int .i64 (amE xs ys [x] mode 2))∧Below u.heap.size u w' :=
  fun u hu g hg hc=>amiss19 xs ys [x] a b (some ⟨g,0,none⟩) n m 1 c d 1 mode 2 u hn hm rfl (by omega) (by omega) (hs u hu) (hs2 u hu) (fun _=>⟨g,0,World.block_lt_of_cell? u _ hc,rfl,fun i hi=>by
   have:i=0:=by simp at hi;omega
   subst this;exact hc⟩) hW hV (fun z hz=>by rw [List.mem_singleton] at hz;rw [hz];exact hx)
 unfold atR
 by_cases hE:amE xs ys [x] mode 2=0
 · rw [if_neg (by simpa using hE)]
   rw [hE] at HA;obtain ⟨G,h0,h4,h2,h5⟩:=am_ok hW hV hE;have fx:finW x:=(fiB_iff _).1 h5 x List.mem_cons_self;have hnm:n=m:=by rw [hn,hm];exact G.len
   have HL:Hid (∀ u:World,Below w.heap.size w u→Calls Tryz.prog 22 #[.slice a n c,.slice b m d] u fun r w'=>(∃ v,r=.returned v∧Ln19 w' v (gV 0 (n:Nat)) (gV 2148 (fD xs ys)) (gV 2148 (fC xs ys)) (gV 2148 (fT xs ys)) (gV 3222 (fK xs ys)))∧Below u.heap.size u w') :=
    fun u hu=>by subst hnm;exact lineOf19 G a b n c d u hn (hs u hu) (hs2 u hu) (hT.belows hu)
   have bx:=fv_bd hx fx
   have FF:Aside (Fm (gV 2148 (fD xs ys))∧Fm (gV 2148 (fC xs ys))∧Fm (gV 3222 (fK xs ys))∧Fm (gV 1074 (fvW x))∧Fm (gV 3222 (fC xs ys*fvW x))∧Fm (gV 3222 (fK xs ys+fC xs ys*fvW x))) :=
    ⟨gf G.d,gf G.c,gf G.k,gf bx,gf (G.c.mul bx),gf (G.k.add (G.c.mul bx))⟩
   by_cases hD:fD xs ys=0
   · rw [if_pos hD]
     exact At_flat x mode ((gz G.d).2 hD) FF (hid HA) HL
   · rw [if_neg hD]
     exact At_ok x mode (fun h=>hD ((gz G.d).1 h)) FF ⟨gm G.c bx,ga G.k (G.c.mul bx)⟩ (qsd fun u hu=>hT.belows hu) (hid HA) HL (hid fun u hu=>of_any8 x ⟨hx,fx⟩ u (hT.belows hu))
 · rw [if_pos hE]
   exact At_no x mode _ hE (hid HA)
noncomputable def thR (xs ys:List Nat) (mode:Int):Nat×Int :=
 if amE xs ys [] mode 1≠0 then (0,amE xs ys [] mode 1) else if pS xs xs=0 then (0,190) else ((qR19 (gV 2148 (pS xs ys)) (gV 2148 (pS xs xs)) mode).1,0)
theorem Through19 (xs ys:List Nat) (a b:Option Addr) (n m c d:Nat) (mode:Int) (w:World) (hn:n=xs.length) (hm:m=ys.length) (hF:Fs w.heap.size w a xs) (hF2:Fs w.heap.size w b ys) (hW:W64 xs) (hV:W64 ys) (hT:Tab w) :
 Calls Tryz.prog 12 #[.slice a n c,.slice b m d,.int .i64 mode] w fun r w'=>r=.returned (.tuple #[.float .f64 (thR xs ys mode).1,.int .i64 (thR xs ys mode).2])∧Below w.heap.size w w':=by
 have hs:∀ u:World,Below w.heap.size w u→Fs u.heap.size u a xs:=fun u hu=>(hF.below hu).mono hu.size
 have hs2:∀ u:World,Below w.heap.size w u→Fs u.heap.size u b ys:=fun u hu=>(hF2.below hu).mono hu.size
 have HA:∀ u:World,Below w.heap.size w u→Calls Tryz.prog 21 #[.slice a n c,.slice b m d,.int .i64 mode,.int .i64 1,.slice none 0 0] u fun r w'=>r=.returned (.int .i64 (amE xs ys [] mode 1))∧Below u.heap.size u w' :=
  fun u hu=>amiss19 xs ys [] a b none n m 0 c d 0 mode 1 u hn hm rfl (by omega) (by omega) (hs u hu) (hs2 u hu) (fs_nil19 _ _ _) hW hV w64_nil
 unfold thR
 by_cases hE:amE xs ys [] mode 1=0
 · rw [if_neg (by simpa using hE)]
   rw [hE] at HA;obtain ⟨G,h0,h4,h2,_⟩:=am_ok hW hV hE;have hnm:n=m:=by rw [hn,hm];exact G.len
   have hl:=G.le
   have HX:Hid (∀ u:World,Below w.heap.size w u→Calls Tryz.prog 27 #[.slice a n c,.slice a n c] u fun r w'=>DVal 0 w' r (gV 2148 (pS xs xs))∧Below u.heap.size u w') :=
    fun u hu=>products19 xs xs a a n c c u hn hn (hs u hu) (hs u hu) G.x64 G.x64 G.xf G.xf (hT.belows hu) (by omega)
   have HY:Hid (∀ u:World,Below w.heap.size w u→Calls Tryz.prog 27 #[.slice a n c,.slice b m d] u fun r w'=>DVal 0 w' r (gV 2148 (pS xs ys))∧Below u.heap.size u w') :=
    fun u hu=>by subst hnm;exact products19 xs ys a b n c d u hn hm (hs u hu) (hs2 u hu) G.x64 G.y64 G.xf G.yf (hT.belows hu) (by omega)
   have FF:Aside (Fm (gV 2148 (pS xs xs))∧Fm (gV 2148 (pS xs ys))):=⟨gf G.xx,gf G.xy⟩
   by_cases hD:pS xs xs=0
   · rw [if_pos hD]
     exact Through_flat mode ((gz G.xx).2 hD) FF (hid HA) HX
   · rw [if_neg hD]
     exact Through_ok mode (fun h=>hD ((gz G.xx).1 h)) FF (qsd fun u hu=>hT.belows hu) (hid HA) HX HY
 · rw [if_pos hE]
   exact Through_no mode _ hE (hid HA)
end
section
open Go Go.RowKit J
theorem g_parts {u k:Nat}{V:Int}(hu:u≤100000) (hV:V≠0) (hk:k≤90000) (hb:Bd k V):∃ X e,gV u V=some (decide (V<0),X,e)∧X%2=1∧-(u:Int)≤e∧e≤200000∧X*2^(e+(u:Int)).toNat=V.natAbs∧bl X≤262144∧Frm (decide (V<0)) X e:=by
 obtain ⟨n,X,e,ho,F,hx⟩:=g_iv (u:=u) hu (by omega) hb
 have hm:mkS (decide (V<0)) V.natAbs (-(u:Int))=some (n,X,e):=ho;have hz:=zv_mkS hm (-(u:Int)) (.inr (by omega))
 unfold zv at hz;simp only at hz;rw [show (-(u:Int) - -(u:Int)).toNat=0 by omega,Nat.pow_zero,Nat.mul_one] at hz
 have hX0:X≠0:=by
  rintro rfl;simp [sg1] at hz
  split at hz <;> omega
 have hp:0<X*2^(e - -(u:Int)).toNat:=Nat.mul_pos (by omega) (Nat.two_pow_pos _)
 rcases hx with h|⟨h1,h2⟩
 · exact absurd h hX0
 have hn:n=decide (V<0):=by
  by_cases hs:V<0
  · rw [decide_eq_true hs] at hz ⊢
    cases n with
    | true=>rfl
    | false=>simp only [sg1,if_true,Bool.false_eq_true,if_false] at hz;omega
  · rw [decide_eq_false hs] at hz ⊢
    cases n with
    | false=>rfl
    | true=>simp only [sg1,if_true,Bool.false_eq_true,if_false] at hz;omega
 rw [hn] at hz ho F
 have hv:X*2^(e - -(u:Int)).toNat=V.natAbs:=by
  by_cases hs:V<0
  · rw [decide_eq_true hs] at hz;simp only [sg1,if_true] at hz;omega
  · rw [decide_eq_false hs] at hz;simp only [sg1,Bool.false_eq_true,if_false] at hz;omega
 refine ⟨X,e,ho,?_,h1,by omega,?_,by omega,F⟩
 · rcases F.odd with q | q
   · exact q
   · exact absurd q.1 hX0
 · rw [show (e+(u:Int)).toNat=(e - -(u:Int)).toNat by congr 1;omega]
   exact hv
theorem rat14 {x S V S' V':Nat}(hS:0<S) (hS':0<S') (e:V*S'=V'*S):(x*S<V↔x*S'<V')∧(x*S=V↔x*S'=V')∧(V<x*S↔V'<x*S'):=by
 have a1:x*S*S'=x*S'*S:=by rw [Nat.mul_assoc,Nat.mul_comm S,←Nat.mul_assoc]
 have t1:x*S<V↔x*S*S'<V*S':=(Nat.mul_lt_mul_right hS').symm;have t2:x*S'<V'↔x*S'*S<V'*S:=(Nat.mul_lt_mul_right hS).symm;have t3:V<x*S↔V*S'<x*S*S':=(Nat.mul_lt_mul_right hS').symm;have t4:V'<x*S'↔V'*S<x*S'*S:=(Nat.mul_lt_mul_right hS).symm;rw [t1,t2,t3,t4,a1,e];refine ⟨Iff.rfl,?_,Iff.rfl⟩;rw [a1,e] at t1;rw [a1,e] at t3;omega
theorem LiesG.ratio14 {v:Nat→Nat}{top n K:Nat}{t:Bool}{m:Int}{V S V' S':Nat}(h:LiesG v top n K t m V S) (hS':0<S') (e:V*S'=V'*S):LiesG v top n K t m V' S':=by
 obtain ⟨h1,h2,h3,h4,h5,h6⟩:=h;have e2:(2^n*V)*S'=(2^n*V')*S:=by rw [Nat.mul_assoc,e,Nat.mul_assoc]
 refine ⟨h1,hS',fun a=>((rat14 h2 hS' e).2.1.1 (h3 a).symm).symm,fun a=>(rat14 h2 hS' e).1.1 (h4 a),fun a b=>?_,fun a=>?_⟩
 · have:=h5 a ((rat14 h2 hS' e).2.2.2 b)
   obtain ⟨r1,r2,r3⟩:=rat14 (x:=(v K+v (K+1))^n) h2 hS' e2
   rcases this with ⟨q,r⟩|⟨q,r⟩|⟨q,r⟩
   · exact .inl ⟨q,r3.1 r⟩
   · exact .inr (.inl ⟨q,(r2.1 r.symm).symm⟩)
   · exact .inr (.inr ⟨q,r1.1 r⟩)
 · rcases h6 a with q | q
   · exact .inl ((rat14 h2 hS' e).2.2.1 q)
   · exact .inr q
theorem qR_ok {u v k:Nat}{V D:Int}(hu:u≤100000) (hv:v≤100000) (hk:k≤90000) (hV:V≠0) (hD:0<D) (bV:Bd k V) (bD:Bd k D) :
 ∃ K t m,(∀ j,j=1074→LiesG vK 9218868437227405312 1 K t m (V.natAbs*2^(j+v)) (D.natAbs*2^u))∧∀ mode:Int,0≤mode→mode≤4→qR19 (gV u V) (gV v D) mode=(rK mode (decide (V<0)) K t m+(if V<0 then 9223372036854775808 else 0),0):=by
 obtain ⟨Y,f,ho2,hY,hf0,hf1,hv2,hbl2,F2⟩:=g_parts (u:=v) (V:=D) hv (by omega) hk bD
 rw [decide_eq_false (by omega)] at ho2 F2
 obtain ⟨X,e,ho,hX,he0,he1,hvv,hbl,F⟩:=g_parts (u:=u) (V:=V) hu hV hk bV;have hm1:mkS (decide (V<0)) X e=some (decide (V<0),X,e):=mkS_idem F;have hm2:mkS false Y f=some (false,Y,f):=mkS_idem F2;obtain ⟨K,t,m,hL,hR⟩:=quo64 (decide (V<0)) X e Y f hX (by omega) hbl hbl2
 refine ⟨K,t,m,fun j hj=>?_,fun mode hm0 hm4=>?_⟩
 · refine hL.ratio14 (Nat.mul_pos (by omega) (Nat.two_pow_pos _)) ?_
   unfold rV11 rS11;rw [←hvv,←hv2]
   have e1:X*2^(e-f+((1*1074:Nat):Int)).toNat*(Y*2^(f+(v:Int)).toNat*2^u)=X*Y*(2^((e-f+((1*1074:Nat):Int)).toNat+((f+(v:Int)).toNat+u))):=by
    rw [Nat.pow_add,Nat.pow_add,Nat.mul_assoc Y,Nat.mul_mul_mul_comm]
   have e2:X*2^(e+(u:Int)).toNat*2^(j+v)*(Y*2^(-(e-f+((1*1074:Nat):Int))).toNat)=X*Y*(2^((e+(u:Int)).toNat+(j+v)+(-(e-f+((1*1074:Nat):Int))).toNat)):=by
    rw [Nat.pow_add _ (_+_),Nat.pow_add _ (e+(u:Int)).toNat,Nat.mul_assoc X,Nat.mul_mul_mul_comm]
   rw [e1,e2]
   congr 2
   omega
 · unfold qR19
   rw [ho,ho2]
   show quoR rndS ⟨decide (V<0),.bool false,X,e,false,.bool false,Y,f⟩ mode=_
   unfold quoR;rw [if_neg (by omega),if_pos (by rw [errL_one];show errN X (decide (V<0)) e Y false f=0;unfold errN;rw [if_neg (by unfold sgn;simp;split <;> omega),hm1,hm2];simp [dX];omega),hm1,hm2]
   have:=hR mode hm0 hm4;simp only [decide_eq_true_eq] at this;exact this
theorem qR_zero {u v k:Nat}{D:Int}(hv:v≤100000) (hk:k≤90000) (hD:0<D) (bD:Bd k D) (mode:Int) (m0:0≤mode) (m4:mode≤4):qR19 (gV u 0) (gV v D) mode=(0,0):=by
 obtain ⟨Y,f,ho2,hY,hf0,hf1,hv2,hbl2,F2⟩:=g_parts (u:=v) (V:=D) hv (by omega) hk bD
 rw [decide_eq_false (by omega)] at ho2 F2
 have hm2:mkS false Y f=some (false,Y,f):=mkS_idem F2;unfold qR19;rw [g_zero,ho2]
 show quoR rndS ⟨false,.bool false,0,0,false,.bool false,Y,f⟩ mode=_
 unfold quoR;rw [if_neg (by omega),if_pos (by rw [errL_one];show errN 0 false 0 Y false f=0;unfold errN;rw [if_neg (by unfold sgn;simp;split <;> omega),hm2,mkS_zero];simp [dX];omega),mkS_zero,hm2]
 show rndS (quoZ false 0 0 Y f) mode=_
 rw [quoZ_nought _ _ _ _ (by omega) hbl2,rndS_form mode false 0 0 m0 m4]
 rfl
theorem LiesG.uniq14 {n K K':Nat}{t t':Bool}{m m':Int}{V S:Nat}(hn:n≠0) (h:LiesG vK 9218868437227405312 n K t m V S) (h':LiesG vK 9218868437227405312 n K' t' m' V S):K=K'∧t=t'∧(t=false→m=m'):=by
 have a1:vK K^n*S≤V:=by
  cases t with
  | true=>have:=h.one rfl;omega
  | false=>have:=h.low rfl;omega
 have a2:K+1=9218868437227405312∨V<vK (K+1)^n*S:=by
  cases t with
  | true =>
    have:=h.one rfl;have:=Nat.mul_lt_mul_of_pos_right (Nat.pow_lt_pow_left (grid64.mono (show K<K+1 by omega)) hn) h.pos
    omega
  | false =>
    rcases h.high rfl with q|q
    · exact .inr q
    · omega
 obtain ⟨e1,e2,e3⟩:=LiesG.doc grid64 (Nat.pos_of_ne_zero hn) h' K h.fin a1 a2;obtain ⟨_,f2,f3⟩:=LiesG.doc grid64 (Nat.pos_of_ne_zero hn) h K h.fin a1 a2;subst e1;rw [←f2] at e2;refine ⟨rfl,e2.symm,fun ht=>?_⟩
 rw [f3 ht,e3 (by rw [e2];exact ht)]
theorem rK_same14 {mode:Int}{n:Bool}{K K':Nat}{t t':Bool}{m m':Int}(h:K=K'∧t=t'∧(t=false→m=m')):rK mode n K t m=rK mode n K' t' m':=by
 obtain ⟨rfl,rfl,h⟩:=h
 cases t with
 | true=>rfl
 | false=>rw [h rfl]
theorem rK_true (mode:Int) (n:Bool) (K:Nat) (m:Int):rK mode n K true m=K:=by unfold rK;simp
theorem q_exact {u v k:Nat}{V D:Int}(hu:u≤100000) (hv:v≤100000) (hk:k≤90000) (hD:0<D) (bV:Bd k V) (bD:Bd k D) {y:Nat}(hy:y<18446744073709551616) (fy:finW y) (hz:y≠9223372036854775808)
 (e:∀ j,j=1074→fvW y*(D*((2^u:Nat):Int))=V*((2^(j+v):Nat):Int)) (mode:Int) (m0:0≤mode) (m4:mode≤4) :
 qR19 (gV u V) (gV v D) mode=(y,0):=by
 obtain ⟨j,hj⟩:∃ j:Nat,j=1074:=⟨_,rfl⟩;have e:=e j hj;have p1:(0:Int)<D*((2^u:Nat):Int):=Int.mul_pos hD (by have:=Nat.two_pow_pos u;omega)
 have p2:(0:Int)<((2^(j+v):Nat):Int):=by have:=Nat.two_pow_pos (j+v);omega
 have hmag:(fvW y).natAbs=vK (magW y):=by unfold fvW B.sg;cases negW y <;> simp
 have hyy:y=magW y+(if negW y then 9223372036854775808 else 0):=by
  unfold magW negW
  by_cases h:9223372036854775808≤y
  · simp [h];omega
  · simp [h];omega
 have v0:∀ m:Nat,vK m=0→m=0:=fun m h=>by
  rcases Nat.eq_zero_or_pos m with q|q
  · exact q
  · have:=grid64.mono q;omega
 by_cases hV:V=0
 · subst hV
   rw [Int.zero_mul] at e;have h0:fvW y=0:=by rcases Int.mul_eq_zero.1 e with h | h;exact h;omega
   have:magW y=0:=v0 _ (by rw [←hmag,h0];rfl)
   have:y=0:=by rw [this] at hyy;revert hyy;split <;> omega
   rw [this,qR_zero hv hk hD bD mode m0 m4]
 · obtain ⟨K,t,m,hL,hR⟩:=qR_ok hu hv hk hV hD bV bD
   have eN:vK (magW y)^1*(D.natAbs*2^u)=V.natAbs*2^(j+v):=by
    have:=congrArg Int.natAbs e;rw [Int.natAbs_mul,Int.natAbs_mul,Int.natAbs_mul,Int.natAbs_natCast,Int.natAbs_natCast,hmag] at this;rw [Nat.pow_one];exact this
   have hT:LiesG vK 9218868437227405312 1 (magW y) true 0 (V.natAbs*2^(j+v)) (D.natAbs*2^u):=⟨fy,Nat.mul_pos (by omega) (Nat.two_pow_pos _),fun _=>eN.symm,fun q=>(by cases q),fun q=>(by cases q),fun q=>(by cases q)⟩
   rw [hR mode m0 m4,rK_same14 ((hL j hj).uniq14 (by decide) hT),rK_true]
   have hs:negW y=decide (V<0):=by
    have hf:fvW y=B.sg (negW y) (vK (magW y)):=rfl
    have hp:0<vK (magW y):=by
     rcases Nat.eq_zero_or_pos (vK (magW y)) with q|q
     · rw [q,Nat.pow_one,Nat.zero_mul] at eN
       rcases Nat.mul_eq_zero.1 eN.symm with h|h
       · omega
       · have:=Nat.two_pow_pos (j+v);omega
     · exact q
    cases hn:negW y with
    | true =>
      rw [hn] at hf;have:fvW y<0:=by rw [hf];unfold B.sg;simp;omega
      have h2:V<0:=by
       rcases Int.lt_or_le V 0 with q|q
       · exact q
       · have a1:=Int.mul_nonneg q (Int.le_of_lt p2)
         have a2:=Int.mul_neg_of_neg_of_pos this p1;omega
      rw [decide_eq_true h2]
    | false =>
      rw [hn] at hf;have:0<fvW y:=by rw [hf];unfold B.sg;simp;omega
      have h2:¬ V<0:=by
       intro q;have a1:=Int.mul_neg_of_neg_of_pos q p2;have a2:=Int.mul_pos this p1;omega
      rw [decide_eq_false h2]
   rw [hs] at hyy;simp only [decide_eq_true_eq] at hyy;rw [←hyy]
end
section
open Go Go.RowKit J
section
variable {α : Type}
theorem zS_nn {f:α→Int}:∀ {l:List α},(∀ x ∈ l,0≤f x)→0≤zS f l
 | [],_=>Int.le_refl _
 | x::l,h=>Int.add_nonneg (h x List.mem_cons_self) (zS_nn fun y hy=>h y (List.mem_cons_of_mem _ hy))
theorem zS_sq (f g:α→Int) (c d e:Int):∀ l:List α,zS (fun x=>(c*f x+d*g x+e)*(c*f x+d*g x+e)) l
 = c*c*zS (fun x=>f x*f x) l+d*d*zS (fun x=>g x*g x) l+2*c*d*zS (fun x=>f x*g x) l+2*c*e*zS f l+2*d*e*zS g l+(l.length:Int)*(e*e)
 | []=>by simp [zS]
 | x::l=>by
   have h:=zS_sq f g c d e l
   show (c*f x+d*g x+e)*(c*f x+d*g x+e)+zS _ l=c*c*(f x*f x+zS _ l)+d*d*(g x*g x+zS _ l)+2*c*d*(f x*g x+zS _ l)+2*c*e*(f x+zS f l)+2*d*e*(g x+zS g l)+((l.length+1:Nat):Int)*(e*e)
   rw [h]
   grind
theorem sq_nn (a:Int):0≤a*a:=by
 rcases Int.le_total 0 a with h|h
 · exact Int.mul_nonneg h h
 · have:=Int.mul_nonneg (show (0:Int)≤-a by omega) (show (0:Int)≤-a by omega)
   rw [Int.neg_mul_neg] at this;exact this
theorem var_nn (f g:α→Int) (c d:Int) (l:List α):0≤(l.length:Int)*zS (fun x=>(c*f x+d*g x+0)*(c*f x+d*g x+0)) l-(c*zS f l+d*zS g l)*(c*zS f l+d*zS g l):=by
 rcases l with _|⟨x,l⟩
 · simp [zS]
 obtain ⟨L,hL⟩:∃ L,L=x::l:=⟨_,rfl⟩;rw [←hL];have hp:(0:Int)<(L.length:Int):=by rw [hL];simp
 obtain ⟨n,hn⟩:∃ n:Int,n=(L.length:Int):=⟨_,rfl⟩;have h1:=zS_nn (f:=fun x=>((n*c)*f x+(n*d)*g x+-(c*zS f L+d*zS g L))*((n*c)*f x+(n*d)*g x+-(c*zS f L+d*zS g L))) (l:=L) (fun x _=>sq_nn _)
 rw [zS_sq] at h1;rw [zS_sq,←hn];rw [←hn] at h1 hp;obtain ⟨A,hA⟩:∃ A,A=zS (fun x=>f x*f x) L:=⟨_,rfl⟩
 obtain ⟨B,hB⟩:∃ B,B=zS (fun x=>g x*g x) L:=⟨_,rfl⟩
 obtain ⟨M,hM⟩:∃ B,B=zS (fun x=>f x*g x) L:=⟨_,rfl⟩
 obtain ⟨S,hS⟩:∃ B,B=zS f L:=⟨_,rfl⟩;obtain ⟨T,hT⟩:∃ B,B=zS g L:=⟨_,rfl⟩;rw [←hA,←hB,←hM,←hS,←hT] at h1 ⊢;clear hA hB hM hS hT hn hL
 have e:n*c*(n*c)*A+n*d*(n*d)*B+2*(n*c)*(n*d)*M+2*(n*c)*-(c*S+d*T)*S+2*(n*d)*-(c*S+d*T)*T+n*(-(c*S+d*T)*-(c*S+d*T))
  = n*(n*(c*c*A+d*d*B+2*c*d*M+2*c*0*S+2*d*0*T+n*(0*0))-(c*S+d*T)*(c*S+d*T)):=by grind
 rw [e] at h1;exact Int.nonneg_of_mul_nonneg_right h1 hp
end
theorem zS_fst {f:Nat→Int}:∀ {xs ys:List Nat},xs.length=ys.length→zS (fun p:Nat×Nat=>f p.1) (xs.zip ys)=zS f xs
 | [],_,_=>by simp [zS]
 | x::xs,[],h=>by simp at h
 | x::xs,y::ys,h=>by
   show f x+zS _ (xs.zip ys)=f x+zS f xs
   rw [zS_fst (by simpa using h)]
theorem zS_snd {f:Nat→Int}:∀ {xs ys:List Nat},xs.length=ys.length→zS (fun p:Nat×Nat=>f p.2) (xs.zip ys)=zS f ys
 | [],[],_=>rfl
 | [],y::ys,h=>by simp at h
 | x::xs,[],h=>by simp at h
 | x::xs,y::ys,h=>by
   show f y+zS _ (xs.zip ys)=f y+zS f ys
   rw [zS_snd (by simpa using h)]
theorem pS_self:∀ xs:List Nat,pS xs xs=zS (fun x=>fvW x*fvW x) xs
 | []=>rfl
 | x::xs=>by
   show fvW x*fvW x+pS xs xs=fvW x*fvW x+zS _ xs
   rw [pS_self xs]
section
variable {xs ys : List Nat} (hl : xs.length = ys.length)
include hl
theorem zip_len:(xs.zip ys).length=xs.length:=by rw [List.length_zip];omega
theorem pS_fst:zS (fun p:Nat×Nat=>fvW p.1*fvW p.1) (xs.zip ys)=pS xs xs:=by
 rw [pS_self];exact zS_fst (f:=fun x=>fvW x*fvW x) hl
theorem pS_snd:zS (fun p:Nat×Nat=>fvW p.2*fvW p.2) (xs.zip ys)=pS ys ys:=by
 rw [pS_self];exact zS_snd (f:=fun x=>fvW x*fvW x) hl
theorem quad_nn (c d:Int):0≤c*c*fD xs ys+d*d*fT xs ys+2*c*d*fC xs ys:=by
 have h:=var_nn (fun p:Nat×Nat=>fvW p.1) (fun p:Nat×Nat=>fvW p.2) c d (xs.zip ys)
 rw [zS_sq,pS_fst hl,pS_snd hl,zS_fst (f:=fvW) hl,zS_snd (f:=fvW) hl,zip_len hl] at h;have e:zS (fun x:Nat×Nat=>fvW x.1*fvW x.2) (xs.zip ys)=pS xs ys:=rfl
 rw [e] at h;unfold fD fT fC
 grind
theorem fD_nn:0≤fD xs ys:=by have:=quad_nn hl 1 0;simpa using this
theorem cs_nn (hD:fD xs ys≠0):fC xs ys*fC xs ys≤fD xs ys*fT xs ys:=by
 have h:=quad_nn hl (-(fC xs ys)) (fD xs ys);have hp:0<fD xs ys:=by have:=fD_nn hl;omega
 have e:-(fC xs ys)*-(fC xs ys)*fD xs ys+fD xs ys*fD xs ys*fT xs ys+2*-(fC xs ys)*fD xs ys*fC xs ys=fD xs ys*(fD xs ys*fT xs ys-fC xs ys*fC xs ys):=by grind
 rw [e] at h;have:=Int.nonneg_of_mul_nonneg_right h hp;omega
end
end
section
open Go Go.RowKit J
open Go.Proofs.YtopgffjnejaijaaGreatDoor.B (f64bits f64frombits)
attribute [local go_sem] Ps.st_floatP f64bits f64frombits
theorem lit19 (w:World) (L:List Nat) (g:Nat) (hg:g=w.heap.size):Fs (w.alloc (Obj.cells (L.map (Value.float .f64)).toArray 24)).heap.size (w.alloc (Obj.cells (L.map (Value.float .f64)).toArray 24)) (some ⟨g,0,none⟩) L:=by
 subst hg;intro _;refine ⟨w.heap.size,0,by simp,rfl,fun i hi=>?_⟩
 have:=(Bl.new w 24 (L.map (Value.float .f64))).cell i (.float .f64 (L.getD i 0)) (by simp [List.getD_eq_getElem?_getD,List.getElem?_eq_getElem hi])
 rw [Nat.zero_add];exact this
abbrev one19:Nat:=4607182418800017408
abbrev two19:Nat:=4611686018427387904
theorem gd_of {xs ys:List Nat}{mode:Int}(hW:W64 xs) (hV:W64 ys) (h:amE xs ys [] mode 2=0):Gd xs ys:=(am_ok hW hV h).1
theorem fit_ok {xs ys:List Nat}{mode:Int}(hE:amE xs ys [] mode 2=0) (hD:fD xs ys≠0):fitR xs ys mode=(((xs.length:Nat):Int),(qR19 (gV 2148 (fC xs ys)) (gV 2148 (fD xs ys)) mode).1,(qR19 (gV 3222 (fK xs ys)) (gV 2148 (fD xs ys)) mode).1,
 (if fT xs ys=0 then 4607182418800017408 else (qR19 (gV 4296 (fC xs ys*fC xs ys)) (gV 4296 (fD xs ys*fT xs ys)) mode).1),
 (qR19 (gV 4296 (fD xs ys*fT xs ys-fC xs ys*fC xs ys)) (gV 2148 ((xs.length:Int)*fD xs ys)) mode).1,0):=by
 unfold fitR;rw [if_neg (by simpa using hE),if_neg hD]
theorem live_line:∃ k l,fitR [0,one19,two19] [0,one19,one19] 0=(3,4602678819172646912,k,4604930618986332160,l,0):=by
 have hE:amE [0,one19,two19] [0,one19,one19] [] 0 2=0:=by decide +kernel
 have G:=gd_of (by unfold W64;decide) (by unfold W64;decide) hE
 have hD:0<fD [0,one19,two19] [0,one19,one19]:=by decide +kernel
 have hT:0<fT [0,one19,two19] [0,one19,one19]:=by decide +kernel
 have h:=fit_ok hE (show fD [0,one19,two19] [0,one19,one19]≠0 by omega)
 rw [if_neg (by omega)] at h
 rw [q_exact (u:=2148) (v:=2148) (by omega) (by omega) (k:=4229) (by omega) hD G.c G.d (y:=4602678819172646912) (by decide) (by decide) (by decide) (fun j hj=>by subst hj;decide +kernel) 0 (by decide) (by decide)] at h
 rw [q_exact (u:=4296) (v:=4296) (by omega) (by omega) (k:=8458) (by omega) (Int.mul_pos hD hT) (G.c.mul G.c) (G.d.mul G.t) (y:=4604930618986332160) (by decide) (by decide) (by decide) (fun j hj=>by subst hj;decide +kernel) 0 (by decide) (by decide)] at h
 exact ⟨_,_,h⟩
theorem live_through:thR [two19] [4613937818241073152] 0=(4609434218613702656,0):=by
 have hE:amE [two19] [4613937818241073152] [] 0 1=0:=by decide +kernel
 have G:=(am_ok (xs:=[two19]) (ys:=[4613937818241073152]) (zs:=[]) (mode:=0) (least:=1) (by unfold W64;decide) (by unfold W64;decide) hE).1
 have hD:0<pS [two19] [two19]:=by decide +kernel
 unfold thR;rw [if_neg (by simpa using hE),if_neg (by omega),q_exact (u:=2148) (v:=2148) (by omega) (by omega) (k:=4212) (by omega) hD G.xy G.xx (y:=4609434218613702656) (by decide) (by decide) (by decide) (fun j hj=>by subst hj;decide +kernel) 0 (by decide) (by decide)]
theorem live_at:atR [0,one19,two19] [one19,4613937818241073152,4617315517961601024] 4621819117588971520 0=(4626604192193052672,0):=by
 have hE:amE [0,one19,two19] [one19,4613937818241073152,4617315517961601024] [4621819117588971520] 0 2=0:=by decide +kernel
 have G:=(am_ok (xs:=[0,one19,two19]) (ys:=[one19,4613937818241073152,4617315517961601024]) (zs:=[4621819117588971520]) (mode:=0) (least:=2) (by unfold W64;decide) (by unfold W64;decide) hE).1
 have hD:0<fD [0,one19,two19] [one19,4613937818241073152,4617315517961601024]:=by decide +kernel
 unfold atR;rw [if_neg (by simpa using hE),if_neg (by omega),q_exact (u:=3222) (v:=2148) (by omega) (by omega) (k:=6328) (by omega) hD (G.k.add (G.c.mul (fv_bd (by decide) (by decide)))) (G.d.mono (by decide)) (y:=4626604192193052672) (by decide) (by decide) (by decide) (fun j hj=>by subst hj;decide +kernel) 0 (by decide) (by decide)]
theorem Line19z (xs ys:List Nat) (a b:Option Addr) (n m c d:Nat) (mode:Int) (w:World) (hn:n=xs.length) (hm:m=ys.length) (hF:Fs w.heap.size w a xs) (hF2:Fs w.heap.size w b ys) (hW:W64 xs) (hV:W64 ys) (hT:Tab w) {N E:Int}{s k t l:Nat}(hz:fitR xs ys mode=(N,s,k,t,l,E)) :
 Calls Tryz.prog 10 #[.slice a n c,.slice b m d,.int .i64 mode] w fun r w'=>r=.returned (.tuple #[.agg #[.int .i64 N,.float .f64 s,.float .f64 k,.float .f64 t,.float .f64 l],.int .i64 E])∧Below w.heap.size w w':=by
 have:=Line19 xs ys a b n m c d mode w hn hm hF hF2 hW hV hT;rw [hz] at this;exact this
theorem At19z (xs ys:List Nat) (x:Nat) (a b:Option Addr) (n m c d:Nat) (mode:Int) (w:World) (hn:n=xs.length) (hm:m=ys.length) (hF:Fs w.heap.size w a xs) (hF2:Fs w.heap.size w b ys) (hW:W64 xs) (hV:W64 ys) (hx:x<18446744073709551616) (hT:Tab w) {s:Nat}{E:Int}(hz:atR xs ys x mode=(s,E)) :
 Calls Tryz.prog 13 #[.slice a n c,.slice b m d,.float .f64 x,.int .i64 mode] w fun r w'=>r=.returned (.tuple #[.float .f64 s,.int .i64 E])∧Below w.heap.size w w':=by
 have:=At19 xs ys x a b n m c d mode w hn hm hF hF2 hW hV hx hT;rw [hz] at this;exact this
theorem Through19z (xs ys:List Nat) (a b:Option Addr) (n m c d:Nat) (mode:Int) (w:World) (hn:n=xs.length) (hm:m=ys.length) (hF:Fs w.heap.size w a xs) (hF2:Fs w.heap.size w b ys) (hW:W64 xs) (hV:W64 ys) (hT:Tab w) {s:Nat}{E:Int}(hz:thR xs ys mode=(s,E)) :
 Calls Tryz.prog 12 #[.slice a n c,.slice b m d,.int .i64 mode] w fun r w'=>r=.returned (.tuple #[.float .f64 s,.int .i64 E])∧Below w.heap.size w w':=by
 have:=Through19 xs ys a b n m c d mode w hn hm hF hF2 hW hV hT;rw [hz] at this;exact this
end
section
open Go Go.RowKit J
theorem cmp_Fv {o p:Option (Bool×Nat×Int)}{x y:Int}(h1:Fv (-1048576) o x) (h2:Fv (-1048576) p y):cmpV (dN o) (dX o) (dE o) (dN p) (dX p) (dE p)=cmpZ x y:=by
 obtain ⟨n,X,e,rfl,F,hx⟩:=h1.ex;obtain ⟨m,Y,f,rfl,G,hy⟩:=h2.ex
 show cmpV n X e m Y f=_
 rw [cmpV_z n X e m Y f (-1048576) F.down G.down,←hx,←hy];rfl
theorem of_odd14 (x:Nat) (hx:x<18446744073709551616) (fx:¬ finW x) (w:World) (hT:Tab w) :
 Calls Tryz.prog 16 #[.float .f64 x] w fun r w'=>(∃ a c,r=.returned (.tuple #[.agg #[.bool false,.slice a 0 c,.int .i64 0],.int .i64 30])∧Nt w.heap.size w' (.slice a 0 c) 0)∧Below w.heap.size w w':=by
 have e:B.bw (negW x) (magW x/4503599627370496) (magW x%4503599627370496)=x:=by
  have h1:magW x=x%9223372036854775808:=rfl;unfold B.bw
  by_cases h:9223372036854775808≤x
  · rw [show negW x=true from decide_eq_true h];simp only [Bool.toNat_true];omega
  · rw [show negW x=false from decide_eq_false h];simp only [Bool.toNat_false];omega
 have hm:magW x<9223372036854775808:=Nat.mod_lt _ (by decide)
 have hm2:¬ magW x<9218868437227405312:=fx;have:=Of_any (negW x) (magW x/4503599627370496) (magW x%4503599627370496) (by omega) (by omega) w hT
 rw [e] at this;refine this.mono ?_;rintro r w' ⟨⟨v,rfl,hN⟩,hb⟩;have e1:ofR (negW x) (magW x/4503599627370496) (magW x%4503599627370496)=none:=by unfold ofR;rw [if_pos (by omega)]
 have e2:ofE (magW x/4503599627370496)=30:=by unfold ofE;rw [if_pos (by omega)]
 rw [e1] at hN ⊢;rw [e2];obtain ⟨a,c,rfl,_⟩:=hN.arg (by show (ws 0).length≤_;rw [ws_zero];decide)
 rw [show (ws (dX (none:Option (Bool×Nat×Int)))).length=0 by simp [dX,ws_zero]] at hN ⊢
 exact ⟨⟨a,c,rfl,hN⟩,hb⟩
theorem of14 (x:Nat) (hx:x<18446744073709551616) (fx:finW x) (w:World) (hT:Tab w) :
 Calls Tryz.prog 16 #[.float .f64 x] w fun r w'=>(∃ v,r=.returned (.tuple #[.agg #[.bool (dN (gV 1074 (fvW x))),v,.int .i64 (dE (gV 1074 (fvW x)))],.int .i64 0])∧Nt w.heap.size w' v (dX (gV 1074 (fvW x))))∧Below w.heap.size w w':=of_any8 x ⟨hx,fx⟩ w hT
theorem rK_pos {mode:Int}{n:Bool}{K:Nat}{t:Bool}{m:Int}{V S:Nat}(h:LiesG vK 9218868437227405312 1 K t m V S) (ho:outS mode K m n=false):rK mode n K t m=K∧vK K*S≤V:=by
 refine ⟨by unfold rK;rw [ho];simp,?_⟩
 cases t with
 | true=>have:=h.one rfl;rw [Nat.pow_one] at this;omega
 | false=>have:=h.low rfl;rw [Nat.pow_one] at this;omega
theorem q_down {u v k:Nat}{V D:Int}(hu:u≤100000) (hv:v≤100000) (hk:k≤90000) (h0:0≤V) (hD:0<D) (bV:Bd k V) (bD:Bd k D) :
 (qR19 (gV u V) (gV v D) 3).1<18446744073709551616∧finW (qR19 (gV u V) (gV v D) 3).1∧∀ j,j=1074→fvW (qR19 (gV u V) (gV v D) 3).1*(D*((2^u:Nat):Int))≤V*((2^(j+v):Nat):Int):=by
 by_cases hV:V=0
 · rw [hV,qR_zero hv hk hD bD 3 (by decide) (by decide)]
   refine ⟨by decide,by decide,fun j hj=>?_⟩
   have:fvW 0=0:=by decide +kernel
   rw [this,Int.zero_mul,Int.zero_mul];exact Int.le_refl _
 · obtain ⟨K,t,m,hL,hR⟩:=qR_ok hu hv hk hV hD bV bD
   have hn:decide (V<0)=false:=decide_eq_false (by omega)
   have ho:outS 3 K m (decide (V<0))=false:=by rw [hn];unfold outS;simp
   have hf:=(hL 1074 rfl).fin;obtain ⟨h1,_⟩:=rK_pos (hL 1074 rfl) ho;have e:(qR19 (gV u V) (gV v D) 3).1=K:=by rw [hR 3 (by decide) (by decide),h1,if_neg (by omega)];simp
   rw [e];have em:magW K=K:=by unfold magW;omega
   have en:negW K=false:=by unfold negW;exact decide_eq_false (by omega)
   have ef:fvW K=(vK K:Int):=by
    show B.sg (negW K) (vK (magW K))=_
    rw [en,em];unfold B.sg;simp
   refine ⟨by omega,by show magW K<_;rw [em];exact hf,fun j hj=>?_⟩
   obtain ⟨_,h2⟩:=rK_pos (hL j hj) ho;rw [ef];have a1:((D.natAbs:Nat):Int)=D:=by omega
   have a2:((V.natAbs:Nat):Int)=V:=by omega
   have h3:((vK K*(D.natAbs*2^u):Nat):Int)≤((V.natAbs*2^(j+v):Nat):Int):=Int.ofNat_le.2 h2;rw [Int.natCast_mul,Int.natCast_mul,Int.natCast_mul,a1,a2] at h3;exact h3
def rL (j:Nat) (A B:Int) (p:Nat×Nat):Int:=(fvW p.2-A)*((2^j:Nat):Int)-fvW p.1*B
def sqL (j:Nat) (A B:Int) (P:List (Nat×Nat)):Int:=zS (fun p=>rL j A B p*rL j A B p) P
theorem least_sq {xs ys:List Nat}(hl:xs.length=ys.length) (hD:0<fD xs ys) (j:Nat) (A B:Int) :
 (fD xs ys*fT xs ys-fC xs ys*fC xs ys)*(((2^j:Nat):Int)*((2^j:Nat):Int))≤(xs.length:Int)*fD xs ys*sqL j A B (xs.zip ys):=by
 obtain ⟨J,hJ⟩:∃ J:Int,J=((2^j:Nat):Int):=⟨_,rfl⟩
 have e0:sqL j A B (xs.zip ys)=zS (fun p:Nat×Nat=>(-B*fvW p.1+J*fvW p.2+-(A*J))*(-B*fvW p.1+J*fvW p.2+-(A*J))) (xs.zip ys):=by
  unfold sqL rL;rw [←hJ];refine zS_congr fun p _=>?_
  have:(fvW p.2-A)*J-fvW p.1*B=-B*fvW p.1+J*fvW p.2+-(A*J):=by grind
  rw [this]
 rw [←hJ,e0,zS_sq,pS_fst hl,pS_snd hl,zS_fst (f:=fvW) hl,zS_snd (f:=fvW) hl,zip_len hl];have e1:zS (fun x:Nat×Nat=>fvW x.1*fvW x.2) (xs.zip ys)=pS xs ys:=rfl
 rw [e1];have q1:=sq_nn (J*fC xs ys-B*fD xs ys);have q2:=sq_nn (-B*zS fvW xs+J*zS fvW ys+(xs.length:Int)*-(A*J));have q3:=Int.mul_nonneg (Int.le_of_lt hD) q2;have eD:fD xs ys=(xs.length:Int)*pS xs xs-zS fvW xs*zS fvW xs:=rfl;have eC:fC xs ys=(xs.length:Int)*pS xs ys-zS fvW xs*zS fvW ys:=rfl;have eT:fT xs ys=(xs.length:Int)*pS ys ys-zS fvW ys*zS fvW ys:=rfl;obtain ⟨D,hD'⟩:∃ D,D=fD xs ys:=⟨_,rfl⟩;obtain ⟨C,hC'⟩:∃ D,D=fC xs ys:=⟨_,rfl⟩;obtain ⟨T,hT'⟩:∃ D,D=fT xs ys:=⟨_,rfl⟩;rw [←hD'] at q1 q3 eD ⊢;rw [←hC'] at q1 eC ⊢;rw [←hT'] at eT ⊢;obtain ⟨n,hn⟩:∃ n:Int,n=(xs.length:Int):=⟨_,rfl⟩;obtain ⟨XX,h1⟩:∃ n:Int,n=pS xs xs:=⟨_,rfl⟩;obtain ⟨XY,h2⟩:∃ n:Int,n=pS xs ys:=⟨_,rfl⟩;obtain ⟨YY,h3⟩:∃ n:Int,n=pS ys ys:=⟨_,rfl⟩;obtain ⟨X,h4⟩:∃ n:Int,n=zS fvW xs:=⟨_,rfl⟩;obtain ⟨Y,h5⟩:∃ n:Int,n=zS fvW ys:=⟨_,rfl⟩;simp only [←hn,←h1,←h2,←h3,←h4,←h5] at eD eC eT q2 q3 ⊢
 have e:n*D*(-B*-B*XX+J*J*YY+2*-B*J*XY+2*-B*-(A*J)*X+2*J*-(A*J)*Y+n*(-(A*J)*-(A*J)))
  = (D*T-C*C)*(J*J)+(J*C-B*D)*(J*C-B*D)+D*((-B*X+J*Y+n*-(A*J))*(-B*X+J*Y+n*-(A*J))):=by
  clear q1 q2 q3 hD hJ hn h1 h2 h3 h4 h5 hD' hC' hT' e0 e1;subst eD eC eT
  grind
 rw [e];omega
theorem least19 {xs ys:List Nat}(G:Gd xs ys) (hD:0<fD xs ys) (hn:0<xs.length) (A B:Int) (j m:Nat) (hj:j=1074) (hm:m=3222) :
 fvW (qR19 (gV 4296 (fD xs ys*fT xs ys-fC xs ys*fC xs ys)) (gV 2148 ((xs.length:Int)*fD xs ys)) 3).1*((2^m:Nat):Int)≤sqL j A B (xs.zip ys):=by
 have hn0:(0:Int)<(xs.length:Int):=by omega
 have hcs:=cs_nn G.len (by omega)
 have hnD:=Int.mul_pos hn0 hD;obtain ⟨_,_,h3⟩:=q_down (u:=4296) (v:=2148) (by omega) (by omega) (k:=8459) (by omega) (show 0≤fD xs ys*fT xs ys-fC xs ys*fC xs ys by omega) hnD ((G.d.mul G.t).sub (G.c.mul G.c)) ((G.n16.mul G.d).mono (by omega))
 have h3:=h3 j hj;have h4:=least_sq G.len hD j A B;obtain ⟨L,hL⟩:∃ L,L=fvW (qR19 (gV 4296 (fD xs ys*fT xs ys-fC xs ys*fC xs ys)) (gV 2148 ((xs.length:Int)*fD xs ys)) 3).1:=⟨_,rfl⟩;rw [←hL] at h3 ⊢;obtain ⟨E,hE⟩:∃ E,E=fD xs ys*fT xs ys-fC xs ys*fC xs ys:=⟨_,rfl⟩;rw [←hE] at h3 h4;obtain ⟨nD,hnD'⟩:∃ E,E=(xs.length:Int)*fD xs ys:=⟨_,rfl⟩;rw [←hnD'] at h3 h4 hnD;obtain ⟨S,hS⟩:∃ S,S=sqL j A B (xs.zip ys):=⟨_,rfl⟩;rw [←hS] at h4 ⊢;have e1:4296=m+j:=by omega
 have e2:j+2148=m:=by omega
 rw [e1,e2,Nat.pow_add,Int.natCast_mul] at h3;obtain ⟨J,hJ⟩:∃ J:Int,J=((2^j:Nat):Int):=⟨_,rfl⟩;obtain ⟨M,hM⟩:∃ J:Int,J=((2^m:Nat):Int):=⟨_,rfl⟩
 have eM:M=J*J*J:=by
  rw [hM,hJ,show m=j+j+j by omega,Nat.pow_add,Nat.pow_add,Int.natCast_mul,Int.natCast_mul]
 have hJp:0<J:=by rw [hJ];have:=Nat.two_pow_pos j;omega
 have hMp:0<M:=by rw [hM];have:=Nat.two_pow_pos m;omega
 rw [←hJ,←hM] at h3;rw [←hJ] at h4;rw [←hM];clear hL hE hnD' hS hJ hM e1 e2
 have h5:L*(nD*J)≤E:=by
  have:M*(L*(nD*J))≤M*E:=by
   have e:M*(L*(nD*J))=L*(nD*(M*J)):=by grind
   rw [e,Int.mul_comm M E];exact h3
  exact Int.le_of_mul_le_mul_left this hMp
 have h6:nD*(L*M)≤nD*S:=by
  have h7:=Int.mul_le_mul_of_nonneg_right h5 (Int.le_of_lt (Int.mul_pos hJp hJp));have e:L*(nD*J)*(J*J)=nD*(L*M):=by rw [eM];grind
  rw [e] at h7;exact Int.le_trans h7 h4
 exact Int.le_of_mul_le_mul_left h6 hnD
theorem cmp_g {u m:Nat}{V W:Int}(hu:u≤100000) (hm:m≤90000) (h1:Bd m V) (h2:Bd m W):cmpV (dN (gV u V)) (dX (gV u V)) (dE (gV u V)) (dN (gV u W)) (dX (gV u W)) (dE (gV u W))=cmpZ V W:=by
 have F:=g_fm (u:=u) hu (by omega) h1
 have H:=g_fm (u:=u) hu (by omega) h2
 obtain ⟨k,e⟩:=exK u (by omega)
 have f1:=F.val;have f2:=H.val;rw [val_g F (by omega) k e] at f1
 rw [val_g H (by omega) k e] at f2
 rw [cmp_Fv f1 f2];have hp:(0:Int)<((2^k:Nat):Int):=by have:=Nat.two_pow_pos k;omega
 unfold cmpZ;have a1:V*((2^k:Nat):Int)<W*((2^k:Nat):Int)↔V<W:=⟨fun h=>Int.lt_of_mul_lt_mul_right h (Int.le_of_lt hp),fun h=>Int.mul_lt_mul_of_pos_right h hp⟩
 have a2:W*((2^k:Nat):Int)<V*((2^k:Nat):Int)↔W<V:=⟨fun h=>Int.lt_of_mul_lt_mul_right h (Int.le_of_lt hp),fun h=>Int.mul_lt_mul_of_pos_right h hp⟩
 simp only [a1,a2]
theorem Cmp19 {w:World}{a b:Option Addr}{c d u m:Nat}{V W:Int}(hu:u≤100000) (hm:m≤90000) (h1:Bd m V) (h2:Bd m W) (N1:Nt 0 w (.slice a (ws (dX (gV u V))).length c) (dX (gV u V))) (N2:Nt 0 w (.slice b (ws (dX (gV u W))).length d) (dX (gV u W))) :
 Calls Tryz.prog 20 #[.agg #[.bool (dN (gV u V)),.slice a (ws (dX (gV u V))).length c,.int .i64 (dE (gV u V))],.agg #[.bool (dN (gV u W)),.slice b (ws (dX (gV u W))).length d,.int .i64 (dE (gV u W))]] w fun r w'=>r=.returned (.int .i64 (cmpZ V W))∧Below w.heap.size w w':=by
 have F:=g_fm (u:=u) hu (m:=m) (by omega) h1
 have H:=g_fm (u:=u) hu (m:=m) (by omega) h2
 have:=Cmp_any3 (F.a12 N1) (H.a12 N2) (dN (gV u V)) (dN (gV u W)) (dE (gV u V)) (dE (gV u W)) F.rng.1 F.rng.2 H.rng.1 H.rng.2;rw [val_ws,val_ws,cmp_g hu hm h1 h2] at this;exact this
end
section
open Go Go.RowKit J
open Go.Proofs.YtopgffjnejaijaaGreatDoor.B (f64bits f64frombits)
attribute [local go_sem] Ps.st_floatP f64bits f64frombits
theorem live19 (w:World) (hT:Tab w):Calls Tryz.prog 9 #[] w fun r w'=>r=.returned (.bool true)∧Below w.heap.size w w':=by
 have o0:(FloatKind.f64.format.order 4602678819172646912 4602678819172646912==some .eq)=true:=by decide +kernel
 have o1:(FloatKind.f64.format.order 4604930618986332160 4604930618986332160==some .eq)=true:=by decide +kernel
 have o2:(FloatKind.f64.format.order 4609434218613702656 4609434218613702656==some .eq)=true:=by decide +kernel
 have o3:(FloatKind.f64.format.order 4626604192193052672 4626604192193052672==some .eq)=true:=by decide +kernel
 obtain ⟨Q2,Q4,hq⟩:=live_line;have HQ:=qsd hq;have HT:=qsd hT;clear hq hT;obtain ⟨V1,hV1⟩:∃ V,V=(w.alloc (Obj.cells #[.float .f64 0,.float .f64 4607182418800017408,.float .f64 4611686018427387904] 24)).alloc (Obj.cells #[.float .f64 0,.float .f64 4607182418800017408,.float .f64 4607182418800017408] 24):=⟨_,rfl⟩;obtain ⟨ga1,hga1⟩:∃ g,g=w.heap.size:=⟨_,rfl⟩;obtain ⟨gb1,hgb1⟩:∃ g,g=w.heap.size+1:=⟨_,rfl⟩
 have BV1:Aside (Below w.heap.size w V1∧Fs V1.heap.size V1 (some ⟨ga1,0,none⟩) [0,4607182418800017408,4611686018427387904]∧Fs V1.heap.size V1 (some ⟨gb1,0,none⟩) [0,4607182418800017408,4607182418800017408]):=by
  have z1:=lit19 w [0,4607182418800017408,4611686018427387904] ga1 hga1;have z2:=lit19 (w.alloc (Obj.cells #[.float .f64 0,.float .f64 4607182418800017408,.float .f64 4611686018427387904] 24)) [0,4607182418800017408,4607182418800017408] gb1 (by rw [hgb1];simp)
  rw [hV1];exact ⟨(bel_alloc _ _).trans ((bel_alloc _ _).mono (by simp)),(z1.below (bel_alloc _ _)).mono (by simp),z2⟩
 have HV1:=(qsd (ai hV1 (ai hga1 hgb1)));clear hV1 hga1 hgb1;have C:=hid (Line19z [0,4607182418800017408,4611686018427387904] [0,4607182418800017408,4607182418800017408] (some ⟨ga1,0,none⟩) (some ⟨gb1,0,none⟩) 3 3 3 3 0 V1 rfl rfl BV1.out.2.1 BV1.out.2.2 (by unfold W64;decide) (by unfold W64;decide) (HT.out.belows BV1.out.1) HQ.out)
 go_enter Tryz.func9,Tryz.ntmps9
 go_wp2_with fail
 rw [←HV1.out.1]
 try rw [←HV1.out.2.2]
 try rw [←HV1.out.2.1]
 clear HV1;refine C.out.mono ?_;clear C;rintro r u1 ⟨rfl,hb⟩;obtain ⟨U1,hU1⟩:∃ U,U=u1.alloc (Obj.cells #[.int .i64 3,.float .f64 4602678819172646912,.float .f64 Q2,.float .f64 4604930618986332160,.float .f64 Q4] 26):=⟨_,rfl⟩;obtain ⟨g1,hg1⟩:∃ g,g=u1.heap.size:=⟨_,rfl⟩
 have B1:Aside (Below w.heap.size w U1∧Bl U1 g1 26 [.int .i64 3,.float .f64 4602678819172646912,.float .f64 Q2,.float .f64 4604930618986332160,.float .f64 Q4]):=by
  rw [hU1,hg1];exact ⟨(BV1.out.1.trans (hb.mono BV1.out.1.size)).trans ((bel_alloc _ _).mono (Nat.le_trans BV1.out.1.size hb.size)),Bl.new _ 26 [.int .i64 3,.float .f64 4602678819172646912,.float .f64 Q2,.float .f64 4604930618986332160,.float .f64 Q4]⟩
 have HU1:=(qsd (ai hU1 hg1));clear hU1 hg1 hb BV1;obtain ⟨V2,hV2⟩:∃ V,V=(U1.alloc (Obj.cells #[.float .f64 4611686018427387904] 24)).alloc (Obj.cells #[.float .f64 4613937818241073152] 24):=⟨_,rfl⟩;obtain ⟨ga2,hga2⟩:∃ g,g=U1.heap.size:=⟨_,rfl⟩;obtain ⟨gb2,hgb2⟩:∃ g,g=U1.heap.size+1:=⟨_,rfl⟩
 have BV2:Aside (Below w.heap.size w V2∧Fs V2.heap.size V2 (some ⟨ga2,0,none⟩) [4611686018427387904]∧Fs V2.heap.size V2 (some ⟨gb2,0,none⟩) [4613937818241073152]):=by
  have z1:=lit19 U1 [4611686018427387904] ga2 hga2;have z2:=lit19 (U1.alloc (Obj.cells #[.float .f64 4611686018427387904] 24)) [4613937818241073152] gb2 (by rw [hgb2];simp)
  rw [hV2];exact ⟨(B1.out.1.trans ((bel_alloc _ _).mono B1.out.1.size)).trans ((bel_alloc _ _).mono (by simp;have:=B1.out.1.size;omega)),(z1.below (bel_alloc _ _)).mono (by simp),z2⟩
 have HV2:=(qsd (ai hV2 (ai hga2 hgb2)));clear hV2 hga2 hgb2;have C:=hid (Through19z [4611686018427387904] [4613937818241073152] (some ⟨ga2,0,none⟩) (some ⟨gb2,0,none⟩) 1 1 1 1 0 V2 rfl rfl BV2.out.2.1 BV2.out.2.2 (by unfold W64;decide) (by unfold W64;decide) (HT.out.belows BV2.out.1) live_through)
 have B2:Aside (Bl V2 g1 26 [.int .i64 3,.float .f64 4602678819172646912,.float .f64 Q2,.float .f64 4604930618986332160,.float .f64 Q4]):=by rw [HV2.out.1];exact (B1.out.2.alloc _).alloc _
 go_upto_region 2 with fail
 rw [←HU1.out.1,←HU1.out.2];clear HU1 B1
 go_wp2_with fail
 rw [←HV2.out.1]
 try rw [←HV2.out.2.2]
 try rw [←HV2.out.2.1]
 clear HV2;refine C.out.mono ?_;clear C;rintro r u2 ⟨rfl,hb⟩;have B3:=qsd (ai (BV2.out.1.trans (hb.mono BV2.out.1.size)) (B2.out.below hb B2.out.lt));clear hb BV2 B2;obtain ⟨V3,hV3⟩:∃ V,V=(u2.alloc (Obj.cells #[.float .f64 0,.float .f64 4607182418800017408,.float .f64 4611686018427387904] 24)).alloc (Obj.cells #[.float .f64 4607182418800017408,.float .f64 4613937818241073152,.float .f64 4617315517961601024] 24):=⟨_,rfl⟩;obtain ⟨ga3,hga3⟩:∃ g,g=u2.heap.size:=⟨_,rfl⟩;obtain ⟨gb3,hgb3⟩:∃ g,g=u2.heap.size+1:=⟨_,rfl⟩
 have BV3:Aside (Below w.heap.size w V3∧Fs V3.heap.size V3 (some ⟨ga3,0,none⟩) [0,4607182418800017408,4611686018427387904]∧Fs V3.heap.size V3 (some ⟨gb3,0,none⟩) [4607182418800017408,4613937818241073152,4617315517961601024]):=by
  have z1:=lit19 u2 [0,4607182418800017408,4611686018427387904] ga3 hga3;have z2:=lit19 (u2.alloc (Obj.cells #[.float .f64 0,.float .f64 4607182418800017408,.float .f64 4611686018427387904] 24)) [4607182418800017408,4613937818241073152,4617315517961601024] gb3 (by rw [hgb3];simp)
  rw [hV3];exact ⟨(B3.out.1.trans ((bel_alloc _ _).mono B3.out.1.size)).trans ((bel_alloc _ _).mono (by simp;have:=B3.out.1.size;omega)),(z1.below (bel_alloc _ _)).mono (by simp),z2⟩
 have HV3:=(qsd (ai hV3 (ai hga3 hgb3)));clear hV3 hga3 hgb3;have C:=hid (At19z [0,4607182418800017408,4611686018427387904] [4607182418800017408,4613937818241073152,4617315517961601024] 4621819117588971520 (some ⟨ga3,0,none⟩) (some ⟨gb3,0,none⟩) 3 3 3 3 0 V3 rfl rfl BV3.out.2.1 BV3.out.2.2 (by unfold W64;decide) (by unfold W64;decide) (by decide) (HT.out.belows BV3.out.1) live_at)
 have B4:Aside (Bl V3 g1 26 [.int .i64 3,.float .f64 4602678819172646912,.float .f64 Q2,.float .f64 4604930618986332160,.float .f64 Q4]):=by rw [HV3.out.1];exact (B3.out.2.alloc _).alloc _
 clear B3
 go_wp2_with fail
 rw [←HV3.out.1]
 try rw [←HV3.out.2.2]
 try rw [←HV3.out.2.1]
 clear HV3;refine C.out.mono ?_;clear C;rintro r u3 ⟨rfl,hb⟩;have B5:=qsd (ai (BV3.out.1.trans (hb.mono BV3.out.1.size)) (B4.out.below hb B4.out.lt));clear hb BV3 B4;have z0:=B5.out.2.cell 0 _ rfl;have z1:=B5.out.2.cell 1 _ rfl;have z3:=B5.out.2.cell 3 _ rfl;go_wp2;exact bodyPost_ret (v:=.bool true) (by simp [results,Tryz.results9,go_sem]) rfl ⟨rfl,B5.out.1⟩
end
section
open Go.ChangeShapes Go.WideShapes Go.ChangeAt Go.RowKit
theorem trodF {H:Type}{enc:TypeId×Value→H}{P:Program}{w:World}{base:Nat}{spare:Nat→Bool}{held:Bool}{fuel:Nat}{t:TypeId}{cs:List Value}{x:DataW H×List MemPlace}{k:FloatKind}(ht:P.underlying t=some (.float k)) (h:DataW.trod enc P w base spare held fuel t cs=some x):∃ n,cs=[.float k n]∧x=(.lit (.float k n),[])∧(Lit.float k n).wf=true:=by
 cases fuel with
 | zero=>simp [DataW.trod] at h
 | succ m =>
   simp only [DataW.trod,ht] at h
   split at h <;> simp_all
structure CameF (w:World) (a:Option Addr) (n c:Nat) (xs:List Nat):Prop where
 len:n=xs.length
 cap:n≤c
 wf:W64 xs
 rd:Fs w.heap.size w a xs
 nil:a=none→c=0
theorem add_noneF (b off i:Nat):(⟨b,off,none⟩:Addr).add i=⟨b,off+i,none⟩:=by unfold Addr.add;split <;> simp_all
def numF {H:Type} (y:DataW H×List MemPlace):Nat:=match y.1 with | .lit (.float _ n)=>n | _=>0
theorem Tryz.cellsF:Tryz.prog.cellsOf 24=1:=by kernel_rfl
theorem Tryz.bytesF:Tryz.prog.bytesOf 24=8:=by kernel_rfl
theorem cameF_of {H:Type}{enc:TypeId×Value→H}{W:World}{a:Option Addr}{n c:Nat}{d:DataW H}{p:List MemPlace}(h:DataW.Trod enc Tryz.prog W 0 (fun _=>true) true 23 (.slice a n c) d p) :
 ∃ xs,CameF W a n c xs∧((d=.nil∧c=0)∨∃ elems spare:List (DataW H),d=.slice elems spare∧elems.length+spare.length=c):=by
 obtain ⟨fuel,hf⟩:=h
 rcases DataW.trod_slice Tryz.underlying23 hf with ⟨hcs,hx⟩|⟨x,l,cp,elems,rest,m,_,hcs,hx,hb,hl,hm,hlen,hel,hsp,hns⟩
 · simp [Value.cells] at hcs
   obtain ⟨rfl,rfl,rfl⟩:=hcs;exact ⟨[],⟨rfl,Nat.le_refl _,(fun x hx=>by cases hx),(fun h=>absurd rfl h),fun _=>rfl⟩,.inl ⟨(Prod.mk.inj hx).1,rfl⟩⟩
 · simp [Value.cells] at hcs
   obtain ⟨rfl,rfl,rfl⟩:=hcs
   have each:∀ i y,i<n→elems[i]?=some y→y=(.lit (.float .f64 (numF y)),[])∧(Lit.float .f64 (numF y)).wf=true∧W.cell? (x.add i)=some (.float .f64 (numF y)):=by
    intro i y hi hy;have hb':=hel i hi;rw [hy,Tryz.cellsF,Nat.mul_one,Option.bind_eq_some_iff] at hb';obtain ⟨cs',hcs,hy'⟩:=hb';obtain ⟨k,rfl,rfl,hw⟩:=trodF Tryz.underlying24 hy';exact ⟨rfl,hw,cell_of_cells?_one hcs⟩
   refine ⟨elems.map numF,⟨by simp [hlen],hl,?_,?_,fun e=>by cases e⟩,.inr ⟨_,_,(Prod.mk.inj hx).1,?_⟩⟩
   · intro y hy
     obtain ⟨z,hz,rfl⟩:=List.mem_map.1 hy;obtain ⟨i,hi⟩:=List.getElem?_of_mem hz;have hil:=(List.getElem?_eq_some_iff.1 hi).1;have:=(each i z (by omega) hi).2.1
     exact of_decide_eq_true this
   · intro hne
     obtain ⟨b,off,spot⟩:=x
     have hn0:0<n:=by
      rcases Nat.eq_zero_or_pos n with h0|h0
      · rw [h0] at hlen;have:=List.eq_nil_of_length_eq_zero hlen;subst this;simp at hne
      · exact h0
     have hc0:=(each 0 (elems[0]'(by omega)) hn0 (List.getElem?_eq_getElem _)).2.2
     have hspot:spot=none:=by simpa [Addr.add] using World.cell?_spot hc0
     subst hspot;refine ⟨b,off,World.block_lt_of_cell? W _ (by simpa [Addr.add] using hc0),rfl,fun i hi=>?_⟩
     rw [List.length_map] at hi;have hadd:=add_noneF b off i;have:=(each i (elems[i]'hi) (by omega) (List.getElem?_eq_getElem _)).2.2
     rw [hadd] at this;rw [this];simp [List.getD_eq_getElem?_getD,hi]
   · have hr:=(hsp rfl).1
     simp only [List.length_map];omega
theorem cameF_reach {H:Type}{ts:List TypeId}{ds:List (DataW H)}(h:(DataW.weightsEach Tryz.prog ts ds).all (·≤reachBytes)=true) {j:Nat}{d:DataW H}{c n:Nat}(ht:ts[j]?=some 23) (hd:ds[j]?=some d) (hn:n≤c)
 (hc:(d=.nil∧c=0)∨∃ elems spare:List (DataW H),d=.slice elems spare∧elems.length+spare.length=c):n≤17592186043904:=by
 rcases hc with ⟨_,rfl⟩|⟨elems,spare,rfl,hl⟩
 · omega
 · have:=sized_slice h ht hd Tryz.underlying23
   rw [Tryz.bytesF,hl] at this;simp only [reachBytes] at this;omega
end
end Go.Proofs.YtopgffjnejaijaaGreatDoor
