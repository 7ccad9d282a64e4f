import Derived.Test.YtblkpkgebigojaaGreatDoorFI6x
import Derived.Test.YtblkpkgebigojaaGreatDoorZ26x
import Derived.Test.YtblkpkgebigojaaGreatDoorS10x
import Derived.Test.YtblkpkgebigojaaGreatDoorD39x
import Derived.Test.YtblkpkgebigojaaGreatDoorBIeeex
import Derived.Test.YtblkpkgebigojaaGreatDoorW50x
import Derived.BigQuiet
import Derived.Deep.Cut
import Derived.Test.YtblkpkgebigojaaGreatDoorD32cx
import Derived.OwnWalk
import Derived.ArgAppend
import Derived.Maps.AppendAt
import Derived.WalkMore
import Derived.Test.YtblkpkgebigojaaGreatDoorZ5x
import Derived.Test.YtblkpkgebigojaaGreatDoorM1x
import Derived.Test.YtblkpkgebigojaaGreatDoorW14x
set_option linter.unusedVariables false
set_option linter.unusedSimpArgs false
set_option maxHeartbeats 16000000
set_option maxRecDepth 20000
namespace Go.Proofs.YtblkpkgebigojaaGreatDoor
namespace J
end J
section
open Go Go.RowKit J
structure Gd (xs ys:List Nat):Prop where
 CU:iZ xs
 FJ:iZ ys
 xf:∀ x ∈ xs,jC x
 yf:∀ x ∈ ys,jC x
 len:xs.length=ys.length
 le:xs.length<=65536
def fD (xs ys:List Nat):Int:=(xs.length:Int)*pS xs xs-zS dm xs*zS dm xs
def fC (xs ys:List Nat):Int:=(xs.length:Int)*pS xs ys-zS dm xs*zS dm ys
def fT (xs ys:List Nat):Int:=(xs.length:Int)*pS ys ys-zS dm ys*zS dm ys
def fK (xs ys:List Nat):Int:=pS xs xs*zS dm ys-zS dm xs*pS xs ys
section
variable {xs ys : List Nat} (G : Gd xs ys)
include G
theorem Gd.n16:Bd 16 ((xs.length:Nat):Int):=Bd.nat (by have:=G.le;omega)
theorem Gd.sx:Bd 2114 (zS dm xs):=qH G.CU G.xf G.le
theorem Gd.sy:Bd 2114 (zS dm ys):=qH G.FJ G.yf (by have:=G.len;have:=G.le;omega)
theorem Gd.xx:Bd 4212 (pS xs xs):=Hz G.CU G.CU G.xf G.xf G.le
theorem Gd.xy:Bd 4212 (pS xs ys):=Hz G.CU G.FJ G.xf G.yf G.le
theorem Gd.yy:Bd 4212 (pS ys ys):=Hz G.FJ G.FJ G.yf G.yf (by have:=G.len;have:=G.le;omega)
theorem Gd.d:Bd 4229 (fD xs ys):=Bd.sub (m:=4228) (G.n16.mul G.xx) (G.sx.mul G.sx)
theorem Gd.c:Bd 4229 (fC xs ys):=Bd.sub (m:=4228) (G.n16.mul G.xy) (G.sx.mul G.sy)
theorem Gd.t:Bd 4229 (fT xs ys):=Bd.sub (m:=4228) (G.n16.mul G.yy) (G.sy.mul G.sy)
theorem Gd.k:Bd 6327 (fK xs ys):=Bd.sub (m:=6326) (G.xx.mul G.sy) (G.sx.mul G.xy)
end
theorem gm {u v a b:Nat}{V W:Int}(h1:Bd a V) (h2:Bd b W) (hu:u<=50000:=by decide) (hv:v<=50000:=by decide) (ha:a<=40000:=by decide) (hb:b<=40000:=by decide):eY (gV u V) (gV v W)=gV (u+v) (V*W):=X4 hu hv ha hb h1 h2
theorem gf {u m:Nat}{V:Int}(h:Bd m V) (hu:u<=100000:=by decide) (hm:m<=99999:=by decide):Fm (gV u V):=CF hu hm h
theorem gs {u m:Nat}{V W:Int}(h1:Bd m V) (h2:Bd m W) (hu:u<=100000:=by decide) (hm:m<=90000:=by decide):fQ (gV u V) (mkS (!dN (gV u W)) (dX (gV u W)) (dE (gV u W)))=gV u (V-W):=X6 hu hm h1 h2
theorem ga {u m:Nat}{V W:Int}(h1:Bd m V) (h2:Bd m W) (hu:u<=100000:=by decide) (hm:m<=90000:=by decide):fQ (gV u V) (gV u W)=gV u (V+W):=Tq hu hm h1 h2
theorem gz {u m:Nat}{V:Int}(h:Bd m V) (hu:u<=100000:=by decide) (hm:m<=90000:=by decide):dX (gV u V)=0↔V=0:=(UN hu hm h).1
theorem CV {xs ys:List Nat}(G:Gd xs ys) (a b:Option Addr) (n c d:Nat) (w:World) (hn:n=xs.length) (hF:Fs w.heap.size w a xs) (hF2:Fs w.heap.size w b ys) (hT:il w) :
 Calls Tryz.prog 35 #[.slice a n c,.slice b n d] w fun r w'=>(∃ v,r=.returned v/\zN w' v (gV 0 (n:Nat)) (gV 2148 (fD xs ys)) (gV 2148 (fC xs ys)) (gV 2148 (fT xs ys)) (gV 3222 (fK xs ys)))/\Below w.heap.size w w':=by
 have hl:=G.le;have hm:n=ys.length:=by rw [hn];exact G.len
 have b1:=G.n16.mul G.xx;have b2:=G.sx.mul G.sx;have b3:=G.n16.mul G.xy;have b4:=G.sx.mul G.sy;have b5:=G.n16.mul G.yy;have b6:=G.sy.mul G.sy;have b7:=G.xx.mul G.sy;have b8:=G.sx.mul G.xy;have e:=hn;have hs:∀ u:World,Below w.heap.size w u->Fs u.heap.size u a xs:=fun u hu=>(hF.below hu).mono hu.size;have hs2:∀ u:World,Below w.heap.size w u->Fs u.heap.size u b ys:=fun u hu=>(hF2.below hu).mono hu.size
 refine CO w a b n c d ae (gV 0 (n:Nat)) (gV 1074 (zS dm xs)) (gV 1074 (zS dm ys)) (gV 2148 (pS xs xs)) (gV 2148 (pS xs ys)) (gV 2148 (pS ys ys))
  (gV 2148 ((xs.length:Int)*pS xs xs)) (gV 2148 (zS dm xs*zS dm xs)) (gV 2148 ((xs.length:Int)*pS xs ys)) (gV 2148 (zS dm xs*zS dm ys)) (gV 2148 ((xs.length:Int)*pS ys ys)) (gV 2148 (zS dm ys*zS dm ys)) (gV 3222 (pS xs xs*zS dm ys)) (gV 3222 (zS dm xs*pS xs ys))
  (gV 2148 (fD xs ys)) (gV 2148 (fC xs ys)) (gV 2148 (fT xs ys)) (gV 3222 (fK xs ys))
  ⟨?_,gf G.sx,gf G.sy,gf G.xx,gf G.xy,gf G.yy,gf b1,gf b2,gf b3,gf b4,gf b5,gf b6,gf b7,gf b8,gf G.d,gf G.c,gf G.t,gf G.k⟩
  ⟨?_,gm G.sx G.sx,?_,gm G.sx G.sy,?_,gm G.sy G.sy,gm G.xx G.sy,gm G.sx G.xy,gs b1 b2,gs b3 b4,gs b5 b6,gs b7 b8⟩
  (hid fun u hu=>X8 n u (hT.belows hu) ae ae) (hid fun u hu=>Hw xs a n c u hn (hs u hu) G.CU G.xf (hT.belows hu) ae) (hid fun u hu=>Hw ys b n d u hm (hs2 u hu) G.FJ G.yf (hT.belows hu) ae)
  (hid fun u hu=>kJ xs xs a a n c c u hn hn (hs u hu) (hs u hu) G.CU G.CU G.xf G.xf (hT.belows hu) ae) (hid fun u hu=>kJ xs ys a b n c d u hn hm (hs u hu) (hs2 u hu) G.CU G.FJ G.xf G.yf (hT.belows hu) ae) (hid fun u hu=>kJ ys ys b b n d d u hm hm (hs2 u hu) (hs2 u hu) G.FJ G.FJ G.yf G.yf (hT.belows hu) ae)
  (ay fun u hu=>hT.belows hu)
 · rw [hn];exact gf G.n16
 · rw [hn];exact gm (u:=0) G.n16 G.xx
 · rw [hn];exact gm (u:=0) G.n16 G.xy
 · rw [hn];exact gm (u:=0) G.n16 G.yy
theorem wy {xs ys zs:List Nat}{mode:Int}{least:Nat}(hW:iZ xs) (hV:iZ ys) (h:rU xs ys zs mode least=0):Gd xs ys/\0<=mode/\mode<=4/\least<=xs.length/\oI zs=true:=by
 unfold rU at h
 by_cases h1:mode<0\/4<mode
 · rw [if_pos h1] at h;omega
 rw [if_neg h1] at h
 by_cases h2:65536<xs.length\/65536<ys.length
 · rw [if_pos h2] at h;omega
 rw [if_neg h2] at h
 by_cases h3:xs.length≠ys.length
 · rw [if_pos h3] at h;omega
 rw [if_neg h3] at h
 by_cases h4:(oI xs&&oI ys&&oI zs)=false
 · rw [if_pos h4] at h;omega
 rw [if_neg h4] at h
 by_cases h5:xs.length<least
 · rw [if_pos h5] at h;omega
 rw [Bool.not_eq_false,xu,xu] at h4;exact ⟨⟨hW,hV,(uA _).1 h4.1.1,(uA _).1 h4.1.2,ae,ae⟩,ae,ae,ae,h4.2⟩
noncomputable def zT (xs ys:List Nat) (mode:Int):Int×Nat×Nat×Nat×Nat×Int :=
 if rU xs ys [] mode 2≠0 then (0,0,0,0,0,rU xs ys [] mode 2) else if fD xs ys=0 then (0,0,0,0,0,190) else
  ((xs.length:Nat),(iC (gV 2148 (fC xs ys)) (gV 2148 (fD xs ys)) mode).1,(iC (gV 3222 (fK xs ys)) (gV 2148 (fD xs ys)) mode).1,
    (if fT xs ys=0 then 4607182418800017408 else (iC (gV 4296 (fC xs ys*fC xs ys)) (gV 4296 (fD xs ys*fT xs ys)) mode).1),
    (iC (gV 4296 (fD xs ys*fT xs ys-fC xs ys*fC xs ys)) (gV 2148 ((xs.length:Int)*fD xs ys)) mode).1,0)
abbrev YF (z:Int×Nat×Nat×Nat×Nat×Int):Value:=.tuple #[.agg #[.int .i64 z.1,.float .f64 z.2.1,.float .f64 z.2.2.1,.float .f64 z.2.2.2.1,.float .f64 z.2.2.2.2.1],.int .i64 z.2.2.2.2.2]
theorem CW (B:Nat) (w:World) (a:Option Addr):Fs B w a []:=fun h=>absurd rfl h
theorem Ie:iZ []:=fun x hx=>by cases hx
theorem Vo (xs ys:List Nat) (a b:Option Addr) (n m c d:Nat) (mode:Int) (w:World) (hn:n=xs.length) (hm:m=ys.length) (hF:Fs w.heap.size w a xs) (hF2:Fs w.heap.size w b ys) (hW:iZ xs) (hV:iZ ys) (hT:il w) :
 Calls Tryz.prog 14 #[.slice a n c,.slice b m d,.int .i64 mode] w fun r w'=>r=.returned (YF (zT xs ys mode))/\Below w.heap.size w w':=by
 have hs:∀ u:World,Below w.heap.size w u->Fs u.heap.size u a xs:=fun u hu=>(hF.below hu).mono hu.size;have hs2:∀ u:World,Below w.heap.size w u->Fs u.heap.size u b ys:=fun u hu=>(hF2.below hu).mono hu.size
 have HA:∀ u:World,Below w.heap.size w u->Calls Tryz.prog 34 #[.slice a n c,.slice b m d,.int .i64 mode,.int .i64 2,.slice none 0 0] u fun r w'=>r=.returned (.int .i64 (rU xs ys [] mode 2))/\Below u.heap.size u w' :=
  fun u hu=>zP xs ys [] a b none n m 0 c d 0 mode 2 u hn hm rfl ae ae (hs u hu) (hs2 u hu) (CW _ _ _) hW hV Ie
 unfold zT
 by_cases hE:rU xs ys [] mode 2=0
 · rw [if_neg (by simpa using hE)];rw [hE] at HA;obtain ⟨G,h0,h4,h2,_⟩:=wy hW hV hE;have hnm:n=m:=by rw [hn,hm];exact G.len
   have HL:Hid (∀ u:World,Below w.heap.size w u->Calls Tryz.prog 35 #[.slice a n c,.slice b m d] u fun r w'=>(∃ v,r=.returned v/\zN w' v (gV 0 (n:Nat)) (gV 2148 (fD xs ys)) (gV 2148 (fC xs ys)) (gV 2148 (fT xs ys)) (gV 3222 (fK xs ys)))/\Below u.heap.size u w') :=
    fun u hu=>by subst hnm;exact CV G a b n c d u hn (hs u hu) (hs2 u hu) (hT.belows hu)
   have bn:Bd 16 ((n:Nat):Int):=by rw [hn];exact G.n16
   have FF:Aside (Fm (gV 0 ((n:Nat):Int))/\Fm (gV 2148 (fD xs ys))/\Fm (gV 2148 (fC xs ys))/\Fm (gV 2148 (fT xs ys))/\Fm (gV 3222 (fK xs ys))/\Fm (gV 4296 (fC xs ys*fC xs ys))/\Fm (gV 4296 (fD xs ys*fT xs ys))/\Fm (gV 4296 (fD xs ys*fT xs ys-fC xs ys*fC xs ys))/\Fm (gV 2148 ((n:Int)*fD xs ys))) :=
    ⟨gf bn,gf G.d,gf G.c,gf G.t,gf G.k,gf (G.c.mul G.c),gf (G.d.mul G.t),gf ((G.d.mul G.t).sub (G.c.mul G.c)),gf (bn.mul G.d)⟩
   by_cases hD:fD xs ys=0
   · rw [if_pos hD];exact KW mode ((gz G.d).2 hD) FF (hid HA) HL
   · rw [if_neg hD];have C:=RU (a:=a) (b:=b) (n:=n) (m:=m) (c:=c) (d:=d) mode hnm (fun h=>hD ((gz G.d).1 h)) FF ⟨gm G.d G.t,gm G.c G.c,gs (G.d.mul G.t) (G.c.mul G.c),gm (u:=0) bn G.d⟩ (ay fun u hu=>hT.belows hu) (hid HA) HL;refine C.mono ?_;rintro r w' ⟨rfl,hb⟩;refine ⟨?_,hb⟩;have ht:(dX (gV 2148 (fT xs ys))=0)=(fT xs ys=0):=propext (gz G.t);simp only [ht,hn]
 · rw [if_pos hE];exact RS mode _ hE (hid HA)
noncomputable def atR (xs ys:List Nat) (x:Nat) (mode:Int):Nat×Int :=
 if rU xs ys [x] mode 2≠0 then (0,rU xs ys [x] mode 2) else if fD xs ys=0 then (0,190) else
  ((iC (gV 3222 (fK xs ys+fC xs ys*dm x)) (gV 2148 (fD xs ys)) mode).1,0)
theorem At19 (xs ys:List Nat) (x:Nat) (a b:Option Addr) (n m c d:Nat) (mode:Int) (w:World) (hn:n=xs.length) (hm:m=ys.length) (hF:Fs w.heap.size w a xs) (hF2:Fs w.heap.size w b ys) (hW:iZ xs) (hV:iZ ys) (hx:x<18446744073709551616) (hT:il w) :
 Calls Tryz.prog 18 #[.slice a n c,.slice b m d,.float .f64 x,.int .i64 mode] w fun r w'=>r=.returned (.tuple #[.float .f64 (atR xs ys x mode).1,.int .i64 (atR xs ys x mode).2])/\Below w.heap.size w w':=by
 have hs:∀ u:World,Below w.heap.size w u->Fs u.heap.size u a xs:=fun u hu=>(hF.below hu).mono hu.size;have hs2:∀ u:World,Below w.heap.size w u->Fs u.heap.size u b ys:=fun u hu=>(hF2.below hu).mono hu.size
 have HA:∀ u:World,Below w.heap.size w u->∀ g:Nat,w.heap.size<=g->u.cell? ⟨g,0,none⟩=some (.float .f64 x)->Calls Tryz.prog 34 #[.slice a n c,.slice b m d,.int .i64 mode,.int .i64 2,.slice (some ⟨g,0,none⟩) 1 1] u fun r w'=>r=.returned (.int .i64 (rU xs ys [x] mode 2))/\Below u.heap.size u w' :=
  fun u hu g hg hc=>zP xs ys [x] a b (some ⟨g,0,none⟩) n m 1 c d 1 mode 2 u hn hm rfl ae ae (hs u hu) (hs2 u hu) (fun _=>⟨g,0,mM u _ hc,rfl,fun i hi=>by
   have:i=0:=by simp at hi;omega
   subst this;exact hc⟩) hW hV (fun z hz=>by rw [yC] at hz;rw [hz];exact hx)
 unfold atR
 by_cases hE:rU xs ys [x] mode 2=0
 · rw [if_neg (by simpa using hE)];rw [hE] at HA;obtain ⟨G,h0,h4,h2,h5⟩:=wy hW hV hE;have fx:jC x:=(uA _).1 h5 x Aw;have hnm:n=m:=by rw [hn,hm];exact G.len
   have HL:Hid (∀ u:World,Below w.heap.size w u->Calls Tryz.prog 35 #[.slice a n c,.slice b m d] u fun r w'=>(∃ v,r=.returned v/\zN w' v (gV 0 (n:Nat)) (gV 2148 (fD xs ys)) (gV 2148 (fC xs ys)) (gV 2148 (fT xs ys)) (gV 3222 (fK xs ys)))/\Below u.heap.size u w') :=
    fun u hu=>by subst hnm;exact CV G a b n c d u hn (hs u hu) (hs2 u hu) (hT.belows hu)
   have bx:=lJ hx fx
   have FF:Aside (Fm (gV 2148 (fD xs ys))/\Fm (gV 2148 (fC xs ys))/\Fm (gV 3222 (fK xs ys))/\Fm (gV 1074 (dm x))/\Fm (gV 3222 (fC xs ys*dm x))/\Fm (gV 3222 (fK xs ys+fC xs ys*dm x))) :=
    ⟨gf G.d,gf G.c,gf G.k,gf bx,gf (G.c.mul bx),gf (G.k.add (G.c.mul bx))⟩
   by_cases hD:fD xs ys=0
   · rw [if_pos hD];exact RV x mode ((gz G.d).2 hD) FF (hid HA) HL
   · rw [if_neg hD];exact YE x mode (fun h=>hD ((gz G.d).1 h)) FF ⟨gm G.c bx,ga G.k (G.c.mul bx)⟩ (ay fun u hu=>hT.belows hu) (hid HA) HL (hid fun u hu=>Rp x ⟨hx,fx⟩ u (hT.belows hu))
 · rw [if_pos hE];exact YD x mode _ hE (hid HA)
noncomputable def Wp (xs ys:List Nat) (mode:Int):Nat×Int :=
 if rU xs ys [] mode 1≠0 then (0,rU xs ys [] mode 1) else if pS xs xs=0 then (0,190) else ((iC (gV 2148 (pS xs ys)) (gV 2148 (pS xs xs)) mode).1,0)
theorem K7 (xs ys:List Nat) (a b:Option Addr) (n m c d:Nat) (mode:Int) (w:World) (hn:n=xs.length) (hm:m=ys.length) (hF:Fs w.heap.size w a xs) (hF2:Fs w.heap.size w b ys) (hW:iZ xs) (hV:iZ ys) (hT:il w) :
 Calls Tryz.prog 21 #[.slice a n c,.slice b m d,.int .i64 mode] w fun r w'=>r=.returned (.tuple #[.float .f64 (Wp xs ys mode).1,.int .i64 (Wp xs ys mode).2])/\Below w.heap.size w w':=by
 have hs:∀ u:World,Below w.heap.size w u->Fs u.heap.size u a xs:=fun u hu=>(hF.below hu).mono hu.size;have hs2:∀ u:World,Below w.heap.size w u->Fs u.heap.size u b ys:=fun u hu=>(hF2.below hu).mono hu.size
 have HA:∀ u:World,Below w.heap.size w u->Calls Tryz.prog 34 #[.slice a n c,.slice b m d,.int .i64 mode,.int .i64 1,.slice none 0 0] u fun r w'=>r=.returned (.int .i64 (rU xs ys [] mode 1))/\Below u.heap.size u w' :=
  fun u hu=>zP xs ys [] a b none n m 0 c d 0 mode 1 u hn hm rfl ae ae (hs u hu) (hs2 u hu) (CW _ _ _) hW hV Ie
 unfold Wp
 by_cases hE:rU xs ys [] mode 1=0
 · rw [if_neg (by simpa using hE)];rw [hE] at HA;obtain ⟨G,h0,h4,h2,_⟩:=wy hW hV hE;have hnm:n=m:=by rw [hn,hm];exact G.len
   have hl:=G.le
   have HX:Hid (∀ u:World,Below w.heap.size w u->Calls Tryz.prog 57 #[.slice a n c,.slice a n c] u fun r w'=>dP 0 w' r (gV 2148 (pS xs xs))/\Below u.heap.size u w') :=
    fun u hu=>kJ xs xs a a n c c u hn hn (hs u hu) (hs u hu) G.CU G.CU G.xf G.xf (hT.belows hu) ae
   have HY:Hid (∀ u:World,Below w.heap.size w u->Calls Tryz.prog 57 #[.slice a n c,.slice b m d] u fun r w'=>dP 0 w' r (gV 2148 (pS xs ys))/\Below u.heap.size u w') :=
    fun u hu=>by subst hnm;exact kJ xs ys a b n c d u hn hm (hs u hu) (hs2 u hu) G.CU G.FJ G.xf G.yf (hT.belows hu) ae
   have FF:Aside (Fm (gV 2148 (pS xs xs))/\Fm (gV 2148 (pS xs ys))):=⟨gf G.xx,gf G.xy⟩
   by_cases hD:pS xs xs=0
   · rw [if_pos hD];exact zR mode ((gz G.xx).2 hD) FF (hid HA) HX
   · rw [if_neg hD];exact FI mode (fun h=>hD ((gz G.xx).1 h)) FF (ay fun u hu=>hT.belows hu) (hid HA) HX HY
 · rw [if_pos hE];exact FH mode _ hE (hid HA)
theorem zU {u k:Nat}{V:Int}(hu:u<=100000) (hV:V≠0) (hk:k<=90000) (hb:Bd k V):∃ X e,gV u V=some (decide (V<0),X,e)/\X%2=1/\-(u:Int)<=e/\e<=200000/\X*2^(e+(u:Int)).toNat=V.natAbs/\bl X<=262144/\tQ (decide (V<0)) X e:=by
 obtain ⟨n,X,e,ho,F,hx⟩:=KJ (u:=u) hu ae hb;have hm:mkS (decide (V<0)) V.natAbs (-(u:Int))=some (n,X,e):=ho;have hz:=kX hm (-(u:Int)) (.inr ae);unfold zv at hz;simp only at hz;rw [show (-(u:Int) - -(u:Int)).toNat=0 by omega,fG,dU] at hz
 have hX0:X≠0:=by
  rintro rfl;simp [o7] at hz
  split at hz <;> omega
 have hp:0<X*2^(e - -(u:Int)).toNat:=jm ae (bK _);rcases hx with h|⟨h1,h2⟩
 · exact absurd h hX0
 have hn:n=decide (V<0):=by
  by_cases hs:V<0
  · rw [decide_eq_true hs] at hz |-
    cases n with
    | true=>rfl
    | false=>simp only [o7,if_true,fw,if_false] at hz;omega
  · rw [decide_eq_false hs] at hz |-
    cases n with
    | false=>rfl
    | true=>simp only [o7,if_true,fw,if_false] at hz;omega
 rw [hn] at hz ho F
 have hv:X*2^(e - -(u:Int)).toNat=V.natAbs:=by
  by_cases hs:V<0
  · rw [decide_eq_true hs] at hz;simp only [o7,if_true] at hz;omega
  · rw [decide_eq_false hs] at hz;simp only [o7,fw,if_false] at hz;omega
 refine ⟨X,e,ho,?_,h1,ae,?_,ae,F⟩
 · rcases F.odd with q | q
   · exact q
   · exact absurd q.1 hX0
 · rw [show (e+(u:Int)).toNat=(e - -(u:Int)).toNat by congr 1;omega];exact hv
theorem CX {x S V S' V':Nat}(hS:0<S) (hS':0<S') (e:V*S'=V'*S):(x*S<V↔x*S'<V')/\(x*S=V↔x*S'=V')/\(V<x*S↔V'<x*S'):=by
 have a1:x*S*S'=x*S'*S:=by rw [aU,dh S,<-aU]
 have t1:x*S<V↔x*S*S'<V*S':=(mI hS').symm;have t2:x*S'<V'↔x*S'*S<V'*S:=(mI hS).symm;have t3:V<x*S↔V*S'<x*S*S':=(mI hS').symm;have t4:V'<x*S'↔V'*S<x*S'*S:=(mI hS).symm;rw [t1,t2,t3,t4,a1,e];refine ⟨Iff.rfl,?_,Iff.rfl⟩;rw [a1,e] at t1;rw [a1,e] at t3;omega
theorem iP.RX {v:Nat->Nat}{top n K:Nat}{t:Bool}{m:Int}{V S V' S':Nat}(h:iP v top n K t m V S) (hS':0<S') (e:V*S'=V'*S):iP v top n K t m V' S':=by
 obtain ⟨h1,h2,h3,h4,h5,h6⟩:=h;have e2:(2^n*V)*S'=(2^n*V')*S:=by rw [aU,e,aU]
 refine ⟨h1,hS',fun a=>((CX h2 hS' e).2.1.1 (h3 a).symm).symm,fun a=>(CX h2 hS' e).1.1 (h4 a),fun a b=>?_,fun a=>?_⟩
 · have:=h5 a ((CX h2 hS' e).2.2.2 b);obtain ⟨r1,r2,r3⟩:=CX (x:=(v K+v (K+1))^n) h2 hS' e2;rcases this with ⟨q,r⟩|⟨q,r⟩|⟨q,r⟩
   · exact .inl ⟨q,r3.1 r⟩
   · exact .inr (.inl ⟨q,(r2.1 r.symm).symm⟩)
   · exact .inr (.inr ⟨q,r1.1 r⟩)
 · rcases h6 a with q | q
   · exact .inl ((CX h2 hS' e).2.2.1 q)
   · exact .inr q
theorem YG {u v k:Nat}{V D:Int}(hu:u<=100000) (hv:v<=100000) (hk:k<=90000) (hV:V≠0) (hD:0<D) (bV:Bd k V) (bD:Bd k D) :
 ∃ K t m,(∀ j,j=1074->iP vK 9218868437227405312 1 K t m (V.natAbs*2^(j+v)) (D.natAbs*2^u))/\∀ mode:Int,0<=mode->mode<=4->iC (gV u V) (gV v D) mode=(rK mode (decide (V<0)) K t m+(if V<0 then 9223372036854775808 else 0),0):=by
 obtain ⟨Y,f,ho2,hY,hf0,hf1,hv2,Vp,F2⟩:=zU (u:=v) (V:=D) hv ae hk bD;rw [decide_eq_false ae] at ho2 F2;obtain ⟨X,e,ho,hX,he0,he1,hvv,hbl,F⟩:=zU (u:=u) (V:=V) hu hV hk bV;have hm1:mkS (decide (V<0)) X e=some (decide (V<0),X,e):=vO F;have hm2:mkS false Y f=some (false,Y,f):=vO F2;obtain ⟨K,t,m,hL,hR⟩:=Tp (decide (V<0)) X e Y f hX ae hbl Vp;refine ⟨K,t,m,fun j hj=>?_,fun mode hm0 tV=>?_⟩
 · refine hL.RX (jm ae (bK _)) ?_;unfold kK kL;rw [<-hvv,<-hv2]
   have e1:X*2^(e-f+((1*1074:Nat):Int)).toNat*(Y*2^(f+(v:Int)).toNat*2^u)=X*Y*(2^((e-f+((1*1074:Nat):Int)).toNat+((f+(v:Int)).toNat+u))):=by
    rw [aR,aR,aU Y,sH]
   have e2:X*2^(e+(u:Int)).toNat*2^(j+v)*(Y*2^(-(e-f+((1*1074:Nat):Int))).toNat)=X*Y*(2^((e+(u:Int)).toNat+(j+v)+(-(e-f+((1*1074:Nat):Int))).toNat)):=by
    rw [aR _ (_+_),aR _ (e+(u:Int)).toNat,aU X,sH]
   rw [e1,e2];congr 2;omega
 · unfold iC;rw [ho,ho2];show oH jJ ⟨decide (V<0),.bool false,X,e,false,.bool false,Y,f⟩ mode=_;unfold oH;rw [if_neg ae,if_pos (by rw [vW];show mO X (decide (V<0)) e Y false f=0;unfold mO;rw [if_neg (by unfold qN;simp;split <;> omega),hm1,hm2];simp [dX];omega),hm1,hm2];have:=hR mode hm0 tV;simp only [decide_eq_true_eq] at this;exact this
theorem RY {u v k:Nat}{D:Int}(hv:v<=100000) (hk:k<=90000) (hD:0<D) (bD:Bd k D) (mode:Int) (m0:0<=mode) (m4:mode<=4):iC (gV u 0) (gV v D) mode=(0,0):=by
 obtain ⟨Y,f,ho2,hY,hf0,hf1,hv2,Vp,F2⟩:=zU (u:=v) (V:=D) hv ae hk bD;rw [decide_eq_false ae] at ho2 F2;have hm2:mkS false Y f=some (false,Y,f):=vO F2;unfold iC;rw [rR,ho2];show oH jJ ⟨false,.bool false,0,0,false,.bool false,Y,f⟩ mode=_;unfold oH;rw [if_neg ae,if_pos (by rw [vW];show mO 0 false 0 Y false f=0;unfold mO;rw [if_neg (by unfold qN;simp;split <;> omega),hm2,fA];simp [dX];omega),fA,hm2];show jJ (kY false 0 0 Y f) mode=_;rw [tH _ _ _ _ ae Vp,Ko mode false 0 0 m0 m4];rfl
theorem iP.Vq {n K K':Nat}{t t':Bool}{m m':Int}{V S:Nat}(hn:n≠0) (h:iP vK 9218868437227405312 n K t m V S) (h':iP vK 9218868437227405312 n K' t' m' V S):K=K'/\t=t'/\(t=false->m=m'):=by
 have a1:vK K^n*S<=V:=by
  cases t with
  | true=>have:=h.one rfl;omega
  | false=>have:=h.low rfl;omega
 have a2:K+1=9218868437227405312\/V<vK (K+1)^n*S:=by
  cases t with
  | true =>
    have:=h.one rfl;have:=fM (Nat.pow_lt_pow_left (pQ.mono (show K<K+1 by omega)) hn) h.pos;omega
  | false =>
    rcases h.high rfl with q|q
    · exact .inr q
    · omega
 obtain ⟨e1,e2,e3⟩:=iP.doc pQ (Nat.pos_of_ne_zero hn) h' K h.fin a1 a2;obtain ⟨_,f2,f3⟩:=iP.doc pQ (Nat.pos_of_ne_zero hn) h K h.fin a1 a2;subst e1;rw [<-f2] at e2;refine ⟨rfl,e2.symm,fun ht=>?_⟩;rw [f3 ht,e3 (by rw [e2];exact ht)]
theorem K8 {mode:Int}{n:Bool}{K K':Nat}{t t':Bool}{m m':Int}(h:K=K'/\t=t'/\(t=false->m=m')):rK mode n K t m=rK mode n K' t' m':=by
 obtain ⟨rfl,rfl,h⟩:=h
 cases t with
 | true=>rfl
 | false=>rw [h rfl]
theorem RZ (mode:Int) (n:Bool) (K:Nat) (m:Int):rK mode n K true m=K:=by unfold rK;simp
theorem uB {u v k:Nat}{V D:Int}(hu:u<=100000) (hv:v<=100000) (hk:k<=90000) (hD:0<D) (bV:Bd k V) (bD:Bd k D) {y:Nat}(hy:y<18446744073709551616) (fy:jC y) (hz:y≠9223372036854775808)
 (e:∀ j,j=1074->dm y*(D*((2^u:Nat):Int))=V*((2^(j+v):Nat):Int)) (mode:Int) (m0:0<=mode) (m4:mode<=4) :
 iC (gV u V) (gV v D) mode=(y,0):=by
 obtain ⟨j,hj⟩:∃ j:Nat,j=1074:=⟨_,rfl⟩;have e:=e j hj;have p1:(0:Int)<D*((2^u:Nat):Int):=Int.mul_pos hD (by have:=bK u;omega);have p2:(0:Int)<((2^(j+v):Nat):Int):=by have:=bK (j+v);omega
 have YH:(dm y).natAbs=vK (eu y):=by unfold dm B.sg;cases iO y <;> simp
 have mK:y=eu y+(if iO y then 9223372036854775808 else 0):=by
  unfold eu iO
  by_cases h:9223372036854775808<=y
  · simp [h];omega
  · simp [h];omega
 have v0:∀ m:Nat,vK m=0->m=0:=fun m h=>by
  rcases jO m with q|q
  · exact q
  · have:=pQ.mono q;omega
 by_cases hV:V=0
 · subst hV;rw [Int.zero_mul] at e;have h0:dm y=0:=by rcases Int.mul_eq_zero.1 e with h | h;exact h;omega
   have:eu y=0:=v0 _ (by rw [<-YH,h0];rfl);have:y=0:=by rw [this] at mK;revert mK;split <;> omega
   rw [this,RY hv hk hD bD mode m0 m4]
 · obtain ⟨K,t,m,hL,hR⟩:=YG hu hv hk hV hD bV bD
   have eN:vK (eu y)^1*(D.natAbs*2^u)=V.natAbs*2^(j+v):=by
    have:=congrArg Int.natAbs e;rw [Int.natAbs_mul,Int.natAbs_mul,Int.natAbs_mul,Int.natAbs_natCast,Int.natAbs_natCast,YH] at this;rw [ku];exact this
   have hT:iP vK 9218868437227405312 1 (eu y) true 0 (V.natAbs*2^(j+v)) (D.natAbs*2^u):=⟨fy,jm ae (bK _),fun _=>eN.symm,fun q=>(by cases q),fun q=>(by cases q),fun q=>(by cases q)⟩;rw [hR mode m0 m4,K8 ((hL j hj).Vq aO hT),RZ]
   have hs:iO y=decide (V<0):=by
    have hf:dm y=B.sg (iO y) (vK (eu y)):=rfl
    have hp:0<vK (eu y):=by
     rcases jO (vK (eu y)) with q|q
     · rw [q,ku,dZ] at eN;rcases Nat.mul_eq_zero.1 eN.symm with h|h
       · omega
       · have:=bK (j+v);omega
     · exact q
    cases hn:iO y with
    | true =>
      rw [hn] at hf;have:dm y<0:=by rw [hf];unfold B.sg;simp;omega
      have h2:V<0:=by
       rcases Int.lt_or_le V 0 with q|q
       · exact q
       · have a1:=Int.mul_nonneg q (xn p2);have a2:=DT this p1;omega
      rw [decide_eq_true h2]
    | false =>
      rw [hn] at hf;have:0<dm y:=by rw [hf];unfold B.sg;simp;omega
      have h2:¬ V<0:=by
       intro q;have a1:=DT q p2;have a2:=Int.mul_pos this p1;omega
      rw [decide_eq_false h2]
   rw [hs] at mK;simp only [decide_eq_true_eq] at mK;rw [<-mK]
end
section
open Go Go.RowKit J
open Go.Proofs.YtblkpkgebigojaaGreatDoor.B (bO aJ)
attribute [local go_sem] Ps.eD bO aJ
theorem yA (w:World) (L:List Nat) (g:Nat) (hg:g=w.heap.size):Fs (w.alloc (Obj.cells (L.map (Value.float .f64)).toArray 26)).heap.size (w.alloc (Obj.cells (L.map (Value.float .f64)).toArray 26)) (some ⟨g,0,none⟩) L:=by
 subst hg;intro _;refine ⟨w.heap.size,0,aW,rfl,fun i hi=>?_⟩;have:=(Bl.new w 26 (L.map (Value.float .f64))).cell i (.float .f64 (L.getD i 0)) (by simp [eQ,fF hi]);rw [dI];exact this
abbrev iE:Nat:=4607182418800017408
abbrev kV:Nat:=4611686018427387904
theorem YI {xs ys:List Nat}{mode:Int}(hW:iZ xs) (hV:iZ ys) (h:rU xs ys [] mode 2=0):Gd xs ys:=(wy hW hV h).1
theorem Vr {xs ys:List Nat}{mode:Int}(hE:rU xs ys [] mode 2=0) (hD:fD xs ys≠0):zT xs ys mode=(((xs.length:Nat):Int),(iC (gV 2148 (fC xs ys)) (gV 2148 (fD xs ys)) mode).1,(iC (gV 3222 (fK xs ys)) (gV 2148 (fD xs ys)) mode).1,
 (if fT xs ys=0 then 4607182418800017408 else (iC (gV 4296 (fC xs ys*fC xs ys)) (gV 4296 (fD xs ys*fT xs ys)) mode).1),
 (iC (gV 4296 (fD xs ys*fT xs ys-fC xs ys*fC xs ys)) (gV 2148 ((xs.length:Int)*fD xs ys)) mode).1,0):=by
 unfold zT;rw [if_neg (by simpa using hE),if_neg hD]
theorem K9:∃ k l,zT [0,iE,kV] [0,iE,iE] 0=(3,4602678819172646912,k,4604930618986332160,l,0):=by
 have hE:rU [0,iE,kV] [0,iE,iE] [] 0 2=0:=by decide +kernel
 have G:=YI (by unfold iZ;decide) (by unfold iZ;decide) hE;have hD:0<fD [0,iE,kV] [0,iE,iE]:=by decide +kernel
 have hT:0<fT [0,iE,kV] [0,iE,iE]:=by decide +kernel
 have h:=Vr hE (show fD [0,iE,kV] [0,iE,iE]≠0 by omega);rw [if_neg ae] at h;rw [uB (u:=2148) (v:=2148) ae ae (k:=4229) ae hD G.c G.d (y:=4602678819172646912) aO aO aO (fun j hj=>by subst hj;decide +kernel) 0 aO aO] at h;rw [uB (u:=4296) (v:=4296) ae ae (k:=8458) ae (Int.mul_pos hD hT) (G.c.mul G.c) (G.d.mul G.t) (y:=4604930618986332160) aO aO aO (fun j hj=>by subst hj;decide +kernel) 0 aO aO] at h;exact ⟨_,_,h⟩
theorem zV:Wp [kV] [4613937818241073152] 0=(4609434218613702656,0):=by
 have hE:rU [kV] [4613937818241073152] [] 0 1=0:=by decide +kernel
 have G:=(wy (xs:=[kV]) (ys:=[4613937818241073152]) (zs:=[]) (mode:=0) (least:=1) (by unfold iZ;decide) (by unfold iZ;decide) hE).1;have hD:0<pS [kV] [kV]:=by decide +kernel
 unfold Wp;rw [if_neg (by simpa using hE),if_neg ae,uB (u:=2148) (v:=2148) ae ae (k:=4212) ae hD G.xy G.xx (y:=4609434218613702656) aO aO aO (fun j hj=>by subst hj;decide +kernel) 0 aO aO]
theorem R3:atR [0,iE,kV] [iE,4613937818241073152,4617315517961601024] 4621819117588971520 0=(4626604192193052672,0):=by
 have hE:rU [0,iE,kV] [iE,4613937818241073152,4617315517961601024] [4621819117588971520] 0 2=0:=by decide +kernel
 have G:=(wy (xs:=[0,iE,kV]) (ys:=[iE,4613937818241073152,4617315517961601024]) (zs:=[4621819117588971520]) (mode:=0) (least:=2) (by unfold iZ;decide) (by unfold iZ;decide) hE).1;have hD:0<fD [0,iE,kV] [iE,4613937818241073152,4617315517961601024]:=by decide +kernel
 unfold atR;rw [if_neg (by simpa using hE),if_neg ae,uB (u:=3222) (v:=2148) ae ae (k:=6328) ae hD (G.k.add (G.c.mul (lJ aO aO))) (G.d.mono aO) (y:=4626604192193052672) aO aO aO (fun j hj=>by subst hj;decide +kernel) 0 aO aO]
theorem R4 (x y:Nat) (w:World):Calls Tryz.prog 20 #[.float .f64 x,.float .f64 y] w fun r w'=>r=.returned (.bool (decide (x=y)))/\w'=w:=by
 go_enter Tryz.func20,Tryz.ntmps20;go_wp2;go_ret;refine ⟨congrArg (fun z=>Ending.returned (Value.bool z)) ?_,rfl⟩
 first | rfl | (rw [xw];simp;done) | (rw [xw];simp;omega)
theorem Ig (xs ys:List Nat) (a b:Option Addr) (n m c d:Nat) (mode:Int) (w:World) (hn:n=xs.length) (hm:m=ys.length) (hF:Fs w.heap.size w a xs) (hF2:Fs w.heap.size w b ys) (hW:iZ xs) (hV:iZ ys) (hT:il w) {N E:Int}{s k t l:Nat}(hz:zT xs ys mode=(N,s,k,t,l,E)) :
 Calls Tryz.prog 14 #[.slice a n c,.slice b m d,.int .i64 mode] w fun r w'=>r=.returned (.tuple #[.agg #[.int .i64 N,.float .f64 s,.float .f64 k,.float .f64 t,.float .f64 l],.int .i64 E])/\Below w.heap.size w w':=by
 have:=Vo xs ys a b n m c d mode w hn hm hF hF2 hW hV hT;rw [hz] at this;exact this
theorem YJ (xs ys:List Nat) (x:Nat) (a b:Option Addr) (n m c d:Nat) (mode:Int) (w:World) (hn:n=xs.length) (hm:m=ys.length) (hF:Fs w.heap.size w a xs) (hF2:Fs w.heap.size w b ys) (hW:iZ xs) (hV:iZ ys) (hx:x<18446744073709551616) (hT:il w) {s:Nat}{E:Int}(hz:atR xs ys x mode=(s,E)) :
 Calls Tryz.prog 18 #[.slice a n c,.slice b m d,.float .f64 x,.int .i64 mode] w fun r w'=>r=.returned (.tuple #[.float .f64 s,.int .i64 E])/\Below w.heap.size w w':=by
 have:=At19 xs ys x a b n m c d mode w hn hm hF hF2 hW hV hx hT;rw [hz] at this;exact this
theorem FK (xs ys:List Nat) (a b:Option Addr) (n m c d:Nat) (mode:Int) (w:World) (hn:n=xs.length) (hm:m=ys.length) (hF:Fs w.heap.size w a xs) (hF2:Fs w.heap.size w b ys) (hW:iZ xs) (hV:iZ ys) (hT:il w) {s:Nat}{E:Int}(hz:Wp xs ys mode=(s,E)) :
 Calls Tryz.prog 21 #[.slice a n c,.slice b m d,.int .i64 mode] w fun r w'=>r=.returned (.tuple #[.float .f64 s,.int .i64 E])/\Below w.heap.size w w':=by
 have:=K7 xs ys a b n m c d mode w hn hm hF hF2 hW hV hT;rw [hz] at this;exact this
end
section
open Go.RowKit
theorem Nt.al' {lo:Nat}{w:World}{v:Value}{X:Nat}(h:Nt lo w v X) (hl:(ws X).length<=2000000):Al w v X:=by
 obtain ⟨a,c,rfl,hA⟩:=h.arg ae;exact ⟨a,_,c,_,rfl,hA,ax _,hl⟩
theorem nN {w:World}{v u:Value}{X Y:Nat}(h1:Al w v X) (h2:Al w u Y):Calls Tryz.prog 119 #[v,u] w fun r w'=>∃ p,r=.returned p/\Nt w.heap.size w' p (X*Y)/\Below w.heap.size w w':=by
 obtain ⟨a,l,c,xs,rfl,hA,rfl,hl⟩:=h1;obtain ⟨b,k,d,ys,rfl,hB,rfl,hk⟩:=h2;exact kE hA hB ae rfl
theorem wz {w:World}{v u:Value}{X Y:Nat}{e f:Int}(h1:Al w v X) (h2:Al w u Y) (be:-9223372036854775808<=e/\e<=9223372036854775807) (bf:-9223372036854775808<=f/\f<=9223372036854775807) :
 Calls Tryz.prog 230 #[v,.int .i64 e,u,.int .i64 f] w fun r w'=>r=.returned (.int .i64 (Tj X e Y f))/\Below w.heap.size w w':=by
 obtain ⟨a,l,c,xs,rfl,hA,rfl,hl⟩:=h1;obtain ⟨b,k,d,ys,rfl,hB,rfl,hk⟩:=h2;exact Cs hA hB hl hk e f be.1 be.2 bf.1 bf.2
theorem CY {w:World}{n m:Bool}{p a b:Option Addr}{lp cp la ca lb cb A X Y:Nat}{g e f:Int}(hA:Al w (.slice p lp cp) A) (hN:Al w (.slice a la ca) X) (hD:Al w (.slice b lb cb) Y) (he:-9223372036854775808<=e/\e<=9223372036854775807) (h g2:Int) (e2:IntKind.i64.wrap (g+f)=h) (hh:-9223372036854775808<=h/\h<=9223372036854775807) (P:Nat) (hP:A*Y=P) (hl:(ws P).length<=2000000) :
 Calls Tryz.prog 210 #[.slice p lp cp,.int .i64 g,.agg #[.bool n,.slice a la ca,.int .i64 e,.bool m,.slice b lb cb,.int .i64 f],.bool false] w fun r w'=>r=.returned (.int .i64 (Tj P h X e))/\Below w.heap.size w w':=by
 obtain ⟨W1,hW1⟩:=ah (w.alloc (.cells #[.bool n,.slice a la ca,.int .i64 e,.bool m,.slice b lb cb,.int .i64 f] 98));have hB:Below w.heap.size w W1:=by rw [hW1];exact af _ _
 have R5:Rq W1 w.heap.size n (.slice a la ca) e m (.slice b lb cb) f:=by rw [hW1];exact Rq.new _ _ _ _ _ _ _
 have S0:=(gZ hB R5 (hA.below hB) (hN.below hB) (hD.below hB));have BD:=(jK he hh hl hP);clear hB R5 hA hN hD he hh hl hP;go_enter Tryz.func210,Tryz.ntmps210
 go_upto_region 1 with fail
 rw [<-hW1];clear hW1;obtain ⟨x0,x1,x2,x3,x4,x5⟩:=S0.o.2.1.facts
 go_upto_region 6 with fail
 have dr:Below W1.heap.size W1 W1.drew:=(ak _ _).drew;have T1:=hid (nN S0.o.r2.1 S0.o.r4);have T2:=hid (nN (S0.o.r2.1.below dr) (S0.o.r4.below dr));rw [BD.o.r3] at T1 T2;clear dr
 go_region_held3 (fun w'=>w'.cell? ⟨w.heap.size,0,none⟩=some (.bool n)/\w'.cell? ⟨w.heap.size,1,none⟩=some (.slice a la ca)/\w'.cell? ⟨w.heap.size,2,none⟩=some (.int .i64 e)/\w'.cell? ⟨w.heap.size,3,none⟩=some (.bool m)/\w'.cell? ⟨w.heap.size,4,none⟩=some (.slice b lb cb)/\w'.cell? ⟨w.heap.size,5,none⟩=some (.int .i64 f)) (go_keep) (first
  | (go_at_call 119
     first | with_reducible refine T1.o.mono ?_ | with_reducible refine T2.o.mono ?_
     rintro r v1 ⟨pv,rfl,hN,hb⟩;obtain ⟨q1,d1,rfl,-⟩:=hN.shape;have hb1:Below W1.heap.size W1 v1:=by first | exact hb | exact ((ak _ W1).drew).trans (hb.mono (aH _))
     obtain ⟨aF,QR,AX,AN,AD⟩:=S0.o;obtain ⟨m0,m1,m2,m3,m4,m5⟩:=(QR.below hb1).facts;have T3:=hid (wz (hN.al' BD.o.r2.1) (AN.below hb1) BD.o.2.1 BD.o.1);have S4:=(bB (aF.trans (hb1.mono aF.size)) (QR.below hb1))
     clear hN hb hb1 aF QR AX AN AD)
  | (go_at_call 230
     with_reducible refine T3.o.mono ?_
     rintro r v2 ⟨rfl,hb⟩;obtain ⟨aF,QR⟩:=S4.o;obtain ⟨k0,k1,k2,k3,k4,k5⟩:=(QR.below hb).facts;have S5:=ay (aF.trans (hb.mono aF.size))
     clear hb aF QR))
 all_goals (
  go_wp2;go_ret
  exact ⟨rfl,S5.o⟩)
theorem CZ {w:World}{n m:Bool}{p a b:Option Addr}{lp cp la ca lb cb A X Y:Nat}{g e f:Int}(hA:Al w (.slice p lp cp) A) (hN:Al w (.slice a la ca) X) (hD:Al w (.slice b lb cb) Y) (he:-9223372036854775808<=e/\e<=9223372036854775807) (h g2:Int) (e1:IntKind.i64.wrap (2*g)=g2) (e2:IntKind.i64.wrap (g2+f)=h) (hh:-9223372036854775808<=h/\h<=9223372036854775807) (P:Nat) (hP:(A*A)*Y=P) (hl:(ws P).length<=2000000) (hl2:(ws (A*A)).length<=2000000) :
 Calls Tryz.prog 210 #[.slice p lp cp,.int .i64 g,.agg #[.bool n,.slice a la ca,.int .i64 e,.bool m,.slice b lb cb,.int .i64 f],.bool true] w fun r w'=>r=.returned (.int .i64 (Tj P h X e))/\Below w.heap.size w w':=by
 obtain ⟨W1,hW1⟩:=ah (w.alloc (.cells #[.bool n,.slice a la ca,.int .i64 e,.bool m,.slice b lb cb,.int .i64 f] 98));have hB:Below w.heap.size w W1:=by rw [hW1];exact af _ _
 have R5:Rq W1 w.heap.size n (.slice a la ca) e m (.slice b lb cb) f:=by rw [hW1];exact Rq.new _ _ _ _ _ _ _
 have S0:=(gZ hB R5 (hA.below hB) (hN.below hB) (hD.below hB));have BD:=(jK he hh hl hP);clear hB R5 hA hN hD he hh hl hP;go_enter Tryz.func210,Tryz.ntmps210
 go_upto_region 1 with fail
 rw [<-hW1];clear hW1;have HC:=hid (nN S0.o.r2.1 S0.o.r2.1);have HL2:=ay hl2;clear hl2;go_wp2_with fail;refine HC.o.mono ?_;rintro r U ⟨v,rfl,hN,hb⟩;obtain ⟨q2,d2,rfl,-⟩:=hN.shape;have S1:=(gZ (S0.o.1.trans (hb.mono S0.o.1.size)) (S0.o.2.1.below hb) (hN.al' HL2.o) (S0.o.r3.1.below hb) (S0.o.r4.below hb));clear HC hN hb S0 HL2;obtain ⟨x0,x1,x2,x3,x4,x5⟩:=S1.o.2.1.facts
 go_upto_region 6 with fail
 have dr:Below U.heap.size U U.drew:=(ak _ _).drew;have T1:=hid (nN S1.o.r2.1 S1.o.r4);have T2:=hid (nN (S1.o.r2.1.below dr) (S1.o.r4.below dr));rw [BD.o.r3] at T1 T2;clear dr
 go_region_held3 (fun w'=>w'.cell? ⟨w.heap.size,0,none⟩=some (.bool n)/\w'.cell? ⟨w.heap.size,1,none⟩=some (.slice a la ca)/\w'.cell? ⟨w.heap.size,2,none⟩=some (.int .i64 e)/\w'.cell? ⟨w.heap.size,3,none⟩=some (.bool m)/\w'.cell? ⟨w.heap.size,4,none⟩=some (.slice b lb cb)/\w'.cell? ⟨w.heap.size,5,none⟩=some (.int .i64 f)) (go_keep) (first
  | (go_at_call 119
     first | with_reducible refine T1.o.mono ?_ | with_reducible refine T2.o.mono ?_
     rintro r v1 ⟨pv,rfl,hN,hb⟩;obtain ⟨q1,d1,rfl,-⟩:=hN.shape;have hb1:Below U.heap.size U v1:=by first | exact hb | exact ((ak _ U).drew).trans (hb.mono (aH _))
     obtain ⟨aF,QR,AX,AN,AD⟩:=S1.o;obtain ⟨m0,m1,m2,m3,m4,m5⟩:=(QR.below hb1).facts;have T3:=hid (wz (hN.al' BD.o.r2.1) (AN.below hb1) BD.o.2.1 BD.o.1);have S4:=(bB (aF.trans (hb1.mono aF.size)) (QR.below hb1))
     clear hN hb hb1 aF QR AX AN AD)
  | (go_at_call 230
     with_reducible refine T3.o.mono ?_
     rintro r v2 ⟨rfl,hb⟩;obtain ⟨aF,QR⟩:=S4.o;obtain ⟨k0,k1,k2,k3,k4,k5⟩:=(QR.below hb).facts;have S5:=ay (aF.trans (hb.mono aF.size))
     clear hb aF QR))
 all_goals (
  go_wp2;go_ret
  exact ⟨rfl,S5.o⟩)
def rV (mode:Int) (n:Bool) (k:Nat) (z hv:Int):Nat:=if z=0 then k else if kG mode k hv n then k+1 else k
theorem R6 {w:World}{v u:Value}{X Y:Nat}(h1:Al w v X) (h2:Al w u Y):Calls Tryz.prog 136 #[v,u] w fun r w'=>∃ p,r=.returned p/\Nt w.heap.size w' p (X+Y)/\Below w.heap.size w w':=by
 obtain ⟨a,l,c,xs,rfl,hA,rfl,hl⟩:=h1;obtain ⟨b,k,d,ys,rfl,hB,rfl,hk⟩:=h2;exact xU hA hB ae ae rfl
theorem lK (w:World) (dg ls:Int) (En:Nat) (n:Bool) (v:Value) (e:Int) (m:Bool) (u:Value) (f:Int) (W:World) (hW:W=(w.alloc (.cells #[.int .i64 dg,.int .i64 ls,.int .u64 (En:Nat)] 108)).alloc (.cells #[.bool n,v,.int .i64 e,.bool m,u,.int .i64 f] 98)) :
 Below w.heap.size w W/\Zk W w.heap.size dg ls En/\Rq W (w.heap.size+1) n v e m u f:=by
 rw [hW];refine ⟨(af w _).alloc aW _,?_,?_⟩
 · have h:Zk (w.alloc (.cells #[.int .i64 dg,.int .i64 ls,.int .u64 (En:Nat)] 108)) w.heap.size dg ls En:=iJ _ _;exact h.below (af _ _)
 · have:=Rq.new (w.alloc (.cells #[.int .i64 dg,.int .i64 ls,.int .u64 (En:Nat)] 108)) n v e m u f;rw [iH] at this;exact this
theorem Vs {w:World}{n m:Bool}{a b:Option Addr}{la ca lb cb:Nat}{e f:Int}(dg ls:Int) (En:Nat) (k k1 g h q fm hv:Int) (A Bv SM:Nat) (sq:Bool)
 (hk1:IntKind.u64.wrap (k+1)=k1) (hq:IntKind.i64.wrap (h-g)=q) (hq0:0<=q) (hq1:q<=1) (hfm:IntKind.i64.wrap (g-1)=fm) (hS:A+Bv*2^q.toNat=SM) (hB0:Bv≠0) (lA:(ws A).length<=8192) (lB:(ws Bv).length<=8192) (lM:(ws (Bv*2^q.toNat)).length<=8192) (lS:(ws SM).length<=8192)
 (Zu:Hid (∀ u:World,Calls Tryz.prog 135 #[.agg #[.int .i64 dg,.int .i64 ls,.int .u64 (En:Nat)],.int .u64 k] u fun r w'=>∃ v,r=.returned (.tuple #[v,.int .i64 g])/\Nt u.heap.size w' v A/\Below u.heap.size u w'))
 (HN2:Hid (∀ u:World,Calls Tryz.prog 135 #[.agg #[.int .i64 dg,.int .i64 ls,.int .u64 (En:Nat)],.int .u64 k1] u fun r w'=>∃ v,r=.returned (.tuple #[v,.int .i64 h])/\Nt u.heap.size w' v Bv/\Below u.heap.size u w'))
 (HA:Hid (∀ (u:World) (p:Option Addr) (l c:Nat),Below w.heap.size w u->Al u (.slice p l c) SM->Calls Tryz.prog 210 #[.slice p l c,.int .i64 fm,.agg #[.bool n,.slice a la ca,.int .i64 e,.bool m,.slice b lb cb,.int .i64 f],.bool sq] u fun r w'=>r=.returned (.int .i64 hv)/\Below u.heap.size u w')) :
 Calls Tryz.prog 211 #[.agg #[.int .i64 dg,.int .i64 ls,.int .u64 (En:Nat)],.int .u64 k,.agg #[.bool n,.slice a la ca,.int .i64 e,.bool m,.slice b lb cb,.int .i64 f],.bool sq] w fun r w'=>r=.returned (.int .i64 hv)/\Below w.heap.size w w':=by
 obtain ⟨W1,hW1⟩:=ah ((w.alloc (.cells #[.int .i64 dg,.int .i64 ls,.int .u64 (En:Nat)] 108)).alloc (.cells #[.bool n,.slice a la ca,.int .i64 e,.bool m,.slice b lb cb,.int .i64 f] 98));obtain ⟨hB,Z,QR⟩:=lK w dg ls En n _ e m _ f W1 hW1;obtain ⟨p0,p1,p2⟩:=Z.facts;have S0:=(fB hB Z QR);have LN:=(r9 lA lB lM lS hB0 hS hq0 hq1);have H1:=hid (Zu.o W1);clear hB Z QR lA lB lM lS hB0 hS hq0 hq1 Zu;go_enter Tryz.func211,Tryz.ntmps211
 go_upto_region 1 with fail
 rw [<-hW1];clear hW1;go_wp2_with fail;clear p0 p1 p2;refine H1.o.mono ?_;rintro r u1 ⟨v,rfl,hN,hb⟩;obtain ⟨a1,c1,rfl,-⟩:=hN.shape;have S1:=(jK (S0.o.1.trans (hb.mono S0.o.1.size)) (S0.o.2.1.below hb) (S0.o.r2.below hb) (hN.al' (dD LN.o.1 aO)));clear hN hb S0 H1;obtain ⟨p0,p1,p2⟩:=S1.o.2.1.facts;have H2:=hid (HN2.o u1);clear HN2;go_wp2_with fail;clear p0 p1 p2;refine H2.o.mono ?_;rintro r u2 ⟨v,rfl,hN,hb⟩;have H3:=hid (nY hN q (by have:=LN.o;omega) (by have:=LN.o;omega) LN.o.r4.1 (dD LN.o.2.1 aO));obtain ⟨a2,c2,rfl,-⟩:=hN.shape;have S2:=(fB (S1.o.1.trans (hb.mono S1.o.1.size)) (S1.o.r2.1.below hb) (S1.o.r3.below hb));clear hN hb S1 H2;rw [if_neg (by have:=LN.o;omega)] at H3;go_wp2_with fail;refine H3.o.mono ?_;rintro r u3 ⟨v,rfl,hN,hb⟩;obtain ⟨a3,c3,rfl,-⟩:=hN.shape;have S3:=(bB (S2.o.1.trans (hb.mono S2.o.1.size)) (S2.o.2.1.below hb));have H4:=hid (R6 (S2.o.r2.below hb) (hN.al' (dD LN.o.r2.1 aO)));rw [LN.o.r5.1] at H4;clear hN hb S2 H3;go_wp2_with fail;refine H4.o.mono ?_;rintro r u4 ⟨v,rfl,hN,hb⟩;obtain ⟨a4,c4,rfl,-⟩:=hN.shape;have S4:=(bB (S3.o.1.trans (hb.mono S3.o.1.size)) (S3.o.2.below hb));obtain ⟨x0,x1,x2,x3,x4,x5⟩:=S4.o.2.facts;have H5:=hid (HA.o u4 _ _ _ S4.o.1 (hN.al' (dD LN.o.r3.1 aO)));clear hN hb S3 H4 HA;go_wp2_with fail;clear x0 x1 x2 x3 x4 x5;refine H5.o.mono ?_;rintro r u5 ⟨rfl,hb⟩;have S5:=ay (S4.o.1.trans (hb.mono S4.o.1.size));clear hb S4 H5 LN;go_wp2;go_ret;exact ⟨rfl,S5.o⟩
structure wB (w:World) (dg ls:Int) (En:Nat) (ag:Nat->Int) (n:Bool) (v:Value) (e:Int) (m:Bool) (x:Value) (y:Int) (f t:Nat) (u:World):Prop where
 aF:Below w.heap.size w u
 sz:Zk u w.heap.size dg ls En
 rq:Rq u (w.heap.size+1) n v e m x y
 ft:f<t
 tE:t<=En
 lo:f=0\/ag f<=0
 hi:t=En\/0<ag t
theorem wB.to {w:World}{dg ls:Int}{En:Nat}{ag:Nat->Int}{n:Bool}{v:Value}{e:Int}{m:Bool}{x:Value}{y:Int}{f t:Nat}{u u':World}(h:wB w dg ls En ag n v e m x y f t u) (hb:Below u.heap.size u u'):wB w dg ls En ag n v e m x y f t u' :=
 ⟨h.aF.trans (hb.mono h.aF.size),h.sz.below hb,h.rq.below hb,h.ft,h.tE,h.lo,h.hi⟩
theorem O9 {w:World}{n m:Bool}{a b:Option Addr}{la ca lb cb:Nat}{e f:Int}(dg ls:Int) (En:Nat) (hE:0<En) (hE2:En<9223372036854775808) (num:Nat->Nat×Int) (ag hf:Nat->Int) (sq:Bool) (mode:Int) (hm0:0<=mode) (tV:mode<=4) (FL:∀ k,(ws (num k).1).length<=8192) (hv3:∀ k,hf k=-1\/hf k=0\/hf k=1)
 (HN:Hid (∀ (k:Nat) (u:World),k<En->Calls Tryz.prog 135 #[.agg #[.int .i64 dg,.int .i64 ls,.int .u64 (En:Nat)],.int .u64 (k:Nat)] u fun r w'=>∃ v,r=.returned (.tuple #[v,.int .i64 (num k).2])/\Nt u.heap.size w' v (num k).1/\Below u.heap.size u w'))
 (HA:Hid (∀ (k:Nat) (u:World) (p:Option Addr) (l c:Nat),k<En->Below w.heap.size w u->Al u (.slice p l c) (num k).1->Calls Tryz.prog 210 #[.slice p l c,.int .i64 (num k).2,.agg #[.bool n,.slice a la ca,.int .i64 e,.bool m,.slice b lb cb,.int .i64 f],.bool sq] u fun r w'=>r=.returned (.int .i64 (ag k))/\Below u.heap.size u w'))
 (HH:Hid (∀ (k:Nat) (u:World),k<En->Below w.heap.size w u->Calls Tryz.prog 211 #[.agg #[.int .i64 dg,.int .i64 ls,.int .u64 (En:Nat)],.int .u64 (k:Nat),.agg #[.bool n,.slice a la ca,.int .i64 e,.bool m,.slice b lb cb,.int .i64 f],.bool sq] u fun r w'=>r=.returned (.int .i64 (hf k))/\Below u.heap.size u w')) :
 Calls Tryz.prog 166 #[.agg #[.int .i64 dg,.int .i64 ls,.int .u64 (En:Nat)],.agg #[.bool n,.slice a la ca,.int .i64 e,.bool m,.slice b lb cb,.int .i64 f],.bool sq,.int .i64 mode] w fun r w'=>(∃ k:Nat,r=.returned (.int .u64 (rV mode n k (ag k) (-(hf k)):Nat))/\k<En/\(k=0\/ag k<=0)/\(k+1=En\/0<ag (k+1)))/\Below w.heap.size w w':=by
 obtain ⟨W1,hW1⟩:=ah ((w.alloc (.cells #[.int .i64 dg,.int .i64 ls,.int .u64 (En:Nat)] 108)).alloc (.cells #[.bool n,.slice a la ca,.int .i64 e,.bool m,.slice b lb cb,.int .i64 f] 98));obtain ⟨hB,Z,QR⟩:=lK w dg ls En n _ e m _ f W1 hW1;obtain ⟨p0,p1,p2⟩:=Z.facts;have S0:Aside (wB w dg ls En ag n (.slice a la ca) e m (.slice b lb cb) f 0 En W1):=ay ⟨hB,Z,QR,hE,aH _,.inl rfl,.inl rfl⟩;have LN:=(bB FL hv3);clear Z hB QR FL hv3;have hw:∀ n:Int,0<=n->n<18446744073709551616->IntKind.u64.wrap n=n:=fun n h1 h2=>by simp [IntKind.wrap,IntKind.bits,IntKind.signed];omega
 have HW:=ay hw;clear hw;go_enter Tryz.func166,Tryz.ntmps166
 go_upto_region 1 with fail
 rw [<-hW1];clear hW1;go_wp2_with fail;clear p0 p1 p2
 go_loopg [9,10] En (fun gk fv tv wr=>∃ f0 t:Nat,gk+f0=t/\fv=.int .u64 (f0:Nat)/\tv=.int .u64 (t:Nat)/\f0<t/\t<=En/\Aside (wB w dg ls En ag n (.slice a la ca) e m (.slice b lb cb) f f0 t wr))
 case atStart=>exact ⟨0,En,ae,rfl,rfl,hE,aH _,S0⟩
 case round =>
  obtain ⟨f0,t,wD,rfl,rfl,hft,htE,S1⟩:=hrel;have e1:=HW.o ((t:Int)-(f0:Int)) ae ae
  by_cases hone:1<(t:Int)-(f0:Int)
  · obtain ⟨mi,hm⟩:∃ mi,(f0+t)/2=mi:=⟨_,rfl⟩;have e2:=HW.o ((f0:Int)+(t:Int)) ae ae;have e3:((f0:Int)+(t:Int))/2=(mi:Nat):=ae
    have e4:IntKind.u64.wrap ((mi:Nat):Int)=(mi:Nat):=HW.o _ ae ae;have hmE:mi<En:=ae
    obtain ⟨p0,p1,p2⟩:=S1.o.sz.facts;obtain ⟨X,hX⟩:∃ X,(num mi).1=X:=⟨_,rfl⟩;obtain ⟨y,hy⟩:∃ y,(num mi).2=y:=⟨_,rfl⟩;have H1:=hid (HN.o mi wr hmE);have H2:=hid fun u p l c=>HA.o mi u p l c hmE;have lX:=LN.o.1 mi;rw [hX,hy] at H1 H2;rw [hX] at lX;have LX:=ay lX;clear lX hX hy;go_wp2_with fail;clear p0 p1 p2;refine H1.o.mono ?_;rintro r u1 ⟨v,rfl,hN,hb⟩;obtain ⟨b1,c1,rfl,-⟩:=hN.shape;have S2:=ay (S1.o.to hb);have H3:=hid (H2.o u1 b1 _ c1 S2.o.aF (hN.al' (dD LX.o aO)));clear hb hN S1 H1 H2;obtain ⟨x0,x1,x2,x3,x4,x5⟩:=S2.o.rq.facts;go_wp2_with fail;clear x0 x1 x2 x3 x4 x5;refine H3.o.mono ?_;rintro r u2 ⟨rfl,hb⟩;have S3:=ay (S2.o.to hb);clear hb H3 S2
    by_cases hag:ag mi<=0
    · go_wp2_with fail;go_roundg (t-mi)
      case measure=>omega
      case rel=>exact ⟨mi,t,ae,rfl,rfl,ae,htE,ay ⟨S3.o.aF,S3.o.sz,S3.o.rq,ae,htE,.inr hag,S3.o.hi⟩⟩
    · have hag':decide (ag mi<=0)=false:=decide_eq_false hag;go_wp2_with fail;go_roundg (mi-f0)
      case measure=>omega
      case rel=>exact ⟨f0,mi,ae,rfl,rfl,ae,ae,ay ⟨S3.o.aF,S3.o.sz,S3.o.rq,ae,ae,S3.o.lo,.inr ae⟩⟩
  · have hone':decide (1<(t:Int)-(f0:Int))=false:=decide_eq_false hone;obtain ⟨k,hk⟩:=ah f0;subst hk;have Zv:k<En:=ae
    have KK:Aside (k<En/\(k=0\/ag k<=0)/\(k+1=En\/0<ag (k+1))):=by
     obtain rfl:t=k+1:=ae
     exact ay ⟨Zv,S1.o.lo,S1.o.hi⟩
    have ek:IntKind.u64.wrap ((k:Int)+1)=(k:Int)+1:=HW.o _ ae ae;obtain ⟨p0,p1,p2⟩:=S1.o.sz.facts;obtain ⟨X,hX⟩:∃ X,(num k).1=X:=⟨_,rfl⟩;obtain ⟨y,hy⟩:∃ y,(num k).2=y:=⟨_,rfl⟩;obtain ⟨z,hz⟩:∃ z,ag k=z:=⟨_,rfl⟩;obtain ⟨hv,hhv⟩:∃ z,hf k=z:=⟨_,rfl⟩;have hv3:=LN.o.2 k;obtain ⟨R,hR⟩:∃ R,rV mode n k z (-hv)=R:=⟨_,rfl⟩;have H1:=hid (HN.o k wr Zv);have H2:=hid fun u p l c=>HA.o k u p l c Zv;have H5:=hid fun u=>HH.o k u Zv;have lX:=LN.o.1 k;rw [hX,hy] at H1 H2;rw [hz] at H2;rw [hhv] at H5 hv3;rw [hX] at lX;have LX:=ay lX;have HE:Aside (rV mode n k (ag k) (-(hf k))=R):=ay (by rw [hz,hhv,hR]);clear lX hX hy hz hhv LN HN HA HH S0 HW;go_wp2_with fail;clear p0 p1 p2;refine H1.o.mono ?_;rintro r u1 ⟨v,rfl,hN,hb⟩;obtain ⟨b1,c1,rfl,-⟩:=hN.shape;have S2:=ay (S1.o.to hb);have H3:=hid (H2.o u1 b1 _ c1 S2.o.aF (hN.al' (dD LX.o aO)));clear hb hN S1 H1 H2 LX;obtain ⟨x0,x1,x2,x3,x4,x5⟩:=S2.o.rq.facts;go_wp2_with fail;clear x0 x1 x2 x3 x4 x5;refine H3.o.mono ?_;rintro r u2 ⟨rfl,hb⟩;have S3:=ay (S2.o.to hb);clear hb H3 S2
    by_cases hz:z=0
    · subst hz;obtain rfl:k=R:=by rw [<-hR];unfold rV;rw [if_pos rfl]
      clear hR;go_wp2_with fail;go_ret;exact ⟨⟨k,by rw [HE.o];first | rfl | simp,KK.o⟩,S3.o.aF⟩
    · have hz':(z==0)=false:=by simpa using hz
      have hR2:(if kG mode k (-hv) n then k+1 else k)=R:=by rw [<-hR];unfold rV;rw [if_neg hz]
      have H6:=hid (H5.o u2 S3.o.aF);obtain ⟨p0,p1,p2⟩:=S3.o.sz.facts;obtain ⟨x0,x1,x2,x3,x4,x5⟩:=S3.o.rq.facts;have HR2:=ay hR2;clear hR hz hR2 H5;go_wp2_with fail;clear p0 p1 p2 x0 x1 x2 x3 x4 x5;refine H6.o.mono ?_;rintro r u4 ⟨rfl,hb⟩;have S4:=ay (S3.o.to hb);obtain ⟨x0,x1,x2,x3,x4,x5⟩:=S4.o.rq.facts;clear hb S3 H6 hz';have hc:mode=0\/mode=1\/mode=2\/mode=3\/mode=4:=ae
      clear hm0 tV;rcases hc with rfl|rfl|rfl|rfl|rfl
      · rcases hv3 with rfl | rfl | rfl
        · go_wp2;go_ret;exact ⟨⟨k,by rw [HE.o,<-HR2.o];simp [kG],KK.o⟩,S4.o.aF⟩
        · by_cases hp:k%2=1
          · have hp':(k:Int)%2=1:=ae
            go_wp2;go_ret;exact ⟨⟨k,by rw [HE.o,<-HR2.o];simp [kG,hp],KK.o⟩,S4.o.aF⟩
          · have hp':(k:Int)%2=0:=ae
            go_wp2;go_ret;exact ⟨⟨k,by rw [HE.o,<-HR2.o];simp [kG,hp],KK.o⟩,S4.o.aF⟩
        · go_wp2;go_ret;exact ⟨⟨k,by rw [HE.o,<-HR2.o];simp [kG],KK.o⟩,S4.o.aF⟩
      · go_wp2;go_ret;exact ⟨⟨k,by rw [HE.o,<-HR2.o];simp [kG],KK.o⟩,S4.o.aF⟩
      · cases n
        all_goals (
         go_wp2;go_ret
         exact ⟨⟨k,by rw [HE.o,<-HR2.o];simp [kG],KK.o⟩,S4.o.aF⟩)
      · cases n
        all_goals (
         go_wp2;go_ret
         exact ⟨⟨k,by rw [HE.o,<-HR2.o];simp [kG],KK.o⟩,S4.o.aF⟩)
      · rcases hv3 with rfl | rfl | rfl
        all_goals (
         go_wp2;go_ret
         exact ⟨⟨k,by rw [HE.o,<-HR2.o];simp [kG],KK.o⟩,S4.o.aF⟩)
theorem kZ (x y c:Nat) (hc:0<c):jg ((x*c:Nat):Int) ((y*c:Nat):Int)=jg (x:Int) (y:Int):=by
 rw [fq,fq];exact zK _ _ _ ae
theorem Pb (A v X Y:Nat) (g e f B:Int) (u n:Nat) (hB1:B<=g) (hB2:B<=-((n*u:Nat):Int)) (hA:A*2^(g-B).toNat=v*2^(-((n*u:Nat):Int)-B).toNat) :
 Tj (A*Y) (g+f) X e=jg ((v*kL Y e f u n:Nat):Int) ((kK X e f u n:Nat):Int):=by
 generalize hU:n*u=U at hB2 hA;obtain ⟨D,hD1,hD2⟩:∃ D:Int,D<=f/\B+D<=e:=⟨min f (e-B),Int.min_le_left _ _,by have:=Int.min_le_right f (e-B);omega⟩;rw [Xu (A*Y) (g+f) X e (B+D) ae hD2];obtain ⟨c,hc⟩:∃ c:Nat,(-(U:Int)-B).toNat+(f-D).toNat=(-(e-f+(U:Int))).toNat+c:=⟨(-(U:Int)-B).toNat+(f-D).toNat-(-(e-f+(U:Int))).toNat,ae⟩;have hd:(e-(B+D)).toNat=(e-f+(U:Int)).toNat+c:=ae
 have e1:A*Y*2^(g+f-(B+D)).toNat=v*kL Y e f u n*2^c:=by
  rw [show (g+f-(B+D)).toNat=(g-B).toNat+(f-D).toNat by omega,aR,sH,hA,sH,<-aR,hc,aR];unfold kL;rw [hU];simp only [aU]
 have e2:X*2^(e-(B+D)).toNat=kK X e f u n*2^c:=by
  rw [hd,aR];unfold kK;rw [hU];simp only [aU]
 rw [e1,e2];exact kZ _ _ _ (bK c)
theorem FM (v X Y:Nat) (e f:Int) (u n:Nat):jg ((v*kL Y e f (u+1) n:Nat):Int) ((kK X e f (u+1) n:Nat):Int)=jg ((v*kL Y e f u n:Nat):Int) ((2^n*kK X e f u n:Nat):Int):=by
 generalize hU:n*u=U;have hU':n*(u+1)=U+n:=by rw [mG,dU,hU]
 rw [<-kZ (v*kL Y e f (u+1) n) (kK X e f (u+1) n) (2^(-(e-f+(U:Int))).toNat) (bK _),<-kZ (v*kL Y e f u n) (2^n*kK X e f u n) (2^(-(e-f+((U+n:Nat):Int))).toNat) (bK _)];congr 2
 · unfold kL;rw [hU,hU'];simp only [aU];rw [dh (2^_) (2^_)]
 · unfold kK;rw [hU,hU',aU,<-aR,dh (2^n),aU,aU,<-aR,<-aR];congr 2;omega
theorem La {A v:Nat}{g B:Int}{u n:Nat}(h1:B<=g) (h2:B<=-(u:Int)) (hA:A*2^(g-B).toNat=v*2^(-(u:Int)-B).toNat) (hn:n=1\/n=2):A^n*2^((n:Int)*g-(n:Int)*B).toNat=v^n*2^(-((n*u:Nat):Int)-(n:Int)*B).toNat:=by
 rcases hn with rfl|rfl
 · rw [ku,ku,iq];simpa using hA
 · rw [show (((2:Nat):Int)*g-((2:Nat):Int)*B).toNat=(g-B).toNat+(g-B).toNat by omega,show (-((2*u:Nat):Int)-((2:Nat):Int)*B).toNat=(-(u:Int)-B).toNat+(-(u:Int)-B).toNat by omega,aR,aR,Nat.pow_two,Nat.pow_two,sH,hA,sH]
theorem Lb {A Bv v v1 SM:Nat}{g h q B:Int}{u:Nat}(h1:B<=g-1) (h2:B<=-((u+1:Nat):Int)) (hq:q=h-g) (hq0:0<=q) (hA:A*2^(g-B).toNat=v*2^(-(u:Int)-B).toNat) (hBv:Bv*2^(h-B).toNat=v1*2^(-(u:Int)-B).toNat) (hS:A+Bv*2^q.toNat=SM) :
 SM*2^(g-1-B).toNat=(v+v1)*2^(-((u+1:Nat):Int)-B).toNat:=by
 have k1:(g-B).toNat=(g-1-B).toNat+1:=ae
 have k2:(-(u:Int)-B).toNat=(-((u+1:Nat):Int)-B).toNat+1:=ae
 have k3:(h-B).toNat=q.toNat+((g-1-B).toNat+1):=ae
 rw [k1,k2,dS,dS,<-aU,<-aU] at hA;rw [k3,k2,aR,dS,dS,<-aU,<-aU,<-aU] at hBv;have e1:=oU (by omega:0<2) hA;have e2:=oU (by omega:0<2) hBv;rw [<-hS,fU,fU,e1,e2]
theorem zW (k:Nat):(gK k).2<=(gK (k+1)).2/\(gK (k+1)).2<=(gK k).2+1/\-1074<=(gK k).2:=by
 unfold gK
 by_cases h:k/4503599627370496=0
 · rw [if_pos h]
   by_cases h':(k+1)/4503599627370496=0
   · rw [if_pos h'];simp only;omega
   · rw [if_neg h'];simp only;omega
 · rw [if_neg h,if_neg ae];simp only;omega
namespace S
end S
structure Vt (dg ls:Int) (En:Nat) (v:Nat->Nat) (u:Nat) (num:Nat->Nat×Int):Prop where
 grid:Ow v En
 small:En<9223372036854775808
 ub:u<=2000
 call:∀ (k:Nat) (w:World),k<=En->Calls Tryz.prog 135 #[.agg #[.int .i64 dg,.int .i64 ls,.int .u64 (En:Nat)],.int .u64 (k:Nat)] w fun r w'=>∃ p,r=.returned (.tuple #[p,.int .i64 (num k).2])/\Nt w.heap.size w' p (num k).1/\Below w.heap.size w w'
 val:∀ (k:Nat) (B:Int),B<=-(u:Int)->(num k).1*2^((num k).2-B).toNat=v k*2^(-(u:Int)-B).toNat/\(num k).1<9007199254740992/\B<=(num k).2/\((num k).1=0↔k=0)
 step:∀ k:Nat,(num k).2<=(num (k+1)).2/\(num (k+1)).2<=(num k).2+1/\-(u:Int)<=(num k).2
 top:∀ k:Nat,k<=En->(num k).2<=2000
theorem R7:Vt 53 (-1074) 9218868437227405312 vK 1074 gK :=
 ⟨pQ,ae,ae,fun k w hk=>xZ k hk w,fun k B hB=>Ot k B hB,zW,fun k hk=>by unfold gK;split <;> simp only <;> omega⟩
theorem C8 {A Y:Nat}(hA:bl A<=200) (hY:bl Y<=262144):(ws (A*Y)).length<=2000000:=by
 have:=rQ A Y;rw [gW];omega
theorem qK (x:Int) (h0:-4611686018427387904<=x) (h1:x<=4611686018427387904):IntKind.i64.wrap x=x:=by rw [Pw];omega
theorem FN (x y:Int):jg x y=-1\/jg x y=0\/jg x y=1:=by unfold jg;(repeat' split) <;> simp
theorem Pd {x y:Nat}:jg (x:Int) (y:Int)<=0↔x<=y:=by unfold jg;(repeat' split) <;> omega
theorem Pe {x y:Nat}:0<jg (x:Int) (y:Int)↔y<x:=by unfold jg;(repeat' split) <;> omega
theorem C9 {x y:Nat}:jg (x:Int) (y:Int)=0↔x=y:=by unfold jg;(repeat' split) <;> omega
theorem Dc {dg ls:Int}{En:Nat}{v:Nat->Nat}{u:Nat}{num:Nat->Nat×Int}(H:Vt dg ls En v u num) {w:World}{s mb:Bool}{p a b:Option Addr}{lp cp la ca lb cb X Y:Nat}{e f:Int}(hN:Al w (.slice a la ca) X) (hD:Al w (.slice b lb cb) Y) (he:-1048576<=e/\e<=1048576) (hf:-1048576<=f/\f<=1048576) (hY:bl Y<=262144)
 (A W n U:Nat) (g B:Int) (hA:Al w (.slice p lp cp) A) (hn:n=1\/n=2) (hAb:bl A<=100) (hg:-4000<=g/\g<=4000) (hU:U<=4000) (h1:B<=g) (h2:B<=-(U:Int)) (hv:A*2^(g-B).toNat=W*2^(-(U:Int)-B).toNat) (sq:Bool) (Tx:sq=decide (n=2)) :
 Calls Tryz.prog 210 #[.slice p lp cp,.int .i64 g,.agg #[.bool s,.slice a la ca,.int .i64 e,.bool mb,.slice b lb cb,.int .i64 f],.bool sq] w fun r w'=>r=.returned (.int .i64 (jg ((W^n*kL Y e f U n:Nat):Int) ((kK X e f U n:Nat):Int)))/\Below w.heap.size w w':=by
 have P:=La h1 h2 hv hn;rcases hn with rfl|rfl
 · have e1:=Pb (A^1) (W^1) X Y (((1:Nat):Int)*g) e f (((1:Nat):Int)*B) U 1 ae ae P;rw [ku,show ((1:Nat):Int)*g=g by omega] at e1;subst Tx;rw [<-e1];exact CY hA hN hD ae (g+f) 0 (qK _ ae ae) ae (A*Y) rfl (C8 ae hY)
 · have e1:=Pb (A^2) (W^2) X Y (((2:Nat):Int)*g) e f (((2:Nat):Int)*B) U 2 ae ae P;rw [Nat.pow_two,show ((2:Nat):Int)*g=2*g by omega] at e1;subst Tx;rw [<-e1];have hb:=rQ A A;exact CZ hA hN hD ae (2*g+f) (2*g) (qK _ ae ae) (qK _ ae ae) ae (A*A*Y) rfl (C8 ae hY) (by rw [gW];omega)
theorem R8 {dg ls:Int}{En:Nat}{v:Nat->Nat}{u:Nat}{num:Nat->Nat×Int}(H:Vt dg ls En v u num) {w:World}{s mb:Bool}{a b:Option Addr}{la ca lb cb X Y:Nat}{e f:Int}(hN:Al w (.slice a la ca) X) (hD:Al w (.slice b lb cb) Y) (he:-1048576<=e/\e<=1048576) (hf:-1048576<=f/\f<=1048576) (hY:bl Y<=262144)
 {n K:Nat} {t:Bool} {m:Int} (hn:n=1\/n=2) (L:iP v En n K t m (kK X e f u n) (kL Y e f u n)) (sq:Bool) (Tx:sq=decide (n=2)) (mode:Int) (hm0:0<=mode) (tV:mode<=4) :
 Calls Tryz.prog 166 #[.agg #[.int .i64 dg,.int .i64 ls,.int .u64 (En:Nat)],.agg #[.bool s,.slice a la ca,.int .i64 e,.bool mb,.slice b lb cb,.int .i64 f],.bool sq,.int .i64 mode] w fun r w'=>r=.returned (.int .u64 ((if t then K else if kG mode K m s then K+1 else K:Nat):Nat))/\Below w.heap.size w w':=by
 have hub:=H.ub;have hone:=H.grid.one;have hsm:=H.small;have FL:∀ k,bl (num k).1<=53:=fun k=>qz _ (H.val k _ (Int.le_refl _)).2.1
 have C:=O9 (w:=w) (n:=s) (m:=mb) (a:=a) (b:=b) (la:=la) (ca:=ca) (lb:=lb) (cb:=cb) (e:=e) (f:=f) dg ls En ae hsm num
  (fun k=>jg ((v k^n*kL Y e f u n:Nat):Int) ((kK X e f u n:Nat):Int)) (fun k=>jg (((v k+v (k+1))^n*kL Y e f u n:Nat):Int) ((2^n*kK X e f u n:Nat):Int)) sq mode hm0 tV
  (fun k=>len8 (by have:=FL k;omega)) (fun k=>FN _ _) (hid fun k w' hk=>H.call k w' ae)
  (hid fun k w' p l c hk hb hA=>by
   obtain ⟨h1,h2,h3,h4⟩:=H.val k (-(u:Int)) (Int.le_refl _);have h5:=H.top k ae
   exact Dc H (hN.below hb) (hD.below hb) he hf hY (num k).1 (v k) n u (num k).2 (-(u:Int)) hA hn (by have:=FL k;omega) ae ae h3 (Int.le_refl _) h1 sq Tx)
  (hid fun k w' hk hb=>by
   obtain ⟨h1,h2,h3,h4⟩:=H.val k (-(u:Int)-1) ae;obtain ⟨i1,i2,i3,i4⟩:=H.val (k+1) (-(u:Int)-1) ae;obtain ⟨j1,j2,j3⟩:=H.step k;have h5:=H.top k ae;have l1:=FL k;have l2:=FL (k+1);obtain ⟨q,hq⟩:∃ q,(num (k+1)).2-(num k).2=q:=⟨_,rfl⟩;have hq2:q=0\/q=1:=ae
   have hp:(2:Nat)^q.toNat<=2:=by rcases hq2 with h | h <;> subst h <;> decide
   have hM:(num (k+1)).1*2^q.toNat<=(num (k+1)).1*2:=fu _ hp;have M:=Lb (u:=u) (B:=-(u:Int)-1) ae ae hq.symm ae h1 i1 rfl;have lM:bl ((num (k+1)).1*2^q.toNat)<=60:=eB (by rw [show (2:Nat)^60=1152921504606846976 by rfl];omega);have lS:bl ((num k).1+(num (k+1)).1*2^q.toNat)<=60:=eB (by rw [show (2:Nat)^60=1152921504606846976 by rfl];omega);refine Vs dg ls En (k:Int) ((k+1:Nat):Int) (num k).2 (num (k+1)).2 q ((num k).2-1) _ (num k).1 (num (k+1)).1 _ sq (by rw [ky];omega) (by rw [hq];exact qK _ ae ae) ae ae (qK _ ae ae) rfl (fun h=>by have:=i4.1 h;omega) (len8 ae) (len8 ae) (len8 ae) (len8 ae) (hid fun x=>H.call k x ae) (hid fun x=>H.call (k+1) x ae) (hid fun x p l c hx hA=>?_);have:=Dc H ((hN.below hb).below hx) ((hD.below hb).below hx) he hf hY ((num k).1+(num (k+1)).1*2^q.toNat) (v k+v (k+1)) n (u+1) ((num k).2-1) (-(u:Int)-1) hA hn ae ae ae ae ae M sq Tx (s:=s) (mb:=mb);rw [FM] at this
   exact this)
 refine C.mono ?_;rintro r w' ⟨⟨k,rfl,hk,k1,k2⟩,hb⟩;refine ⟨?_,hb⟩
 obtain ⟨d1,d2,d3⟩:=L.doc H.grid ae k hk (by
  rcases k1 with rfl|h
  · rw [H.grid.zero,Nat.zero_pow ae,dZ];exact lh _
  · exact Pd.1 h) (by
  rcases k2 with h|h
  · exact .inl h
  · exact .inr (Pe.1 h))
 subst d1;congr 3;unfold rV
 by_cases hx:kK X e f u n=v k^n*kL Y e f u n
 · rw [if_pos (C9.2 hx.symm),d2,decide_eq_true hx,if_pos rfl]
 · have ht:t=false:=by rw [d2];exact decide_eq_false hx
   have hm:-jg (((v k+v (k+1))^n*kL Y e f u n:Nat):Int) ((2^n*kK X e f u n:Nat):Int)=m:=by
    rw [d3 ht,<-OO];unfold Ra jg;simp only [Int.ofNat_lt]
   rw [if_neg (fun h=>hx (C9.1 h).symm),hm,ht];rfl
section
attribute [local go_sem] B.aJ
theorem FO (k:Nat) (hk:k<9223372036854775808) (neg:Bool) (er:Int) (w:World) :
 Calls Tryz.prog 116 #[.int .u64 (k:Nat),.bool neg,.int .i64 er] w fun r w'=>r=.returned (.tuple #[.float .f64 (k+(if neg then 9223372036854775808 else 0)),.int .i64 er])/\w'=w:=by
 have e1:IntKind.u64.wrap ((k:Int)+9223372036854775808)=((k+9223372036854775808:Nat):Int):=by rw [ky];omega
 cases neg
 · go_enter Tryz.func116,Tryz.ntmps116;go_wp2;exact aI (v:=.tuple #[.float .f64 k,.int .i64 er]) (by simp [results,Tryz.results116,go_sem]) rfl ⟨aW,rfl⟩
 · go_enter Tryz.func116,Tryz.ntmps116;go_wp2;exact aI (v:=.tuple #[.float .f64 (k+9223372036854775808),.int .i64 er]) (by simp [results,Tryz.results116,go_sem] <;> omega) rfl ⟨aW,rfl⟩
end
theorem Tryz.FP:Tryz.prog.underlying 187=some (.slice 98):=by kernel_rfl
theorem Tryz.FQ:(Tryz.prog.info? 98).map (fun i=>(i.zero,i.size,i.bytes))=some (some (.agg #[.bool false,.slice none 0 0,.int .i64 0,.bool false,.slice none 0 0,.int .i64 0]),6,80):=by kernel_rfl
structure R1 (w:World) (v:Value) (n:Bool) (x:Value) (e:Int) (m:Bool) (y:Value) (f:Int):Prop where
 ex:∃ g cap,v=.slice (some ⟨g,0,none⟩) 1 cap/\1<=cap/\g<w.heap.size/\(w.cell? ⟨g,0,none⟩=some (.bool n)/\w.cell? ⟨g,1,none⟩=some x/\w.cell? ⟨g,2,none⟩=some (.int .i64 e)/\w.cell? ⟨g,3,none⟩=some (.bool m)/\w.cell? ⟨g,4,none⟩=some y/\w.cell? ⟨g,5,none⟩=some (.int .i64 f))
theorem Pf (w:World) (n:Bool) (a:Option Addr) (l c:Nat) (e:Int) (m:Bool) (b:Option Addr) (k d:Nat) (f:Int) :
 ∃ v' w',(Builtin.append_ #[187,187] 187 #[.slice none 0 0,.slice (some ⟨w.heap.size,0,none⟩) 1 1]).run Tryz.prog (w.alloc (.cells #[.bool n,.slice a l c,.int .i64 e,.bool m,.slice b k d,.int .i64 f] 98))=.ok v' w'/\R1 w' v' n (.slice a l c) e m (.slice b k d) f/\Below w.heap.size w w':=by
 obtain ⟨i0,hi,hz0,hz1,hz2⟩:=info_parts Tryz.FQ;obtain ⟨W,hW⟩:=ah (w.alloc (.cells #[.bool n,.slice a l c,.int .i64 e,.bool m,.slice b k d,.int .i64 f] 98));have hq:Rq W w.heap.size n (.slice a l c) e m (.slice b k d) f:=by rw [hW];exact Rq.new _ _ _ _ _ _ _
 obtain ⟨x0,x1,x2,x3,x4,x5⟩:=hq.facts;have hWs:w.heap.size<=W.heap.size:=by subst hW;simp
 obtain ⟨v',w',r1,r2,r3,r4,r5⟩:=run_append_own_at (P:=Tryz.prog) W w.heap.size 187 187 98 i0 _ 6 80 Tryz.FP hi hz0 hz1 hz2 rfl aO (.slice none 0 0) 0 [] (Ay W w.heap.size 98 6) ⟨w.heap.size,0,none⟩ 1 1 [.bool n,.slice a l c,.int .i64 e,.bool m,.slice b k d,.int .i64 f] rfl (by
  intro j u hj
  match j,hj with
  | 0,hj=>simp at hj;subst hj;simpa [Addr.add] using x0
  | 1,hj=>simp at hj;subst hj;simpa [Addr.add] using x1
  | 2,hj=>simp at hj;subst hj;simpa [Addr.add] using x2
  | 3,hj=>simp at hj;subst hj;simpa [Addr.add] using x3
  | 4,hj=>simp at hj;subst hj;simpa [Addr.add] using x4
  | 5,hj=>simp at hj;subst hj;simpa [Addr.add] using x5
  | j+6,hj=>simp at hj) (by intro u hu;simp at hu;rcases hu with rfl | rfl | rfl | rfl | rfl | rfl <;> rfl) (by unfold maxLen;omega) ae hWs
 rw [<-hW];refine ⟨v',w',r1,?_,?_⟩
 · rcases r2.2 with ⟨h1,h2⟩ | ⟨g,cap,cur,rfl,hlo,hg,hn1,hm,hs,ht⟩
   · exact absurd (r4.1 h1).2 aO
   · have C:∀ i,i<6->w'.cell? ⟨g,i,none⟩=([.bool n,.slice a l c,.int .i64 e,.bool m,.slice b k d,.int .i64 f]:List Value)[i]?:=by
      intro i hi6;have:=World.ownsRow.cellAt r2 i (by simp;omega);simpa using this
     exact ⟨g,cap,rfl,hn1,(fJ.1 hg).1,C 0 ae,C 1 ae,C 2 ae,C 3 ae,C 4 ae,C 5 ae⟩
 · have YK:Below w.heap.size w W:=by subst hW;exact af _ _
   refine ⟨r3.os.trans YK.os,r3.tape.trans YK.tape,r3.output.trans YK.output,dD YK.size r3.size,fun k hkl=>?_⟩;rw [r3.block k ae (fun e=>by simp [Value.ownBlock] at e)];exact YK.block k hkl
end
section
open Go.RowKit J
attribute [local go_sem] B.bO B.aJ qC
theorem YL (b:Nat) (w:World):Calls Tryz.prog 33 #[.int .u64 (b:Nat)] w fun r w'=>r=.returned (.float .f64 b)/\w'=w:=by
 go_enter Tryz.func33,Tryz.ntmps33;go_wp2;exact aI (v:=.float .f64 b) (by simp [results,Tryz.results33,go_sem]) rfl ⟨rfl,rfl⟩
theorem Vu (x:Nat) (w:World):Calls Tryz.prog 40 #[.float .f64 x] w fun r w'=>r=.returned (.int .u64 (x:Nat))/\w'=w:=by
 go_enter Tryz.func40,Tryz.ntmps40;go_wp2;exact aI (v:=.int .u64 (x:Nat)) (by simp [results,Tryz.results40,go_sem]) rfl ⟨rfl,rfl⟩
end
section
open Go.RowKit J
attribute [local go_sem] qC
def De (n:Nat):Value:=.float .f64 n
theorem Tryz.pU:Tryz.prog.underlying 22=some (.slice 26):=by kernel_rfl
theorem Tryz.Pg:(Tryz.prog.info? 26).map (fun i=>(i.zero,i.size,i.bytes))=some (some (.float .f64 0),1,8):=by kernel_rfl
def ib (w:World) (g:Nat) (L:List Nat):Prop:=w.heap[g]?=some (.cells (L.map De).toArray 26 (0,0))
theorem ib.lt {w:World}{g:Nat}{L:List Nat}(h:ib w g L):g<w.heap.size:=(fJ.1 h).1
theorem ib.cell {w:World}{g:Nat}{L:List Nat}(h:ib w g L) (i:Nat) (hi:i<L.length):w.cell? ⟨g,i,none⟩=some (.float .f64 (L.getD i 0)):=by
 unfold ib at h;simp [World.cell?,h,De,hi]
theorem ib.frozen {w:World}{g:Nat}{L:List Nat}(h:ib w g L) (i:Nat):w.frozen? ⟨g,i,none⟩=false:=by
 unfold ib at h;simp [World.frozen?,h]
theorem ib.set {w:World}{g:Nat}{L:List Nat}(h:ib w g L) (i x:Nat):ib (w.setCell ⟨g,i,none⟩ (.float .f64 x)) g (L.set i x):=by
 unfold ib at h |-;simp only [World.setCell,jM,h];simp [De,List.map_set]
theorem ib.fs {w:World}{g B:Nat}{L:List Nat}(h:ib w g L) (hg:g<B) (n:Nat):Fs B w (some ⟨g,0,none⟩) (L.take n):=by
 intro _;refine ⟨g,0,hg,rfl,fun i hi=>?_⟩;rw [eZ] at hi;rw [dI,h.cell i ae];congr 2;rw [eQ,eQ,List.getElem?_take,if_pos ae]
theorem tK (z:Int) (n:Nat) (hz:z=(n:Int)) (hn:n<=17592186044416) (w:World) :
 (Instr.makeSlice 22 (.int .i64 z) (.int .i64 z)).run Tryz.prog w=.ok (.slice (some ⟨w.heap.size,0,none⟩) n n) (w.alloc (.cells (madeCells #[.float .f64 0] n) 26)):=by
 subst hz;exact run_make_row' 22 26 (.float .f64 0) 8 Tryz.pU Tryz.Pg rfl .i64 .i64 n ae ae w
theorem ib.made (w:World) (n:Nat):ib (w.alloc (.cells (madeCells #[.float .f64 0] n) 26)) w.heap.size (List.replicate n 0):=by
 unfold ib;have h1:=iJ w (.cells (madeCells #[.float .f64 0] n) 26);rw [h1];congr 2;apply Array.toList_inj.1;rw [toList_madeCells_one];simp [De]
theorem Df (w:World) (g dLen dCap:Nat) (ao:Option Addr) (sLen sCap B:Nat) (ty:TypeId)
 (L xs:List Nat) (hO:ib w g L) (hL:dLen<=L.length) (hx:sLen=xs.length) (hR:Fs B w ao xs) (hle:sLen<=dLen) :
 ∃ w',(Builtin.copy_ #[22,22] ty #[.slice (some ⟨g,0,none⟩) dLen dCap,.slice ao sLen sCap]).run Tryz.prog w=.ok (.int .i64 (sLen:Int)) w'/\ib w' g (xs++L.drop sLen)/\But g w w':=by
 subst hx;have hmin:Nat.min xs.length dLen=xs.length:=iX hle
 by_cases h0:xs=[]
 · subst h0;exact ⟨w,run_copy_none (P:=Tryz.prog) w 22 22 ty 26 _ _ _ _ _ _ Tryz.pU bS (by simp at hmin |-),by simpa using hO,But.refl _ _⟩
 · obtain ⟨b,off,hlt,rfl,hc⟩:=hR h0;have hadd:∀ j,(⟨b,off,none⟩:Addr).add j=⟨b,off+j,none⟩:=by intro j;unfold Addr.add;split <;> simp_all
   have hrun:=run_copy_row (P:=Tryz.prog) w 22 22 ty 26 g 0 dLen dCap ⟨b,off,none⟩ xs.length sCap (L.map De).toArray 26 (xs.map De) Tryz.pU bS hO (by rw [hmin];simp) (by
    intro j v hv;rw [hadd]
    have hj:j<xs.length:=by
     have:=(uD.1 hv).1;simpa using this
    rw [hc j hj];simp [hj,De] at hv
    simp [hj,<-hv]) (by simp;omega) (by
    intro v hv;obtain ⟨n,_,rfl⟩:=uE.1 hv
    rfl)
   refine ⟨w.setRow g (((xs++L.drop xs.length).map De)).toArray,?_,setRow_heap w g _ _ 26 _ hO,⟨rfl,rfl,rfl,by simp [World.setRow],fun k _ hk=>setRow_other w g k _ hk⟩⟩;simpa [Ai,List.map_drop,goInt] using hrun
def jh:Nat:=4693671547643874799
theorem Dg (xs:List Nat) (n:Nat) (hn:n=xs.length):xs++(List.replicate (n+8) 0).drop n=xs++List.replicate 8 0:=by
 rw [Ag,show n+8-n=8 by omega]
theorem Lc (xs:List Nat) (n k:Nat) (hn:n=xs.length) (hk:k<8):(xs++(List.replicate k jh++List.replicate (8-k) 0)).set (n+k) jh=xs++(List.replicate (k+1) jh++List.replicate (8-(k+1)) 0):=by
 subst hn;have hc:k=0\/k=1\/k=2\/k=3\/k=4\/k=5\/k=6\/k=7:=ae
 rw [List.set_append_right _ _ ae,DF];rcases hc with rfl|rfl|rfl|rfl|rfl|rfl|rfl|rfl <;> rfl
theorem Ih (xs:List Nat) (ao:Option Addr) (n cap B:Nat) (w:World) (hn:n=xs.length) (hm:n<=17592186043904) (hR:Fs B w ao xs) (hB:B<=w.heap.size) :
 Calls Tryz.prog 13 #[.slice ao n cap] w fun r w'=>r=.returned (.slice (some ⟨w.heap.size,0,none⟩) n (n+8))/\ib w' w.heap.size (xs++List.replicate 8 jh)/\Below w.heap.size w w':=by
 have hmk:=tK ((n+8:Nat):Int) (n+8) rfl ae;have hmk2:=tK ((n:Int)+8) (n+8) ae ae;have Wy:Hid (ib (w.alloc (.cells (madeCells #[.float .f64 0] (n+8)) 26)) w.heap.size (List.replicate (n+8) 0)):=ib.made w (n+8);obtain ⟨w2,hcp,hO2,aG⟩:=Df _ w.heap.size (n+8) (n+8) ao n cap B 3 (List.replicate (n+8) 0) xs Wy.o aW hn (hR.below ((ak _ _).alloc hB _)) ae;rw [Dg xs n hn] at hO2;have HX:=(fB hO2 aG hn);have HM:=hid (fun u:World=>YL jh u);clear hO2 aG Wy hn hR;go_enter Tryz.func13,Tryz.ntmps13;go_wp2
 go_loopg [4] 8 (fun gk i wr=>∃ k:Nat,gk+k=8/\i=.int .i64 ((n+k:Nat):Int)/\Aside (ib wr w.heap.size (xs++(List.replicate k jh++List.replicate (8-k) 0))/\But w.heap.size w2 wr))
 case atStart=>exact ⟨0,ae,aW,HX.o.1,But.refl _ _⟩
 case round =>
  obtain ⟨k,wD,rfl,HA⟩:=hrel
  by_cases hk:k<8
  · have hd:decide (((n+k:Nat):Int)<(n:Int)+8)=true:=by simp;omega
    have hfz:=HA.o.1.frozen (n+k);have hcl:=HA.o.1.cell (n+k) (by rw [HX.o.r2];simp;omega);go_wp2_with fail;refine (HM.o _).mono ?_;rintro r w3 ⟨rfl,rfl⟩;go_wp2;go_roundg (gk-1)
    case measure=>omega
    case rel =>
     refine ⟨k+1,ae,by go_num,?_,HA.o.2.set _ _⟩;rw [<-Lc xs n k HX.o.r2 hk];exact HA.o.1.set (n+k) jh
  · obtain rfl:k=8:=ae
    have hd:decide (((n+8:Nat):Int)<(n:Int)+8)=false:=by simp
    go_wp2;go_ret;refine ⟨rfl,?_,?_⟩
    · simpa using HA.o.1
    · exact But.below ((ak _ _).alloc (aH _) _) (HX.o.2.1.trans HA.o.2) aW (aH _)
theorem yB (xs:List Nat) (ao:Option Addr) (n cap B g:Nat) (w:World) (hn:n=xs.length) (hm:n<=17592186043904) (hR:Fs B w ao xs) (hB:B<=w.heap.size) (hO:ib w g (xs++List.replicate 8 jh)) :
 Calls Tryz.prog 15 #[.slice (some ⟨g,0,none⟩) n (n+8),.slice ao n cap] w fun r w'=>r=.returned (.bool true)/\Below w.heap.size w w':=by
 have hgl:=hO.lt;have HX:=(gZ hR hO hn hB hgl);have HR:=hid (fun (x:Nat) (u:World)=>Vu x u);clear hR hO hn hB hgl;go_enter Tryz.func15,Tryz.ntmps15;go_wp2
 go_loopg [6] (n+8) (fun gk i wr=>∃ k:Nat,gk+k=n+8/\i=.int .i64 (k:Nat)/\wr=w)
 case atStart=>exact ⟨0,ae,aW,rfl⟩
 case round =>
  obtain ⟨k,wD,rfl,rfl⟩:=hrel
  by_cases hk:k<n
  · have hcg:=HX.o.2.1.cell k (by simp;rw [<-HX.o.r2.1];omega)
    have e1:(xs++List.replicate 8 jh).getD k 0=xs.getD k 0:=by
     rw [eQ,xk (by rw [<-HX.o.r2.1];exact hk),eQ]
    rw [e1] at hcg;obtain ⟨b,off,rfl,hcl⟩:=HX.o.1.at (ak _ _) k (by rw [<-HX.o.r2.1];exact hk);obtain ⟨x,hx⟩:=ah (xs.getD k 0);rw [<-hx] at hcg hcl;have hd:decide ((k:Int)<(n:Int)+8)=true:=by simp;omega
    have hne:(((x:Nat):Int) != ((x:Nat):Int))=false:=by simp
    clear hx e1;go_wp2_with fail;refine (HR.o _ _).mono ?_;rintro r w3 ⟨rfl,rfl⟩;go_wp2_with fail;refine (HR.o _ _).mono ?_;rintro r w3 ⟨rfl,rfl⟩;go_wp2;go_roundg (gk-1)
    case measure=>omega
    case rel=>exact ⟨k+1,ae,by go_num,rfl⟩
  · by_cases hk8:k<n+8
    · have hcg:=HX.o.2.1.cell k (by simp;rw [<-HX.o.r2.1];omega)
      have e1:(xs++List.replicate 8 jh).getD k 0=4693671547643874799:=by
       rw [eQ,oO (by rw [<-HX.o.r2.1];omega),Dz,if_pos (by rw [<-HX.o.r2.1];omega)];rfl
      rw [e1] at hcg;have hd:decide ((k:Int)<(n:Int)+8)=true:=by simp;omega
      have hd2:decide ((k:Int)<(n:Int))=false:=by simp;omega
      clear e1;go_wp2_with fail;refine (HR.o _ _).mono ?_;rintro r w3 ⟨rfl,rfl⟩;go_wp2;go_roundg (gk-1)
      case measure=>omega
      case rel=>exact ⟨k+1,ae,by go_num,rfl⟩
    · have hd:decide ((k:Int)<(n:Int)+8)=false:=by simp;omega
      go_wp2;go_ret;exact ⟨rfl,ak _ _⟩
end
section
open Go.RowKit J
attribute [local go_sem] qC
theorem tY {w:World}{ops:Array Oper}{rest:List Oper}{o:Oper}{a:Act}{Q:Exit->Act->World->Prop}(hgd:o.guard=none) (s x:Operand) (t:TypeId)
 (ho:o.op=.call { callee:=.builtin .append,args:=#[s,x],argTypes:=#[t,t] }) (v u:Value) (hs:a.eval s=v) (hx:a.eval x=u) (v':Value) (w':World)
 (hrun:(Builtin.append_ #[t,t] o.type #[v,u]).run Tryz.prog w=.ok v' w') (h:wpList Tryz.prog ops Q rest (a.put o.dst v') w'):wpList Tryz.prog ops Q (o::rest) a w:=by
 refine wpList_plain hgd fun K hK=>?_;unfold Oper.wp;simp [execOp,ho,resolve,invoke,builtin,hs,hx,hrun,Result.andThen];exact hK _ _ h
end
end Go.Proofs.YtblkpkgebigojaaGreatDoor
