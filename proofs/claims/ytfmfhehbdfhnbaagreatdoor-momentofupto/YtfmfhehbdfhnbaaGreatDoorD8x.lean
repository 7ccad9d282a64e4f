import Derived.Test.YtfmfhehbdfhnbaaGreatDoorD2x
import Derived.Deep.RegionWith
import Derived.BigQuiet
import Derived.Deep.RegionHeld3
import Derived.Test.YtfmfhehbdfhnbaaGreatDoorW40x
set_option linter.unusedVariables false
set_option linter.unusedSimpArgs false
set_option maxHeartbeats 16000000
set_option maxRecDepth 20000
namespace Go.Proofs.YtfmfhehbdfhnbaaGreatDoor
section
open Go.RowKit
attribute [local go_sem] B.GL B.Xm B.Xn B.Xo B.Xp
def Wq (s:Bool) (e f:Nat):Option (Bool×Nat×Int):=if e=2047 then none else mkS s (if e=0 then f else f+4503599627370496) (if e=0 then -1074 else (e:Int)-1075)
def Ws (e:Nat):Int:=if e=2047 then 30 else 0
def ZY (lo:Nat) (w:World) (r:Ending) (o:Option (Bool×Nat×Int)) (er:Int):Prop :=
 ∃ v,r=.returned (.tuple #[.agg #[.bool (dN o),v,.int .i64 (dE o)],.int .i64 er])/\Nt lo w v (dX o)
theorem vE (X:Nat) (h:X<9007199254740992):bl X<=53:=by
 by_cases h0:X=0
 · subst h0;rw [dG];omega
 · have:=(jw (a:=2) af).1 (gN (gT X h0) (show X<2^53 from h));omega
theorem QN (s:Bool) (X:Nat) (x:Int) (hX:X<9007199254740992) (h0:-1100<=x) (h1:x<=1000):∃ d,mkS s X x=some d:=by
 unfold mkS
 by_cases h:X=0
 · rw [if_pos h];exact ⟨_,rfl⟩
 · rw [if_neg h];obtain ⟨m,_,_,hb⟩:=iw X h;have:=vE X hX;rw [if_neg af];exact ⟨_,rfl⟩
theorem QO (s:Bool) (b:Nat) (F:Nat) (k x:Int) (w:World) (hT:dJ w) (hF:F<9007199254740992) (hx0:-1100<=x) (hx1:x<=1000)
 (HA:Hid (∀ u,Calls Tryz.prog 123 #[.float .f64 b] u fun r w'=>r=.returned (.float .f64 (b%9223372036854775808))/\w'=u))
 (HS:Hid (∀ u,Calls Tryz.prog 122 #[.float .f64 (b%9223372036854775808)] u fun r w'=>r=.returned (.agg #[.bool false,.int .i64 k,.int .i64 x,.int .u64 (F:Nat)])/\Below u.heap.size u w'))
 (H0:Hid (∀ u,Calls Tryz.prog 122 #[.float .f64 0] u fun r w'=>r=.returned (.agg #[.bool false,.int .i64 0,.int .i64 (-1074),.int .u64 0])/\Below u.heap.size u w'))
 (hlt:(FloatKind.f64.format.order b 0==some .lt)=s) (k0:(k==0)=false) (k3:(k==3)=false) (k4:(k==4)=false) :
 Calls Tryz.prog 83 #[.float .f64 b] w fun r w'=>cK w.heap.size w' r (mkS s F x)/\Below w.heap.size w w':=by
 generalize hb2:b%9223372036854775808=b2 at *;clear hb2;have HO:Hid (∀ u,Calls Tryz.prog 91 #[.int .u64 (F:Nat)] u fun r w'=>∃ v,r=.returned v/\Nt u.heap.size w' v F/\Below u.heap.size u w'):=fun u=>qf F u af
 have HM:Hid (∀ (u:World) (a:Option Addr) (c:Nat),dJ u->Arg u a (ws F).length c (ws F)->Calls Tryz.prog 90 #[.bool s,.slice a (ws F).length c,.int .i64 x] u fun r w'=>cK u.heap.size w' r (mkS s F x)/\Below u.heap.size u w'):=by
  intro u a c qi hA;have:=gU hA qi s x af af;rw [aj] at this;exact this
 have hFl:(ws F).length<=100:=by have:=iB F;have:=vE F hF;omega
 have hl:=aM s F x;obtain ⟨o,ho⟩:∃ o,mkS s F x=o:=⟨_,rfl⟩;rw [ho] at HM hl |-;unfold cK at HM |-;obtain ⟨dn,hdn⟩:∃ d,dN o=d:=⟨_,rfl⟩;obtain ⟨X,DJ⟩:∃ d,dX o=d:=⟨_,rfl⟩;obtain ⟨de,hde⟩:∃ d,dE o=d:=⟨_,rfl⟩;obtain ⟨er,her⟩:∃ d,l9 o=d:=⟨_,rfl⟩;rw [hdn,DJ,hde,her] at HM |-;rw [DJ] at hl;have HT:=ak hT;clear ho hdn DJ hde her hT hF hx0 hx1;go_enter Tryz.func83,Tryz.ntmps83;go_wp2_with fail;refine (fP (HA.o _)) ?_;rintro r w1 ⟨rfl,rfl⟩;go_wp2_with fail;refine (fP (HS.o _)) ?_;rintro r w2 ⟨rfl,hb⟩;obtain ⟨hc,hf⟩:=aR hb;have hz:w.heap.size<w2.heap.size:=by have:=hb.size;simp at this;omega
 have hbw:Below w.heap.size w w2:=((aD _ _).alloc (aC _) _).trans (hb.mono aO);have SB:=ak hbw;clear hb hbw;obtain ⟨W2,hW2⟩:=ah (w2.alloc (.cells #[.bool false,.int .i64 k,.int .i64 x,.int .u64 (F:Nat)] 146));have hbW:Below w.heap.size w W2:=by rw [hW2];exact SB.o.alloc af _
 have P:W2.heap[w2.heap.size]?=some (.cells #[.bool false,.int .i64 k,.int .i64 x,.int .u64 (F:Nat)] 146 (0,0)):=by rw [hW2,ib]
 have p0:W2.cell? ⟨w2.heap.size,0,none⟩=some (.bool false):=by simp [World.cell?,P]
 have p1:W2.cell? ⟨w2.heap.size,1,none⟩=some (.int .i64 k):=by simp [World.cell?,P]
 have p2:W2.cell? ⟨w2.heap.size,2,none⟩=some (.int .i64 x):=by simp [World.cell?,P]
 have p3:W2.cell? ⟨w2.heap.size,3,none⟩=some (.int .u64 (F:Nat)):=by simp [World.cell?,P]
 have r0:W2.cell? ⟨w.heap.size,0,none⟩=some (.bool false):=by rw [hW2];go_simp
 have r1:W2.cell? ⟨w.heap.size,1,none⟩=some (.slice none 0 0):=by rw [hW2];go_simp
 have r2:W2.cell? ⟨w.heap.size,2,none⟩=some (.int .i64 0):=by rw [hW2];go_simp
 have f0:W2.frozen? ⟨w.heap.size,0,none⟩=false:=by rw [hW2];go_simp
 have f1:W2.frozen? ⟨w.heap.size,1,none⟩=false:=by rw [hW2];go_simp
 have f2:W2.frozen? ⟨w.heap.size,2,none⟩=false:=by rw [hW2];go_simp
 have hz2:w2.heap.size<W2.heap.size:=by rw [hW2];simp
 have hz3:w.heap.size<W2.heap.size:=af
 have SW:=ak hbW;go_wp2_with fail;rw [<-hW2];clear hW2 hbW P hc hf SB
 go_region_with (go_at_call 122;refine (H0.o _).mono ?_;rintro r w3 ⟨rfl,hb3⟩;have hb4:Below W2.heap.size W2 w3:=(by first | exact hb3 | exact ((aD _ W2).drew).trans (hb3.mono (aC _)));obtain ⟨hc,hf⟩:=aR hb4;have S3:=ak hb4;clear hb3 hb4)
 all_goals (
  go_wp2_with fail;have Jk:w2.heap.size<w3.heap.size:=by have:=S3.o.size;omega
  have Jl:w.heap.size<w3.heap.size:=by have:=S3.o.size;omega
  go_region_with (first
   | (go_at_call 91
      refine (HO.o _).mono ?_;rintro r w4 ⟨v4,rfl,hN,hb⟩;obtain ⟨a4,c4,rfl,A4⟩:=hN.arg af;have MU:Below w3.heap.size w3 w4:=(by first | exact hb | exact ((aD _ w3).drew).trans (hb.mono (aC _)));have T4:dJ w4:=(HT.o.belows SW.o).belows (S3.o.trans (MU.mono S3.o.size));obtain ⟨hc4,hf4⟩:=aR MU;have Vj:w.heap.size<w4.heap.size:=by have:=MU.size;omega
      have S4:=(aZ MU A4 T4)
      clear hN hb MU A4 T4)
   | (go_at_call 90
      refine (HM.o _ a4 c4 (by first | exact S4.o.r2 | exact S4.o.r2) (by first | exact S4.o.2.1 | exact Arg.drew' S4.o.2.1)).mono ?_;rintro r w5 ⟨⟨v5,rfl,hN⟩,hb⟩;obtain ⟨a5,c5,rfl,_⟩:=hN.arg af;have QP:Below w4.heap.size w4 w5:=(by first | exact hb | exact ((aD _ w4).drew).trans (hb.mono (aC _)));obtain ⟨YT,hf5⟩:=aR QP;have HF:=ak (show Fin w.heap.size w4.heap.size w w5 (.slice a5 (ws X).length c5) X from ⟨hN,((SW.o.trans (S3.o.mono af)).trans (S4.o.1.mono af)).trans (QP.mono af),by have:=QP.size;omega⟩)
      clear hN hb QP))
  all_goals (
   go_wp2
   exact aF (v:=.tuple #[.agg #[.bool dn,.slice a5 (ws X).length c5,.int .i64 de],.int .i64 er]) (by simp [results,Tryz.results83,go_sem,YT,hc4,hc,Vj,Jl,hz3,r0,r1,r2]) rfl (Fin.jT (m:=w4.heap.size) (by repeat (first | exact HF.o | refine Fin.alloc ?_ _ | refine Fin.set ?_ _ _ _ af af)) af)))
theorem Jm (b b2:Nat) (w:World)
 (HA:Hid (∀ u,Calls Tryz.prog 123 #[.float .f64 b] u fun r w'=>r=.returned (.float .f64 b2)/\w'=u))
 (HS:Hid (∀ u,Calls Tryz.prog 122 #[.float .f64 b2] u fun r w'=>r=.returned (.agg #[.bool false,.int .i64 0,.int .i64 (-1074),.int .u64 0])/\Below u.heap.size u w'))
 (H0:Hid (∀ u,Calls Tryz.prog 122 #[.float .f64 0] u fun r w'=>r=.returned (.agg #[.bool false,.int .i64 0,.int .i64 (-1074),.int .u64 0])/\Below u.heap.size u w')) :
 Calls Tryz.prog 83 #[.float .f64 b] w fun r w'=>r=.returned (.tuple #[.agg #[.bool false,.slice none 0 0,.int .i64 0],.int .i64 0])/\Below w.heap.size w w':=by
 go_enter Tryz.func83,Tryz.ntmps83;go_wp2_with fail;refine (fP (HA.o _)) ?_;rintro r w1 ⟨rfl,rfl⟩;go_wp2_with fail;refine (fP (HS.o _)) ?_;rintro r w2 ⟨rfl,hb⟩;obtain ⟨hc,hf⟩:=aR hb;have hz:w.heap.size<w2.heap.size:=by have:=hb.size;simp at this;omega
 have hbw:Below w.heap.size w w2:=((aD _ _).alloc (aC _) _).trans (hb.mono aO);have SB:=ak hbw;clear hb hbw;obtain ⟨W2,hW2⟩:=ah (w2.alloc (.cells #[.bool false,.int .i64 0,.int .i64 (-1074),.int .u64 0] 146));have hbW:Below w.heap.size w W2:=by rw [hW2];exact SB.o.alloc af _
 have P:W2.heap[w2.heap.size]?=some (.cells #[.bool false,.int .i64 0,.int .i64 (-1074),.int .u64 0] 146 (0,0)):=by rw [hW2,ib]
 have p0:W2.cell? ⟨w2.heap.size,0,none⟩=some (.bool false):=by simp [World.cell?,P]
 have p1:W2.cell? ⟨w2.heap.size,1,none⟩=some (.int .i64 0):=by simp [World.cell?,P]
 have p2:W2.cell? ⟨w2.heap.size,2,none⟩=some (.int .i64 (-1074)):=by simp [World.cell?,P]
 have p3:W2.cell? ⟨w2.heap.size,3,none⟩=some (.int .u64 0):=by simp [World.cell?,P]
 have r0:W2.cell? ⟨w.heap.size,0,none⟩=some (.bool false):=by rw [hW2];go_simp
 have r1:W2.cell? ⟨w.heap.size,1,none⟩=some (.slice none 0 0):=by rw [hW2];go_simp
 have r2:W2.cell? ⟨w.heap.size,2,none⟩=some (.int .i64 0):=by rw [hW2];go_simp
 have f0:W2.frozen? ⟨w.heap.size,0,none⟩=false:=by rw [hW2];go_simp
 have f1:W2.frozen? ⟨w.heap.size,1,none⟩=false:=by rw [hW2];go_simp
 have f2:W2.frozen? ⟨w.heap.size,2,none⟩=false:=by rw [hW2];go_simp
 have hz2:w2.heap.size<W2.heap.size:=by rw [hW2];simp
 have hz3:w.heap.size<W2.heap.size:=af
 have SW:=ak hbW;go_wp2_with fail;rw [<-hW2];clear hW2 hbW P hc hf SB
 go_region_with (go_at_call 122;refine (H0.o _).mono ?_;rintro r w3 ⟨rfl,hb3⟩;have hb4:Below W2.heap.size W2 w3:=(by first | exact hb3 | exact ((aD _ W2).drew).trans (hb3.mono (aC _)));obtain ⟨hc,hf⟩:=aR hb4;have S3:=ak hb4;clear hb3 hb4)
 all_goals (
  go_wp2;have hbf:=SW.o.trans (S3.o.mono af);have TW:w.heap.size<=w3.heap.size:=by have:=S3.o.size;omega
  exact aF (v:=.tuple #[.agg #[.bool false,.slice none 0 0,.int .i64 0],.int .i64 0]) (by simp [results,Tryz.results83,go_sem,hc,hz3,r0,r1,r2]) rfl ⟨rfl,Below.oh (Below.oh (Below.oh hbf _ _ _ (aC _) TW) _ _ _ (aC _) (by simpa [World.setCell] using TW)) _ _ _ (aC _) (by simpa [World.setCell] using TW)⟩)
theorem QQ (b b2:Nat) (k:Int) (w:World) (hk:k=3\/k=4)
 (HA:Hid (∀ u,Calls Tryz.prog 123 #[.float .f64 b] u fun r w'=>r=.returned (.float .f64 b2)/\w'=u))
 (HS:Hid (∀ u,Calls Tryz.prog 122 #[.float .f64 b2] u fun r w'=>r=.returned (.agg #[.bool false,.int .i64 k,.int .i64 0,.int .u64 0])/\Below u.heap.size u w'))
 (H0:Hid (∀ u,Calls Tryz.prog 122 #[.float .f64 0] u fun r w'=>r=.returned (.agg #[.bool false,.int .i64 0,.int .i64 (-1074),.int .u64 0])/\Below u.heap.size u w')) :
 Calls Tryz.prog 83 #[.float .f64 b] w fun r w'=>r=.returned (.tuple #[.agg #[.bool false,.slice none 0 0,.int .i64 0],.int .i64 30])/\Below w.heap.size w w':=by
 have k0:(k==0)=false:=by rcases hk with rfl | rfl <;> rfl
 go_enter Tryz.func83,Tryz.ntmps83;go_wp2_with fail;refine (fP (HA.o _)) ?_;rintro r w1 ⟨rfl,rfl⟩;go_wp2_with fail;refine (fP (HS.o _)) ?_;rintro r w2 ⟨rfl,hb⟩;obtain ⟨hc,hf⟩:=aR hb;have hz:w.heap.size<w2.heap.size:=by have:=hb.size;simp at this;omega
 have hbw:Below w.heap.size w w2:=((aD _ _).alloc (aC _) _).trans (hb.mono aO);have SB:=ak hbw;clear hb hbw;obtain ⟨W2,hW2⟩:=ah (w2.alloc (.cells #[.bool false,.int .i64 k,.int .i64 0,.int .u64 0] 146));have hbW:Below w.heap.size w W2:=by rw [hW2];exact SB.o.alloc af _
 have P:W2.heap[w2.heap.size]?=some (.cells #[.bool false,.int .i64 k,.int .i64 0,.int .u64 0] 146 (0,0)):=by rw [hW2,ib]
 have p0:W2.cell? ⟨w2.heap.size,0,none⟩=some (.bool false):=by simp [World.cell?,P]
 have p1:W2.cell? ⟨w2.heap.size,1,none⟩=some (.int .i64 k):=by simp [World.cell?,P]
 have p2:W2.cell? ⟨w2.heap.size,2,none⟩=some (.int .i64 0):=by simp [World.cell?,P]
 have p3:W2.cell? ⟨w2.heap.size,3,none⟩=some (.int .u64 0):=by simp [World.cell?,P]
 have r0:W2.cell? ⟨w.heap.size,0,none⟩=some (.bool false):=by rw [hW2];go_simp
 have r1:W2.cell? ⟨w.heap.size,1,none⟩=some (.slice none 0 0):=by rw [hW2];go_simp
 have r2:W2.cell? ⟨w.heap.size,2,none⟩=some (.int .i64 0):=by rw [hW2];go_simp
 have f0:W2.frozen? ⟨w.heap.size,0,none⟩=false:=by rw [hW2];go_simp
 have f1:W2.frozen? ⟨w.heap.size,1,none⟩=false:=by rw [hW2];go_simp
 have f2:W2.frozen? ⟨w.heap.size,2,none⟩=false:=by rw [hW2];go_simp
 have hz2:w2.heap.size<W2.heap.size:=by rw [hW2];simp
 have hz3:w.heap.size<W2.heap.size:=af
 have SW:=ak hbW;go_wp2_with fail;rw [<-hW2];clear hW2 hbW P hc hf SB
 go_region_with (go_at_call 122;refine (H0.o _).mono ?_;rintro r w3 ⟨rfl,hb3⟩;have hb4:Below W2.heap.size W2 w3:=(by first | exact hb3 | exact ((aD _ W2).drew).trans (hb3.mono (aC _)));obtain ⟨hc,hf⟩:=aR hb4;have S3:=ak hb4;clear hb3 hb4)
 all_goals (
  have hbf:=ak (SW.o.trans (S3.o.mono af));have TW:w.heap.size<=w3.heap.size:=by have:=S3.o.size;omega
  rcases hk with rfl|rfl
  all_goals (
   go_wp2
   exact aF (v:=.tuple #[.agg #[.bool false,.slice none 0 0,.int .i64 0],.int .i64 30]) (by simp [results,Tryz.results83,go_sem,hc,hz3,r0,r1,r2]) rfl ⟨rfl,Below.oh (Below.oh (Below.oh hbf.o _ _ _ (aC _) TW) _ _ _ (aC _) (by simpa [World.setCell] using TW)) _ _ _ (aC _) (by simpa [World.setCell] using TW)⟩))
theorem MV (s:Bool) (e f:Nat) (he:e<2048) (hf:f<4503599627370496) (w:World) (hT:dJ w) :
 Calls Tryz.prog 83 #[.float .f64 (B.bw s e f)] w fun r w'=>ZY w.heap.size w' r (Wq s e f) (Ws e)/\Below w.heap.size w w':=by
 have HA:Hid (∀ u,Calls Tryz.prog 123 #[.float .f64 (B.bw s e f)] u fun r w'=>r=.returned (.float .f64 (B.bw false e f))/\w'=u):=fun u=>B.zQ s e f he hf u;have HS:∀ u,Calls Tryz.prog 122 #[.float .f64 (B.bw false e f)] u fun r w'=>r=.returned (.agg #[.bool (B.ng false e f),.int .i64 (B.cls e f),.int .i64 (B.xp e),.int .u64 (B.fr e f)])/\Below u.heap.size u w':=fun u=>B.sI false e f he hf u;have H0:Hid (∀ u,Calls Tryz.prog 122 #[.float .f64 0] u fun r w'=>r=.returned (.agg #[.bool false,.int .i64 0,.int .i64 (-1074),.int .u64 0])/\Below u.heap.size u w'):=fun u=>B.sI false 0 0 af af u;have Wt:B.ng false e f=false:=by unfold B.ng;split <;> rfl
 rw [Wt] at HS;unfold Wq Ws
 by_cases h7:e=2047
 · rw [if_pos h7,if_pos h7];have h2:B.xp e=0/\B.fr e f=0:=by unfold B.xp B.fr;rw [if_pos h7,if_pos h7];exact ⟨rfl,rfl⟩
   rw [h2.1,h2.2] at HS;have hk:B.cls e f=3\/B.cls e f=4:=by unfold B.cls;rw [if_pos h7];split <;> simp
   exact (QQ _ _ _ w hk HA (hid HS) H0).mono fun r w' ⟨h1,h3⟩=>⟨⟨_,h1,Nt.nil _ _⟩,h3⟩
 · rw [if_neg h7,if_neg h7];have hx:B.xp e=(if e=0 then -1074 else (e:Int)-1075):=by unfold B.xp;rw [if_neg h7]
   have hfr:B.fr e f=(((if e=0 then f else f+4503599627370496:Nat)):Int):=by unfold B.fr;rw [if_neg h7];split <;> simp
   rw [hx,hfr] at HS
   by_cases h0:e=0/\f=0
   · obtain ⟨rfl,rfl⟩:=h0;rw [show B.cls 0 0=0 from rfl] at HS;simp only [if_pos,Int.ofNat_zero] at HS;rw [if_pos rfl,eY];exact (Jm _ _ w HA (hid HS) H0).mono fun r w' ⟨h1,h3⟩=>⟨⟨_,h1,Nt.nil _ _⟩,h3⟩
   · have hcl:B.cls e f=1\/B.cls e f=2:=by
      unfold B.cls;rw [if_neg h7]
      by_cases h1:e=0
      · rw [if_pos h1,if_neg (fun h=>h0 ⟨h1,h⟩)];simp
      · rw [if_neg h1];simp
     obtain ⟨F,hF⟩:∃ F:Nat,(if e=0 then f else f+4503599627370496:Nat)=F:=⟨_,rfl⟩;obtain ⟨x,fZ⟩:∃ x:Int,(if e=0 then -1074 else (e:Int)-1075)=x:=⟨_,rfl⟩;have hFb:F<9007199254740992:=by rw [<-hF];split <;> omega
     have hxb:-1100<=x/\x<=1000:=by rw [<-fZ];split <;> omega
     rw [hF,fZ] at HS |-;have ho:B.odd e f=false:=by unfold B.odd;simp [h7]
     have hz:(e==0&&f==0)=false:=by
      cases h1:(e==0&&f==0)
      · rfl
      · exact absurd (by simpa using h1) h0
     have hb2:B.bw false e f=B.bw s e f%9223372036854775808:=by
      have h1:=B.U6 s e f he hf;have h2:(B.bw false e f:Int)=(e:Int)*4503599627370496+f:=by unfold B.bw;simp
      omega
     rw [hb2] at HA HS;obtain ⟨d,hd⟩:=QN s F x hFb hxb.1 hxb.2;have:=QO s (B.bw s e f) F (B.cls e f) x w hT hFb hxb.1 hxb.2 HA (hid HS) H0 (B.GK s e f he hf ho hz) (by rcases hcl with h | h <;> rw [h] <;> rfl) (by rcases hcl with h | h <;> rw [h] <;> rfl) (by rcases hcl with h | h <;> rw [h] <;> rfl);refine this.mono fun r w' ⟨⟨v,h1,h2⟩,h3⟩=>⟨⟨v,?_,h2⟩,h3⟩;rw [h1,hd];rfl
end
section
open Go.RowKit
attribute [local go_sem] B.cO B.aI
def jL (k:Nat):Nat×Int:=if k/4503599627370496=0 then (k%4503599627370496,-1074) else (4503599627370496+k%4503599627370496,-1074+((k/4503599627370496:Nat):Int)-1)
theorem xM (K:Int) (V:Nat) (w:World) (e1:K/4503599627370496=0) (hK0:0<=K) (hK1:K<=9218868437227405312)
 (HO:Hid (∀ u,Calls Tryz.prog 55 #[.int .u64 (K%4503599627370496)] u fun r w'=>∃ v,r=.returned v/\Nt u.heap.size w' v V/\Below u.heap.size u w')) :
 Calls Tryz.prog 151 #[.agg #[.int .i64 53,.int .i64 (-1074),.int .u64 9218868437227405312],.int .u64 K] w fun r w'=>∃ v,r=.returned (.tuple #[v,.int .i64 (-1074)])/\Nt w.heap.size w' v V/\Below w.heap.size w w':=by
 obtain ⟨W1,hW1⟩:=ah (w.alloc (.cells #[.int .i64 53,.int .i64 (-1074),.int .u64 9218868437227405312] 98));have P:W1.heap[w.heap.size]?=some (.cells #[.int .i64 53,.int .i64 (-1074),.int .u64 9218868437227405312] 98 (0,0)):=by rw [hW1,ib]
 have p1:W1.cell? ⟨w.heap.size,1,none⟩=some (.int .i64 (-1074)):=by simp [World.cell?,P]
 have hz:w.heap.size<W1.heap.size:=by rw [hW1];simp
 have HB:=ak (show Below w.heap.size w W1 by rw [hW1];exact ae w _);go_enter Tryz.func151,Tryz.ntmps151;go_wp2;rw [<-hW1];clear hW1 P e1
 go_region_held3 (fun w'=>w'.cell? ⟨w.heap.size,1,none⟩=some (.int .i64 (-1074))) (go_keep) (first | (go_at_call 55;refine (HO.o _).mono ?_;rintro r w2 ⟨v,rfl,hN,hb⟩;have hb2:Below W1.heap.size W1 w2:=(by first | exact hb | exact ((aD _ W1).drew).trans (hb.mono (aC _)));have p2:w2.cell? ⟨w.heap.size,1,none⟩=some (.int .i64 (-1074)):=(hb2.cell (p:=⟨w.heap.size,1,none⟩) hz).trans p1;have S2:=(aJ hb2 hN);clear hb hb2 hN))
 all_goals (
  go_wp2;go_simp
  go_ret2
  exact ⟨v,rfl,S2.o.2.mono (mg hz),HB.o.trans (S2.o.1.mono (mg hz))⟩)
theorem wo (K q f g x y:Int) (V:Nat) (w:World) (e1:K/4503599627370496=q) (e2:K%4503599627370496=f) (e3:IntKind.u64.wrap (4503599627370496+f)=g) (e4:IntKind.i64.wrap q=q) (e5:IntKind.i64.wrap (-1074+q)=x) (e6:IntKind.i64.wrap (x-1)=y) (hK0:0<=K) (hK1:K<=9218868437227405312) (hq0:(q==0)=false)
 (HO:Hid (∀ u,Calls Tryz.prog 55 #[.int .u64 g] u fun r w'=>∃ v,r=.returned v/\Nt u.heap.size w' v V/\Below u.heap.size u w')) :
 Calls Tryz.prog 151 #[.agg #[.int .i64 53,.int .i64 (-1074),.int .u64 9218868437227405312],.int .u64 K] w fun r w'=>∃ v,r=.returned (.tuple #[v,.int .i64 y])/\Nt w.heap.size w' v V/\Below w.heap.size w w':=by
 obtain ⟨W1,hW1⟩:=ah (w.alloc (.cells #[.int .i64 53,.int .i64 (-1074),.int .u64 9218868437227405312] 98));have P:W1.heap[w.heap.size]?=some (.cells #[.int .i64 53,.int .i64 (-1074),.int .u64 9218868437227405312] 98 (0,0)):=by rw [hW1,ib]
 have p1:W1.cell? ⟨w.heap.size,1,none⟩=some (.int .i64 (-1074)):=by simp [World.cell?,P]
 have hz:w.heap.size<W1.heap.size:=by rw [hW1];simp
 have HB:=ak (show Below w.heap.size w W1 by rw [hW1];exact ae w _);go_enter Tryz.func151,Tryz.ntmps151;go_wp2;rw [<-hW1]
 try simp only [e1,e2]
 clear hW1 P e1 e2 hK0 hK1
 go_region_held3 (fun w'=>w'.cell? ⟨w.heap.size,1,none⟩=some (.int .i64 (-1074))) (go_keep) (first | (go_at_call 55;refine (HO.o _).mono ?_;rintro r w2 ⟨v,rfl,hN,hb⟩;have hb2:Below W1.heap.size W1 w2:=(by first | exact hb | exact ((aD _ W1).drew).trans (hb.mono (aC _)));have p2:w2.cell? ⟨w.heap.size,1,none⟩=some (.int .i64 (-1074)):=(hb2.cell (p:=⟨w.heap.size,1,none⟩) hz).trans p1;have S2:=(aJ hb2 hN);clear hb hb2 hN))
 all_goals (
  go_wp2;go_simp
  go_ret2
  exact ⟨v,rfl,S2.o.2.mono (mg hz),HB.o.trans (S2.o.1.mono (mg hz))⟩)
theorem Jn (k:Nat) (hk:k<=9218868437227405312) (w:World) :
 Calls Tryz.prog 151 #[.agg #[.int .i64 53,.int .i64 (-1074),.int .u64 9218868437227405312],.int .u64 (k:Nat)] w fun r w'=>∃ v,r=.returned (.tuple #[v,.int .i64 (jL k).2])/\Nt w.heap.size w' v (jL k).1/\Below w.heap.size w w':=by
 unfold jL
 by_cases h0:k/4503599627370496=0
 · rw [if_pos h0];exact xM (k:Int) (k%4503599627370496) w af af af (hid fun u=>by simpa using vC (k%4503599627370496) u af)
 · rw [if_neg h0];have hw:∀ n:Int,0<=n->n<18446744073709551616->IntKind.u64.wrap n=n:=fun n h1 h2=>by simp [IntKind.wrap,IntKind.bits,IntKind.signed];omega
   have hv:∀ n:Int,-4000<=n->n<4000->IntKind.i64.wrap n=n:=fun n h1 h2=>by simp [IntKind.wrap,IntKind.bits,IntKind.signed];omega
   have e3:(4503599627370496:Int)+((k%4503599627370496:Nat):Int)=((4503599627370496+k%4503599627370496:Nat):Int):=af
   exact wo (k:Int) ((k/4503599627370496:Nat):Int) ((k%4503599627370496:Nat):Int) ((4503599627370496+k%4503599627370496:Nat):Int) (-1074+((k/4503599627370496:Nat):Int)) (-1074+((k/4503599627370496:Nat):Int)-1) (4503599627370496+k%4503599627370496) w af af (by rw [e3];exact hw _ af af) (hv _ af af) (hv _ af af) (hv _ af af) af af (beq_eq_false_iff_ne.2 af) (hid fun u=>vC _ u af)
theorem Cb (w:World):Calls Tryz.prog 67 #[] w fun r w'=>r=.returned (.agg #[.int .i64 53,.int .i64 (-1074),.int .u64 9218868437227405312])/\Below w.heap.size w w':=by
 go_enter Tryz.func67,Tryz.ntmps67;go_wp2;exact aF (v:=.agg #[.int .i64 53,.int .i64 (-1074),.int .u64 9218868437227405312]) (by simp [results,Tryz.results67,go_sem]) rfl ⟨rfl,by repeat (first | exact aD _ _ | refine Below.alloc ?_ (by first | omega | simp) _ | refine Below.oh ?_ _ _ _ af aO)⟩
end
section
open Go.RowKit
theorem zR (n:Int) (m:Nat) (X:Nat) (dn:Bool) (de:Int) (er:Int) (w:World) (h0:n<0) (h1:-9223372036854775808<=n) (hm:(ws m).length<=100) (hl:(ws X).length<=8192) (e1:IntKind.u64.wrap (-IntKind.u64.wrap n)=(m:Int))
 (HO:Hid (∀ u,Calls Tryz.prog 91 #[.int .u64 (m:Int)] u fun r w'=>∃ v,r=.returned v/\Nt u.heap.size w' v m/\Below u.heap.size u w'))
 (HM:Hid (∀ (u:World) (a:Option Addr) (c:Nat),Below w.heap.size w u->Arg u a (ws m).length c (ws m)->Calls Tryz.prog 90 #[.bool true,.slice a (ws m).length c,.int .i64 0] u fun r w'=>(∃ v,r=.returned (.tuple #[.agg #[.bool dn,v,.int .i64 de],.int .i64 er])/\Nt u.heap.size w' v X)/\Below u.heap.size u w')) :
 Calls Tryz.prog 48 #[.int .i64 n] w fun r w'=>(∃ v,r=.returned (.agg #[.bool dn,v,.int .i64 de])/\Nt w.heap.size w' v X)/\Below w.heap.size w w':=by
 go_enter Tryz.func48,Tryz.ntmps48;go_wp2_with fail
 try rw [e1]
 refine (fP (HO.o _)) ?_;rintro r w1 ⟨v,rfl,hN,hb⟩;obtain ⟨a1,c1,rfl,A1⟩:=hN.arg af;have hz:w.heap.size<w1.heap.size:=by have:=hb.size;simp at this;omega
 have hbw:Below w.heap.size w w1:=(ae w (.cells #[.bool false,.slice none 0 0,.int .i64 0] 25)).trans (hb.mono aO);have S1:=ak hbw;have H2:=hid (HM.o w1 a1 c1 hbw A1);obtain ⟨hc,hf⟩:=aR hb;clear hN hb A1 hbw;go_wp2_with fail;refine H2.o.mono ?_;rintro r w2 ⟨⟨v,rfl,hN⟩,hb2⟩;obtain ⟨a2,c2,rfl,_⟩:=hN.arg af;obtain ⟨hc2,hf2⟩:=aR hb2;have hz2:w.heap.size<w2.heap.size:=by have:=hb2.size;omega
 have HF:=ak (show Fin w.heap.size w1.heap.size w w2 (.slice a2 (ws X).length c2) X from ⟨hN,S1.o.trans (hb2.mono af),af⟩);clear hN hb2;go_wp2;exact aF (v:=.agg #[.bool dn,.slice a2 (ws X).length c2,.int .i64 de]) (by simp [results,Tryz.results48,go_sem,hc,hc2,hz,hz2]) rfl (Fin.MS (m:=w1.heap.size) (by repeat (first | exact HF.o | refine Fin.alloc ?_ _ | refine Fin.set ?_ _ _ _ af af)) af)
theorem zS (n:Int) (m:Nat) (X:Nat) (dn:Bool) (de:Int) (er:Int) (w:World) (h0:0<=n) (h1:n<=9223372036854775807) (hd:decide (n<0)=false) (hm:(ws m).length<=100) (hl:(ws X).length<=8192) (e1:IntKind.u64.wrap n=n)
 (HO:Hid (∀ u,Calls Tryz.prog 91 #[.int .u64 n] u fun r w'=>∃ v,r=.returned v/\Nt u.heap.size w' v m/\Below u.heap.size u w'))
 (HM:Hid (∀ (u:World) (a:Option Addr) (c:Nat),Below w.heap.size w u->Arg u a (ws m).length c (ws m)->Calls Tryz.prog 90 #[.bool false,.slice a (ws m).length c,.int .i64 0] u fun r w'=>(∃ v,r=.returned (.tuple #[.agg #[.bool dn,v,.int .i64 de],.int .i64 er])/\Nt u.heap.size w' v X)/\Below u.heap.size u w')) :
 Calls Tryz.prog 48 #[.int .i64 n] w fun r w'=>(∃ v,r=.returned (.agg #[.bool dn,v,.int .i64 de])/\Nt w.heap.size w' v X)/\Below w.heap.size w w':=by
 go_enter Tryz.func48,Tryz.ntmps48;go_wp2_with fail
 try rw [e1]
 refine (fP (HO.o _)) ?_;rintro r w1 ⟨v,rfl,hN,hb⟩;obtain ⟨a1,c1,rfl,A1⟩:=hN.arg af;have hz:w.heap.size<w1.heap.size:=by have:=hb.size;simp at this;omega
 have hbw:Below w.heap.size w w1:=(ae w (.cells #[.bool false,.slice none 0 0,.int .i64 0] 25)).trans (hb.mono aO);have S1:=ak hbw;have H2:=hid (HM.o w1 a1 c1 hbw A1);obtain ⟨hc,hf⟩:=aR hb;clear hN hb A1 hbw;go_wp2_with fail;refine H2.o.mono ?_;rintro r w2 ⟨⟨v,rfl,hN⟩,hb2⟩;obtain ⟨a2,c2,rfl,_⟩:=hN.arg af;obtain ⟨hc2,hf2⟩:=aR hb2;have hz2:w.heap.size<w2.heap.size:=by have:=hb2.size;omega
 have HF:=ak (show Fin w.heap.size w1.heap.size w w2 (.slice a2 (ws X).length c2) X from ⟨hN,S1.o.trans (hb2.mono af),af⟩);clear hN hb2;go_wp2;exact aF (v:=.agg #[.bool dn,.slice a2 (ws X).length c2,.int .i64 de]) (by simp [results,Tryz.results48,go_sem,hc,hc2,hz,hz2]) rfl (Fin.MS (m:=w1.heap.size) (by repeat (first | exact HF.o | refine Fin.alloc ?_ _ | refine Fin.set ?_ _ _ _ af af)) af)
theorem xN (n:Int) (m:Nat) (X:Nat) (dn:Bool) (de:Int) (er:Bool) (w:World) (h0:n<0) (h1:-9223372036854775808<=n) (hm:(ws m).length<=100) (hl:(ws X).length<=8192) (e1:IntKind.u64.wrap (-IntKind.u64.wrap n)=(m:Int))
 (HO:Hid (∀ u,Calls Tryz.prog 55 #[.int .u64 (m:Int)] u fun r w'=>∃ v,r=.returned v/\Nt u.heap.size w' v m/\Below u.heap.size u w'))
 (HM:Hid (∀ (u:World) (a:Option Addr) (c:Nat),Below w.heap.size w u->Arg u a (ws m).length c (ws m)->Calls Tryz.prog 54 #[.bool true,.slice a (ws m).length c,.int .i64 0] u fun r w'=>(∃ v,r=.returned (.tuple #[.agg #[.bool dn,v,.int .i64 de],.bool er])/\Nt u.heap.size w' v X)/\Below u.heap.size u w')) :
 Calls Tryz.prog 22 #[.int .i64 n] w fun r w'=>(∃ v,r=.returned (.agg #[.bool dn,v,.int .i64 de])/\Nt w.heap.size w' v X)/\Below w.heap.size w w':=by
 go_enter Tryz.func22,Tryz.ntmps22;go_wp2_with fail
 try rw [e1]
 refine (fP (HO.o _)) ?_;rintro r w1 ⟨v,rfl,hN,hb⟩;obtain ⟨a1,c1,rfl,A1⟩:=hN.arg af;have hz:w.heap.size<w1.heap.size:=by have:=hb.size;simp at this;omega
 have hbw:Below w.heap.size w w1:=(ae w (.cells #[.bool false,.slice none 0 0,.int .i64 0] 25)).trans (hb.mono aO);have S1:=ak hbw;have H2:=hid (HM.o w1 a1 c1 hbw A1);obtain ⟨hc,hf⟩:=aR hb;clear hN hb A1 hbw;go_wp2_with fail;refine H2.o.mono ?_;rintro r w2 ⟨⟨v,rfl,hN⟩,hb2⟩;obtain ⟨a2,c2,rfl,_⟩:=hN.arg af;obtain ⟨hc2,hf2⟩:=aR hb2;have hz2:w.heap.size<w2.heap.size:=by have:=hb2.size;omega
 have HF:=ak (show Fin w.heap.size w1.heap.size w w2 (.slice a2 (ws X).length c2) X from ⟨hN,S1.o.trans (hb2.mono af),af⟩);clear hN hb2;go_wp2;exact aF (v:=.agg #[.bool dn,.slice a2 (ws X).length c2,.int .i64 de]) (by simp [results,Tryz.results22,go_sem,hc,hc2,hz,hz2]) rfl (Fin.MS (m:=w1.heap.size) (by repeat (first | exact HF.o | refine Fin.alloc ?_ _ | refine Fin.set ?_ _ _ _ af af)) af)
theorem xO (n:Int) (m:Nat) (X:Nat) (dn:Bool) (de:Int) (er:Bool) (w:World) (h0:0<=n) (h1:n<=9223372036854775807) (hd:decide (n<0)=false) (hm:(ws m).length<=100) (hl:(ws X).length<=8192) (e1:IntKind.u64.wrap n=n)
 (HO:Hid (∀ u,Calls Tryz.prog 55 #[.int .u64 n] u fun r w'=>∃ v,r=.returned v/\Nt u.heap.size w' v m/\Below u.heap.size u w'))
 (HM:Hid (∀ (u:World) (a:Option Addr) (c:Nat),Below w.heap.size w u->Arg u a (ws m).length c (ws m)->Calls Tryz.prog 54 #[.bool false,.slice a (ws m).length c,.int .i64 0] u fun r w'=>(∃ v,r=.returned (.tuple #[.agg #[.bool dn,v,.int .i64 de],.bool er])/\Nt u.heap.size w' v X)/\Below u.heap.size u w')) :
 Calls Tryz.prog 22 #[.int .i64 n] w fun r w'=>(∃ v,r=.returned (.agg #[.bool dn,v,.int .i64 de])/\Nt w.heap.size w' v X)/\Below w.heap.size w w':=by
 go_enter Tryz.func22,Tryz.ntmps22;go_wp2_with fail
 try rw [e1]
 refine (fP (HO.o _)) ?_;rintro r w1 ⟨v,rfl,hN,hb⟩;obtain ⟨a1,c1,rfl,A1⟩:=hN.arg af;have hz:w.heap.size<w1.heap.size:=by have:=hb.size;simp at this;omega
 have hbw:Below w.heap.size w w1:=(ae w (.cells #[.bool false,.slice none 0 0,.int .i64 0] 25)).trans (hb.mono aO);have S1:=ak hbw;have H2:=hid (HM.o w1 a1 c1 hbw A1);obtain ⟨hc,hf⟩:=aR hb;clear hN hb A1 hbw;go_wp2_with fail;refine H2.o.mono ?_;rintro r w2 ⟨⟨v,rfl,hN⟩,hb2⟩;obtain ⟨a2,c2,rfl,_⟩:=hN.arg af;obtain ⟨hc2,hf2⟩:=aR hb2;have hz2:w.heap.size<w2.heap.size:=by have:=hb2.size;omega
 have HF:=ak (show Fin w.heap.size w1.heap.size w w2 (.slice a2 (ws X).length c2) X from ⟨hN,S1.o.trans (hb2.mono af),af⟩);clear hN hb2;go_wp2;exact aF (v:=.agg #[.bool dn,.slice a2 (ws X).length c2,.int .i64 de]) (by simp [results,Tryz.results22,go_sem,hc,hc2,hz,hz2]) rfl (Fin.MS (m:=w1.heap.size) (by repeat (first | exact HF.o | refine Fin.alloc ?_ _ | refine Fin.set ?_ _ _ _ af af)) af)
theorem wu (n:Int) (h0:-9223372036854775808<=n) (h1:n<=9223372036854775807):(ws n.natAbs).length<=100:=by
 have:=(aP n.natAbs 2).2 (by rw [show pw 2=18446744073709551616 from rfl];omega);omega
theorem QS (n:Int) (w:World) (hT:dJ w) (h0:-9223372036854775808<=n) (h1:n<=9223372036854775807) :
 Calls Tryz.prog 48 #[.int .i64 n] w fun r w'=>bC w.heap.size w' r (mkS (decide (n<0)) n.natAbs 0)/\Below w.heap.size w w':=by
 have hl:=wu n h0 h1
 have HM:∀ (s:Bool) (u:World) (a:Option Addr) (c:Nat),Below w.heap.size w u->Arg u a (ws n.natAbs).length c (ws n.natAbs)->Calls Tryz.prog 90 #[.bool s,.slice a (ws n.natAbs).length c,.int .i64 0] u fun r w'=>cK u.heap.size w' r (mkS s n.natAbs 0)/\Below u.heap.size u w':=by
  intro s u a c hu hA;have:=gU hA (hT.belows hu) s 0 af af;rw [aj] at this;exact this
 by_cases hn:n<0
 · rw [decide_eq_true hn];exact zR n n.natAbs _ _ _ _ w hn h0 hl (aM _ _ _) (by simp [IntKind.wrap,IntKind.bits,IntKind.signed];omega) (hid fun u=>qf _ u af) (hid (HM true))
 · rw [decide_eq_false hn];have e:((n.natAbs:Nat):Int)=n:=af
   exact zS n n.natAbs _ _ _ _ w af h1 (decide_eq_false hn) hl (aM _ _ _) (by simp [IntKind.wrap,IntKind.bits,IntKind.signed];omega) (hid fun u=>by have:=qf n.natAbs u af;rw [e] at this;exact this) (hid (HM false))
theorem MW (n:Int) (w:World) (h0:-9223372036854775808<=n) (h1:n<=9223372036854775807) :
 Calls Tryz.prog 22 #[.int .i64 n] w fun r w'=>bC w.heap.size w' r (mkS (decide (n<0)) n.natAbs 0)/\Below w.heap.size w w':=by
 have hl:=wu n h0 h1
 have HM:∀ (s:Bool) (u:World) (a:Option Addr) (c:Nat),Below w.heap.size w u->Arg u a (ws n.natAbs).length c (ws n.natAbs)->Calls Tryz.prog 54 #[.bool s,.slice a (ws n.natAbs).length c,.int .i64 0] u fun r w'=>ML u.heap.size w' r (mkS s n.natAbs 0)/\Below u.heap.size u w':=by
  intro s u a c hu hA;have:=sO hA af s 0 af af;rw [aj] at this;exact this
 by_cases hn:n<0
 · rw [decide_eq_true hn];exact xN n n.natAbs _ _ _ _ w hn h0 hl (aM _ _ _) (by simp [IntKind.wrap,IntKind.bits,IntKind.signed];omega) (hid fun u=>vC _ u af) (hid (HM true))
 · rw [decide_eq_false hn];have e:((n.natAbs:Nat):Int)=n:=af
   exact xO n n.natAbs _ _ _ _ w af h1 (decide_eq_false hn) hl (aM _ _ _) (by simp [IntKind.wrap,IntKind.bits,IntKind.signed];omega) (hid fun u=>by have:=vC n.natAbs u af;rw [e] at this;exact this) (hid (HM false))
theorem Nt.aU {lo:Nat}{w:World}{a:Option Addr}{n c X:Nat}(h:Nt lo w (.slice a n c) X) (hs:(ws X).length<=35184372088832):n=(ws X).length/\Arg w a (ws X).length c (ws X):=by
 obtain ⟨a',c',e,A⟩:=h.arg hs
 cases e
 exact ⟨rfl,A⟩
theorem len8 {X:Nat}(h:bl X<=262144):(ws X).length<=8192:=by rw [iB];omega
theorem lJ {X:Nat}(h:bl X<=262144):¬ LG X:=by rw [uk];omega
theorem mZ {X Y:Nat}(h:X<=Y):bl X<=bl Y:=by
 by_cases h0:bl X=0
 · omega
 · have h1:=(uj X (bl X-1)).1 af;have:=(uj Y (bl X-1)).2 (dP h1 h);omega
theorem Xq {X k:Nat}(h:X<2^k):bl X<=k:=by
 by_cases h0:k<bl X
 · have:=(uj X k).1 h0;omega
 · omega
theorem wy {X:Nat}(h:bl X<=262144):aW X (-1)=(X/2,0):=by
 unfold aW;rw [if_neg (lJ h)]
 by_cases h0:X=0
 · rw [if_pos h0,h0]
 · rw [if_neg h0,if_pos af];rfl
theorem GM {X k:Nat}(h:bl X<=k+1):X/2<2^k:=by
 have h1:=il X;have h2:2^bl X<=2^(k+1):=fB af h;rw [gY] at h2;omega
theorem Jo {P Q:Nat}(hP:P%2=1) (hQ:Q%2=1) (bP:bl P<=262144) (bQ:bl Q<=262144):bl (P/2+Q/2)<=262144/\bl (P/2+Q/2+1)<=262144/\2*(P/2+Q/2+1)=P+Q:=by
 have h1:=GM (X:=P) (k:=262143) bP;have h2:=GM (X:=Q) (k:=262143) bQ;have key:∀ k:Nat,P/2<2^k->Q/2<2^k->P/2+Q/2+1<2^(k+1):=by intro k;rw [gY];omega
 have h3:=key _ h1 h2;have h4:=Xq h3;exact ⟨dP (mZ af) h4,h4,af⟩
theorem Cc {w:World}{a b:Option Addr}{l c k d:Nat}{xs ys:List Nat}(h1:Arg w a l c xs) (h2:Arg w b k d ys) (hT:dJ w) (neg:Bool) (e:Int) (he0:-1048576<=e) (he1:e<=1048576)
 (P Q:Nat) (hP:val xs=P) (hQ:val ys=Q) (oP:P%2=1) (oQ:Q%2=1) (bP:bl P<=262144) (bQ:bl Q<=262144) :
 Calls Tryz.prog 171 #[.bool neg,.slice a l c,.slice b k d,.int .i64 e] w fun r w'=>cK w.heap.size w' r (mkS neg (P+Q) e)/\Below w.heap.size w w':=by
 obtain ⟨b3,b4,e5⟩:=Jo oP oQ bP bQ;rw [<-e5,Ey];obtain ⟨P2,hP2⟩:∃ x,P/2=x:=⟨_,rfl⟩;obtain ⟨Q2,PT⟩:∃ x,Q/2=x:=⟨_,rfl⟩;have l1:(ws P2).length<=8192:=by rw [<-hP2];exact len8 (dP (mZ (nE _ _)) bP)
 have l2:(ws Q2).length<=8192:=by rw [<-PT];exact len8 (dP (mZ (nE _ _)) bQ)
 have s1:=wy bP;have s2:=wy bQ;rw [hP2] at s1 b3 b4 |-;rw [PT] at s2 b3 b4 |-;obtain ⟨V,hV⟩:∃ x,P2+Q2=x:=⟨_,rfl⟩;rw [hV] at b3 b4 |-;obtain ⟨H1,hH1⟩:∃ x,V+1=x:=⟨_,rfl⟩;rw [hH1] at b4 |-;have l3:(ws V).length<=8192:=len8 b3;have l4:(ws H1).length<=8192:=len8 b4;have l5:(ws 1).length<=8192:=by rw [sF];simp
 have HX:=(UH h1 h2 hT hP hQ s1 s2 hV hH1 b3 b4);clear h1 h2 hT hP hQ oP oQ bP bQ e5 hP2 PT s1 s2 hV hH1 b3 b4;unfold cK;have hl:=aM neg H1 (e+1);obtain ⟨o,ho⟩:∃ o,mkS neg H1 (e+1)=o:=⟨_,rfl⟩;rw [ho] at hl |-;obtain ⟨dn,hdn⟩:∃ d,dN o=d:=⟨_,rfl⟩;obtain ⟨X,hX⟩:∃ d,dX o=d:=⟨_,rfl⟩;obtain ⟨de,hde⟩:∃ d,dE o=d:=⟨_,rfl⟩;obtain ⟨er,her⟩:∃ d,l9 o=d:=⟨_,rfl⟩;rw [hdn,hX,hde,her];rw [hX] at hl;have HS:=(eu ho hdn hX hde her);clear ho hdn hX hde her;have S0:=ak (show Below (w.alloc (.cells #[.bool false,.slice none 0 0,.int .i64 0] 25)).heap.size (w.alloc (.cells #[.bool false,.slice none 0 0,.int .i64 0] 25)) (w.alloc (.cells #[.bool false,.slice none 0 0,.int .i64 0] 25)) from aD _ _);have B0:=ak (show Below w.heap.size w (w.alloc (.cells #[.bool false,.slice none 0 0,.int .i64 0] 25)) from ae w _);go_enter Tryz.func171,Tryz.ntmps171;obtain C:=S0.o;have BW:Below w.heap.size w (w.alloc (.cells #[.bool false,.slice none 0 0,.int .i64 0] 25)):=B0.o.trans (C.mono aO);have H:=hid (fA (V:=P2) (-1) (HX.o.1.below BW) (by rw [HX.o.r3.1];exact HX.o.r5.1) af af);clear C BW;go_wp2_with fail;refine H.o.mono ?_;rintro r u1 ⟨v,rfl,hN,hb⟩;obtain ⟨a1,c1,rfl,_⟩:=hN.arg af;obtain C:=S0.o;have hz1:=C.size;have S1:=(aJ (C.trans (hb.mono C.size)) (hN.mono C.size));clear C hb H hN;obtain ⟨C,N1⟩:=S1.o;have BW:Below w.heap.size w u1:=B0.o.trans (C.mono aO);have H:=hid (fA (V:=Q2) (-1) (HX.o.2.1.below BW) (by rw [HX.o.r4.1];exact HX.o.r6.1) af af);clear C BW N1;go_wp2_with fail;refine H.o.mono ?_;rintro r u2 ⟨v,rfl,hN,hb⟩;obtain ⟨a2,c2,rfl,_⟩:=hN.arg af;obtain ⟨C,N1⟩:=S1.o;have hz2:=C.size;have S2:=(aZ (C.trans (hb.mono C.size)) (N1.below hb) (hN.mono C.size));clear C hb H hN N1;obtain ⟨C,N1,N2⟩:=S2.o;have BW:Below w.heap.size w u2:=B0.o.trans (C.mono aO);have H:=hid (vo (V:=V) (N1.aU af).2 (N2.aU af).2 (by rw [aj,aj];exact vz (lJ HX.o.2.2.2.2.2.2.2.2.2.1) HX.o.r7.1));clear C BW N1 N2;go_wp2_with fail;refine H.o.mono ?_;rintro r u3 ⟨v,rfl,hN,hb⟩;obtain ⟨a3,c3,rfl,_⟩:=hN.arg af;obtain ⟨C,N1,N2⟩:=S2.o;have hz3:=C.size;have S3:=(gK (C.trans (hb.mono C.size)) (N1.below hb) (N2.below hb) (hN.mono C.size));clear C hb H hN N1 N2;obtain ⟨C,N1,N2,N3⟩:=S3.o;have BW:Below w.heap.size w u3:=B0.o.trans (C.mono aO);have H:=hid (qf 1 u3 af);clear C BW N1 N2 N3;go_wp2_with fail;refine H.o.mono ?_;rintro r u4 ⟨v,rfl,hN,hb⟩;obtain ⟨a4,c4,rfl,_⟩:=hN.arg af;obtain ⟨C,N1,N2,N3⟩:=S3.o;have Jk:=C.size;have S4:=(eu (C.trans (hb.mono C.size)) (N1.below hb) (N2.below hb) (N3.below hb) (hN.mono C.size));clear C hb H hN N1 N2 N3;obtain ⟨C,N1,N2,N3,N4⟩:=S4.o;have BW:Below w.heap.size w u4:=B0.o.trans (C.mono aO);have H:=hid (vo (V:=H1) (N3.aU af).2 (N4.aU af).2 (by rw [aj,aj];exact vz (lJ HX.o.2.2.2.2.2.2.2.2.2.2) HX.o.r8.1));clear C BW N1 N2 N3 N4;go_wp2_with fail;refine H.o.mono ?_;rintro r u5 ⟨v,rfl,hN,hb⟩;obtain ⟨a5,c5,rfl,_⟩:=hN.arg af;obtain ⟨C,N1,N2,N3,N4⟩:=S4.o;have Jl:=C.size;have S5:=(iI (C.trans (hb.mono C.size)) (N1.below hb) (N2.below hb) (N3.below hb) (N4.below hb) (hN.mono C.size));clear C hb H hN N1 N2 N3 N4;obtain ⟨C,N1,N2,N3,N4,N5⟩:=S5.o;have BW:Below w.heap.size w u5:=B0.o.trans (C.mono aO);have H0:=show Calls Tryz.prog 90 #[.bool neg,.slice a5 (ws H1).length c5,.int .i64 (e+1)] u5 fun r w'=>cK u5.heap.size w' r (mkS neg H1 (e+1))/\Below u5.heap.size u5 w' from by have:=gU (N5.aU af).2 (HX.o.r2.1.belows BW) neg (e+1) af af;rw [aj] at this;exact this
 unfold cK at H0;rw [HS.o.1,HS.o.2.1,HS.o.r2.1,HS.o.r3.1,HS.o.r4] at H0;have H:=hid H0;clear C BW H0 N1 N2 N3 N4 N5;go_wp2_with fail;refine H.o.mono ?_;rintro r uu ⟨⟨v,rfl,hN⟩,hb⟩;obtain ⟨aa,cc,rfl,_⟩:=hN.arg af;obtain ⟨C,N1,N2,N3,N4,N5⟩:=S5.o;have hbb:=C.trans (hb.mono C.size);obtain ⟨hc,hf⟩:=aR hbb;have HF:=ak (Fin.of 1 B0.o aO (hN.mono C.size) hbb);have hz:w.heap.size<uu.heap.size:=by have:=hbb.size;simp at this;omega
 clear C hb hN hbb H N1 N2 N3 N4 N5;go_wp2;exact aF (v:=.tuple #[.agg #[.bool dn,.slice aa (ws X).length cc,.int .i64 de],.int .i64 er]) (by simp [results,Tryz.results171,go_sem,hc]) rfl (Fin.jT (m:=w.heap.size+1) (by repeat (first | exact HF.o | refine Fin.alloc ?_ _ | refine Fin.set ?_ _ _ _ af af)) af)
theorem QT {w:World}{a b:Option Addr}{l c k d:Nat}{xs ys:List Nat}(h1:Arg w a l c xs) (h2:Arg w b k d ys) (hT:dJ w) (neg:Bool) (e:Int) (he0:-1048576<=e) (he1:e<=1048576)
 (P Q:Nat) (hP:val xs=P) (hQ:val ys=Q) (oP:P%2=1) (oQ:Q%2=1) (bP:bl P<=262144) (bQ:bl Q<=262144) :
 Calls Tryz.prog 138 #[.bool neg,.slice a l c,.slice b k d,.int .i64 e] w fun r w'=>cK w.heap.size w' r (mkS neg (P+Q) e)/\Below w.heap.size w w':=by
 have HX:=(P7 h1 h2 hT hP hQ oP oQ bP bQ);clear h1 h2 hT hP hQ oP oQ bP bQ;unfold cK;have hl:=aM neg (P+Q) e;obtain ⟨o,ho⟩:∃ o,mkS neg (P+Q) e=o:=⟨_,rfl⟩;rw [ho] at hl |-;obtain ⟨dn,hdn⟩:∃ d,dN o=d:=⟨_,rfl⟩;obtain ⟨X,hX⟩:∃ d,dX o=d:=⟨_,rfl⟩;obtain ⟨de,hde⟩:∃ d,dE o=d:=⟨_,rfl⟩;obtain ⟨er,her⟩:∃ d,l9 o=d:=⟨_,rfl⟩;rw [hdn,hX,hde,her];rw [hX] at hl;have HS:=(eu ho hdn hX hde her);clear ho hdn hX hde her;have S0:=ak (show Below (w.alloc (.cells #[.bool false,.slice none 0 0,.int .i64 0] 25)).heap.size (w.alloc (.cells #[.bool false,.slice none 0 0,.int .i64 0] 25)) (w.alloc (.cells #[.bool false,.slice none 0 0,.int .i64 0] 25)) from aD _ _);have B0:=ak (show Below w.heap.size w (w.alloc (.cells #[.bool false,.slice none 0 0,.int .i64 0] 25)) from ae w _);go_enter Tryz.func138,Tryz.ntmps138;obtain C:=S0.o;have BW:Below w.heap.size w (w.alloc (.cells #[.bool false,.slice none 0 0,.int .i64 0] 25)):=B0.o.trans (C.mono aO);have H:=hid (show Calls Tryz.prog 160 #[.slice a l c,.int .i64 0] (w.alloc (.cells #[.bool false,.slice none 0 0,.int .i64 0] 25)) fun r w'=>r=.returned (.bool true)/\w'=(w.alloc (.cells #[.bool false,.slice none 0 0,.int .i64 0] 25)) from by have A:=HX.o.1.below BW;have:=qU xs a l c _ 0 _ A.len A.wf A.rd af;rw [fC,tT,HX.o.r3.1,HX.o.r5.1] at this;exact this);clear C BW;go_wp2_with fail;refine H.o.mono ?_;rintro r ww ⟨rfl,hw⟩;rw [hw];clear H hw ww;obtain C:=S0.o;have BW:Below w.heap.size w (w.alloc (.cells #[.bool false,.slice none 0 0,.int .i64 0] 25)):=B0.o.trans (C.mono aO);have H0:=Cc (HX.o.1.below BW) (HX.o.2.1.below BW) (HX.o.r2.1.belows BW) neg e he0 he1 P Q HX.o.r3.1 HX.o.r4.1 HX.o.r5.1 HX.o.r6.1 HX.o.r7.1 HX.o.r8;unfold cK at H0;rw [HS.o.1,HS.o.2.1,HS.o.r2.1,HS.o.r3.1,HS.o.r4] at H0;have H:=hid H0;clear C BW H0;go_wp2_with fail;refine H.o.mono ?_;rintro r uu ⟨⟨v,rfl,hN⟩,hb⟩;obtain ⟨aa,cc,rfl,_⟩:=hN.arg af;obtain C:=S0.o;have hbb:=C.trans (hb.mono C.size);obtain ⟨hc,hf⟩:=aR hbb;have HF:=ak (Fin.of 1 B0.o aO (hN.mono C.size) hbb);have hz:w.heap.size<uu.heap.size:=by have:=hbb.size;simp at this;omega
 clear C hb hN hbb H;go_wp2;exact aF (v:=.tuple #[.agg #[.bool dn,.slice aa (ws X).length cc,.int .i64 de],.int .i64 er]) (by simp [results,Tryz.results138,go_sem,hc]) rfl (Fin.jT (m:=w.heap.size+1) (by repeat (first | exact HF.o | refine Fin.alloc ?_ _ | refine Fin.set ?_ _ _ _ af af)) af)
theorem M5 {w:World}{a b:Option Addr}{l c k d:Nat}{xs ys:List Nat}(h1:Arg w a l c xs) (h2:Arg w b k d ys) (hT:dJ w) (neg:Bool) (e:Int) (he0:-1048576<=e) (he1:e<=1048576)
 (P Q:Nat) (hP:val xs=P) (hQ:val ys=Q) (oP:P%2=0) (hs:bl (P+Q)<=262144) :
 Calls Tryz.prog 138 #[.bool neg,.slice a l c,.slice b k d,.int .i64 e] w fun r w'=>cK w.heap.size w' r (mkS neg (P+Q) e)/\Below w.heap.size w w':=by
 obtain ⟨V,hV⟩:∃ x,P+Q=x:=⟨_,rfl⟩;rw [hV] at hs |-;have l1:=len8 hs;have HX:=(rT h1 h2 hT hP hQ oP hs hV);clear h1 h2 hT hP hQ oP hs hV;unfold cK;have hl:=aM neg V e;obtain ⟨o,ho⟩:∃ o,mkS neg V e=o:=⟨_,rfl⟩;rw [ho] at hl |-;obtain ⟨dn,hdn⟩:∃ d,dN o=d:=⟨_,rfl⟩;obtain ⟨X,hX⟩:∃ d,dX o=d:=⟨_,rfl⟩;obtain ⟨de,hde⟩:∃ d,dE o=d:=⟨_,rfl⟩;obtain ⟨er,her⟩:∃ d,l9 o=d:=⟨_,rfl⟩;rw [hdn,hX,hde,her];rw [hX] at hl;have HS:=(eu ho hdn hX hde her);clear ho hdn hX hde her;have S0:=ak (show Below (w.alloc (.cells #[.bool false,.slice none 0 0,.int .i64 0] 25)).heap.size (w.alloc (.cells #[.bool false,.slice none 0 0,.int .i64 0] 25)) (w.alloc (.cells #[.bool false,.slice none 0 0,.int .i64 0] 25)) from aD _ _);have B0:=ak (show Below w.heap.size w (w.alloc (.cells #[.bool false,.slice none 0 0,.int .i64 0] 25)) from ae w _);go_enter Tryz.func138,Tryz.ntmps138;obtain C:=S0.o;have BW:Below w.heap.size w (w.alloc (.cells #[.bool false,.slice none 0 0,.int .i64 0] 25)):=B0.o.trans (C.mono aO);have H:=hid (show Calls Tryz.prog 160 #[.slice a l c,.int .i64 0] (w.alloc (.cells #[.bool false,.slice none 0 0,.int .i64 0] 25)) fun r w'=>r=.returned (.bool false)/\w'=(w.alloc (.cells #[.bool false,.slice none 0 0,.int .i64 0] 25)) from by have A:=HX.o.1.below BW;have:=qU xs a l c _ 0 _ A.len A.wf A.rd af;rw [fC,tT,HX.o.r3.1,HX.o.r5.1] at this;exact this);clear C BW;go_wp2_with fail;refine H.o.mono ?_;rintro r ww ⟨rfl,hw⟩;rw [hw];clear H hw ww;obtain C:=S0.o;have BW:Below w.heap.size w (w.alloc (.cells #[.bool false,.slice none 0 0,.int .i64 0] 25)):=B0.o.trans (C.mono aO);have H:=hid (vo (V:=V) (HX.o.1.below BW) (HX.o.2.1.below BW) (by rw [HX.o.r3.1,HX.o.r4.1];exact vz (lJ HX.o.r6.1) HX.o.r7));clear C BW;go_wp2_with fail;refine H.o.mono ?_;rintro r u1 ⟨v,rfl,hN,hb⟩;obtain ⟨a1,c1,rfl,_⟩:=hN.arg af;obtain C:=S0.o;have hz1:=C.size;have S1:=(aJ (C.trans (hb.mono C.size)) (hN.mono C.size));clear C hb H hN;obtain ⟨C,N1⟩:=S1.o;have BW:Below w.heap.size w u1:=B0.o.trans (C.mono aO);have H0:=show Calls Tryz.prog 90 #[.bool neg,.slice a1 (ws V).length c1,.int .i64 e] u1 fun r w'=>cK u1.heap.size w' r (mkS neg V e)/\Below u1.heap.size u1 w' from by have:=gU (N1.aU af).2 (HX.o.r2.1.belows BW) neg e af af;rw [aj] at this;exact this
 unfold cK at H0;rw [HS.o.1,HS.o.2.1,HS.o.r2.1,HS.o.r3.1,HS.o.r4] at H0;have H:=hid H0;clear C BW H0 N1;go_wp2_with fail;refine H.o.mono ?_;rintro r uu ⟨⟨v,rfl,hN⟩,hb⟩;obtain ⟨aa,cc,rfl,_⟩:=hN.arg af;obtain ⟨C,N1⟩:=S1.o;have hbb:=C.trans (hb.mono C.size);obtain ⟨hc,hf⟩:=aR hbb;have HF:=ak (Fin.of 1 B0.o aO (hN.mono C.size) hbb);have hz:w.heap.size<uu.heap.size:=by have:=hbb.size;simp at this;omega
 clear C hb hN hbb H N1;go_wp2;exact aF (v:=.tuple #[.agg #[.bool dn,.slice aa (ws X).length cc,.int .i64 de],.int .i64 er]) (by simp [results,Tryz.results138,go_sem,hc]) rfl (Fin.jT (m:=w.heap.size+1) (by repeat (first | exact HF.o | refine Fin.alloc ?_ _ | refine Fin.set ?_ _ _ _ af af)) af)
theorem Jp {w:World}{a b:Option Addr}{n c m d:Nat}{xs ys:List Nat}(h1:Arg w a n c xs) (h2:Arg w b m d ys) (h:LG (val xs+val ys)) :
 Calls Tryz.prog 141 #[.slice a n c,.slice b m d] w fun r w'=>∃ v,r=.returned (.tuple #[v,.int .i64 2])/\Nt w.heap.size w' v 0/\Below w.heap.size w w' :=
 (Gw xs ys a b n c m d w.heap.size w h1.len h2.len h1.cap h2.cap (by have:=h1.big;omega) (by have:=h2.big;omega) h1.wf h2.wf h1.rd h2.rd (aC _)).mono fun r w' ⟨⟨v,h3,h4⟩,h5⟩=>by
  have e:uH (val xs) (val ys)=(0,2):=by unfold uH;rw [if_pos h]
  rw [e] at h3 h4;exact ⟨v,h3,h4,h5⟩
theorem M6 {w:World}{a b:Option Addr}{l c k d:Nat}{xs ys:List Nat}(h1:Arg w a l c xs) (h2:Arg w b k d ys) (hT:dJ w) (neg:Bool) (e:Int) (he0:-1048576<=e) (he1:e<=1048576)
 (P Q:Nat) (hP:val xs=P) (hQ:val ys=Q) (oP:P%2=0) (hs:262144<bl (P+Q)) :
 Calls Tryz.prog 138 #[.bool neg,.slice a l c,.slice b k d,.int .i64 e] w fun r w'=>cK w.heap.size w' r none/\Below w.heap.size w w':=by
 have l0:(ws 0).length=0:=by rw [bI];rfl
 have HX:=(l7 h1 h2 hT hP hQ oP hs);clear h1 h2 hT hP hQ oP hs;have S0:=ak (show Below (w.alloc (.cells #[.bool false,.slice none 0 0,.int .i64 0] 25)).heap.size (w.alloc (.cells #[.bool false,.slice none 0 0,.int .i64 0] 25)) (w.alloc (.cells #[.bool false,.slice none 0 0,.int .i64 0] 25)) from aD _ _);have B0:=ak (show Below w.heap.size w (w.alloc (.cells #[.bool false,.slice none 0 0,.int .i64 0] 25)) from ae w _);go_enter Tryz.func138,Tryz.ntmps138;obtain C:=S0.o;have BW:Below w.heap.size w (w.alloc (.cells #[.bool false,.slice none 0 0,.int .i64 0] 25)):=B0.o.trans (C.mono aO);have H:=hid (show Calls Tryz.prog 160 #[.slice a l c,.int .i64 0] (w.alloc (.cells #[.bool false,.slice none 0 0,.int .i64 0] 25)) fun r w'=>r=.returned (.bool false)/\w'=(w.alloc (.cells #[.bool false,.slice none 0 0,.int .i64 0] 25)) from by have A:=HX.o.1.below BW;have:=qU xs a l c _ 0 _ A.len A.wf A.rd af;rw [fC,tT,HX.o.r3.1,HX.o.r5.1] at this;exact this);clear C BW;go_wp2_with fail;refine H.o.mono ?_;rintro r ww ⟨rfl,hw⟩;rw [hw];clear H hw ww;obtain C:=S0.o;have BW:Below w.heap.size w (w.alloc (.cells #[.bool false,.slice none 0 0,.int .i64 0] 25)):=B0.o.trans (C.mono aO);have H:=hid (Jp (HX.o.1.below BW) (HX.o.2.1.below BW) (by rw [HX.o.r3.1,HX.o.r4.1,uk];exact HX.o.r6));clear C BW;go_wp2_with fail;refine H.o.mono ?_;rintro r u1 ⟨v,rfl,hN,hb⟩;obtain ⟨a1,c1,rfl,_⟩:=hN.arg af;obtain C:=S0.o;have hz1:=C.size;have S1:=(aJ (C.trans (hb.mono C.size)) (hN.mono C.size));clear C hb H hN;obtain ⟨C,N1⟩:=S1.o;obtain ⟨hc,hf⟩:=aR C;have HF:=ak (show Fin w.heap.size (w.heap.size+1) w u1 (.slice none 0 0) 0 from ⟨Nt.nil _ _,B0.o.trans (C.mono aO),by have:=C.size;simp at this;omega⟩);have hz:w.heap.size<u1.heap.size:=by have:=C.size;simp at this;omega
 clear C N1;go_wp2;exact aF (v:=.tuple #[.agg #[.bool false,.slice none 0 0,.int .i64 0],.int .i64 2]) (by simp [results,Tryz.results138,go_sem,hc]) rfl (Fin.jT (m:=w.heap.size+1) (by repeat (first | exact HF.o | refine Fin.alloc ?_ _ | refine Fin.set ?_ _ _ _ af af)) af)
theorem QU {w:World}{a b:Option Addr}{l c k d:Nat}{xs ys:List Nat}(h1:Arg w a l c xs) (h2:Arg w b k d ys) (hT:dJ w) (neg:Bool) (e:Int) (he0:-1048576<=e) (he1:e<=1048576)
 (P Q:Nat) (hP:val xs=P) (hQ:val ys=Q) (oQ:Q%2=1) (bP:bl P<=262144) (bQ:bl Q<=262144) :
 Calls Tryz.prog 138 #[.bool neg,.slice a l c,.slice b k d,.int .i64 e] w fun r w'=>cK w.heap.size w' r (mkS neg (P+Q) e)/\Below w.heap.size w w':=by
 rcases DV P with oP|oP
 · by_cases hs:bl (P+Q)<=262144
   · exact M5 h1 h2 hT neg e he0 he1 P Q hP hQ oP hs
   · have e1:mkS neg (P+Q) e=none:=by rw [GG _ _ _ af,if_pos (.inl af)]
     rw [e1];exact M6 h1 h2 hT neg e he0 he1 P Q hP hQ oP af
 · exact QT h1 h2 hT neg e he0 he1 P Q hP hQ oP oQ bP bQ
theorem M8 {w:World}{a b:Option Addr}{l c k d:Nat}{xs ys:List Nat}(h1:Arg w a l c xs) (h2:Arg w b k d ys) (hT:dJ w) (neg:Bool) (e:Int) (he0:-1048576<=e) (he1:e<=1048576)
 (P Q:Nat) (hP:val xs=P) (hQ:val ys=Q) (bP:bl P<=262144) (bQ:bl Q<=262144) (hlt:P<Q) :
 Calls Tryz.prog 139 #[.bool neg,.slice a l c,.slice b k d,.int .i64 e] w fun r w'=>cK w.heap.size w' r (mkS (!neg) (Q-P) e)/\Below w.heap.size w w':=by
 obtain ⟨z,hz0⟩:∃ z,aY P Q=z:=⟨_,rfl⟩;have hzz:z=-1:=by rw [<-hz0];exact mY hlt
 obtain ⟨V,hV⟩:∃ x,Q-P=x:=⟨_,rfl⟩;have bV:bl V<=262144:=by rw [<-hV];exact dP (mZ (yc _ _)) bQ
 rw [hV];have l1:=len8 bV;have hsub:V+P=Q:=af
 have HX:=(P7 h1 h2 hT hP hQ hz0 hsub bP bQ);subst hzz;clear h1 h2 hT hP hQ hz0 hsub bP bQ hlt hV bV;unfold cK;have hl:=aM (!neg) V e;obtain ⟨o,ho⟩:∃ o,mkS (!neg) V e=o:=⟨_,rfl⟩;rw [ho] at hl |-;obtain ⟨dn,hdn⟩:∃ d,dN o=d:=⟨_,rfl⟩;obtain ⟨X,hX⟩:∃ d,dX o=d:=⟨_,rfl⟩;obtain ⟨de,hde⟩:∃ d,dE o=d:=⟨_,rfl⟩;obtain ⟨er,her⟩:∃ d,l9 o=d:=⟨_,rfl⟩;rw [hdn,hX,hde,her];rw [hX] at hl;have HS:=(eu ho hdn hX hde her);clear ho hdn hX hde her;have S0:=ak (show Below (w.alloc (.cells #[.bool false,.slice none 0 0,.int .i64 0] 25)).heap.size (w.alloc (.cells #[.bool false,.slice none 0 0,.int .i64 0] 25)) (w.alloc (.cells #[.bool false,.slice none 0 0,.int .i64 0] 25)) from aD _ _);have B0:=ak (show Below w.heap.size w (w.alloc (.cells #[.bool false,.slice none 0 0,.int .i64 0] 25)) from ae w _);go_enter Tryz.func139,Tryz.ntmps139;obtain C:=S0.o;have BW:Below w.heap.size w (w.alloc (.cells #[.bool false,.slice none 0 0,.int .i64 0] 25)):=B0.o.trans (C.mono aO);have H:=hid (show Calls Tryz.prog 162 #[.slice a l c,.slice b k d] (w.alloc (.cells #[.bool false,.slice none 0 0,.int .i64 0] 25)) fun r w'=>r=.returned (.int .i64 (-1))/\Below (w.alloc (.cells #[.bool false,.slice none 0 0,.int .i64 0] 25)).heap.size (w.alloc (.cells #[.bool false,.slice none 0 0,.int .i64 0] 25)) w' from zJ (HX.o.1.below BW) (HX.o.2.1.below BW) (-1) (by rw [HX.o.r3.1,HX.o.r4.1];exact HX.o.r5.1));clear C BW;go_wp2_with fail;refine H.o.mono ?_;rintro r u1 ⟨rfl,hb⟩;obtain C:=S0.o;have hz1:=C.size;have S1:=ak (C.trans (hb.mono C.size));clear C hb H;obtain C:=S1.o;have BW:Below w.heap.size w u1:=B0.o.trans (C.mono aO);have H:=hid (vw (V:=V) (HX.o.2.1.below BW) (HX.o.1.below BW) (by rw [HX.o.r4.1,HX.o.r3.1];exact vB (lJ HX.o.r8) (lJ HX.o.r7.1) HX.o.r6.1));clear C BW;go_wp2_with fail;refine H.o.mono ?_;rintro r u2 ⟨v,rfl,hN,hb⟩;obtain ⟨a2,c2,rfl,_⟩:=hN.arg af;obtain C:=S1.o;have hz2:=C.size;have S2:=(aJ (C.trans (hb.mono C.size)) (hN.mono C.size));clear C hb H hN;obtain ⟨C,N2⟩:=S2.o;have BW:Below w.heap.size w u2:=B0.o.trans (C.mono aO);have H0:=show Calls Tryz.prog 90 #[.bool (!neg),.slice a2 (ws V).length c2,.int .i64 e] u2 fun r w'=>cK u2.heap.size w' r (mkS (!neg) V e)/\Below u2.heap.size u2 w' from by have:=gU (N2.aU af).2 (HX.o.r2.1.belows BW) (!neg) e af af;rw [aj] at this;exact this
 unfold cK at H0;rw [HS.o.1,HS.o.2.1,HS.o.r2.1,HS.o.r3.1,HS.o.r4] at H0;have H:=hid H0;clear C BW H0 N2;go_wp2_with fail;refine H.o.mono ?_;rintro r uu ⟨⟨v,rfl,hN⟩,hb⟩;obtain ⟨aa,cc,rfl,_⟩:=hN.arg af;obtain ⟨C,N2⟩:=S2.o;have hbb:=C.trans (hb.mono C.size);obtain ⟨hc,hf⟩:=aR hbb;have HF:=ak (Fin.of 1 B0.o aO (hN.mono C.size) hbb);have hz:w.heap.size<uu.heap.size:=by have:=hbb.size;simp at this;omega
 clear C hb hN hbb H N2;go_wp2;exact aF (v:=.tuple #[.agg #[.bool dn,.slice aa (ws X).length cc,.int .i64 de],.int .i64 er]) (by simp [results,Tryz.results139,go_sem,hc]) rfl (Fin.jT (m:=w.heap.size+1) (by repeat (first | exact HF.o | refine Fin.alloc ?_ _ | refine Fin.set ?_ _ _ _ af af)) af)
theorem Jq {w:World}{a b:Option Addr}{l c k d:Nat}{xs ys:List Nat}(h1:Arg w a l c xs) (h2:Arg w b k d ys) (hT:dJ w) (neg:Bool) (e:Int) (he0:-1048576<=e) (he1:e<=1048576)
 (P Q:Nat) (hP:val xs=P) (hQ:val ys=Q) (bP:bl P<=262144) (bQ:bl Q<=262144) (hlt:Q<=P) :
 Calls Tryz.prog 139 #[.bool neg,.slice a l c,.slice b k d,.int .i64 e] w fun r w'=>cK w.heap.size w' r (mkS neg (P-Q) e)/\Below w.heap.size w w':=by
 obtain ⟨z,hz0⟩:∃ z,aY P Q=z:=⟨_,rfl⟩;have hzz:0<=z:=by rw [<-hz0];exact GD hlt
 obtain ⟨V,hV⟩:∃ x,P-Q=x:=⟨_,rfl⟩;have bV:bl V<=262144:=by rw [<-hV];exact dP (mZ (yc _ _)) bP
 rw [hV];have l1:=len8 bV;have hsub:V+Q=P:=af
 have HX:=(P7 h1 h2 hT hP hQ hz0 hsub bP bQ);have TW:decide (z<0)=false:=decide_eq_false af;clear h1 h2 hT hP hQ hz0 hsub bP bQ hlt hV bV;unfold cK;have hl:=aM neg V e;obtain ⟨o,ho⟩:∃ o,mkS neg V e=o:=⟨_,rfl⟩;rw [ho] at hl |-;obtain ⟨dn,hdn⟩:∃ d,dN o=d:=⟨_,rfl⟩;obtain ⟨X,hX⟩:∃ d,dX o=d:=⟨_,rfl⟩;obtain ⟨de,hde⟩:∃ d,dE o=d:=⟨_,rfl⟩;obtain ⟨er,her⟩:∃ d,l9 o=d:=⟨_,rfl⟩;rw [hdn,hX,hde,her];rw [hX] at hl;have HS:=(eu ho hdn hX hde her);clear ho hdn hX hde her;have S0:=ak (show Below (w.alloc (.cells #[.bool false,.slice none 0 0,.int .i64 0] 25)).heap.size (w.alloc (.cells #[.bool false,.slice none 0 0,.int .i64 0] 25)) (w.alloc (.cells #[.bool false,.slice none 0 0,.int .i64 0] 25)) from aD _ _);have B0:=ak (show Below w.heap.size w (w.alloc (.cells #[.bool false,.slice none 0 0,.int .i64 0] 25)) from ae w _);go_enter Tryz.func139,Tryz.ntmps139;obtain C:=S0.o;have BW:Below w.heap.size w (w.alloc (.cells #[.bool false,.slice none 0 0,.int .i64 0] 25)):=B0.o.trans (C.mono aO);have H:=hid (show Calls Tryz.prog 162 #[.slice a l c,.slice b k d] (w.alloc (.cells #[.bool false,.slice none 0 0,.int .i64 0] 25)) fun r w'=>r=.returned (.int .i64 z)/\Below (w.alloc (.cells #[.bool false,.slice none 0 0,.int .i64 0] 25)).heap.size (w.alloc (.cells #[.bool false,.slice none 0 0,.int .i64 0] 25)) w' from zJ (HX.o.1.below BW) (HX.o.2.1.below BW) z (by rw [HX.o.r3.1,HX.o.r4.1];exact HX.o.r5.1));clear C BW;go_wp2_with fail;refine H.o.mono ?_;rintro r u1 ⟨rfl,hb⟩;obtain C:=S0.o;have hz1:=C.size;have S1:=ak (C.trans (hb.mono C.size));clear C hb H;obtain C:=S1.o;have BW:Below w.heap.size w u1:=B0.o.trans (C.mono aO);have H:=hid (vw (V:=V) (HX.o.1.below BW) (HX.o.2.1.below BW) (by rw [HX.o.r3.1,HX.o.r4.1];exact vB (lJ HX.o.r7.1) (lJ HX.o.r8) HX.o.r6.1));clear C BW;go_wp2_with fail;refine H.o.mono ?_;rintro r u2 ⟨v,rfl,hN,hb⟩;obtain ⟨a2,c2,rfl,_⟩:=hN.arg af;obtain C:=S1.o;have hz2:=C.size;have S2:=(aJ (C.trans (hb.mono C.size)) (hN.mono C.size));clear C hb H hN;obtain ⟨C,N2⟩:=S2.o;have BW:Below w.heap.size w u2:=B0.o.trans (C.mono aO);have H0:=show Calls Tryz.prog 90 #[.bool neg,.slice a2 (ws V).length c2,.int .i64 e] u2 fun r w'=>cK u2.heap.size w' r (mkS neg V e)/\Below u2.heap.size u2 w' from by have:=gU (N2.aU af).2 (HX.o.r2.1.belows BW) neg e af af;rw [aj] at this;exact this
 unfold cK at H0;rw [HS.o.1,HS.o.2.1,HS.o.r2.1,HS.o.r3.1,HS.o.r4] at H0;have H:=hid H0;clear C BW H0 N2;go_wp2_with fail;refine H.o.mono ?_;rintro r uu ⟨⟨v,rfl,hN⟩,hb⟩;obtain ⟨aa,cc,rfl,_⟩:=hN.arg af;obtain ⟨C,N2⟩:=S2.o;have hbb:=C.trans (hb.mono C.size);obtain ⟨hc,hf⟩:=aR hbb;have HF:=ak (Fin.of 1 B0.o aO (hN.mono C.size) hbb);have hz:w.heap.size<uu.heap.size:=by have:=hbb.size;simp at this;omega
 clear C hb hN hbb H N2;go_wp2;exact aF (v:=.tuple #[.agg #[.bool dn,.slice aa (ws X).length cc,.int .i64 de],.int .i64 er]) (by simp [results,Tryz.results139,go_sem,hc]) rfl (Fin.jT (m:=w.heap.size+1) (by repeat (first | exact HF.o | refine Fin.alloc ?_ _ | refine Fin.set ?_ _ _ _ af af)) af)
def Dk (w:World) (g:Nat) (n:Bool) (v:Value) (e:Int):Prop:=w.heap[g]?=some (.cells #[.bool n,v,.int .i64 e] 25 (0,0))
theorem Dk.lt {w:World}{g:Nat}{n:Bool}{v:Value}{e:Int}(h:Dk w g n v e):g<w.heap.size:=(gD.1 h).1
theorem Dk.below {w w':World}{g:Nat}{n:Bool}{v:Value}{e:Int}(h:Dk w g n v e) (hb:Below w.heap.size w w'):Dk w' g n v e:=by
 unfold Dk;rw [hb.block g h.lt];exact h
theorem Dk.alloc {w:World}{g:Nat}{n:Bool}{v:Value}{e:Int}(h:Dk w g n v e) (o:Obj):Dk (w.alloc o) g n v e:=h.below (ae w o)
theorem Dk.new (w:World) (n:Bool) (v:Value) (e:Int):Dk (w.alloc (.cells #[.bool n,v,.int .i64 e] 25)) w.heap.size n v e:=ib _ _
theorem Dk.facts {w:World}{g:Nat}{n:Bool}{v:Value}{e:Int}(h:Dk w g n v e) :
 w.cell? ⟨g,0,none⟩=some (.bool n)/\w.cell? ⟨g,1,none⟩=some v/\w.cell? ⟨g,2,none⟩=some (.int .i64 e)/\w.frozen? ⟨g,0,none⟩=false/\w.frozen? ⟨g,1,none⟩=false/\w.frozen? ⟨g,2,none⟩=false:=by
 unfold Dk at h;simp [World.cell?,World.frozen?,h]
abbrev cZ (w:World) (g:Nat) (x y z:Value):World:=((w.setCell ⟨g,0,none⟩ x).setCell ⟨g,1,none⟩ y).setCell ⟨g,2,none⟩ z
theorem Ce (w:World) (g:Nat) (x y z:Value):(cZ w g x y z).heap.size=w.heap.size:=by simp [cZ,World.setCell]
theorem Dk.set {w:World}{g:Nat}{n:Bool}{v:Value}{e:Int}(h:Dk w g n v e) (m:Bool) (u:Value) (f:Int):Dk (cZ w g (.bool m) u (.int .i64 f)) g m u f:=by
 unfold Dk at h |-;simp [cZ,World.setCell,lC,h]
theorem Dk.other {w:World}{g:Nat}{n:Bool}{v:Value}{e:Int}(h:Dk w g n v e) (g':Nat) (hg:g≠g') (x y z:Value):Dk (cZ w g' x y z) g n v e:=by
 unfold Dk;rw [(kR g' w x y z).block g h.lt hg];exact h
theorem Fin.cZ {lo m:Nat}{w0 w:World}{v:Value}{X:Nat}(H:Fin lo m w0 w v X) (g:Nat) (x y z:Value) (h1:lo<=g) (h2:g<m):Fin lo m w0 (cZ w g x y z) v X:=((H.set g 0 x h1 h2).set g 1 y h1 h2).set g 2 z h1 h2
theorem Fin.below {lo m:Nat}{w0 w w':World}{v:Value}{X:Nat}(H:Fin lo m w0 w v X) (hb:Below w.heap.size w w'):Fin lo m w0 w' v X:=⟨H.nt.below hb,H.aB.trans (hb.mono H.size),dP H.size hb.size⟩
theorem Fin.drew {lo m:Nat}{w0 w:World}{v:Value}{X:Nat}(H:Fin lo m w0 w v X):Fin lo m w0 w.drew v X:=⟨H.nt,H.aB.drew,H.size⟩
theorem Fin.pair {lo m:Nat}{w0 w:World}{v v':Value}{X X':Nat}{n n':Bool}{e e':Int}{k:Value}(H:Fin lo m w0 w v X) (H':Fin lo m w0 w v' X') (h:lo<=m) :
 ∃ p q,Ending.returned (.tuple #[.agg #[.bool n,v,.int .i64 e],.agg #[.bool n',v',.int .i64 e'],k])=.returned (.tuple #[.agg #[.bool n,p,.int .i64 e],.agg #[.bool n',q,.int .i64 e'],k])/\Nt lo w p X/\Nt lo w q X'/\Below lo w0 w:=⟨v,v',rfl,H.nt.mono h,H'.nt.mono h,H.aB⟩
theorem yH (W:World) (g h:Nat) (n m:Bool) (v u:Value) (e f k:Int) (tmps:Array Value) (ht:tmps[4]?.getD undef=.pointer (some ⟨g,0,none⟩)) (hs:tmps[5]?.getD undef=.pointer (some ⟨h,0,none⟩)) (hk:tmps[6]?.getD undef=.int .i64 k) (D:Dk W g n v e) (E:Dk W h m u f) :
 (results Tryz.f98 tmps).run Tryz.prog W=.ok (.tuple #[.agg #[.bool n,v,.int .i64 e],.agg #[.bool m,u,.int .i64 f],.int .i64 k]) W:=by
 obtain ⟨x0,x1,x2,bE,bF,bG⟩:=D.facts;obtain ⟨y0,y1,y2,bN,bO,bU⟩:=E.facts;simp [results,Tryz.results98,ht,hs,hk,go_sem,x0,x1,x2,y0,y1,y2]
theorem Cf {w:World}{a b:Option Addr}{l c k d:Nat}{xs ys:List Nat}(h1:Arg w a l c xs) (h2:Arg w b k d ys) (hT:dJ w) (n m:Bool) (e f:Int) (he0:-9223372036854775808<=e) (he1:e<=9223372036854775807) (hf0:-9223372036854775808<=f) (hf1:f<=9223372036854775807)
 (n1 m1:Bool) (X Y:Nat) (e1 f1:Int) (hx:mkS n (val xs) e=some (n1,X,e1)) (hy:mkS m (val ys) f=some (m1,Y,f1)) :
 Calls Tryz.prog 98 #[.agg #[.bool n,.slice a l c,.int .i64 e],.agg #[.bool m,.slice b k d,.int .i64 f]] w fun r w' =>
  ∃ v u,r=.returned (.tuple #[.agg #[.bool n1,v,.int .i64 e1],.agg #[.bool m1,u,.int .i64 f1],.int .i64 0])/\Nt w.heap.size w' v X/\Nt w.heap.size w' u Y/\Below w.heap.size w w':=by
 obtain ⟨W1,hW1⟩:=ah ((((w.alloc (.cells #[.bool n,.slice a l c,.int .i64 e] 25)).alloc (.cells #[.bool m,.slice b k d,.int .i64 f] 25)).alloc (.cells #[.bool false,.slice none 0 0,.int .i64 0] 25)).alloc (.cells #[.bool false,.slice none 0 0,.int .i64 0] 25));have hB:Below w.heap.size w W1:=by rw [hW1];exact (((ae w _).alloc aO _).alloc (by simp;omega) _).alloc (by simp;omega) _
 have hz1:W1.heap.size=w.heap.size+4:=by rw [hW1];simp
 have D1:Dk W1 (w.heap.size+1) m (.slice b k d) f:=by rw [hW1];have:=((Dk.new (w.alloc (.cells #[.bool n,.slice a l c,.int .i64 e] 25)) m (.slice b k d) f).alloc (.cells #[.bool false,.slice none 0 0,.int .i64 0] 25)).alloc (.cells #[.bool false,.slice none 0 0,.int .i64 0] 25);simpa using this
 have D2:Dk W1 (w.heap.size+1+1) false (.slice none 0 0) 0:=by rw [hW1];have:=(Dk.new ((w.alloc (.cells #[.bool n,.slice a l c,.int .i64 e] 25)).alloc (.cells #[.bool m,.slice b k d,.int .i64 f] 25)) false (.slice none 0 0) 0).alloc (.cells #[.bool false,.slice none 0 0,.int .i64 0] 25);simpa using this
 have D3:Dk W1 (w.heap.size+1+1+1) false (.slice none 0 0) 0:=by rw [hW1];have:=Dk.new (((w.alloc (.cells #[.bool n,.slice a l c,.int .i64 e] 25)).alloc (.cells #[.bool m,.slice b k d,.int .i64 f] 25)).alloc (.cells #[.bool false,.slice none 0 0,.int .i64 0] 25)) false (.slice none 0 0) 0;simpa using this
 have jy:=kU (h1.below hB) (hT.belows hB) n e he0 he1;have jW:Hid (∀ u,Below w.heap.size w u->Calls Tryz.prog 125 #[.agg #[.bool m,.slice b k d,.int .i64 f]] u fun r w'=>cK u.heap.size w' r (mkS m (val ys) f)/\Below u.heap.size u w'):=fun u hu=>kU (h2.below hu) (hT.belows hu) m f hf0 hf1;have lX:(ws X).length<=8192:=by have:=aM n (val xs) e;rw [hx] at this;exact this
 have lY:(ws Y).length<=8192:=by have:=aM m (val ys) f;rw [hy] at this;exact this
 rw [hx] at jy;rw [hy] at jW;simp only [cK,dN,dX,dE,l9,Option.isSome,Option.getD,if_true,fq,if_false] at jy jW;have H1:=hid jy;have SB:=(eu hB hz1 D1 D2 D3);clear jy h1 h2 hT hx hy he0 he1 hf0 hf1 hB hz1 D1 D2 D3;go_enter Tryz.func98,Tryz.ntmps98;go_wp2_with fail;rw [<-hW1];clear hW1;refine H1.o.mono ?_;rintro r u1 ⟨⟨v,rfl,hN⟩,hb⟩;obtain ⟨a1,c1,rfl,_⟩:=hN.arg af;obtain ⟨hB,hz1,D1,D2,D3⟩:=SB.o;have E1:=D1.below hb;have E2:=D2.below hb;have E3:=D3.below hb;obtain ⟨p0,p1,p2,GN,GQ,GU⟩:=E1.facts;obtain ⟨q0,q1,q2,yI,yJ,yK⟩:=E2.facts;have F1:Fin w.heap.size (w.heap.size+4) w u1 (.slice a1 (ws X).length c1) X:=⟨by rw [<-hz1];exact hN,hB.trans (hb.mono af),by have:=hb.size;omega⟩;obtain ⟨U1,aS⟩:=ah (cZ u1 (w.heap.size+1+1) (.bool n1) (.slice a1 (ws X).length c1) (.int .i64 e1));have G1:Fin w.heap.size (w.heap.size+4) w U1 (.slice a1 (ws X).length c1) X:=by rw [aS];exact F1.cZ _ _ _ _ af af
 have I2:Dk U1 (w.heap.size+1+1) n1 (.slice a1 (ws X).length c1) e1:=by rw [aS];exact E2.set _ _ _
 have I3:Dk U1 (w.heap.size+1+1+1) false (.slice none 0 0) 0:=by rw [aS];exact E3.other _ af _ _ _
 have I1:Dk U1 (w.heap.size+1) m (.slice b k d) f:=by rw [aS];exact E1.other _ af _ _ _
 have hsz1:U1.heap.size=u1.heap.size:=by rw [aS];exact Ce _ _ _ _ _
 have H2:=hid (jW.o _ G1.aB);have S1:=(aZ G1 I2 I3);obtain ⟨i0,i1,i2,M9,Na,Nb⟩:=I1.facts;have Jk:w.heap.size+4<=U1.heap.size:=by rw [hsz1];have:=hb.size;omega
 clear hN hb F1 G1 H1 hB hz1 D1 D2 D3 E1 E2 E3 I2 I3 I1 SB hsz1;unfold cZ at aS;go_wp2_with fail;rw [<-aS];clear aS;refine H2.o.mono ?_;rintro r u2 ⟨⟨v,rfl,hN⟩,hb⟩;obtain ⟨a2,c2,rfl,_⟩:=hN.arg af;obtain ⟨G1,I2,I3⟩:=S1.o;have J2:=I2.below hb;have J3:=I3.below hb;obtain ⟨U2,dO⟩:=ah (cZ u2 (w.heap.size+1+1+1) (.bool m1) (.slice a2 (ws Y).length c2) (.int .i64 f1));have K2:Dk U2 (w.heap.size+1+1) n1 (.slice a1 (ws X).length c1) e1:=by rw [dO];exact J2.other _ af _ _ _
 have K3:Dk U2 (w.heap.size+1+1+1) m1 (.slice a2 (ws Y).length c2) f1:=by rw [dO];exact J3.set _ _ _
 have Q1:=ak (show Fin w.heap.size (w.heap.size+4) w U2 (.slice a1 (ws X).length c1) X by rw [dO];exact (G1.below hb).cZ _ _ _ _ af af);have Q2:=ak (show Fin w.heap.size (w.heap.size+4) w U2 (.slice a2 (ws Y).length c2) Y by rw [dO];exact Fin.cZ ⟨hN.mono Jk,(G1.below hb).aB,(G1.below hb).size⟩ _ _ _ _ af af);obtain ⟨s0,s1,s2,rX,rY,rZ⟩:=J3.facts;obtain ⟨x0,x1,x2,bE,bF,bG⟩:=K2.facts;obtain ⟨y0,y1,y2,bN,bO,bU⟩:=K3.facts;clear hN hb H2 S1 G1 I2 I3 J2 J3 K2 K3;unfold cZ at dO;go_wp2;rw [<-dO];clear dO jW
 go_region
 all_goals (
  go_wp2;refine aF (v:=.tuple #[.agg #[.bool n1,.slice a1 (ws X).length c1,.int .i64 e1],.agg #[.bool m1,.slice a2 (ws Y).length c2,.int .i64 f1],.int .i64 0]) (by simp [results,Tryz.results98,go_sem,x0,x1,x2,y0,y1,y2]) rfl ?_;refine Fin.pair (m:=w.heap.size+4) ?_ ?_ af
  · repeat (with_reducible first | exact Q1.o | refine Fin.drew ?_ | refine Fin.alloc ?_ _ | refine Fin.set ?_ _ _ _ af af)
  · repeat (with_reducible first | exact Q2.o | refine Fin.drew ?_ | refine Fin.alloc ?_ _ | refine Fin.set ?_ _ _ _ af af))
theorem wz {w:World}{a b:Option Addr}{l c k d:Nat}{xs ys:List Nat}(h1:Arg w a l c xs) (h2:Arg w b k d ys) (hT:dJ w) (n m:Bool) (e f:Int) (he0:-9223372036854775808<=e) (he1:e<=9223372036854775807) (hf0:-9223372036854775808<=f) (hf1:f<=9223372036854775807)
 (hx:mkS n (val xs) e=none) :
 Calls Tryz.prog 98 #[.agg #[.bool n,.slice a l c,.int .i64 e],.agg #[.bool m,.slice b k d,.int .i64 f]] w fun r w' =>
  r=.returned (.tuple #[.agg #[.bool false,.slice none 0 0,.int .i64 0],.agg #[.bool false,.slice none 0 0,.int .i64 0],.int .i64 2])/\Below w.heap.size w w':=by
 obtain ⟨W1,hW1⟩:=ah ((((w.alloc (.cells #[.bool n,.slice a l c,.int .i64 e] 25)).alloc (.cells #[.bool m,.slice b k d,.int .i64 f] 25)).alloc (.cells #[.bool false,.slice none 0 0,.int .i64 0] 25)).alloc (.cells #[.bool false,.slice none 0 0,.int .i64 0] 25));have hB:Below w.heap.size w W1:=by rw [hW1];exact (((ae w _).alloc aO _).alloc (by simp;omega) _).alloc (by simp;omega) _
 have hz1:W1.heap.size=w.heap.size+4:=by rw [hW1];simp
 have D1:Dk W1 (w.heap.size+1) m (.slice b k d) f:=by rw [hW1];have:=((Dk.new (w.alloc (.cells #[.bool n,.slice a l c,.int .i64 e] 25)) m (.slice b k d) f).alloc (.cells #[.bool false,.slice none 0 0,.int .i64 0] 25)).alloc (.cells #[.bool false,.slice none 0 0,.int .i64 0] 25);simpa using this
 have D2:Dk W1 (w.heap.size+1+1) false (.slice none 0 0) 0:=by rw [hW1];have:=(Dk.new ((w.alloc (.cells #[.bool n,.slice a l c,.int .i64 e] 25)).alloc (.cells #[.bool m,.slice b k d,.int .i64 f] 25)) false (.slice none 0 0) 0).alloc (.cells #[.bool false,.slice none 0 0,.int .i64 0] 25);simpa using this
 have D3:Dk W1 (w.heap.size+1+1+1) false (.slice none 0 0) 0:=by rw [hW1];have:=Dk.new (((w.alloc (.cells #[.bool n,.slice a l c,.int .i64 e] 25)).alloc (.cells #[.bool m,.slice b k d,.int .i64 f] 25)).alloc (.cells #[.bool false,.slice none 0 0,.int .i64 0] 25)) false (.slice none 0 0) 0;simpa using this
 have jy:=kU (h1.below hB) (hT.belows hB) n e he0 he1;have l0:(ws 0).length=0:=by rw [bI];rfl
 rw [hx] at jy;simp only [cK,dN,dX,dE,l9,Option.isSome,Option.getD,if_true,fq,if_false] at jy;have H1:=hid jy;have SB:=(eu hB hz1 D1 D2 D3);clear jy h1 h2 hT hx he0 he1 hf0 hf1 hB hz1 D1 D2 D3;go_enter Tryz.func98,Tryz.ntmps98;go_wp2_with fail;rw [<-hW1];clear hW1;refine H1.o.mono ?_;rintro r u1 ⟨⟨v,rfl,hN⟩,hb⟩;obtain ⟨a1,c1,rfl,_⟩:=hN.arg af;obtain ⟨hB,hz1,D1,D2,D3⟩:=SB.o;have E2:=D2.below hb;have E3:=D3.below hb;obtain ⟨q0,q1,q2,yI,yJ,yK⟩:=E2.facts;obtain ⟨y0,y1,y2,bN,bO,bU⟩:=E3.facts;have F1:=ak (show Fin w.heap.size (w.heap.size+4) w u1 (.slice none 0 0) 0 from ⟨Nt.nil _ _,hB.trans (hb.mono af),by have:=hb.size;omega⟩);have SE:=(aJ E2 E3);clear hN hb H1 hB hz1 D1 D2 D3 E2 E3 SB;go_wp2;obtain ⟨E2,E3⟩:=SE.o;refine aF (yH _ (w.heap.size+1+1) (w.heap.size+1+1+1) false false (.slice none 0 0) (.slice none 0 0) 0 0 2 _ rfl rfl rfl (((E2.set _ _ _).set _ _ _).other _ af _ _ _) (((E3.other _ af _ _ _).other _ af _ _ _).set _ _ _)) rfl ⟨rfl,?_⟩;refine Fin.aB (m:=w.heap.size+4) (v:=.slice none 0 0) (X:=0) ?_
 repeat (with_reducible first | exact F1.o | refine Fin.drew ?_ | refine Fin.alloc ?_ _ | refine Fin.set ?_ _ _ _ af af)
theorem wB {w:World}{a b:Option Addr}{l c k d:Nat}{xs ys:List Nat}(h1:Arg w a l c xs) (h2:Arg w b k d ys) (hT:dJ w) (n m:Bool) (e f:Int) (he0:-9223372036854775808<=e) (he1:e<=9223372036854775807) (hf0:-9223372036854775808<=f) (hf1:f<=9223372036854775807)
 (n1:Bool) (X:Nat) (e1:Int) (hx:mkS n (val xs) e=some (n1,X,e1)) (hy:mkS m (val ys) f=none) :
 Calls Tryz.prog 98 #[.agg #[.bool n,.slice a l c,.int .i64 e],.agg #[.bool m,.slice b k d,.int .i64 f]] w fun r w' =>
  r=.returned (.tuple #[.agg #[.bool false,.slice none 0 0,.int .i64 0],.agg #[.bool false,.slice none 0 0,.int .i64 0],.int .i64 2])/\Below w.heap.size w w':=by
 obtain ⟨W1,hW1⟩:=ah ((((w.alloc (.cells #[.bool n,.slice a l c,.int .i64 e] 25)).alloc (.cells #[.bool m,.slice b k d,.int .i64 f] 25)).alloc (.cells #[.bool false,.slice none 0 0,.int .i64 0] 25)).alloc (.cells #[.bool false,.slice none 0 0,.int .i64 0] 25));have hB:Below w.heap.size w W1:=by rw [hW1];exact (((ae w _).alloc aO _).alloc (by simp;omega) _).alloc (by simp;omega) _
 have hz1:W1.heap.size=w.heap.size+4:=by rw [hW1];simp
 have D1:Dk W1 (w.heap.size+1) m (.slice b k d) f:=by rw [hW1];have:=((Dk.new (w.alloc (.cells #[.bool n,.slice a l c,.int .i64 e] 25)) m (.slice b k d) f).alloc (.cells #[.bool false,.slice none 0 0,.int .i64 0] 25)).alloc (.cells #[.bool false,.slice none 0 0,.int .i64 0] 25);simpa using this
 have D2:Dk W1 (w.heap.size+1+1) false (.slice none 0 0) 0:=by rw [hW1];have:=(Dk.new ((w.alloc (.cells #[.bool n,.slice a l c,.int .i64 e] 25)).alloc (.cells #[.bool m,.slice b k d,.int .i64 f] 25)) false (.slice none 0 0) 0).alloc (.cells #[.bool false,.slice none 0 0,.int .i64 0] 25);simpa using this
 have D3:Dk W1 (w.heap.size+1+1+1) false (.slice none 0 0) 0:=by rw [hW1];have:=Dk.new (((w.alloc (.cells #[.bool n,.slice a l c,.int .i64 e] 25)).alloc (.cells #[.bool m,.slice b k d,.int .i64 f] 25)).alloc (.cells #[.bool false,.slice none 0 0,.int .i64 0] 25)) false (.slice none 0 0) 0;simpa using this
 have jy:=kU (h1.below hB) (hT.belows hB) n e he0 he1;have jW:Hid (∀ u,Below w.heap.size w u->Calls Tryz.prog 125 #[.agg #[.bool m,.slice b k d,.int .i64 f]] u fun r w'=>cK u.heap.size w' r (mkS m (val ys) f)/\Below u.heap.size u w'):=fun u hu=>kU (h2.below hu) (hT.belows hu) m f hf0 hf1;have lX:(ws X).length<=8192:=by have:=aM n (val xs) e;rw [hx] at this;exact this
 have l0:(ws 0).length=0:=by rw [bI];rfl
 rw [hx] at jy;rw [hy] at jW;simp only [cK,dN,dX,dE,l9,Option.isSome,Option.getD,if_true,fq,if_false] at jy jW;have H1:=hid jy;have SB:=(eu hB hz1 D1 D2 D3);clear jy h1 h2 hT hx hy he0 he1 hf0 hf1 hB hz1 D1 D2 D3;go_enter Tryz.func98,Tryz.ntmps98;go_wp2_with fail;rw [<-hW1];clear hW1;refine H1.o.mono ?_;rintro r u1 ⟨⟨v,rfl,hN⟩,hb⟩;obtain ⟨a1,c1,rfl,_⟩:=hN.arg af;obtain ⟨hB,hz1,D1,D2,D3⟩:=SB.o;have E1:=D1.below hb;have E2:=D2.below hb;have E3:=D3.below hb;obtain ⟨p0,p1,p2,GN,GQ,GU⟩:=E1.facts;obtain ⟨q0,q1,q2,yI,yJ,yK⟩:=E2.facts;have F1:Fin w.heap.size (w.heap.size+4) w u1 (.slice a1 (ws X).length c1) X:=⟨by rw [<-hz1];exact hN,hB.trans (hb.mono af),by have:=hb.size;omega⟩;obtain ⟨U1,aS⟩:=ah (cZ u1 (w.heap.size+1+1) (.bool n1) (.slice a1 (ws X).length c1) (.int .i64 e1));have G1:Fin w.heap.size (w.heap.size+4) w U1 (.slice a1 (ws X).length c1) X:=by rw [aS];exact F1.cZ _ _ _ _ af af
 have I2:Dk U1 (w.heap.size+1+1) n1 (.slice a1 (ws X).length c1) e1:=by rw [aS];exact E2.set _ _ _
 have I3:Dk U1 (w.heap.size+1+1+1) false (.slice none 0 0) 0:=by rw [aS];exact E3.other _ af _ _ _
 have I1:Dk U1 (w.heap.size+1) m (.slice b k d) f:=by rw [aS];exact E1.other _ af _ _ _
 have hsz1:U1.heap.size=u1.heap.size:=by rw [aS];exact Ce _ _ _ _ _
 have H2:=hid (jW.o _ G1.aB);have S1:=(aZ G1 I2 I3);obtain ⟨i0,i1,i2,M9,Na,Nb⟩:=I1.facts;have Jk:w.heap.size+4<=U1.heap.size:=by rw [hsz1];have:=hb.size;omega
 clear hN hb F1 G1 H1 hB hz1 D1 D2 D3 E1 E2 E3 I2 I3 I1 SB hsz1;unfold cZ at aS;go_wp2_with fail;rw [<-aS];clear aS;refine H2.o.mono ?_;rintro r u2 ⟨⟨v,rfl,hN⟩,hb⟩;obtain ⟨a2,c2,rfl,_⟩:=hN.arg af;obtain ⟨G1,I2,I3⟩:=S1.o;have J2:=I2.below hb;have J3:=I3.below hb;have Q1:=ak (G1.below hb);obtain ⟨s0,s1,s2,rX,rY,rZ⟩:=J3.facts;obtain ⟨x0,x1,x2,bE,bF,bG⟩:=J2.facts;have SE:=(aJ J2 J3);clear hN hb H2 S1 G1 I2 I3 J2 J3;go_wp2;obtain ⟨E2,E3⟩:=SE.o;refine aF (yH _ (w.heap.size+1+1) (w.heap.size+1+1+1) false false (.slice none 0 0) (.slice none 0 0) 0 0 2 _ rfl rfl rfl (((E2.other _ af _ _ _).set _ _ _).other _ af _ _ _) (((E3.set _ _ _).other _ af _ _ _).set _ _ _)) rfl ⟨rfl,?_⟩;refine Fin.aB (m:=w.heap.size+4) (v:=.slice a1 (ws X).length c1) (X:=X) ?_
 repeat (with_reducible first | exact Q1.o | refine Fin.drew ?_ | refine Fin.alloc ?_ _ | refine Fin.set ?_ _ _ _ af af)
end
end Go.Proofs.YtfmfhehbdfhnbaaGreatDoor
