import Derived.Test.YtjppdacikihpdaaGreatDoorS10x
import Derived.Deep.RegionWith
import Derived.BigQuiet
import Derived.Deep.RegionHeld3
import Derived.Test.YtjppdacikihpdaaGreatDoorBIeeex
set_option linter.unusedVariables false
set_option linter.unusedSimpArgs false
set_option maxHeartbeats 16000000
set_option maxRecDepth 20000
namespace Go.Proofs.YtjppdacikihpdaaGreatDoor
section
open Go.RowKit
attribute [local go_sem] B.Kk B.fld0 B.fld1 B.fld2 B.fld3
def YF(s:Bool)(e f:Nat):Option (Bool×Nat×Int):=if e=2047 then none else mkS s (if e=0 then f else f+4503599627370496) (if e=0 then -1074 else(e:Int)-1075)
def XF(e:Nat):Int:=if e=2047 then 30 else 0
def OAns(lo:Nat)(w:World)(r:Ending)(o:Option (Bool×Nat×Int))(er:Int):Prop :=
 ∃ v,r=.returned (.tuple #[.agg #[.bool (dN o),v,.int .i64 (dE o)],.int .i64 er])/\Nt lo w v (dX o)
theorem pQ(X:Nat)(h:X<9007199254740992):bl X<=53:=by
 by_cases h0:X=0
 · subst h0;rw[df];omega
 · have:=(jI (a:=2) (by omega)).1 (gQ (gL X h0) (show X<2^53 from h));omega
theorem Kl(s:Bool)(X:Nat)(x:Int)(hX:X<9007199254740992)(h0:-1100<=x)(h1:x<=1000):∃ d,mkS s X x=some d:=by
 unfold mkS
 by_cases h:X=0
 · rw[if_pos h];exact⟨_,rfl⟩
 · rw[if_neg h];obtain⟨m,_,_,hb⟩:=gY X h;have:=pQ X hX;rw[if_neg (by omega)];exact⟨_,rfl⟩
theorem Va (s:Bool) (b:Nat) (F:Nat) (k x:Int) (w:World) (hT:gF w) (hF:F<9007199254740992) (hx0:-1100<=x) (hx1:x<=1000)
 (HA:Hid (∀ u,Calls Tryz.prog 126 #[.float .f64 b] u fun r w'=>r=.returned (.float .f64 (b%9223372036854775808))/\w'=u))
 (HS:Hid (∀ u,Calls Tryz.prog 76 #[.float .f64 (b%9223372036854775808)] u fun r w'=>r=.returned (.agg #[.bool false,.int .i64 k,.int .i64 x,.int .u64 (F:Nat)])/\Below u.heap.size u w'))
 (H0:Hid (∀ u,Calls Tryz.prog 76 #[.float .f64 0] u fun r w'=>r=.returned (.agg #[.bool false,.int .i64 0,.int .i64 (-1074),.int .u64 0])/\Below u.heap.size u w'))
 (hlt:(FloatKind.f64.format.order b 0==some .lt)=s) (k0:(k==0)=false) (k3:(k==3)=false) (k4:(k==4)=false) :
 Calls Tryz.prog 78 #[.float .f64 b] w fun r w'=>bS w.heap.size w' r (mkS s F x)/\Below w.heap.size w w':=by
 generalize hb2:b%9223372036854775808=b2 at *;clear hb2;have HO:Hid (∀ u,Calls Tryz.prog 95 #[.int .u64 (F:Nat)] u fun r w'=>∃ v,r=.returned v/\Nt u.heap.size w' v F/\Below u.heap.size u w'):=fun u=>mK F u (by omega)
 have HM:Hid (∀ (u:World) (a:Option Addr) (c:Nat),gF u->Arg u a (ws F).length c (ws F)->Calls Tryz.prog 94 #[.bool s,.slice a (ws F).length c,.int .i64 x] u fun r w'=>bS u.heap.size w' r (mkS s F x)/\Below u.heap.size u w'):=by
  intro u a c hTu hA;have:=fF hA hTu s x (by omega) (by omega);exact xt
 have hFl:(ws F).length<=100:=by have:=gG F;have:=pQ F hF;omega
 have hl:=aK s F x;obtain⟨o,ho⟩:∃ o,mkS s F x=o:=⟨_,rfl⟩;rw[ho] at HM hl |-;unfold bS at HM |-;obtain⟨dn,hdn⟩:∃ d,dN o=d:=⟨_,rfl⟩;obtain⟨X,Ip⟩:∃ d,dX o=d:=⟨_,rfl⟩;obtain⟨de,hde⟩:∃ d,dE o=d:=⟨_,rfl⟩;obtain⟨er,her⟩:∃ d,vY o=d:=⟨_,rfl⟩;rw[hdn,Ip,hde,her] at HM |-;rw[Ip] at hl;have HT:=ah hT;clear ho hdn Ip hde her hT hF hx0 hx1;go_enter Tryz.func78,Tryz.ntmps78;go_wp2_with fail;refine(dL (HA.o _)) ?_;rintro r w1 ⟨rfl,rfl⟩;go_wp2_with fail;refine(dL (HS.o _)) ?_;rintro r w2 ⟨rfl,hb⟩;obtain⟨hc,hf⟩:=aO hb;have hz:w.heap.size<w2.heap.size:=by have:=hb.size;simp at this;omega
 have hbw:Below w.heap.size w w2:=((ay _ _).alloc (ak _) _).trans (hb.mono (by simp));have SB:=ah hbw;clear hb hbw;obtain⟨W2,hW2⟩:=af (w2.alloc (.cells #[.bool false,.int .i64 k,.int .i64 x,.int .u64 (F:Nat)] 98));have hbW:Below w.heap.size w W2:=by rw[hW2];exact SB.o.alloc (by omega) _
 have P:W2.heap[w2.heap.size]?=some (.cells #[.bool false,.int .i64 k,.int .i64 x,.int .u64 (F:Nat)] 98 (0,0)):=by rw[hW2,gU]
 have p0:W2.cell? ⟨w2.heap.size,0,none⟩=some (.bool false):=by simp[World.cell?,P]
 have p1:W2.cell? ⟨w2.heap.size,1,none⟩=some (.int .i64 k):=by simp[World.cell?,P]
 have p2:W2.cell? ⟨w2.heap.size,2,none⟩=some (.int .i64 x):=by simp[World.cell?,P]
 have p3:W2.cell? ⟨w2.heap.size,3,none⟩=some (.int .u64 (F:Nat)):=by simp[World.cell?,P]
 have r0:W2.cell? ⟨w.heap.size,0,none⟩=some (.bool false):=by rw[hW2];go_simp
 have r1:W2.cell? ⟨w.heap.size,1,none⟩=some (.slice none 0 0):=by rw[hW2];go_simp
 have r2:W2.cell? ⟨w.heap.size,2,none⟩=some (.int .i64 0):=by rw[hW2];go_simp
 have f0:W2.frozen? ⟨w.heap.size,0,none⟩=false:=by rw[hW2];go_simp
 have f1:W2.frozen? ⟨w.heap.size,1,none⟩=false:=by rw[hW2];go_simp
 have f2:W2.frozen? ⟨w.heap.size,2,none⟩=false:=by rw[hW2];go_simp
 have hz2:w2.heap.size<W2.heap.size:=by rw[hW2];simp
 have hz3:w.heap.size<W2.heap.size:=by omega
 have SW:=ah hbW;go_wp2_with fail;rw[<-hW2];clear hW2 hbW P hc hf SB
 go_region_with (go_at_call 76;refine(H0.o _).mono ?_;rintro r w3 ⟨rfl,hb3⟩;have hb4:Below W2.heap.size W2 w3:=(by first | exact hb3 | exact((ay _ W2).drew).trans (hb3.mono (ak _)));obtain⟨hc,hf⟩:=aO hb4;have S3:=ah hb4;clear hb3 hb4)
 all_goals (
  go_wp2_with fail;have MC:w2.heap.size<w3.heap.size:=by have:=S3.o.size;omega
  have ME:w.heap.size<w3.heap.size:=by have:=S3.o.size;omega
  go_region_with (first
   | (go_at_call 95
      refine(HO.o _).mono ?_;rintro r w4 ⟨v4,rfl,hN,hb⟩;obtain⟨a4,c4,rfl,A4⟩:=hN.arg (by omega);have QI:Below w3.heap.size w3 w4:=(by first | exact hb | exact((ay _ w3).drew).trans (hb.mono (ak _)));have T4:gF w4:=(HT.o.belows SW.o).belows (S3.o.trans (QI.mono S3.o.size));obtain⟨hc4,hf4⟩:=aO QI;have YG:w.heap.size<w4.heap.size:=by have:=QI.size;omega
      have S4:=(fG QI A4 T4)
      clear hN hb QI A4 T4)
   | (go_at_call 94
      refine(HM.o _ a4 c4 (by first | exact S4.o.r2 | exact S4.o.r2) (by first | exact S4.o.2.1 | exact Arg.drew' S4.o.2.1)).mono ?_;rintro r w5 ⟨⟨v5,rfl,hN⟩,hb⟩;obtain⟨a5,c5,rfl,_⟩:=hN.arg (by omega);have Vb:Below w4.heap.size w4 w5:=(by first | exact hb | exact((ay _ w4).drew).trans (hb.mono (ak _)));obtain⟨hc5,hf5⟩:=aO Vb;have HF:=ah (show Fin w.heap.size w4.heap.size w w5 (.slice a5 (ws X).length c5) X from⟨hN,((SW.o.trans (S3.o.mono (by omega))).trans (S4.o.1.mono (by omega))).trans (Vb.mono (by omega)),by have:=Vb.size;omega⟩)
      clear hN hb Vb))
  all_goals (
   go_wp2
   exact aB (v:=.tuple #[.agg #[.bool dn,.slice a5 (ws X).length c5,.int .i64 de],.int .i64 er]) (by simp[results,Tryz.results78,go_sem,hc5,hc4,hc,YG,ME,hz3,r0,r1,r2]) rfl (Fin.jw (m:=w4.heap.size) (by repeat (first | exact HF.o | refine Fin.alloc ?_ _ | refine Fin.set ?_ _ _ _ (by omega) (by omega))) (by omega))))
theorem MF (b b2:Nat) (w:World)
 (HA:Hid (∀ u,Calls Tryz.prog 126 #[.float .f64 b] u fun r w'=>r=.returned (.float .f64 b2)/\w'=u))
 (HS:Hid (∀ u,Calls Tryz.prog 76 #[.float .f64 b2] u fun r w'=>r=.returned (.agg #[.bool false,.int .i64 0,.int .i64 (-1074),.int .u64 0])/\Below u.heap.size u w'))
 (H0:Hid (∀ u,Calls Tryz.prog 76 #[.float .f64 0] u fun r w'=>r=.returned (.agg #[.bool false,.int .i64 0,.int .i64 (-1074),.int .u64 0])/\Below u.heap.size u w')) :
 Calls Tryz.prog 78 #[.float .f64 b] w fun r w'=>r=.returned (.tuple #[.agg #[.bool false,.slice none 0 0,.int .i64 0],.int .i64 0])/\Below w.heap.size w w':=by
 go_enter Tryz.func78,Tryz.ntmps78;go_wp2_with fail;refine(dL (HA.o _)) ?_;rintro r w1 ⟨rfl,rfl⟩;go_wp2_with fail;refine(dL (HS.o _)) ?_;rintro r w2 ⟨rfl,hb⟩;obtain⟨hc,hf⟩:=aO hb;have hz:w.heap.size<w2.heap.size:=by have:=hb.size;simp at this;omega
 have hbw:Below w.heap.size w w2:=((ay _ _).alloc (ak _) _).trans (hb.mono (by simp));have SB:=ah hbw;clear hb hbw;obtain⟨W2,hW2⟩:=af (w2.alloc (.cells #[.bool false,.int .i64 0,.int .i64 (-1074),.int .u64 0] 98));have hbW:Below w.heap.size w W2:=by rw[hW2];exact SB.o.alloc (by omega) _
 have P:W2.heap[w2.heap.size]?=some (.cells #[.bool false,.int .i64 0,.int .i64 (-1074),.int .u64 0] 98 (0,0)):=by rw[hW2,gU]
 have p0:W2.cell? ⟨w2.heap.size,0,none⟩=some (.bool false):=by simp[World.cell?,P]
 have p1:W2.cell? ⟨w2.heap.size,1,none⟩=some (.int .i64 0):=by simp[World.cell?,P]
 have p2:W2.cell? ⟨w2.heap.size,2,none⟩=some (.int .i64 (-1074)):=by simp[World.cell?,P]
 have p3:W2.cell? ⟨w2.heap.size,3,none⟩=some (.int .u64 0):=by simp[World.cell?,P]
 have r0:W2.cell? ⟨w.heap.size,0,none⟩=some (.bool false):=by rw[hW2];go_simp
 have r1:W2.cell? ⟨w.heap.size,1,none⟩=some (.slice none 0 0):=by rw[hW2];go_simp
 have r2:W2.cell? ⟨w.heap.size,2,none⟩=some (.int .i64 0):=by rw[hW2];go_simp
 have f0:W2.frozen? ⟨w.heap.size,0,none⟩=false:=by rw[hW2];go_simp
 have f1:W2.frozen? ⟨w.heap.size,1,none⟩=false:=by rw[hW2];go_simp
 have f2:W2.frozen? ⟨w.heap.size,2,none⟩=false:=by rw[hW2];go_simp
 have hz2:w2.heap.size<W2.heap.size:=by rw[hW2];simp
 have hz3:w.heap.size<W2.heap.size:=by omega
 have SW:=ah hbW;go_wp2_with fail;rw[<-hW2];clear hW2 hbW P hc hf SB
 go_region_with (go_at_call 76;refine(H0.o _).mono ?_;rintro r w3 ⟨rfl,hb3⟩;have hb4:Below W2.heap.size W2 w3:=(by first | exact hb3 | exact((ay _ W2).drew).trans (hb3.mono (ak _)));obtain⟨hc,hf⟩:=aO hb4;have S3:=ah hb4;clear hb3 hb4)
 all_goals (
  go_wp2;have hbf:=SW.o.trans (S3.o.mono (by omega));have XG:w.heap.size<=w3.heap.size:=by have:=S3.o.size;omega
  exact aB (v:=.tuple #[.agg #[.bool false,.slice none 0 0,.int .i64 0],.int .i64 0]) (by simp[results,Tryz.results78,go_sem,hc,hz3,r0,r1,r2]) rfl ⟨rfl,Below.qj (Below.qj (Below.qj hbf _ _ _ (ak _) XG) _ _ _ (ak _) (by simpa [World.setCell] using XG)) _ _ _ (ak _) (by simpa [World.setCell] using XG)⟩)
theorem Vd (b b2:Nat) (k:Int) (w:World) (hk:k=3\/k=4)
 (HA:Hid (∀ u,Calls Tryz.prog 126 #[.float .f64 b] u fun r w'=>r=.returned (.float .f64 b2)/\w'=u))
 (HS:Hid (∀ u,Calls Tryz.prog 76 #[.float .f64 b2] u fun r w'=>r=.returned (.agg #[.bool false,.int .i64 k,.int .i64 0,.int .u64 0])/\Below u.heap.size u w'))
 (H0:Hid (∀ u,Calls Tryz.prog 76 #[.float .f64 0] u fun r w'=>r=.returned (.agg #[.bool false,.int .i64 0,.int .i64 (-1074),.int .u64 0])/\Below u.heap.size u w')) :
 Calls Tryz.prog 78 #[.float .f64 b] w fun r w'=>r=.returned (.tuple #[.agg #[.bool false,.slice none 0 0,.int .i64 0],.int .i64 30])/\Below w.heap.size w w':=by
 have k0:(k==0)=false:=by rcases hk with rfl | rfl <;> rfl
 go_enter Tryz.func78,Tryz.ntmps78;go_wp2_with fail;refine(dL (HA.o _)) ?_;rintro r w1 ⟨rfl,rfl⟩;go_wp2_with fail;refine(dL (HS.o _)) ?_;rintro r w2 ⟨rfl,hb⟩;obtain⟨hc,hf⟩:=aO hb;have hz:w.heap.size<w2.heap.size:=by have:=hb.size;simp at this;omega
 have hbw:Below w.heap.size w w2:=((ay _ _).alloc (ak _) _).trans (hb.mono (by simp));have SB:=ah hbw;clear hb hbw;obtain⟨W2,hW2⟩:=af (w2.alloc (.cells #[.bool false,.int .i64 k,.int .i64 0,.int .u64 0] 98));have hbW:Below w.heap.size w W2:=by rw[hW2];exact SB.o.alloc (by omega) _
 have P:W2.heap[w2.heap.size]?=some (.cells #[.bool false,.int .i64 k,.int .i64 0,.int .u64 0] 98 (0,0)):=by rw[hW2,gU]
 have p0:W2.cell? ⟨w2.heap.size,0,none⟩=some (.bool false):=by simp[World.cell?,P]
 have p1:W2.cell? ⟨w2.heap.size,1,none⟩=some (.int .i64 k):=by simp[World.cell?,P]
 have p2:W2.cell? ⟨w2.heap.size,2,none⟩=some (.int .i64 0):=by simp[World.cell?,P]
 have p3:W2.cell? ⟨w2.heap.size,3,none⟩=some (.int .u64 0):=by simp[World.cell?,P]
 have r0:W2.cell? ⟨w.heap.size,0,none⟩=some (.bool false):=by rw[hW2];go_simp
 have r1:W2.cell? ⟨w.heap.size,1,none⟩=some (.slice none 0 0):=by rw[hW2];go_simp
 have r2:W2.cell? ⟨w.heap.size,2,none⟩=some (.int .i64 0):=by rw[hW2];go_simp
 have f0:W2.frozen? ⟨w.heap.size,0,none⟩=false:=by rw[hW2];go_simp
 have f1:W2.frozen? ⟨w.heap.size,1,none⟩=false:=by rw[hW2];go_simp
 have f2:W2.frozen? ⟨w.heap.size,2,none⟩=false:=by rw[hW2];go_simp
 have hz2:w2.heap.size<W2.heap.size:=by rw[hW2];simp
 have hz3:w.heap.size<W2.heap.size:=by omega
 have SW:=ah hbW;go_wp2_with fail;rw[<-hW2];clear hW2 hbW P hc hf SB
 go_region_with (go_at_call 76;refine(H0.o _).mono ?_;rintro r w3 ⟨rfl,hb3⟩;have hb4:Below W2.heap.size W2 w3:=(by first | exact hb3 | exact((ay _ W2).drew).trans (hb3.mono (ak _)));obtain⟨hc,hf⟩:=aO hb4;have S3:=ah hb4;clear hb3 hb4)
 all_goals (
  have hbf:=ah (SW.o.trans (S3.o.mono (by omega)));have XG:w.heap.size<=w3.heap.size:=by have:=S3.o.size;omega
  rcases hk with rfl|rfl
  all_goals (
   go_wp2
   exact aB (v:=.tuple #[.agg #[.bool false,.slice none 0 0,.int .i64 0],.int .i64 30]) (by simp[results,Tryz.results78,go_sem,hc,hz3,r0,r1,r2]) rfl ⟨rfl,Below.qj (Below.qj (Below.qj hbf.o _ _ _ (ak _) XG) _ _ _ (ak _) (by simpa [World.setCell] using XG)) _ _ _ (ak _) (by simpa [World.setCell] using XG)⟩))
theorem YH(s:Bool)(e f:Nat)(he:e<2048)(hf:f<4503599627370496)(w:World)(hT:gF w) :
 Calls Tryz.prog 78 #[.float .f64 (B.bw s e f)] w fun r w'=>OAns w.heap.size w' r (YF s e f) (XF e)/\Below w.heap.size w w':=by
 have HA:Hid (∀ u,Calls Tryz.prog 126 #[.float .f64 (B.bw s e f)] u fun r w'=>r=.returned (.float .f64 (B.bw false e f))/\w'=u):=fun u=>B.BZ s e f he hf u;have HS:∀ u,Calls Tryz.prog 76 #[.float .f64 (B.bw false e f)] u fun r w'=>r=.returned (.agg #[.bool (B.ng false e f),.int .i64 (B.cls e f),.int .i64 (B.xp e),.int .u64 (B.fr e f)])/\Below u.heap.size u w':=fun u=>B.ma false e f he hf u;have H0:Hid (∀ u,Calls Tryz.prog 76 #[.float .f64 0] u fun r w'=>r=.returned (.agg #[.bool false,.int .i64 0,.int .i64 (-1074),.int .u64 0])/\Below u.heap.size u w'):=fun u=>B.ma false 0 0 (by omega) (by omega) u;have Gu:B.ng false e f=false:=by unfold B.ng;split <;> rfl
 rw[Gu] at HS;unfold YF XF
 by_cases h7:e=2047
 · rw[if_pos h7,if_pos h7];have h2:B.xp e=0/\B.fr e f=0:=by unfold B.xp B.fr;rw[if_pos h7,if_pos h7];exact⟨rfl,rfl⟩
   rw[h2.1,h2.2] at HS;have hk:B.cls e f=3\/B.cls e f=4:=by unfold B.cls;rw[if_pos h7];split <;> simp
   exact(Vd _ _ _ w hk HA (hid HS) H0).mono fun r w' ⟨h1,h3⟩=>⟨⟨_,h1,Nt.nil _ _⟩,h3⟩
 · rw[if_neg h7,if_neg h7];have hx:B.xp e=(if e=0 then -1074 else(e:Int)-1075):=by unfold B.xp;rw[if_neg h7]
   have hfr:B.fr e f=(((if e=0 then f else f+4503599627370496:Nat)):Int):=by unfold B.fr;rw[if_neg h7];split <;> simp
   rw[hx,hfr] at HS
   by_cases h0:e=0/\f=0
   · obtain⟨rfl,rfl⟩:=h0;rw[show B.cls 0 0=0 from rfl] at HS;simp only[if_pos,Int.ofNat_zero] at HS;rw[if_pos rfl,fA];exact(MF _ _ w HA (hid HS) H0).mono fun r w' ⟨h1,h3⟩=>⟨⟨_,h1,Nt.nil _ _⟩,h3⟩
   · have hcl:B.cls e f=1\/B.cls e f=2:=by
      unfold B.cls;rw[if_neg h7]
      by_cases h1:e=0
      · rw[if_pos h1,if_neg (fun h=>h0 ⟨h1,h⟩)];simp
      · rw[if_neg h1];simp
     obtain⟨F,hF⟩:∃ F:Nat,(if e=0 then f else f+4503599627370496:Nat)=F:=⟨_,rfl⟩;obtain⟨x,eD⟩:∃ x:Int,(if e=0 then -1074 else(e:Int)-1075)=x:=⟨_,rfl⟩;have hFb:F<9007199254740992:=by rw[<-hF];split <;> omega
     have hxb:-1100<=x/\x<=1000:=by rw[<-eD];split <;> omega
     rw[hF,eD] at HS |-;have ho:B.odd e f=false:=by unfold B.odd;simp[h7]
     have hz:(e==0&&f==0)=false:=by
      cases h1:(e==0&&f==0)
      · rfl
      · exact absurd (by simpa using h1) h0
     have hb2:B.bw false e f=B.bw s e f%9223372036854775808:=by
      have h1:=B.Qa s e f he hf;have h2:(B.bw false e f:Int)=(e:Int)*4503599627370496+f:=by unfold B.bw;simp
      omega
     rw[hb2] at HA HS;obtain⟨d,hd⟩:=Kl s F x hFb hxb.1 hxb.2;have:=Va s (B.bw s e f) F (B.cls e f) x w hT hFb hxb.1 hxb.2 HA (hid HS) H0 (B.Kj s e f he hf ho hz) (by rcases hcl with h | h <;> rw[h] <;> rfl) (by rcases hcl with h | h <;> rw[h] <;> rfl) (by rcases hcl with h | h <;> rw[h] <;> rfl);refine this.mono fun r w' ⟨⟨v,h1,h2⟩,h3⟩=>⟨⟨v,?_,h2⟩,h3⟩;rw[h1,hd];rfl
end
section
open Go.RowKit
attribute [local go_sem] B.aM B.aF
def gp(k:Nat):Nat×Int:=if k/4503599627370496=0 then(k%4503599627370496,-1074) else(4503599627370496+k%4503599627370496,-1074+((k/4503599627370496:Nat):Int)-1)
theorem ze (K:Int) (V:Nat) (w:World) (e1:K/4503599627370496=0) (hK0:0<=K) (hK1:K<=9218868437227405312)
 (HO:Hid (∀ u,Calls Tryz.prog 112 #[.int .u64 (K%4503599627370496)] u fun r w'=>∃ v,r=.returned v/\Nt u.heap.size w' v V/\Below u.heap.size u w')) :
 Calls Tryz.prog 163 #[.agg #[.int .i64 53,.int .i64 (-1074),.int .u64 9218868437227405312],.int .u64 K] w fun r w'=>∃ v,r=.returned (.tuple #[v,.int .i64 (-1074)])/\Nt w.heap.size w' v V/\Below w.heap.size w w':=by
 obtain⟨W1,hW1⟩:=af (w.alloc (.cells #[.int .i64 53,.int .i64 (-1074),.int .u64 9218868437227405312] 137));have P:W1.heap[w.heap.size]?=some (.cells #[.int .i64 53,.int .i64 (-1074),.int .u64 9218868437227405312] 137 (0,0)):=by rw[hW1,gU]
 have p1:W1.cell? ⟨w.heap.size,1,none⟩=some (.int .i64 (-1074)):=by simp[World.cell?,P]
 have hz:w.heap.size<W1.heap.size:=by rw[hW1];simp
 have HB:=ah (show Below w.heap.size w W1 by rw[hW1];exact ae w _);go_enter Tryz.func163,Tryz.ntmps163;go_wp2;rw[<-hW1];clear hW1 P e1
 go_region_held3 (fun w'=>w'.cell? ⟨w.heap.size,1,none⟩=some (.int .i64 (-1074))) (go_keep) (first | (go_at_call 112;refine(HO.o _).mono ?_;rintro r w2 ⟨v,rfl,hN,hb⟩;have hb2:Below W1.heap.size W1 w2:=(by first | exact hb | exact((ay _ W1).drew).trans (hb.mono (ak _)));have p2:w2.cell? ⟨w.heap.size,1,none⟩=some (.int .i64 (-1074)):=(hb2.cell (p:=⟨w.heap.size,1,none⟩) hz).trans p1;have S2:=(aZ hb2 hN);clear hb hb2 hN))
 all_goals (
  go_wp2;go_simp
  go_ret2
  exact⟨v,rfl,S2.o.2.mono (fD hz),HB.o.trans (S2.o.1.mono (fD hz))⟩)
theorem xU (K q f g x y:Int) (V:Nat) (w:World) (e1:K/4503599627370496=q) (e2:K%4503599627370496=f) (e3:IntKind.u64.wrap (4503599627370496+f)=g) (e4:IntKind.i64.wrap q=q) (e5:IntKind.i64.wrap (-1074+q)=x) (e6:IntKind.i64.wrap (x-1)=y) (hK0:0<=K) (hK1:K<=9218868437227405312) (hq0:(q==0)=false)
 (HO:Hid (∀ u,Calls Tryz.prog 112 #[.int .u64 g] u fun r w'=>∃ v,r=.returned v/\Nt u.heap.size w' v V/\Below u.heap.size u w')) :
 Calls Tryz.prog 163 #[.agg #[.int .i64 53,.int .i64 (-1074),.int .u64 9218868437227405312],.int .u64 K] w fun r w'=>∃ v,r=.returned (.tuple #[v,.int .i64 y])/\Nt w.heap.size w' v V/\Below w.heap.size w w':=by
 obtain⟨W1,hW1⟩:=af (w.alloc (.cells #[.int .i64 53,.int .i64 (-1074),.int .u64 9218868437227405312] 137));have P:W1.heap[w.heap.size]?=some (.cells #[.int .i64 53,.int .i64 (-1074),.int .u64 9218868437227405312] 137 (0,0)):=by rw[hW1,gU]
 have p1:W1.cell? ⟨w.heap.size,1,none⟩=some (.int .i64 (-1074)):=by simp[World.cell?,P]
 have hz:w.heap.size<W1.heap.size:=by rw[hW1];simp
 have HB:=ah (show Below w.heap.size w W1 by rw[hW1];exact ae w _);go_enter Tryz.func163,Tryz.ntmps163;go_wp2;rw[<-hW1]
 try simp only[e1,e2]
 clear hW1 P e1 e2 hK0 hK1
 go_region_held3 (fun w'=>w'.cell? ⟨w.heap.size,1,none⟩=some (.int .i64 (-1074))) (go_keep) (first | (go_at_call 112;refine(HO.o _).mono ?_;rintro r w2 ⟨v,rfl,hN,hb⟩;have hb2:Below W1.heap.size W1 w2:=(by first | exact hb | exact((ay _ W1).drew).trans (hb.mono (ak _)));have p2:w2.cell? ⟨w.heap.size,1,none⟩=some (.int .i64 (-1074)):=(hb2.cell (p:=⟨w.heap.size,1,none⟩) hz).trans p1;have S2:=(aZ hb2 hN);clear hb hb2 hN))
 all_goals (
  go_wp2;go_simp
  go_ret2
  exact⟨v,rfl,S2.o.2.mono (fD hz),HB.o.trans (S2.o.1.mono (fD hz))⟩)
theorem zX(k:Nat)(hk:k<=9218868437227405312)(w:World) :
 Calls Tryz.prog 163 #[.agg #[.int .i64 53,.int .i64 (-1074),.int .u64 9218868437227405312],.int .u64 (k:Nat)] w fun r w'=>∃ v,r=.returned (.tuple #[v,.int .i64 (gp k).2])/\Nt w.heap.size w' v (gp k).1/\Below w.heap.size w w':=by
 unfold gp
 by_cases h0:k/4503599627370496=0
 · rw[if_pos h0];exact ze (k:Int) (k%4503599627370496) w (by omega) (by omega) (by omega) (hid fun u=>by simpa using vX (k%4503599627370496) u (by omega))
 · rw[if_neg h0];have hw:∀ n:Int,0<=n->n<18446744073709551616->IntKind.u64.wrap n=n:=fun n h1 h2=>by simp[IntKind.wrap,IntKind.bits,IntKind.signed];omega
   have hv:∀ n:Int,-4000<=n->n<4000->IntKind.i64.wrap n=n:=fun n h1 h2=>by simp[IntKind.wrap,IntKind.bits,IntKind.signed];omega
   have e3:(4503599627370496:Int)+((k%4503599627370496:Nat):Int)=((4503599627370496+k%4503599627370496:Nat):Int):=by omega
   exact xU (k:Int) ((k/4503599627370496:Nat):Int) ((k%4503599627370496:Nat):Int) ((4503599627370496+k%4503599627370496:Nat):Int) (-1074+((k/4503599627370496:Nat):Int)) (-1074+((k/4503599627370496:Nat):Int)-1) (4503599627370496+k%4503599627370496) w (by omega) (by omega) (by rw[e3];exact hw _ (by omega) (by omega)) (hv _ (by omega) (by omega)) (hv _ (by omega) (by omega)) (hv _ (by omega) (by omega)) (by omega) (by omega) (beq_eq_false_iff_ne.2 (by omega)) (hid fun u=>vX _ u (by omega))
theorem Iu(e f:Nat)(hf:f<4503599627370496):gp (e*4503599627370496+f)=(if e=0 then f else f+4503599627370496,if e=0 then -1074 else(e:Int)-1075):=by
 have h1:(e*4503599627370496+f)/4503599627370496=e:=by omega
 have h2:(e*4503599627370496+f)%4503599627370496=f:=by omega
 unfold gp;rw[h1,h2]
 by_cases h:e=0
 · rw[if_pos h,if_pos h,if_pos h]
 · rw[if_neg h,if_neg h,if_neg h];refine Prod.ext (by simp;omega) (by simp;omega)
theorem rJ(w:World):Calls Tryz.prog 105 #[] w fun r w'=>r=.returned (.agg #[.int .i64 53,.int .i64 (-1074),.int .u64 9218868437227405312])/\Below w.heap.size w w':=by
 go_enter Tryz.func105,Tryz.ntmps105;go_wp2;exact aB (v:=.agg #[.int .i64 53,.int .i64 (-1074),.int .u64 9218868437227405312]) (by simp[results,Tryz.results105,go_sem]) rfl ⟨rfl,by repeat (first | exact ay _ _ | refine Below.alloc ?_ (by first | omega | simp) _ | refine Below.qj ?_ _ _ _ (by omega) (by simp))⟩
theorem Iw(neg:Bool)(k:Int)(w:World)(hk:9218868437227405312<=k)(hk2:k<9223372036854775808) :
 Calls Tryz.prog 106 #[.agg #[.int .i64 53,.int .i64 (-1074),.int .u64 9218868437227405312],.bool neg,.int .u64 k] w fun r w'=>r=.returned (.tuple #[.agg #[.bool false,.slice none 0 0,.int .i64 0],.bool false])/\Below w.heap.size w w':=by
 have HB:=ah (show Below w.heap.size w ((w.alloc (.cells #[.int .i64 53,.int .i64 (-1074),.int .u64 9218868437227405312] 137)).alloc (.cells #[.bool false,.slice none 0 0,.int .i64 0] 79)) from(ae w _).alloc (by simp) _);go_enter Tryz.func106,Tryz.ntmps106;go_wp2;exact aB (v:=.tuple #[.agg #[.bool false,.slice none 0 0,.int .i64 0],.bool false]) (by simp[results,Tryz.results106,go_sem]) rfl ⟨rfl,HB.o⟩
theorem Iy (neg:Bool) (k:Int) (F:Nat) (x:Int) (w:World) (hk:k<9218868437227405312) (hF:F<9007199254740992) (hx0:-1100<=x) (hx1:x<=1000)
 (HN0:Hid (∀ u,Calls Tryz.prog 163 #[.agg #[.int .i64 53,.int .i64 (-1074),.int .u64 9218868437227405312],.int .u64 k] u fun r w'=>∃ v,r=.returned (.tuple #[v,.int .i64 x])/\Nt u.heap.size w' v F/\Below u.heap.size u w')) :
 Calls Tryz.prog 106 #[.agg #[.int .i64 53,.int .i64 (-1074),.int .u64 9218868437227405312],.bool neg,.int .u64 k] w fun r w'=>BN w.heap.size w' r (mkS neg F x)/\Below w.heap.size w w':=by
 have HB:=ah (show Below w.heap.size w ((w.alloc (.cells #[.int .i64 53,.int .i64 (-1074),.int .u64 9218868437227405312] 137)).alloc (.cells #[.bool false,.slice none 0 0,.int .i64 0] 79)) from(ae w _).alloc (by simp) _);have HN:=hid (HN0.o ((w.alloc (.cells #[.int .i64 53,.int .i64 (-1074),.int .u64 9218868437227405312] 137)).alloc (.cells #[.bool false,.slice none 0 0,.int .i64 0] 79)));have hl:=aK neg F x;have hFl:(ws F).length<=100:=by have:=gG F;have:=pQ F hF;omega
 have HM:Hid (∀ (u:World) (a:Option Addr) (c:Nat),Arg u a (ws F).length c (ws F)->Calls Tryz.prog 111 #[.bool neg,.slice a (ws F).length c,.int .i64 x] u fun r w'=>BN u.heap.size w' r (mkS neg F x)/\Below u.heap.size u w'):=by
  intro u a c hA;have:=pJ hA (by omega) neg x (by omega) (by omega);exact xt
 obtain⟨o,ho⟩:∃ o,mkS neg F x=o:=⟨_,rfl⟩;rw[ho] at HM hl |-;unfold BN at HM |-;obtain⟨dn,hdn⟩:∃ d,dN o=d:=⟨_,rfl⟩;obtain⟨X,Ip⟩:∃ d,dX o=d:=⟨_,rfl⟩;obtain⟨de,hde⟩:∃ d,dE o=d:=⟨_,rfl⟩;obtain⟨er,her⟩:∃ d,o.isSome=d:=⟨_,rfl⟩;rw[hdn,Ip,hde,her] at HM |-;rw[Ip] at hl;clear ho hdn Ip hde her hF hx0 hx1 HN0;go_enter Tryz.func106,Tryz.ntmps106;go_wp2_with fail;refine HN.o.mono ?_;rintro r w2 ⟨v,rfl,hN,hb⟩;obtain⟨a2,c2,rfl,A2⟩:=hN.arg (by omega);obtain⟨hc,hf⟩:=aO hb;have hz:w.heap.size+1<w2.heap.size:=by have:=hb.size;simp at this;omega
 have H2:=hid (HM.o w2 a2 c2 A2);have S2:=ah (HB.o.trans (hb.mono (by simp;omega)));clear hN hb A2;go_wp2_with fail;refine H2.o.mono ?_;rintro r w3 ⟨⟨v3,rfl,hN⟩,hb⟩;obtain⟨a3,c3,rfl,_⟩:=hN.arg (by omega);obtain⟨hc3,hf3⟩:=aO hb;have HF:=ah (show Fin w.heap.size w2.heap.size w w3 (.slice a3 (ws X).length c3) X from⟨hN,S2.o.trans (hb.mono (by omega)),by have:=hb.size;omega⟩);clear hN hb;go_wp2;exact aB (v:=.tuple #[.agg #[.bool dn,.slice a3 (ws X).length c3,.int .i64 de],.bool er]) (by simp[results,Tryz.results106,go_sem,hc,hc3,hz]) rfl (Fin.jw (m:=w2.heap.size) (by repeat (first | exact HF.o | refine Fin.alloc ?_ _ | refine Fin.set ?_ _ _ _ (by omega) (by omega))) (by omega))
theorem pF(neg:Bool)(k:Nat)(w:World)(hk:k<9218868437227405312) :
 Calls Tryz.prog 106 #[.agg #[.int .i64 53,.int .i64 (-1074),.int .u64 9218868437227405312],.bool neg,.int .u64 (k:Nat)] w fun r w'=>BN w.heap.size w' r (mkS neg (gp k).1 (gp k).2)/\Below w.heap.size w w':=by
 have hb1:(gp k).1<9007199254740992/\-1100<=(gp k).2/\(gp k).2<=1000:=by unfold gp;split <;> simp <;> omega
 exact Iy neg (k:Int) _ _ w (by omega) hb1.1 hb1.2.1 hb1.2.2 (hid fun u=>zX k (by omega) u)
end
section
open Go.RowKit
attribute [local go_sem] B.aM B.aF
theorem Ey (s:Bool) (b:Nat) (k:Int) (dn:Bool) (X:Nat) (de:Int) (er:Bool) (w:World) (hl:(ws X).length<=8192)
 (e1:((b:Int)/9223372036854775808==1)=s) (e2:IntKind.u64.wrap ((b:Int)*2)/2=k) (hX:er=false->dn=false/\X=0/\de=0)
 (hO:Hid (∀ u,Calls Tryz.prog 105 #[] u fun r w'=>r=.returned (.agg #[.int .i64 53,.int .i64 (-1074),.int .u64 9218868437227405312])/\Below u.heap.size u w'))
 (HW:Hid (∀ u,Calls Tryz.prog 106 #[.agg #[.int .i64 53,.int .i64 (-1074),.int .u64 9218868437227405312],.bool s,.int .u64 k] u fun r w'=>(∃ v,r=.returned (.tuple #[.agg #[.bool dn,v,.int .i64 de],.bool er])/\Nt u.heap.size w' v X)/\Below u.heap.size u w')) :
 Calls Tryz.prog 66 #[.float .f64 b] w fun r w'=>(∃ v,r=.returned (.tuple #[.agg #[.bool dn,v,.int .i64 de],.int .i64 (if er then 0 else 30)])/\Nt w.heap.size w' v X)/\Below w.heap.size w w':=by
 go_enter Tryz.func66,Tryz.ntmps66;go_wp2_with fail;refine(dL (hO.o _)) ?_;rintro r w1 ⟨rfl,hb1⟩;have hz:w.heap.size<w1.heap.size:=by have:=hb1.size;simp at this;omega
 have S1:=ah ((ae w (.cells #[.bool false,.slice none 0 0,.int .i64 0] 79)).trans (hb1.mono (by simp)));obtain⟨hc,hf⟩:=aO hb1;clear hb1;go_wp2_with fail
 try simp only[e1,e2]
 refine(dL (HW.o _)) ?_;rintro r w2 ⟨⟨v,rfl,hN⟩,hb2⟩;obtain⟨a2,c2,rfl,_⟩:=hN.arg (by omega);obtain⟨hc2,hf2⟩:=aO hb2;have hz2:w.heap.size<w2.heap.size:=by have:=hb2.size;omega
 have HF:=ah (show Fin w.heap.size w1.heap.size w w2 (.slice a2 (ws X).length c2) X from⟨hN,S1.o.trans (hb2.mono (by omega)),by omega⟩);clear hN hb2 e1 e2
 cases er
 · obtain⟨rfl,rfl,rfl⟩:=hX rfl;clear hX;go_wp2;exact aB (v:=.tuple #[.agg #[.bool false,.slice none 0 0,.int .i64 0],.int .i64 30]) (by simp[results,Tryz.results66,go_sem,hc,hc2,hz,hz2]) rfl (Fin.dnil (m:=w1.heap.size) (v:=.slice a2 (ws 0).length c2) (X:=0) (by repeat (first | exact HF.o | refine Fin.alloc ?_ _ | refine Fin.set ?_ _ _ _ (by omega) (by omega))))
 · clear hX;go_wp2;exact aB (v:=.tuple #[.agg #[.bool dn,.slice a2 (ws X).length c2,.int .i64 de],.int .i64 0]) (by simp[results,Tryz.results66,go_sem,hc,hc2,hz,hz2]) rfl (Fin.jw (m:=w1.heap.size) (by repeat (first | exact HF.o | refine Fin.alloc ?_ _ | refine Fin.set ?_ _ _ _ (by omega) (by omega))) (by omega))
theorem QJ(s:Bool)(e f:Nat)(he:e<2048)(hf:f<4503599627370496)(w:World) :
 Calls Tryz.prog 66 #[.float .f64 (B.bw s e f)] w fun r w'=>OAns w.heap.size w' r (YF s e f) (XF e)/\Below w.heap.size w w':=by
 have hbl:=B.om s e f he hf;have hb1:(B.bw s e f:Int)=(if s then 9223372036854775808 else 0)+((e*4503599627370496+f:Nat):Int):=by unfold B.bw;cases s <;> simp <;> omega
 obtain⟨b,hb⟩:∃ b,B.bw s e f=b:=⟨_,rfl⟩;obtain⟨k,hk⟩:∃ k,e*4503599627370496+f=k:=⟨_,rfl⟩;rw[hb,hk] at hb1;rw[hb] at hbl |-;have hk2:k<9223372036854775808:=by omega
 have e1:((b:Int)/9223372036854775808==1)=s:=by cases s <;> simp at hb1 |- <;> omega
 have e2:IntKind.u64.wrap ((b:Int)*2)/2=(k:Int):=by
  simp[IntKind.wrap,IntKind.bits,IntKind.signed]
  cases s <;> simp at hb1 <;> omega
 unfold YF XF
 by_cases h7:e=2047
 · rw[if_pos h7,if_pos h7]
   exact Ey s b (k:Int) false 0 0 false w (by rw[bI];simp) e1 e2 (fun _=>⟨rfl,rfl,rfl⟩) (hid fun u=>rJ u)
    (hid fun u=>(Iw s (k:Int) u (by omega) (by omega)).mono fun r w' ⟨h1,h2⟩=>⟨⟨_,h1,Nt.nil _ _⟩,h2⟩)
 · rw[if_neg h7,if_neg h7];have hn:=Iu e f hf;rw[hk] at hn;have hF:(if e=0 then f else f+4503599627370496)<9007199254740992:=by split <;> omega
   have hx0:(-1100:Int)<=(if e=0 then -1074 else(e:Int)-1075):=by split <;> omega
   have hx1:(if e=0 then -1074 else(e:Int)-1075)<=(1000:Int):=by split <;> omega
   obtain⟨d,hd⟩:=Kl s _ _ hF hx0 hx1;have hl:=aK s (if e=0 then f else f+4503599627370496) (if e=0 then -1074 else(e:Int)-1075);have hB:∀ u,_:=fun u=>pF s k u (by omega);rw[hn] at hB;simp only[] at hB;rw[hd] at hB hl |-;exact Ey s b (k:Int) _ _ _ true w hl e1 e2 (fun h=>by cases h) (hid fun u=>rJ u) (hid hB)
end
section
open Go.RowKit
theorem Ca (n:Int) (m:Nat) (X:Nat) (dn:Bool) (de:Int) (er:Int) (w:World) (h0:n<0) (h1:-9223372036854775808<=n) (hm:(ws m).length<=100) (hl:(ws X).length<=8192) (e1:IntKind.u64.wrap (-IntKind.u64.wrap n)=(m:Int))
 (HO:Hid (∀ u,Calls Tryz.prog 95 #[.int .u64 (m:Int)] u fun r w'=>∃ v,r=.returned v/\Nt u.heap.size w' v m/\Below u.heap.size u w'))
 (HM:Hid (∀ (u:World) (a:Option Addr) (c:Nat),Below w.heap.size w u->Arg u a (ws m).length c (ws m)->Calls Tryz.prog 94 #[.bool true,.slice a (ws m).length c,.int .i64 0] u fun r w'=>(∃ v,r=.returned (.tuple #[.agg #[.bool dn,v,.int .i64 de],.int .i64 er])/\Nt u.heap.size w' v X)/\Below u.heap.size u w')) :
 Calls Tryz.prog 57 #[.int .i64 n] w fun r w'=>(∃ v,r=.returned (.agg #[.bool dn,v,.int .i64 de])/\Nt w.heap.size w' v X)/\Below w.heap.size w w':=by
 go_enter Tryz.func57,Tryz.ntmps57;go_wp2_with fail
 try rw[e1]
 refine(dL (HO.o _)) ?_;rintro r w1 ⟨v,rfl,hN,hb⟩;obtain⟨a1,c1,rfl,A1⟩:=hN.arg (by omega);have hz:w.heap.size<w1.heap.size:=by have:=hb.size;simp at this;omega
 have hbw:Below w.heap.size w w1:=(ae w (.cells #[.bool false,.slice none 0 0,.int .i64 0] 79)).trans (hb.mono (by simp));have S1:=ah hbw;have H2:=hid (HM.o w1 a1 c1 hbw A1);obtain⟨hc,hf⟩:=aO hb;clear hN hb A1 hbw;go_wp2_with fail;refine H2.o.mono ?_;rintro r w2 ⟨⟨v,rfl,hN⟩,hb2⟩;obtain⟨a2,c2,rfl,_⟩:=hN.arg (by omega);obtain⟨hc2,hf2⟩:=aO hb2;have hz2:w.heap.size<w2.heap.size:=by have:=hb2.size;omega
 have HF:=ah (show Fin w.heap.size w1.heap.size w w2 (.slice a2 (ws X).length c2) X from⟨hN,S1.o.trans (hb2.mono (by omega)),by omega⟩);clear hN hb2;go_wp2;exact aB (v:=.agg #[.bool dn,.slice a2 (ws X).length c2,.int .i64 de]) (by simp[results,Tryz.results57,go_sem,hc,hc2,hz,hz2]) rfl (Fin.U9 (m:=w1.heap.size) (by repeat (first | exact HF.o | refine Fin.alloc ?_ _ | refine Fin.set ?_ _ _ _ (by omega) (by omega))) (by omega))
theorem Cb (n:Int) (m:Nat) (X:Nat) (dn:Bool) (de:Int) (er:Int) (w:World) (h0:0<=n) (h1:n<=9223372036854775807) (hd:decide (n<0)=false) (hm:(ws m).length<=100) (hl:(ws X).length<=8192) (e1:IntKind.u64.wrap n=n)
 (HO:Hid (∀ u,Calls Tryz.prog 95 #[.int .u64 n] u fun r w'=>∃ v,r=.returned v/\Nt u.heap.size w' v m/\Below u.heap.size u w'))
 (HM:Hid (∀ (u:World) (a:Option Addr) (c:Nat),Below w.heap.size w u->Arg u a (ws m).length c (ws m)->Calls Tryz.prog 94 #[.bool false,.slice a (ws m).length c,.int .i64 0] u fun r w'=>(∃ v,r=.returned (.tuple #[.agg #[.bool dn,v,.int .i64 de],.int .i64 er])/\Nt u.heap.size w' v X)/\Below u.heap.size u w')) :
 Calls Tryz.prog 57 #[.int .i64 n] w fun r w'=>(∃ v,r=.returned (.agg #[.bool dn,v,.int .i64 de])/\Nt w.heap.size w' v X)/\Below w.heap.size w w':=by
 go_enter Tryz.func57,Tryz.ntmps57;go_wp2_with fail
 try rw[e1]
 refine(dL (HO.o _)) ?_;rintro r w1 ⟨v,rfl,hN,hb⟩;obtain⟨a1,c1,rfl,A1⟩:=hN.arg (by omega);have hz:w.heap.size<w1.heap.size:=by have:=hb.size;simp at this;omega
 have hbw:Below w.heap.size w w1:=(ae w (.cells #[.bool false,.slice none 0 0,.int .i64 0] 79)).trans (hb.mono (by simp));have S1:=ah hbw;have H2:=hid (HM.o w1 a1 c1 hbw A1);obtain⟨hc,hf⟩:=aO hb;clear hN hb A1 hbw;go_wp2_with fail;refine H2.o.mono ?_;rintro r w2 ⟨⟨v,rfl,hN⟩,hb2⟩;obtain⟨a2,c2,rfl,_⟩:=hN.arg (by omega);obtain⟨hc2,hf2⟩:=aO hb2;have hz2:w.heap.size<w2.heap.size:=by have:=hb2.size;omega
 have HF:=ah (show Fin w.heap.size w1.heap.size w w2 (.slice a2 (ws X).length c2) X from⟨hN,S1.o.trans (hb2.mono (by omega)),by omega⟩);clear hN hb2;go_wp2;exact aB (v:=.agg #[.bool dn,.slice a2 (ws X).length c2,.int .i64 de]) (by simp[results,Tryz.results57,go_sem,hc,hc2,hz,hz2]) rfl (Fin.U9 (m:=w1.heap.size) (by repeat (first | exact HF.o | refine Fin.alloc ?_ _ | refine Fin.set ?_ _ _ _ (by omega) (by omega))) (by omega))
theorem zf (n:Int) (m:Nat) (X:Nat) (dn:Bool) (de:Int) (er:Bool) (w:World) (h0:n<0) (h1:-9223372036854775808<=n) (hm:(ws m).length<=100) (hl:(ws X).length<=8192) (e1:IntKind.u64.wrap (-IntKind.u64.wrap n)=(m:Int))
 (HO:Hid (∀ u,Calls Tryz.prog 112 #[.int .u64 (m:Int)] u fun r w'=>∃ v,r=.returned v/\Nt u.heap.size w' v m/\Below u.heap.size u w'))
 (HM:Hid (∀ (u:World) (a:Option Addr) (c:Nat),Below w.heap.size w u->Arg u a (ws m).length c (ws m)->Calls Tryz.prog 111 #[.bool true,.slice a (ws m).length c,.int .i64 0] u fun r w'=>(∃ v,r=.returned (.tuple #[.agg #[.bool dn,v,.int .i64 de],.bool er])/\Nt u.heap.size w' v X)/\Below u.heap.size u w')) :
 Calls Tryz.prog 69 #[.int .i64 n] w fun r w'=>(∃ v,r=.returned (.agg #[.bool dn,v,.int .i64 de])/\Nt w.heap.size w' v X)/\Below w.heap.size w w':=by
 go_enter Tryz.func69,Tryz.ntmps69;go_wp2_with fail
 try rw[e1]
 refine(dL (HO.o _)) ?_;rintro r w1 ⟨v,rfl,hN,hb⟩;obtain⟨a1,c1,rfl,A1⟩:=hN.arg (by omega);have hz:w.heap.size<w1.heap.size:=by have:=hb.size;simp at this;omega
 have hbw:Below w.heap.size w w1:=(ae w (.cells #[.bool false,.slice none 0 0,.int .i64 0] 79)).trans (hb.mono (by simp));have S1:=ah hbw;have H2:=hid (HM.o w1 a1 c1 hbw A1);obtain⟨hc,hf⟩:=aO hb;clear hN hb A1 hbw;go_wp2_with fail;refine H2.o.mono ?_;rintro r w2 ⟨⟨v,rfl,hN⟩,hb2⟩;obtain⟨a2,c2,rfl,_⟩:=hN.arg (by omega);obtain⟨hc2,hf2⟩:=aO hb2;have hz2:w.heap.size<w2.heap.size:=by have:=hb2.size;omega
 have HF:=ah (show Fin w.heap.size w1.heap.size w w2 (.slice a2 (ws X).length c2) X from⟨hN,S1.o.trans (hb2.mono (by omega)),by omega⟩);clear hN hb2;go_wp2;exact aB (v:=.agg #[.bool dn,.slice a2 (ws X).length c2,.int .i64 de]) (by simp[results,Tryz.results69,go_sem,hc,hc2,hz,hz2]) rfl (Fin.U9 (m:=w1.heap.size) (by repeat (first | exact HF.o | refine Fin.alloc ?_ _ | refine Fin.set ?_ _ _ _ (by omega) (by omega))) (by omega))
theorem zg (n:Int) (m:Nat) (X:Nat) (dn:Bool) (de:Int) (er:Bool) (w:World) (h0:0<=n) (h1:n<=9223372036854775807) (hd:decide (n<0)=false) (hm:(ws m).length<=100) (hl:(ws X).length<=8192) (e1:IntKind.u64.wrap n=n)
 (HO:Hid (∀ u,Calls Tryz.prog 112 #[.int .u64 n] u fun r w'=>∃ v,r=.returned v/\Nt u.heap.size w' v m/\Below u.heap.size u w'))
 (HM:Hid (∀ (u:World) (a:Option Addr) (c:Nat),Below w.heap.size w u->Arg u a (ws m).length c (ws m)->Calls Tryz.prog 111 #[.bool false,.slice a (ws m).length c,.int .i64 0] u fun r w'=>(∃ v,r=.returned (.tuple #[.agg #[.bool dn,v,.int .i64 de],.bool er])/\Nt u.heap.size w' v X)/\Below u.heap.size u w')) :
 Calls Tryz.prog 69 #[.int .i64 n] w fun r w'=>(∃ v,r=.returned (.agg #[.bool dn,v,.int .i64 de])/\Nt w.heap.size w' v X)/\Below w.heap.size w w':=by
 go_enter Tryz.func69,Tryz.ntmps69;go_wp2_with fail
 try rw[e1]
 refine(dL (HO.o _)) ?_;rintro r w1 ⟨v,rfl,hN,hb⟩;obtain⟨a1,c1,rfl,A1⟩:=hN.arg (by omega);have hz:w.heap.size<w1.heap.size:=by have:=hb.size;simp at this;omega
 have hbw:Below w.heap.size w w1:=(ae w (.cells #[.bool false,.slice none 0 0,.int .i64 0] 79)).trans (hb.mono (by simp));have S1:=ah hbw;have H2:=hid (HM.o w1 a1 c1 hbw A1);obtain⟨hc,hf⟩:=aO hb;clear hN hb A1 hbw;go_wp2_with fail;refine H2.o.mono ?_;rintro r w2 ⟨⟨v,rfl,hN⟩,hb2⟩;obtain⟨a2,c2,rfl,_⟩:=hN.arg (by omega);obtain⟨hc2,hf2⟩:=aO hb2;have hz2:w.heap.size<w2.heap.size:=by have:=hb2.size;omega
 have HF:=ah (show Fin w.heap.size w1.heap.size w w2 (.slice a2 (ws X).length c2) X from⟨hN,S1.o.trans (hb2.mono (by omega)),by omega⟩);clear hN hb2;go_wp2;exact aB (v:=.agg #[.bool dn,.slice a2 (ws X).length c2,.int .i64 de]) (by simp[results,Tryz.results69,go_sem,hc,hc2,hz,hz2]) rfl (Fin.U9 (m:=w1.heap.size) (by repeat (first | exact HF.o | refine Fin.alloc ?_ _ | refine Fin.set ?_ _ _ _ (by omega) (by omega))) (by omega))
theorem xV(n:Int)(h0:-9223372036854775808<=n)(h1:n<=9223372036854775807):(ws n.natAbs).length<=100:=by
 have:=(aL n.natAbs 2).2 (by rw[show pw 2=18446744073709551616 from rfl];omega);omega
theorem Cc(n:Int)(w:World)(hT:gF w)(h0:-9223372036854775808<=n)(h1:n<=9223372036854775807) :
 Calls Tryz.prog 57 #[.int .i64 n] w fun r w'=>Iq w.heap.size w' r (mkS (decide (n<0)) n.natAbs 0)/\Below w.heap.size w w':=by
 have hl:=xV n h0 h1
 have HM:∀ (s:Bool) (u:World) (a:Option Addr) (c:Nat),Below w.heap.size w u->Arg u a (ws n.natAbs).length c (ws n.natAbs)->Calls Tryz.prog 94 #[.bool s,.slice a (ws n.natAbs).length c,.int .i64 0] u fun r w'=>bS u.heap.size w' r (mkS s n.natAbs 0)/\Below u.heap.size u w':=by
  intro s u a c hu hA;have:=fF hA (hT.belows hu) s 0 (by omega) (by omega);exact xt
 by_cases hn:n<0
 · rw[decide_eq_true hn];exact Ca n n.natAbs _ _ _ _ w hn h0 hl (aK _ _ _) (by simp[IntKind.wrap,IntKind.bits,IntKind.signed];omega) (hid fun u=>mK _ u (by omega)) (hid (HM true))
 · rw[decide_eq_false hn];have e:((n.natAbs:Nat):Int)=n:=by omega
   exact Cb n n.natAbs _ _ _ _ w (by omega) h1 (decide_eq_false hn) hl (aK _ _ _) (by simp[IntKind.wrap,IntKind.bits,IntKind.signed];omega) (hid fun u=>by have:=mK n.natAbs u (by omega);rw[e] at this;exact this) (hid (HM false))
theorem xW(n:Int)(w:World)(h0:-9223372036854775808<=n)(h1:n<=9223372036854775807) :
 Calls Tryz.prog 69 #[.int .i64 n] w fun r w'=>Iq w.heap.size w' r (mkS (decide (n<0)) n.natAbs 0)/\Below w.heap.size w w':=by
 have hl:=xV n h0 h1
 have HM:∀ (s:Bool) (u:World) (a:Option Addr) (c:Nat),Below w.heap.size w u->Arg u a (ws n.natAbs).length c (ws n.natAbs)->Calls Tryz.prog 111 #[.bool s,.slice a (ws n.natAbs).length c,.int .i64 0] u fun r w'=>BN u.heap.size w' r (mkS s n.natAbs 0)/\Below u.heap.size u w':=by
  intro s u a c hu hA;have:=pJ hA (by omega) s 0 (by omega) (by omega);exact xt
 by_cases hn:n<0
 · rw[decide_eq_true hn];exact zf n n.natAbs _ _ _ _ w hn h0 hl (aK _ _ _) (by simp[IntKind.wrap,IntKind.bits,IntKind.signed];omega) (hid fun u=>vX _ u (by omega)) (hid (HM true))
 · rw[decide_eq_false hn];have e:((n.natAbs:Nat):Int)=n:=by omega
   exact zg n n.natAbs _ _ _ _ w (by omega) h1 (decide_eq_false hn) hl (aK _ _ _) (by simp[IntKind.wrap,IntKind.bits,IntKind.signed];omega) (hid fun u=>by have:=vX n.natAbs u (by omega);rw[e] at this;exact this) (hid (HM false))
theorem Nt.bC{lo:Nat}{w:World}{a:Option Addr}{n c X:Nat}(h:Nt lo w (.slice a n c) X)(hs:(ws X).length<=35184372088832):n=(ws X).length/\Arg w a (ws X).length c (ws X):=by
 obtain⟨a',c',e,A⟩:=h.arg hs
 cases e
 exact⟨rfl,A⟩
theorem len8{X:Nat}(h:bl X<=262144):(ws X).length<=8192:=by rw[gG];omega
theorem lg{X:Nat}(h:bl X<=262144):¬ LG X:=by rw[oo];omega
theorem mP{X Y:Nat}(h:X<=Y):bl X<=bl Y:=by
 by_cases h0:bl X=0
 · omega
 · have h1:=(vg X (bl X-1)).1 (by omega);have:=(vg Y (bl X-1)).2 (dz h1 h);omega
theorem bl_le{X k:Nat}(h:X<2^k):bl X<=k:=by
 by_cases h0:k<bl X
 · have:=(vg X k).1 h0;omega
 · omega
theorem xX{X:Nat}(h:bl X<=262144):aX X (-1)=(X/2,0):=by
 unfold aX;rw[if_neg (lg h)]
 by_cases h0:X=0
 · rw[if_pos h0,h0]
 · rw[if_neg h0,if_pos (by omega)];rfl
theorem Km{X k:Nat}(h:bl X<=k+1):X/2<2^k:=by
 have h1:=iq X;have h2:2^bl X<=2^(k+1):=eB (by omega) h;rw[dC] at h2;omega
theorem MG{P Q:Nat}(hP:P%2=1)(hQ:Q%2=1)(bP:bl P<=262144)(bQ:bl Q<=262144):bl (P/2+Q/2)<=262144/\bl (P/2+Q/2+1)<=262144/\2*(P/2+Q/2+1)=P+Q:=by
 have h1:=Km (X:=P) (k:=262143) bP;have h2:=Km (X:=Q) (k:=262143) bQ;have key:∀ k:Nat,P/2<2^k->Q/2<2^k->P/2+Q/2+1<2^(k+1):=by intro k;rw[dC];omega
 have h3:=key _ h1 h2;have h4:=bl_le h3;exact⟨dz (mP (by omega)) h4,h4,by omega⟩
theorem Ez {w:World}{a b:Option Addr}{l c k d:Nat}{xs ys:List Nat}(h1:Arg w a l c xs) (h2:Arg w b k d ys) (hT:gF w) (neg:Bool) (e:Int) (he0:-1048576<=e) (he1:e<=1048576)
 (P Q:Nat) (hP:val xs=P) (hQ:val ys=Q) (oP:P%2=1) (oQ:Q%2=1) (bP:bl P<=262144) (bQ:bl Q<=262144) :
 Calls Tryz.prog 134 #[.bool neg,.slice a l c,.slice b k d,.int .i64 e] w fun r w'=>bS w.heap.size w' r (mkS neg (P+Q) e)/\Below w.heap.size w w':=by
 obtain⟨b3,b4,e5⟩:=MG oP oQ bP bQ;rw[<-e5,xL];obtain⟨P2,hP2⟩:∃ x,P/2=x:=⟨_,rfl⟩;obtain⟨Q2,Ue⟩:∃ x,Q/2=x:=⟨_,rfl⟩;have l1:(ws P2).length<=8192:=by rw[<-hP2];exact len8 (dz (mP (nO _ _)) bP)
 have l2:(ws Q2).length<=8192:=by rw[<-Ue];exact len8 (dz (mP (nO _ _)) bQ)
 have s1:=xX bP;have s2:=xX bQ;rw[hP2] at s1 b3 b4 |-;rw[Ue] at s2 b3 b4 |-;obtain⟨V,hV⟩:∃ x,P2+Q2=x:=⟨_,rfl⟩;rw[hV] at b3 b4 |-;obtain⟨H1,hH1⟩:∃ x,V+1=x:=⟨_,rfl⟩;rw[hH1] at b4 |-;have l3:(ws V).length<=8192:=len8 b3;have l4:(ws H1).length<=8192:=len8 b4;have l5:(ws 1).length<=8192:=by rw[BA];simp
 have HX:=(X9 h1 h2 hT hP hQ s1 s2 hV hH1 b3 b4);clear h1 h2 hT hP hQ oP oQ bP bQ e5 hP2 Ue s1 s2 hV hH1 b3 b4;unfold bS;have hl:=aK neg H1 (e+1);obtain⟨o,ho⟩:∃ o,mkS neg H1 (e+1)=o:=⟨_,rfl⟩;rw[ho] at hl |-;obtain⟨dn,hdn⟩:∃ d,dN o=d:=⟨_,rfl⟩;obtain⟨X,hX⟩:∃ d,dX o=d:=⟨_,rfl⟩;obtain⟨de,hde⟩:∃ d,dE o=d:=⟨_,rfl⟩;obtain⟨er,her⟩:∃ d,vY o=d:=⟨_,rfl⟩;rw[hdn,hX,hde,her];rw[hX] at hl;have HS:=(fM ho hdn hX hde her);clear ho hdn hX hde her;have S0:=ah (show Below (w.alloc (.cells #[.bool false,.slice none 0 0,.int .i64 0] 79)).heap.size (w.alloc (.cells #[.bool false,.slice none 0 0,.int .i64 0] 79)) (w.alloc (.cells #[.bool false,.slice none 0 0,.int .i64 0] 79)) from ay _ _);have B0:=ah (show Below w.heap.size w (w.alloc (.cells #[.bool false,.slice none 0 0,.int .i64 0] 79)) from ae w _);go_enter Tryz.func134,Tryz.ntmps134;obtain C:=S0.o;have BW:Below w.heap.size w (w.alloc (.cells #[.bool false,.slice none 0 0,.int .i64 0] 79)):=B0.o.trans (C.mono (by simp));have H:=hid (fE (V:=P2) (-1) (HX.o.1.below BW) (by rw[HX.o.r3.1];exact HX.o.r5.1) (by omega) (by omega));clear C BW;go_wp2_with fail;refine H.o.mono ?_;rintro r u1 ⟨v,rfl,hN,hb⟩;obtain⟨a1,c1,rfl,_⟩:=hN.arg (by omega);obtain C:=S0.o;have hz1:=C.size;have S1:=(aZ (C.trans (hb.mono C.size)) (hN.mono C.size));clear C hb H hN;obtain⟨C,N1⟩:=S1.o;have BW:Below w.heap.size w u1:=B0.o.trans (C.mono (by simp));have H:=hid (fE (V:=Q2) (-1) (HX.o.2.1.below BW) (by rw[HX.o.r4.1];exact HX.o.r6.1) (by omega) (by omega));clear C BW N1;go_wp2_with fail;refine H.o.mono ?_;rintro r u2 ⟨v,rfl,hN,hb⟩;obtain⟨a2,c2,rfl,_⟩:=hN.arg (by omega);obtain⟨C,N1⟩:=S1.o;have hz2:=C.size;have S2:=(fG (C.trans (hb.mono C.size)) (N1.below hb) (hN.mono C.size));clear C hb H hN N1;obtain⟨C,N1,N2⟩:=S2.o;have BW:Below w.heap.size w u2:=B0.o.trans (C.mono (by simp));have H:=hid (vQ (V:=V) (N1.bC (by omega)).2 (N2.bC (by omega)).2 (by rw[au,au];exact vU (lg HX.o.2.2.2.2.2.2.2.2.2.1) HX.o.r7.1));clear C BW N1 N2;go_wp2_with fail;refine H.o.mono ?_;rintro r u3 ⟨v,rfl,hN,hb⟩;obtain⟨a3,c3,rfl,_⟩:=hN.arg (by omega);obtain⟨C,N1,N2⟩:=S2.o;have hz3:=C.size;have S3:=(iw (C.trans (hb.mono C.size)) (N1.below hb) (N2.below hb) (hN.mono C.size));clear C hb H hN N1 N2;obtain⟨C,N1,N2,N3⟩:=S3.o;have BW:Below w.heap.size w u3:=B0.o.trans (C.mono (by simp));have H:=hid (mK 1 u3 (by omega));clear C BW N1 N2 N3;go_wp2_with fail;refine H.o.mono ?_;rintro r u4 ⟨v,rfl,hN,hb⟩;obtain⟨a4,c4,rfl,_⟩:=hN.arg (by omega);obtain⟨C,N1,N2,N3⟩:=S3.o;have MC:=C.size;have S4:=(fM (C.trans (hb.mono C.size)) (N1.below hb) (N2.below hb) (N3.below hb) (hN.mono C.size));clear C hb H hN N1 N2 N3;obtain⟨C,N1,N2,N3,N4⟩:=S4.o;have BW:Below w.heap.size w u4:=B0.o.trans (C.mono (by simp));have H:=hid (vQ (V:=H1) (N3.bC (by omega)).2 (N4.bC (by omega)).2 (by rw[au,au];exact vU (lg HX.o.2.2.2.2.2.2.2.2.2.2) HX.o.r8.1));clear C BW N1 N2 N3 N4;go_wp2_with fail;refine H.o.mono ?_;rintro r u5 ⟨v,rfl,hN,hb⟩;obtain⟨a5,c5,rfl,_⟩:=hN.arg (by omega);obtain⟨C,N1,N2,N3,N4⟩:=S4.o;have ME:=C.size;have S5:=(jD (C.trans (hb.mono C.size)) (N1.below hb) (N2.below hb) (N3.below hb) (N4.below hb) (hN.mono C.size));clear C hb H hN N1 N2 N3 N4;obtain⟨C,N1,N2,N3,N4,N5⟩:=S5.o;have BW:Below w.heap.size w u5:=B0.o.trans (C.mono (by simp));have H0:=show Calls Tryz.prog 94 #[.bool neg,.slice a5 (ws H1).length c5,.int .i64 (e+1)] u5 fun r w'=>bS u5.heap.size w' r (mkS neg H1 (e+1))/\Below u5.heap.size u5 w' from by have:=fF (N5.bC (by omega)).2 (HX.o.r2.1.belows BW) neg (e+1) (by omega) (by omega);rw[au] at this;exact this
 unfold bS at H0;rw[HS.o.1,HS.o.2.1,HS.o.r2.1,HS.o.r3.1,HS.o.r4] at H0;have H:=hid H0;clear C BW H0 N1 N2 N3 N4 N5;go_wp2_with fail;refine H.o.mono ?_;rintro r uu ⟨⟨v,rfl,hN⟩,hb⟩;obtain⟨aa,cc,rfl,_⟩:=hN.arg (by omega);obtain⟨C,N1,N2,N3,N4,N5⟩:=S5.o;have hbb:=C.trans (hb.mono C.size);obtain⟨hc,hf⟩:=aO hbb;have HF:=ah (Fin.of 1 B0.o (by simp) (hN.mono C.size) hbb);have hz:w.heap.size<uu.heap.size:=by have:=hbb.size;simp at this;omega
 clear C hb hN hbb H N1 N2 N3 N4 N5;go_wp2;exact aB (v:=.tuple #[.agg #[.bool dn,.slice aa (ws X).length cc,.int .i64 de],.int .i64 er]) (by simp[results,Tryz.results134,go_sem,hc]) rfl (Fin.jw (m:=w.heap.size+1) (by repeat (first | exact HF.o | refine Fin.alloc ?_ _ | refine Fin.set ?_ _ _ _ (by omega) (by omega))) (by omega))
theorem Ve {w:World}{a b:Option Addr}{l c k d:Nat}{xs ys:List Nat}(h1:Arg w a l c xs) (h2:Arg w b k d ys) (hT:gF w) (neg:Bool) (e:Int) (he0:-1048576<=e) (he1:e<=1048576)
 (P Q:Nat) (hP:val xs=P) (hQ:val ys=Q) (oP:P%2=1) (oQ:Q%2=1) (bP:bl P<=262144) (bQ:bl Q<=262144) :
 Calls Tryz.prog 82 #[.bool neg,.slice a l c,.slice b k d,.int .i64 e] w fun r w'=>bS w.heap.size w' r (mkS neg (P+Q) e)/\Below w.heap.size w w':=by
 have HX:=(Uc h1 h2 hT hP hQ oP oQ bP bQ);clear h1 h2 hT hP hQ oP oQ bP bQ;unfold bS;have hl:=aK neg (P+Q) e;obtain⟨o,ho⟩:∃ o,mkS neg (P+Q) e=o:=⟨_,rfl⟩;rw[ho] at hl |-;obtain⟨dn,hdn⟩:∃ d,dN o=d:=⟨_,rfl⟩;obtain⟨X,hX⟩:∃ d,dX o=d:=⟨_,rfl⟩;obtain⟨de,hde⟩:∃ d,dE o=d:=⟨_,rfl⟩;obtain⟨er,her⟩:∃ d,vY o=d:=⟨_,rfl⟩;rw[hdn,hX,hde,her];rw[hX] at hl;have HS:=(fM ho hdn hX hde her);clear ho hdn hX hde her;have S0:=ah (show Below (w.alloc (.cells #[.bool false,.slice none 0 0,.int .i64 0] 79)).heap.size (w.alloc (.cells #[.bool false,.slice none 0 0,.int .i64 0] 79)) (w.alloc (.cells #[.bool false,.slice none 0 0,.int .i64 0] 79)) from ay _ _);have B0:=ah (show Below w.heap.size w (w.alloc (.cells #[.bool false,.slice none 0 0,.int .i64 0] 79)) from ae w _);go_enter Tryz.func82,Tryz.ntmps82;obtain C:=S0.o;have BW:Below w.heap.size w (w.alloc (.cells #[.bool false,.slice none 0 0,.int .i64 0] 79)):=B0.o.trans (C.mono (by simp));have H:=hid (show Calls Tryz.prog 133 #[.slice a l c,.int .i64 0] (w.alloc (.cells #[.bool false,.slice none 0 0,.int .i64 0] 79)) fun r w'=>r=.returned (.bool true)/\w'=(w.alloc (.cells #[.bool false,.slice none 0 0,.int .i64 0] 79)) from by have A:=HX.o.1.below BW;have:=vW xs a l c _ 0 _ A.len A.wf A.rd (by omega);rw[fw,Nat.div_one,HX.o.r3.1,HX.o.r5.1] at this;exact this);clear C BW;go_wp2_with fail;refine H.o.mono ?_;rintro r ww ⟨rfl,hw⟩;rw[hw];clear H hw ww;obtain C:=S0.o;have BW:Below w.heap.size w (w.alloc (.cells #[.bool false,.slice none 0 0,.int .i64 0] 79)):=B0.o.trans (C.mono (by simp));have H0:=Ez (HX.o.1.below BW) (HX.o.2.1.below BW) (HX.o.r2.1.belows BW) neg e he0 he1 P Q HX.o.r3.1 HX.o.r4.1 HX.o.r5.1 HX.o.r6.1 HX.o.r7.1 HX.o.r8;unfold bS at H0;rw[HS.o.1,HS.o.2.1,HS.o.r2.1,HS.o.r3.1,HS.o.r4] at H0;have H:=hid H0;clear C BW H0;go_wp2_with fail;refine H.o.mono ?_;rintro r uu ⟨⟨v,rfl,hN⟩,hb⟩;obtain⟨aa,cc,rfl,_⟩:=hN.arg (by omega);obtain C:=S0.o;have hbb:=C.trans (hb.mono C.size);obtain⟨hc,hf⟩:=aO hbb;have HF:=ah (Fin.of 1 B0.o (by simp) (hN.mono C.size) hbb);have hz:w.heap.size<uu.heap.size:=by have:=hbb.size;simp at this;omega
 clear C hb hN hbb H;go_wp2;exact aB (v:=.tuple #[.agg #[.bool dn,.slice aa (ws X).length cc,.int .i64 de],.int .i64 er]) (by simp[results,Tryz.results82,go_sem,hc]) rfl (Fin.jw (m:=w.heap.size+1) (by repeat (first | exact HF.o | refine Fin.alloc ?_ _ | refine Fin.set ?_ _ _ _ (by omega) (by omega))) (by omega))
theorem QK {w:World}{a b:Option Addr}{l c k d:Nat}{xs ys:List Nat}(h1:Arg w a l c xs) (h2:Arg w b k d ys) (hT:gF w) (neg:Bool) (e:Int) (he0:-1048576<=e) (he1:e<=1048576)
 (P Q:Nat) (hP:val xs=P) (hQ:val ys=Q) (oP:P%2=0) (hs:bl (P+Q)<=262144) :
 Calls Tryz.prog 82 #[.bool neg,.slice a l c,.slice b k d,.int .i64 e] w fun r w'=>bS w.heap.size w' r (mkS neg (P+Q) e)/\Below w.heap.size w w':=by
 obtain⟨V,hV⟩:∃ x,P+Q=x:=⟨_,rfl⟩;rw[hV] at hs |-;have l1:=len8 hs;have HX:=(Dh h1 h2 hT hP hQ oP hs hV);clear h1 h2 hT hP hQ oP hs hV;unfold bS;have hl:=aK neg V e;obtain⟨o,ho⟩:∃ o,mkS neg V e=o:=⟨_,rfl⟩;rw[ho] at hl |-;obtain⟨dn,hdn⟩:∃ d,dN o=d:=⟨_,rfl⟩;obtain⟨X,hX⟩:∃ d,dX o=d:=⟨_,rfl⟩;obtain⟨de,hde⟩:∃ d,dE o=d:=⟨_,rfl⟩;obtain⟨er,her⟩:∃ d,vY o=d:=⟨_,rfl⟩;rw[hdn,hX,hde,her];rw[hX] at hl;have HS:=(fM ho hdn hX hde her);clear ho hdn hX hde her;have S0:=ah (show Below (w.alloc (.cells #[.bool false,.slice none 0 0,.int .i64 0] 79)).heap.size (w.alloc (.cells #[.bool false,.slice none 0 0,.int .i64 0] 79)) (w.alloc (.cells #[.bool false,.slice none 0 0,.int .i64 0] 79)) from ay _ _);have B0:=ah (show Below w.heap.size w (w.alloc (.cells #[.bool false,.slice none 0 0,.int .i64 0] 79)) from ae w _);go_enter Tryz.func82,Tryz.ntmps82;obtain C:=S0.o;have BW:Below w.heap.size w (w.alloc (.cells #[.bool false,.slice none 0 0,.int .i64 0] 79)):=B0.o.trans (C.mono (by simp));have H:=hid (show Calls Tryz.prog 133 #[.slice a l c,.int .i64 0] (w.alloc (.cells #[.bool false,.slice none 0 0,.int .i64 0] 79)) fun r w'=>r=.returned (.bool false)/\w'=(w.alloc (.cells #[.bool false,.slice none 0 0,.int .i64 0] 79)) from by have A:=HX.o.1.below BW;have:=vW xs a l c _ 0 _ A.len A.wf A.rd (by omega);rw[fw,Nat.div_one,HX.o.r3.1,HX.o.r5.1] at this;exact this);clear C BW;go_wp2_with fail;refine H.o.mono ?_;rintro r ww ⟨rfl,hw⟩;rw[hw];clear H hw ww;obtain C:=S0.o;have BW:Below w.heap.size w (w.alloc (.cells #[.bool false,.slice none 0 0,.int .i64 0] 79)):=B0.o.trans (C.mono (by simp));have H:=hid (vQ (V:=V) (HX.o.1.below BW) (HX.o.2.1.below BW) (by rw[HX.o.r3.1,HX.o.r4.1];exact vU (lg HX.o.r6.1) HX.o.r7));clear C BW;go_wp2_with fail;refine H.o.mono ?_;rintro r u1 ⟨v,rfl,hN,hb⟩;obtain⟨a1,c1,rfl,_⟩:=hN.arg (by omega);obtain C:=S0.o;have hz1:=C.size;have S1:=(aZ (C.trans (hb.mono C.size)) (hN.mono C.size));clear C hb H hN;obtain⟨C,N1⟩:=S1.o;have BW:Below w.heap.size w u1:=B0.o.trans (C.mono (by simp));have H0:=show Calls Tryz.prog 94 #[.bool neg,.slice a1 (ws V).length c1,.int .i64 e] u1 fun r w'=>bS u1.heap.size w' r (mkS neg V e)/\Below u1.heap.size u1 w' from by have:=fF (N1.bC (by omega)).2 (HX.o.r2.1.belows BW) neg e (by omega) (by omega);rw[au] at this;exact this
 unfold bS at H0;rw[HS.o.1,HS.o.2.1,HS.o.r2.1,HS.o.r3.1,HS.o.r4] at H0;have H:=hid H0;clear C BW H0 N1;go_wp2_with fail;refine H.o.mono ?_;rintro r uu ⟨⟨v,rfl,hN⟩,hb⟩;obtain⟨aa,cc,rfl,_⟩:=hN.arg (by omega);obtain⟨C,N1⟩:=S1.o;have hbb:=C.trans (hb.mono C.size);obtain⟨hc,hf⟩:=aO hbb;have HF:=ah (Fin.of 1 B0.o (by simp) (hN.mono C.size) hbb);have hz:w.heap.size<uu.heap.size:=by have:=hbb.size;simp at this;omega
 clear C hb hN hbb H N1;go_wp2;exact aB (v:=.tuple #[.agg #[.bool dn,.slice aa (ws X).length cc,.int .i64 de],.int .i64 er]) (by simp[results,Tryz.results82,go_sem,hc]) rfl (Fin.jw (m:=w.heap.size+1) (by repeat (first | exact HF.o | refine Fin.alloc ?_ _ | refine Fin.set ?_ _ _ _ (by omega) (by omega))) (by omega))
theorem MH{w:World}{a b:Option Addr}{n c m d:Nat}{xs ys:List Nat}(h1:Arg w a n c xs)(h2:Arg w b m d ys)(h:LG (val xs+val ys)) :
 Calls Tryz.prog 135 #[.slice a n c,.slice b m d] w fun r w'=>∃ v,r=.returned (.tuple #[v,.int .i64 2])/\Nt w.heap.size w' v 0/\Below w.heap.size w w' :=
 (JU xs ys a b n c m d w.heap.size w h1.len h2.len h1.cap h2.cap (by have:=h1.big;omega) (by have:=h2.big;omega) h1.wf h2.wf h1.rd h2.rd (ak _)).mono fun r w' ⟨⟨v,h3,h4⟩,h5⟩=>by
  have e:vG (val xs) (val ys)=(0,2):=by unfold vG;rw[if_pos h]
  rw[e] at h3 h4;exact⟨v,h3,h4,h5⟩
theorem QL {w:World}{a b:Option Addr}{l c k d:Nat}{xs ys:List Nat}(h1:Arg w a l c xs) (h2:Arg w b k d ys) (hT:gF w) (neg:Bool) (e:Int) (he0:-1048576<=e) (he1:e<=1048576)
 (P Q:Nat) (hP:val xs=P) (hQ:val ys=Q) (oP:P%2=0) (hs:262144<bl (P+Q)) :
 Calls Tryz.prog 82 #[.bool neg,.slice a l c,.slice b k d,.int .i64 e] w fun r w'=>bS w.heap.size w' r none/\Below w.heap.size w w':=by
 have l0:(ws 0).length=0:=by rw[bI];rfl
 have HX:=(Du h1 h2 hT hP hQ oP hs);clear h1 h2 hT hP hQ oP hs;have S0:=ah (show Below (w.alloc (.cells #[.bool false,.slice none 0 0,.int .i64 0] 79)).heap.size (w.alloc (.cells #[.bool false,.slice none 0 0,.int .i64 0] 79)) (w.alloc (.cells #[.bool false,.slice none 0 0,.int .i64 0] 79)) from ay _ _);have B0:=ah (show Below w.heap.size w (w.alloc (.cells #[.bool false,.slice none 0 0,.int .i64 0] 79)) from ae w _);go_enter Tryz.func82,Tryz.ntmps82;obtain C:=S0.o;have BW:Below w.heap.size w (w.alloc (.cells #[.bool false,.slice none 0 0,.int .i64 0] 79)):=B0.o.trans (C.mono (by simp));have H:=hid (show Calls Tryz.prog 133 #[.slice a l c,.int .i64 0] (w.alloc (.cells #[.bool false,.slice none 0 0,.int .i64 0] 79)) fun r w'=>r=.returned (.bool false)/\w'=(w.alloc (.cells #[.bool false,.slice none 0 0,.int .i64 0] 79)) from by have A:=HX.o.1.below BW;have:=vW xs a l c _ 0 _ A.len A.wf A.rd (by omega);rw[fw,Nat.div_one,HX.o.r3.1,HX.o.r5.1] at this;exact this);clear C BW;go_wp2_with fail;refine H.o.mono ?_;rintro r ww ⟨rfl,hw⟩;rw[hw];clear H hw ww;obtain C:=S0.o;have BW:Below w.heap.size w (w.alloc (.cells #[.bool false,.slice none 0 0,.int .i64 0] 79)):=B0.o.trans (C.mono (by simp));have H:=hid (MH (HX.o.1.below BW) (HX.o.2.1.below BW) (by rw[HX.o.r3.1,HX.o.r4.1,oo];exact HX.o.r6));clear C BW;go_wp2_with fail;refine H.o.mono ?_;rintro r u1 ⟨v,rfl,hN,hb⟩;obtain⟨a1,c1,rfl,_⟩:=hN.arg (by omega);obtain C:=S0.o;have hz1:=C.size;have S1:=(aZ (C.trans (hb.mono C.size)) (hN.mono C.size));clear C hb H hN;obtain⟨C,N1⟩:=S1.o;obtain⟨hc,hf⟩:=aO C;have HF:=ah (show Fin w.heap.size (w.heap.size+1) w u1 (.slice none 0 0) 0 from⟨Nt.nil _ _,B0.o.trans (C.mono (by simp)),by have:=C.size;simp at this;omega⟩);have hz:w.heap.size<u1.heap.size:=by have:=C.size;simp at this;omega
 clear C N1;go_wp2;exact aB (v:=.tuple #[.agg #[.bool false,.slice none 0 0,.int .i64 0],.int .i64 2]) (by simp[results,Tryz.results82,go_sem,hc]) rfl (Fin.jw (m:=w.heap.size+1) (by repeat (first | exact HF.o | refine Fin.alloc ?_ _ | refine Fin.set ?_ _ _ _ (by omega) (by omega))) (by omega))
theorem Vf {w:World}{a b:Option Addr}{l c k d:Nat}{xs ys:List Nat}(h1:Arg w a l c xs) (h2:Arg w b k d ys) (hT:gF w) (neg:Bool) (e:Int) (he0:-1048576<=e) (he1:e<=1048576)
 (P Q:Nat) (hP:val xs=P) (hQ:val ys=Q) (oQ:Q%2=1) (bP:bl P<=262144) (bQ:bl Q<=262144) :
 Calls Tryz.prog 82 #[.bool neg,.slice a l c,.slice b k d,.int .i64 e] w fun r w'=>bS w.heap.size w' r (mkS neg (P+Q) e)/\Below w.heap.size w w':=by
 rcases GD P with oP|oP
 · by_cases hs:bl (P+Q)<=262144
   · exact QK h1 h2 hT neg e he0 he1 P Q hP hQ oP hs
   · have e1:mkS neg (P+Q) e=none:=by rw[J7 _ _ _ (by omega),if_pos (.inl (by omega))]
     rw[e1];exact QL h1 h2 hT neg e he0 he1 P Q hP hQ oP (by omega)
 · exact Ve h1 h2 hT neg e he0 he1 P Q hP hQ oP oQ bP bQ
theorem QM {w:World}{a b:Option Addr}{l c k d:Nat}{xs ys:List Nat}(h1:Arg w a l c xs) (h2:Arg w b k d ys) (hT:gF w) (neg:Bool) (e:Int) (he0:-1048576<=e) (he1:e<=1048576)
 (P Q:Nat) (hP:val xs=P) (hQ:val ys=Q) (bP:bl P<=262144) (bQ:bl Q<=262144) (hlt:P<Q) :
 Calls Tryz.prog 83 #[.bool neg,.slice a l c,.slice b k d,.int .i64 e] w fun r w'=>bS w.heap.size w' r (mkS (!neg) (Q-P) e)/\Below w.heap.size w w':=by
 obtain⟨z,hz0⟩:∃ z,aW P Q=z:=⟨_,rfl⟩;have hzz:z=-1:=by rw[<-hz0];exact mM hlt
 obtain⟨V,hV⟩:∃ x,Q-P=x:=⟨_,rfl⟩;have bV:bl V<=262144:=by rw[<-hV];exact dz (mP (Nat.sub_le _ _)) bQ
 rw[hV];have l1:=len8 bV;have hsub:V+P=Q:=by omega
 have HX:=(Uc h1 h2 hT hP hQ hz0 hsub bP bQ);subst hzz;clear h1 h2 hT hP hQ hz0 hsub bP bQ hlt hV bV;unfold bS;have hl:=aK (!neg) V e;obtain⟨o,ho⟩:∃ o,mkS (!neg) V e=o:=⟨_,rfl⟩;rw[ho] at hl |-;obtain⟨dn,hdn⟩:∃ d,dN o=d:=⟨_,rfl⟩;obtain⟨X,hX⟩:∃ d,dX o=d:=⟨_,rfl⟩;obtain⟨de,hde⟩:∃ d,dE o=d:=⟨_,rfl⟩;obtain⟨er,her⟩:∃ d,vY o=d:=⟨_,rfl⟩;rw[hdn,hX,hde,her];rw[hX] at hl;have HS:=(fM ho hdn hX hde her);clear ho hdn hX hde her;have S0:=ah (show Below (w.alloc (.cells #[.bool false,.slice none 0 0,.int .i64 0] 79)).heap.size (w.alloc (.cells #[.bool false,.slice none 0 0,.int .i64 0] 79)) (w.alloc (.cells #[.bool false,.slice none 0 0,.int .i64 0] 79)) from ay _ _);have B0:=ah (show Below w.heap.size w (w.alloc (.cells #[.bool false,.slice none 0 0,.int .i64 0] 79)) from ae w _);go_enter Tryz.func83,Tryz.ntmps83;obtain C:=S0.o;have BW:Below w.heap.size w (w.alloc (.cells #[.bool false,.slice none 0 0,.int .i64 0] 79)):=B0.o.trans (C.mono (by simp));have H:=hid (show Calls Tryz.prog 136 #[.slice a l c,.slice b k d] (w.alloc (.cells #[.bool false,.slice none 0 0,.int .i64 0] 79)) fun r w'=>r=.returned (.int .i64 (-1))/\Below (w.alloc (.cells #[.bool false,.slice none 0 0,.int .i64 0] 79)).heap.size (w.alloc (.cells #[.bool false,.slice none 0 0,.int .i64 0] 79)) w' from BG (HX.o.1.below BW) (HX.o.2.1.below BW) (-1) (by rw[HX.o.r3.1,HX.o.r4.1];exact HX.o.r5.1));clear C BW;go_wp2_with fail;refine H.o.mono ?_;rintro r u1 ⟨rfl,hb⟩;obtain C:=S0.o;have hz1:=C.size;have S1:=ah (C.trans (hb.mono C.size));clear C hb H;obtain C:=S1.o;have BW:Below w.heap.size w u1:=B0.o.trans (C.mono (by simp));have H:=hid (vR (V:=V) (HX.o.2.1.below BW) (HX.o.1.below BW) (by rw[HX.o.r4.1,HX.o.r3.1];exact vV (lg HX.o.r8) (lg HX.o.r7.1) HX.o.r6.1));clear C BW;go_wp2_with fail;refine H.o.mono ?_;rintro r u2 ⟨v,rfl,hN,hb⟩;obtain⟨a2,c2,rfl,_⟩:=hN.arg (by omega);obtain C:=S1.o;have hz2:=C.size;have S2:=(aZ (C.trans (hb.mono C.size)) (hN.mono C.size));clear C hb H hN;obtain⟨C,N2⟩:=S2.o;have BW:Below w.heap.size w u2:=B0.o.trans (C.mono (by simp));have H0:=show Calls Tryz.prog 94 #[.bool (!neg),.slice a2 (ws V).length c2,.int .i64 e] u2 fun r w'=>bS u2.heap.size w' r (mkS (!neg) V e)/\Below u2.heap.size u2 w' from by have:=fF (N2.bC (by omega)).2 (HX.o.r2.1.belows BW) (!neg) e (by omega) (by omega);rw[au] at this;exact this
 unfold bS at H0;rw[HS.o.1,HS.o.2.1,HS.o.r2.1,HS.o.r3.1,HS.o.r4] at H0;have H:=hid H0;clear C BW H0 N2;go_wp2_with fail;refine H.o.mono ?_;rintro r uu ⟨⟨v,rfl,hN⟩,hb⟩;obtain⟨aa,cc,rfl,_⟩:=hN.arg (by omega);obtain⟨C,N2⟩:=S2.o;have hbb:=C.trans (hb.mono C.size);obtain⟨hc,hf⟩:=aO hbb;have HF:=ah (Fin.of 1 B0.o (by simp) (hN.mono C.size) hbb);have hz:w.heap.size<uu.heap.size:=by have:=hbb.size;simp at this;omega
 clear C hb hN hbb H N2;go_wp2;exact aB (v:=.tuple #[.agg #[.bool dn,.slice aa (ws X).length cc,.int .i64 de],.int .i64 er]) (by simp[results,Tryz.results83,go_sem,hc]) rfl (Fin.jw (m:=w.heap.size+1) (by repeat (first | exact HF.o | refine Fin.alloc ?_ _ | refine Fin.set ?_ _ _ _ (by omega) (by omega))) (by omega))
theorem MI {w:World}{a b:Option Addr}{l c k d:Nat}{xs ys:List Nat}(h1:Arg w a l c xs) (h2:Arg w b k d ys) (hT:gF w) (neg:Bool) (e:Int) (he0:-1048576<=e) (he1:e<=1048576)
 (P Q:Nat) (hP:val xs=P) (hQ:val ys=Q) (bP:bl P<=262144) (bQ:bl Q<=262144) (hlt:Q<=P) :
 Calls Tryz.prog 83 #[.bool neg,.slice a l c,.slice b k d,.int .i64 e] w fun r w'=>bS w.heap.size w' r (mkS neg (P-Q) e)/\Below w.heap.size w w':=by
 obtain⟨z,hz0⟩:∃ z,aW P Q=z:=⟨_,rfl⟩;have hzz:0<=z:=by rw[<-hz0];exact J6 hlt
 obtain⟨V,hV⟩:∃ x,P-Q=x:=⟨_,rfl⟩;have bV:bl V<=262144:=by rw[<-hV];exact dz (mP (Nat.sub_le _ _)) bP
 rw[hV];have l1:=len8 bV;have hsub:V+Q=P:=by omega
 have HX:=(Uc h1 h2 hT hP hQ hz0 hsub bP bQ);have XG:decide (z<0)=false:=decide_eq_false (by omega);clear h1 h2 hT hP hQ hz0 hsub bP bQ hlt hV bV;unfold bS;have hl:=aK neg V e;obtain⟨o,ho⟩:∃ o,mkS neg V e=o:=⟨_,rfl⟩;rw[ho] at hl |-;obtain⟨dn,hdn⟩:∃ d,dN o=d:=⟨_,rfl⟩;obtain⟨X,hX⟩:∃ d,dX o=d:=⟨_,rfl⟩;obtain⟨de,hde⟩:∃ d,dE o=d:=⟨_,rfl⟩;obtain⟨er,her⟩:∃ d,vY o=d:=⟨_,rfl⟩;rw[hdn,hX,hde,her];rw[hX] at hl;have HS:=(fM ho hdn hX hde her);clear ho hdn hX hde her;have S0:=ah (show Below (w.alloc (.cells #[.bool false,.slice none 0 0,.int .i64 0] 79)).heap.size (w.alloc (.cells #[.bool false,.slice none 0 0,.int .i64 0] 79)) (w.alloc (.cells #[.bool false,.slice none 0 0,.int .i64 0] 79)) from ay _ _);have B0:=ah (show Below w.heap.size w (w.alloc (.cells #[.bool false,.slice none 0 0,.int .i64 0] 79)) from ae w _);go_enter Tryz.func83,Tryz.ntmps83;obtain C:=S0.o;have BW:Below w.heap.size w (w.alloc (.cells #[.bool false,.slice none 0 0,.int .i64 0] 79)):=B0.o.trans (C.mono (by simp));have H:=hid (show Calls Tryz.prog 136 #[.slice a l c,.slice b k d] (w.alloc (.cells #[.bool false,.slice none 0 0,.int .i64 0] 79)) fun r w'=>r=.returned (.int .i64 z)/\Below (w.alloc (.cells #[.bool false,.slice none 0 0,.int .i64 0] 79)).heap.size (w.alloc (.cells #[.bool false,.slice none 0 0,.int .i64 0] 79)) w' from BG (HX.o.1.below BW) (HX.o.2.1.below BW) z (by rw[HX.o.r3.1,HX.o.r4.1];exact HX.o.r5.1));clear C BW;go_wp2_with fail;refine H.o.mono ?_;rintro r u1 ⟨rfl,hb⟩;obtain C:=S0.o;have hz1:=C.size;have S1:=ah (C.trans (hb.mono C.size));clear C hb H;obtain C:=S1.o;have BW:Below w.heap.size w u1:=B0.o.trans (C.mono (by simp));have H:=hid (vR (V:=V) (HX.o.1.below BW) (HX.o.2.1.below BW) (by rw[HX.o.r3.1,HX.o.r4.1];exact vV (lg HX.o.r7.1) (lg HX.o.r8) HX.o.r6.1));clear C BW;go_wp2_with fail;refine H.o.mono ?_;rintro r u2 ⟨v,rfl,hN,hb⟩;obtain⟨a2,c2,rfl,_⟩:=hN.arg (by omega);obtain C:=S1.o;have hz2:=C.size;have S2:=(aZ (C.trans (hb.mono C.size)) (hN.mono C.size));clear C hb H hN;obtain⟨C,N2⟩:=S2.o;have BW:Below w.heap.size w u2:=B0.o.trans (C.mono (by simp));have H0:=show Calls Tryz.prog 94 #[.bool neg,.slice a2 (ws V).length c2,.int .i64 e] u2 fun r w'=>bS u2.heap.size w' r (mkS neg V e)/\Below u2.heap.size u2 w' from by have:=fF (N2.bC (by omega)).2 (HX.o.r2.1.belows BW) neg e (by omega) (by omega);rw[au] at this;exact this
 unfold bS at H0;rw[HS.o.1,HS.o.2.1,HS.o.r2.1,HS.o.r3.1,HS.o.r4] at H0;have H:=hid H0;clear C BW H0 N2;go_wp2_with fail;refine H.o.mono ?_;rintro r uu ⟨⟨v,rfl,hN⟩,hb⟩;obtain⟨aa,cc,rfl,_⟩:=hN.arg (by omega);obtain⟨C,N2⟩:=S2.o;have hbb:=C.trans (hb.mono C.size);obtain⟨hc,hf⟩:=aO hbb;have HF:=ah (Fin.of 1 B0.o (by simp) (hN.mono C.size) hbb);have hz:w.heap.size<uu.heap.size:=by have:=hbb.size;simp at this;omega
 clear C hb hN hbb H N2;go_wp2;exact aB (v:=.tuple #[.agg #[.bool dn,.slice aa (ws X).length cc,.int .i64 de],.int .i64 er]) (by simp[results,Tryz.results83,go_sem,hc]) rfl (Fin.jw (m:=w.heap.size+1) (by repeat (first | exact HF.o | refine Fin.alloc ?_ _ | refine Fin.set ?_ _ _ _ (by omega) (by omega))) (by omega))
end
end Go.Proofs.YtjppdacikihpdaaGreatDoor
