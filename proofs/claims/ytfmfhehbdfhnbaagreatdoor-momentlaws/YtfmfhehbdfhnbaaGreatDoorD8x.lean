import Derived.Test.YtfmfhehbdfhnbaaGreatDoorW50x
import Derived.Deep.RegionWith
import Derived.BigQuiet
import Derived.Deep.RegionHeld3
import Derived.Test.YtfmfhehbdfhnbaaGreatDoorW25x
set_option linter.unusedVariables false
set_option linter.unusedSimpArgs false
set_option maxHeartbeats 16000000
set_option maxRecDepth 20000
namespace Go.Proofs.YtfmfhehbdfhnbaaGreatDoor
section
open Go.RowKit
attribute [local go_sem] B.Ku B.fld0 B.fld1 B.fld2 B.fld3
def Vj(s:Bool)(e f:Nat):Option (Bool×Nat×Int):=if e=2047 then none else mkS s (if e=0 then f else f+4503599627370496) (if e=0 then -1074 else(e:Int)-1075)
def QF(e:Nat):Int:=if e=2047 then 30 else 0
def OAns(lo:Nat)(w:World)(r:Ending)(o:Option (Bool×Nat×Int))(er:Int):Prop :=
 ∃ v,r=.returned (.tuple #[.agg #[.bool (dN o),v,.int .i64 (dE o)],.int .i64 er])/\Nt lo w v (dX o)
theorem tX(X:Nat)(h:X<9007199254740992):bl X<=53:=by
 by_cases h0:X=0
 · subst h0;rw[dZ];omega
 · have:=(ku (a:=2) ae).1 (iP (iU X h0) (show X<2^53 from h));omega
theorem Kv(s:Bool)(X:Nat)(x:Int)(hX:X<9007199254740992)(h0:-1100<=x)(h1:x<=1000):∃ d,mkS s X x=some d:=by
 unfold mkS
 by_cases h:X=0
 · rw[if_pos h];exact⟨_,rfl⟩
 · rw[if_neg h];obtain⟨m,_,_,hb⟩:=jb X h;have:=tX X hX;rw[if_neg ae];exact⟨_,rfl⟩
theorem Vk (s:Bool) (b:Nat) (F:Nat) (k x:Int) (w:World) (hT:dU w) (hF:F<9007199254740992) (hx0:-1100<=x) (hx1:x<=1000)
 (HA:Hid (∀ u,Calls Tryz.prog 123 #[.float .f64 b] u fun r w'=>r=.returned (.float .f64 (b%9223372036854775808))/\w'=u))
 (HS:Hid (∀ u,Calls Tryz.prog 122 #[.float .f64 (b%9223372036854775808)] u fun r w'=>r=.returned (.agg #[.bool false,.int .i64 k,.int .i64 x,.int .u64 (F:Nat)])/\Below u.heap.size u w'))
 (H0:Hid (∀ u,Calls Tryz.prog 122 #[.float .f64 0] u fun r w'=>r=.returned (.agg #[.bool false,.int .i64 0,.int .i64 (-1074),.int .u64 0])/\Below u.heap.size u w'))
 (hlt:(FloatKind.f64.format.order b 0==some .lt)=s) (k0:(k==0)=false) (k3:(k==3)=false) (k4:(k==4)=false) :
 Calls Tryz.prog 83 #[.float .f64 b] w fun r w'=>dm w.heap.size w' r (mkS s F x)/\Below w.heap.size w w':=by
 generalize hb2:b%9223372036854775808=b2 at *;clear hb2;have HO:Hid (∀ u,Calls Tryz.prog 91 #[.int .u64 (F:Nat)] u fun r w'=>∃ v,r=.returned v/\Nt u.heap.size w' v F/\Below u.heap.size u w'):=fun u=>r9 F u ae
 have HM:Hid (∀ (u:World) (a:Option Addr) (c:Nat),dU u->Arg u a (ws F).length c (ws F)->Calls Tryz.prog 90 #[.bool s,.slice a (ws F).length c,.int .i64 x] u fun r w'=>dm u.heap.size w' r (mkS s F x)/\Below u.heap.size u w'):=by
  intro u a c su hA;have:=iV hA su s x ae ae;exact yy
 have hFl:(ws F).length<=100:=by have:=jg F;have:=tX F hF;omega
 have hl:=aR s F x;obtain⟨o,ho⟩:∃ o,mkS s F x=o:=⟨_,rfl⟩;rw[ho] at HM hl |-;unfold dm at HM |-;obtain⟨dn,hdn⟩:∃ d,dN o=d:=⟨_,rfl⟩;obtain⟨X,BQ⟩:∃ d,dX o=d:=⟨_,rfl⟩;obtain⟨de,hde⟩:∃ d,dE o=d:=⟨_,rfl⟩;obtain⟨er,her⟩:∃ d,o7 o=d:=⟨_,rfl⟩;rw[hdn,BQ,hde,her] at HM |-;rw[BQ] at hl;have HT:=aA hT;clear ho hdn BQ hde her hT hF hx0 hx1;go_enter Tryz.func83,Tryz.ntmps83;go_wp2_with fail;refine(aF (HA.o _)) ?_;rintro r w1 ⟨rfl,rfl⟩;go_wp2_with fail;refine(aF (HS.o _)) ?_;rintro r w2 ⟨rfl,hb⟩;obtain⟨hc,hf⟩:=aU hb;have hz:w.heap.size<w2.heap.size:=by have:=hb.size;simp at this;omega
 have hbw:Below w.heap.size w w2:=((aD _ _).alloc (aC _) _).trans (hb.mono aQ);have SB:=aA hbw;clear hb hbw;obtain⟨W2,hW2⟩:=ah (w2.alloc (.cells #[.bool false,.int .i64 k,.int .i64 x,.int .u64 (F:Nat)] 146));have hbW:Below w.heap.size w W2:=by rw[hW2];exact SB.o.alloc ae _
 have P:W2.heap[w2.heap.size]?=some (.cells #[.bool false,.int .i64 k,.int .i64 x,.int .u64 (F:Nat)] 146 (0,0)):=by rw[hW2,gY]
 have p0:W2.cell? ⟨w2.heap.size,0,none⟩=some (.bool false):=by simp[World.cell?,P]
 have p1:W2.cell? ⟨w2.heap.size,1,none⟩=some (.int .i64 k):=by simp[World.cell?,P]
 have p2:W2.cell? ⟨w2.heap.size,2,none⟩=some (.int .i64 x):=by simp[World.cell?,P]
 have p3:W2.cell? ⟨w2.heap.size,3,none⟩=some (.int .u64 (F:Nat)):=by simp[World.cell?,P]
 have r0:W2.cell? ⟨w.heap.size,0,none⟩=some (.bool false):=by rw[hW2];go_simp
 have r1:W2.cell? ⟨w.heap.size,1,none⟩=some (.slice none 0 0):=by rw[hW2];go_simp
 have r2:W2.cell? ⟨w.heap.size,2,none⟩=some (.int .i64 0):=by rw[hW2];go_simp
 have f0:W2.frozen? ⟨w.heap.size,0,none⟩=false:=by rw[hW2];go_simp
 have f1:W2.frozen? ⟨w.heap.size,1,none⟩=false:=by rw[hW2];go_simp
 have f2:W2.frozen? ⟨w.heap.size,2,none⟩=false:=by rw[hW2];go_simp
 have hz2:w2.heap.size<W2.heap.size:=by rw[hW2];simp
 have hz3:w.heap.size<W2.heap.size:=ae
 have SW:=aA hbW;go_wp2_with fail;rw[<-hW2];clear hW2 hbW P hc hf SB
 go_region_with (go_at_call 122;refine(H0.o _).mono ?_;rintro r w3 ⟨rfl,hb3⟩;have hb4:Below W2.heap.size W2 w3:=(by first | exact hb3 | exact((aD _ W2).drew).trans (hb3.mono (aC _)));obtain⟨hc,hf⟩:=aU hb4;have S3:=aA hb4;clear hb3 hb4)
 all_goals (
  go_wp2_with fail;have MC:w2.heap.size<w3.heap.size:=by have:=S3.o.size;omega
  have ME:w.heap.size<w3.heap.size:=by have:=S3.o.size;omega
  go_region_with (first
   | (go_at_call 91
      refine(HO.o _).mono ?_;rintro r w4 ⟨v4,rfl,hN,hb⟩;obtain⟨a4,c4,rfl,A4⟩:=hN.arg ae;have QG:Below w3.heap.size w3 w4:=(by first | exact hb | exact((aD _ w3).drew).trans (hb.mono (aC _)));have T4:dU w4:=(HT.o.belows SW.o).belows (S3.o.trans (QG.mono S3.o.size));obtain⟨hc4,Uw⟩:=aU QG;have Y7:w.heap.size<w4.heap.size:=by have:=QG.size;omega
      have S4:=(dC QG A4 T4)
      clear hN hb QG A4 T4)
   | (go_at_call 90
      refine(HM.o _ a4 c4 (by first | exact S4.o.r2 | exact S4.o.r2) (by first | exact S4.o.2.1 | exact Arg.drew' S4.o.2.1)).mono ?_;rintro r w5 ⟨⟨v5,rfl,hN⟩,hb⟩;obtain⟨a5,c5,rfl,_⟩:=hN.arg ae;have Vl:Below w4.heap.size w4 w5:=(by first | exact hb | exact((aD _ w4).drew).trans (hb.mono (aC _)));obtain⟨hc5,hf5⟩:=aU Vl;have HF:=aA (show Fin w.heap.size w4.heap.size w w5 (.slice a5 (ws X).length c5) X from⟨hN,((SW.o.trans (S3.o.mono ae)).trans (S4.o.1.mono ae)).trans (Vl.mono ae),by have:=Vl.size;omega⟩)
      clear hN hb Vl))
  all_goals (
   go_wp2
   exact aG (v:=.tuple #[.agg #[.bool dn,.slice a5 (ws X).length c5,.int .i64 de],.int .i64 er]) (by simp[results,Tryz.results83,go_sem,hc5,hc4,hc,Y7,ME,hz3,r0,r1,r2]) rfl (Fin.lh (m:=w4.heap.size) (by repeat (first | exact HF.o | refine Fin.alloc ?_ _ | refine Fin.set ?_ _ _ _ ae ae)) ae)))
theorem MF (b b2:Nat) (w:World)
 (HA:Hid (∀ u,Calls Tryz.prog 123 #[.float .f64 b] u fun r w'=>r=.returned (.float .f64 b2)/\w'=u))
 (HS:Hid (∀ u,Calls Tryz.prog 122 #[.float .f64 b2] u fun r w'=>r=.returned (.agg #[.bool false,.int .i64 0,.int .i64 (-1074),.int .u64 0])/\Below u.heap.size u w'))
 (H0:Hid (∀ u,Calls Tryz.prog 122 #[.float .f64 0] u fun r w'=>r=.returned (.agg #[.bool false,.int .i64 0,.int .i64 (-1074),.int .u64 0])/\Below u.heap.size u w')) :
 Calls Tryz.prog 83 #[.float .f64 b] w fun r w'=>r=.returned (.tuple #[.agg zD3,.int .i64 0])/\Below w.heap.size w w':=by
 go_enter Tryz.func83,Tryz.ntmps83;go_wp2_with fail;refine(aF (HA.o _)) ?_;rintro r w1 ⟨rfl,rfl⟩;go_wp2_with fail;refine(aF (HS.o _)) ?_;rintro r w2 ⟨rfl,hb⟩;obtain⟨hc,hf⟩:=aU hb;have hz:w.heap.size<w2.heap.size:=by have:=hb.size;simp at this;omega
 have hbw:Below w.heap.size w w2:=((aD _ _).alloc (aC _) _).trans (hb.mono aQ);have SB:=aA hbw;clear hb hbw;obtain⟨W2,hW2⟩:=ah (w2.alloc (.cells #[.bool false,.int .i64 0,.int .i64 (-1074),.int .u64 0] 146));have hbW:Below w.heap.size w W2:=by rw[hW2];exact SB.o.alloc ae _
 have P:W2.heap[w2.heap.size]?=some (.cells #[.bool false,.int .i64 0,.int .i64 (-1074),.int .u64 0] 146 (0,0)):=by rw[hW2,gY]
 have p0:W2.cell? ⟨w2.heap.size,0,none⟩=some (.bool false):=by simp[World.cell?,P]
 have p1:W2.cell? ⟨w2.heap.size,1,none⟩=some (.int .i64 0):=by simp[World.cell?,P]
 have p2:W2.cell? ⟨w2.heap.size,2,none⟩=some (.int .i64 (-1074)):=by simp[World.cell?,P]
 have p3:W2.cell? ⟨w2.heap.size,3,none⟩=some (.int .u64 0):=by simp[World.cell?,P]
 have r0:W2.cell? ⟨w.heap.size,0,none⟩=some (.bool false):=by rw[hW2];go_simp
 have r1:W2.cell? ⟨w.heap.size,1,none⟩=some (.slice none 0 0):=by rw[hW2];go_simp
 have r2:W2.cell? ⟨w.heap.size,2,none⟩=some (.int .i64 0):=by rw[hW2];go_simp
 have f0:W2.frozen? ⟨w.heap.size,0,none⟩=false:=by rw[hW2];go_simp
 have f1:W2.frozen? ⟨w.heap.size,1,none⟩=false:=by rw[hW2];go_simp
 have f2:W2.frozen? ⟨w.heap.size,2,none⟩=false:=by rw[hW2];go_simp
 have hz2:w2.heap.size<W2.heap.size:=by rw[hW2];simp
 have hz3:w.heap.size<W2.heap.size:=ae
 have SW:=aA hbW;go_wp2_with fail;rw[<-hW2];clear hW2 hbW P hc hf SB
 go_region_with (go_at_call 122;refine(H0.o _).mono ?_;rintro r w3 ⟨rfl,hb3⟩;have hb4:Below W2.heap.size W2 w3:=(by first | exact hb3 | exact((aD _ W2).drew).trans (hb3.mono (aC _)));obtain⟨hc,hf⟩:=aU hb4;have S3:=aA hb4;clear hb3 hb4)
 all_goals (
  go_wp2;have hbf:=SW.o.trans (S3.o.mono ae);have XV:w.heap.size<=w3.heap.size:=by have:=S3.o.size;omega
  exact aG (v:=.tuple #[.agg zD3,.int .i64 0]) (by simp[results,Tryz.results83,go_sem,hc,hz3,r0,r1,r2]) rfl ⟨rfl,Below.rA (Below.rA (Below.rA hbf _ _ _ (aC _) XV) _ _ _ (aC _) (by simpa [World.setCell] using XV)) _ _ _ (aC _) (by simpa [World.setCell] using XV)⟩)
theorem Vm (b b2:Nat) (k:Int) (w:World) (hk:k=3\/k=4)
 (HA:Hid (∀ u,Calls Tryz.prog 123 #[.float .f64 b] u fun r w'=>r=.returned (.float .f64 b2)/\w'=u))
 (HS:Hid (∀ u,Calls Tryz.prog 122 #[.float .f64 b2] u fun r w'=>r=.returned (.agg #[.bool false,.int .i64 k,.int .i64 0,.int .u64 0])/\Below u.heap.size u w'))
 (H0:Hid (∀ u,Calls Tryz.prog 122 #[.float .f64 0] u fun r w'=>r=.returned (.agg #[.bool false,.int .i64 0,.int .i64 (-1074),.int .u64 0])/\Below u.heap.size u w')) :
 Calls Tryz.prog 83 #[.float .f64 b] w fun r w'=>r=.returned (.tuple #[.agg zD3,.int .i64 30])/\Below w.heap.size w w':=by
 have k0:(k==0)=false:=by rcases hk with rfl | rfl <;> rfl
 go_enter Tryz.func83,Tryz.ntmps83;go_wp2_with fail;refine(aF (HA.o _)) ?_;rintro r w1 ⟨rfl,rfl⟩;go_wp2_with fail;refine(aF (HS.o _)) ?_;rintro r w2 ⟨rfl,hb⟩;obtain⟨hc,hf⟩:=aU hb;have hz:w.heap.size<w2.heap.size:=by have:=hb.size;simp at this;omega
 have hbw:Below w.heap.size w w2:=((aD _ _).alloc (aC _) _).trans (hb.mono aQ);have SB:=aA hbw;clear hb hbw;obtain⟨W2,hW2⟩:=ah (w2.alloc (.cells #[.bool false,.int .i64 k,.int .i64 0,.int .u64 0] 146));have hbW:Below w.heap.size w W2:=by rw[hW2];exact SB.o.alloc ae _
 have P:W2.heap[w2.heap.size]?=some (.cells #[.bool false,.int .i64 k,.int .i64 0,.int .u64 0] 146 (0,0)):=by rw[hW2,gY]
 have p0:W2.cell? ⟨w2.heap.size,0,none⟩=some (.bool false):=by simp[World.cell?,P]
 have p1:W2.cell? ⟨w2.heap.size,1,none⟩=some (.int .i64 k):=by simp[World.cell?,P]
 have p2:W2.cell? ⟨w2.heap.size,2,none⟩=some (.int .i64 0):=by simp[World.cell?,P]
 have p3:W2.cell? ⟨w2.heap.size,3,none⟩=some (.int .u64 0):=by simp[World.cell?,P]
 have r0:W2.cell? ⟨w.heap.size,0,none⟩=some (.bool false):=by rw[hW2];go_simp
 have r1:W2.cell? ⟨w.heap.size,1,none⟩=some (.slice none 0 0):=by rw[hW2];go_simp
 have r2:W2.cell? ⟨w.heap.size,2,none⟩=some (.int .i64 0):=by rw[hW2];go_simp
 have f0:W2.frozen? ⟨w.heap.size,0,none⟩=false:=by rw[hW2];go_simp
 have f1:W2.frozen? ⟨w.heap.size,1,none⟩=false:=by rw[hW2];go_simp
 have f2:W2.frozen? ⟨w.heap.size,2,none⟩=false:=by rw[hW2];go_simp
 have hz2:w2.heap.size<W2.heap.size:=by rw[hW2];simp
 have hz3:w.heap.size<W2.heap.size:=ae
 have SW:=aA hbW;go_wp2_with fail;rw[<-hW2];clear hW2 hbW P hc hf SB
 go_region_with (go_at_call 122;refine(H0.o _).mono ?_;rintro r w3 ⟨rfl,hb3⟩;have hb4:Below W2.heap.size W2 w3:=(by first | exact hb3 | exact((aD _ W2).drew).trans (hb3.mono (aC _)));obtain⟨hc,hf⟩:=aU hb4;have S3:=aA hb4;clear hb3 hb4)
 all_goals (
  have hbf:=aA (SW.o.trans (S3.o.mono ae));have XV:w.heap.size<=w3.heap.size:=by have:=S3.o.size;omega
  rcases hk with rfl|rfl
  all_goals (
   go_wp2
   exact aG (v:=.tuple #[.agg zD3,.int .i64 30]) (by simp[results,Tryz.results83,go_sem,hc,hz3,r0,r1,r2]) rfl ⟨rfl,Below.rA (Below.rA (Below.rA hbf.o _ _ _ (aC _) XV) _ _ _ (aC _) (by simpa [World.setCell] using XV)) _ _ _ (aC _) (by simpa [World.setCell] using XV)⟩))
theorem QH(s:Bool)(e f:Nat)(he:e<2048)(hf:f<4503599627370496)(w:World)(hT:dU w) :
 Calls Tryz.prog 83 #[.float .f64 (B.bw s e f)] w fun r w'=>OAns w.heap.size w' r (Vj s e f) (QF e)/\Below w.heap.size w w':=by
 have HA:Hid (∀ u,Calls Tryz.prog 123 #[.float .f64 (B.bw s e f)] u fun r w'=>r=.returned (.float .f64 (B.bw false e f))/\w'=u):=fun u=>B.Dl s e f he hf u;have HS:∀ u,Calls Tryz.prog 122 #[.float .f64 (B.bw false e f)] u fun r w'=>r=.returned (.agg #[.bool (B.ng false e f),.int .i64 (B.cls e f),.int .i64 (B.xp e),.int .u64 (B.fr e f)])/\Below u.heap.size u w':=fun u=>B.uN false e f he hf u;have H0:Hid (∀ u,Calls Tryz.prog 122 #[.float .f64 0] u fun r w'=>r=.returned (.agg #[.bool false,.int .i64 0,.int .i64 (-1074),.int .u64 0])/\Below u.heap.size u w'):=fun u=>B.uN false 0 0 ae ae u;have hng:B.ng false e f=false:=by unfold B.ng;split <;> rfl
 rw[hng] at HS;unfold Vj QF
 by_cases h7:e=2047
 · rw[if_pos h7,if_pos h7];have h2:B.xp e=0/\B.fr e f=0:=by unfold B.xp B.fr;rw[if_pos h7,if_pos h7];exact⟨rfl,rfl⟩
   rw[h2.1,h2.2] at HS;have hk:B.cls e f=3\/B.cls e f=4:=by unfold B.cls;rw[if_pos h7];split <;> simp
   exact(Vm _ _ _ w hk HA (hid HS) H0).mono fun r w' ⟨h1,h3⟩=>⟨⟨_,h1,Nt.nil _ _⟩,h3⟩
 · rw[if_neg h7,if_neg h7];have hx:B.xp e=(if e=0 then -1074 else(e:Int)-1075):=by unfold B.xp;rw[if_neg h7]
   have hfr:B.fr e f=(((if e=0 then f else f+4503599627370496:Nat)):Int):=by unfold B.fr;rw[if_neg h7];split <;> simp
   rw[hx,hfr] at HS
   by_cases h0:e=0/\f=0
   · obtain⟨rfl,rfl⟩:=h0;rw[show B.cls 0 0=0 from rfl] at HS;simp only[if_pos,Int.ofNat_zero] at HS;rw[if_pos rfl,fq];exact(MF _ _ w HA (hid HS) H0).mono fun r w' ⟨h1,h3⟩=>⟨⟨_,h1,Nt.nil _ _⟩,h3⟩
   · have hcl:B.cls e f=1\/B.cls e f=2:=by
      unfold B.cls;rw[if_neg h7]
      by_cases h1:e=0
      · rw[if_pos h1,if_neg (fun h=>h0 ⟨h1,h⟩)];simp
      · rw[if_neg h1];simp
     obtain⟨F,hF⟩:∃ F:Nat,(if e=0 then f else f+4503599627370496:Nat)=F:=⟨_,rfl⟩;obtain⟨x,iB⟩:∃ x:Int,(if e=0 then -1074 else(e:Int)-1075)=x:=⟨_,rfl⟩;have hFb:F<9007199254740992:=by rw[<-hF];split <;> omega
     have hxb:-1100<=x/\x<=1000:=by rw[<-iB];split <;> omega
     rw[hF,iB] at HS |-;have ho:B.odd e f=false:=by unfold B.odd;simp[h7]
     have hz:(e==0&&f==0)=false:=by
      cases h1:(e==0&&f==0)
      · rfl
      · exact absurd (by simpa using h1) h0
     have hb2:B.bw false e f=B.bw s e f%9223372036854775808:=by
      have h1:=B.YH s e f he hf;have h2:(B.bw false e f:Int)=(e:Int)*4503599627370496+f:=by unfold B.bw;simp
      omega
     rw[hb2] at HA HS;obtain⟨d,hd⟩:=Kv s F x hFb hxb.1 hxb.2;have:=Vk s (B.bw s e f) F (B.cls e f) x w hT hFb hxb.1 hxb.2 HA (hid HS) H0 (B.J6 s e f he hf ho hz) (by rcases hcl with h | h <;> rw[h] <;> rfl) (by rcases hcl with h | h <;> rw[h] <;> rfl) (by rcases hcl with h | h <;> rw[h] <;> rfl);refine this.mono fun r w' ⟨⟨v,h1,h2⟩,h3⟩=>⟨⟨v,?_,h2⟩,h3⟩;rw[h1,hd];rfl
end
section
open Go.RowKit
attribute [local go_sem] B.bF B.aH
def aO(k:Nat):Nat×Int:=if k/4503599627370496=0 then(k%4503599627370496,-1074) else(4503599627370496+k%4503599627370496,-1074+((k/4503599627370496:Nat):Int)-1)
theorem AA (K:Int) (V:Nat) (w:World) (e1:K/4503599627370496=0) (hK0:0<=K) (hK1:K<=9218868437227405312)
 (HO:Hid (∀ u,Calls Tryz.prog 55 #[.int .u64 (K%4503599627370496)] u fun r w'=>∃ v,r=.returned v/\Nt u.heap.size w' v V/\Below u.heap.size u w')) :
 Calls Tryz.prog 151 #[.agg #[.int .i64 53,.int .i64 (-1074),.int .u64 9218868437227405312],.int .u64 K] w fun r w'=>∃ v,r=.returned (.tuple #[v,.int .i64 (-1074)])/\Nt w.heap.size w' v V/\Below w.heap.size w w':=by
 obtain⟨W1,hW1⟩:=ah (w.alloc (.cells #[.int .i64 53,.int .i64 (-1074),.int .u64 9218868437227405312] 98));have P:W1.heap[w.heap.size]?=some (.cells #[.int .i64 53,.int .i64 (-1074),.int .u64 9218868437227405312] 98 (0,0)):=by rw[hW1,gY]
 have p1:W1.cell? ⟨w.heap.size,1,none⟩=some (.int .i64 (-1074)):=by simp[World.cell?,P]
 have hz:w.heap.size<W1.heap.size:=by rw[hW1];simp
 have HB:=aA (show Below w.heap.size w W1 by rw[hW1];exact af w _);go_enter Tryz.func151,Tryz.ntmps151;go_wp2;rw[<-hW1];clear hW1 P e1
 go_region_held3 (fun w'=>w'.cell? ⟨w.heap.size,1,none⟩=some (.int .i64 (-1074))) (go_keep) (first | (go_at_call 55;refine(HO.o _).mono ?_;rintro r w2 ⟨v,rfl,hN,hb⟩;have hb2:Below W1.heap.size W1 w2:=(by first | exact hb | exact((aD _ W1).drew).trans (hb.mono (aC _)));have p2:w2.cell? ⟨w.heap.size,1,none⟩=some (.int .i64 (-1074)):=(hb2.cell (p:=⟨w.heap.size,1,none⟩) hz).trans p1;have S2:=(aP hb2 hN);clear hb hb2 hN))
 all_goals (
  go_wp2;go_simp
  go_ret2
  exact⟨v,rfl,S2.o.2.mono (jm hz),HB.o.trans (S2.o.1.mono (jm hz))⟩)
theorem y8 (K q f g x y:Int) (V:Nat) (w:World) (e1:K/4503599627370496=q) (e2:K%4503599627370496=f) (e3:IntKind.u64.wrap (4503599627370496+f)=g) (e4:IntKind.i64.wrap q=q) (e5:IntKind.i64.wrap (-1074+q)=x) (e6:IntKind.i64.wrap (x-1)=y) (hK0:0<=K) (hK1:K<=9218868437227405312) (hq0:(q==0)=false)
 (HO:Hid (∀ u,Calls Tryz.prog 55 #[.int .u64 g] u fun r w'=>∃ v,r=.returned v/\Nt u.heap.size w' v V/\Below u.heap.size u w')) :
 Calls Tryz.prog 151 #[.agg #[.int .i64 53,.int .i64 (-1074),.int .u64 9218868437227405312],.int .u64 K] w fun r w'=>∃ v,r=.returned (.tuple #[v,.int .i64 y])/\Nt w.heap.size w' v V/\Below w.heap.size w w':=by
 obtain⟨W1,hW1⟩:=ah (w.alloc (.cells #[.int .i64 53,.int .i64 (-1074),.int .u64 9218868437227405312] 98));have P:W1.heap[w.heap.size]?=some (.cells #[.int .i64 53,.int .i64 (-1074),.int .u64 9218868437227405312] 98 (0,0)):=by rw[hW1,gY]
 have p1:W1.cell? ⟨w.heap.size,1,none⟩=some (.int .i64 (-1074)):=by simp[World.cell?,P]
 have hz:w.heap.size<W1.heap.size:=by rw[hW1];simp
 have HB:=aA (show Below w.heap.size w W1 by rw[hW1];exact af w _);go_enter Tryz.func151,Tryz.ntmps151;go_wp2;rw[<-hW1]
 try simp only[e1,e2]
 clear hW1 P e1 e2 hK0 hK1
 go_region_held3 (fun w'=>w'.cell? ⟨w.heap.size,1,none⟩=some (.int .i64 (-1074))) (go_keep) (first | (go_at_call 55;refine(HO.o _).mono ?_;rintro r w2 ⟨v,rfl,hN,hb⟩;have hb2:Below W1.heap.size W1 w2:=(by first | exact hb | exact((aD _ W1).drew).trans (hb.mono (aC _)));have p2:w2.cell? ⟨w.heap.size,1,none⟩=some (.int .i64 (-1074)):=(hb2.cell (p:=⟨w.heap.size,1,none⟩) hz).trans p1;have S2:=(aP hb2 hN);clear hb hb2 hN))
 all_goals (
  go_wp2;go_simp
  go_ret2
  exact⟨v,rfl,S2.o.2.mono (jm hz),HB.o.trans (S2.o.1.mono (jm hz))⟩)
theorem oh(k:Nat)(hk:k<=9218868437227405312)(w:World) :
 Calls Tryz.prog 151 #[.agg #[.int .i64 53,.int .i64 (-1074),.int .u64 9218868437227405312],.int .u64 (k:Nat)] w fun r w'=>∃ v,r=.returned (.tuple #[v,.int .i64 (aO k).2])/\Nt w.heap.size w' v (aO k).1/\Below w.heap.size w w':=by
 unfold aO
 by_cases h0:k/4503599627370496=0
 · rw[if_pos h0];exact AA (k:Int) (k%4503599627370496) w ae ae ae (hid fun u=>by simpa using xR (k%4503599627370496) u ae)
 · rw[if_neg h0];have hw:∀ n:Int,0<=n->n<18446744073709551616->IntKind.u64.wrap n=n:=fun n h1 h2=>by simp[IntKind.wrap,IntKind.bits,IntKind.signed];omega
   have hv:∀ n:Int,-4000<=n->n<4000->IntKind.i64.wrap n=n:=fun n h1 h2=>by simp[IntKind.wrap,IntKind.bits,IntKind.signed];omega
   have e3:(4503599627370496:Int)+((k%4503599627370496:Nat):Int)=((4503599627370496+k%4503599627370496:Nat):Int):=ae
   exact y8 (k:Int) ((k/4503599627370496:Nat):Int) ((k%4503599627370496:Nat):Int) ((4503599627370496+k%4503599627370496:Nat):Int) (-1074+((k/4503599627370496:Nat):Int)) (-1074+((k/4503599627370496:Nat):Int)-1) (4503599627370496+k%4503599627370496) w ae ae (by rw[e3];exact hw _ ae ae) (hv _ ae ae) (hv _ ae ae) (hv _ ae ae) ae ae (beq_eq_false_iff_ne.2 ae) (hid fun u=>xR _ u ae)
theorem IJ(e f:Nat)(hf:f<4503599627370496):aO (e*4503599627370496+f)=(if e=0 then f else f+4503599627370496,if e=0 then -1074 else(e:Int)-1075):=by
 have h1:(e*4503599627370496+f)/4503599627370496=e:=ae
 have h2:(e*4503599627370496+f)%4503599627370496=f:=ae
 unfold aO;rw[h1,h2]
 by_cases h:e=0
 · rw[if_pos h,if_pos h,if_pos h]
 · rw[if_neg h,if_neg h,if_neg h];refine Prod.ext (by simp;omega) (by simp;omega)
theorem tY(w:World):Calls Tryz.prog 67 #[] w fun r w'=>r=.returned (.agg #[.int .i64 53,.int .i64 (-1074),.int .u64 9218868437227405312])/\Below w.heap.size w w':=by
 go_enter Tryz.func67,Tryz.ntmps67;go_wp2;exact aG (v:=.agg #[.int .i64 53,.int .i64 (-1074),.int .u64 9218868437227405312]) (by simp[results,Tryz.results67,go_sem]) rfl ⟨rfl,by repeat (first | exact aD _ _ | refine Below.alloc ?_ (by first | omega | simp) _ | refine Below.rA ?_ _ _ _ ae aQ)⟩
theorem IK(neg:Bool)(k:Int)(w:World)(hk:9218868437227405312<=k)(hk2:k<9223372036854775808) :
 Calls Tryz.prog 111 #[.agg #[.int .i64 53,.int .i64 (-1074),.int .u64 9218868437227405312],.bool neg,.int .u64 k] w fun r w'=>r=.returned (.tuple #[.agg zD3,.bool false])/\Below w.heap.size w w':=by
 have HB:=aA (show Below w.heap.size w ((w.alloc (.cells #[.int .i64 53,.int .i64 (-1074),.int .u64 9218868437227405312] 98)).alloc (.cells zD3 25)) from(af w _).alloc aQ _);go_enter Tryz.func111,Tryz.ntmps111;go_wp2;exact aG (v:=.tuple #[.agg zD3,.bool false]) (by simp[results,Tryz.results111,go_sem]) rfl ⟨rfl,HB.o⟩
theorem IL (neg:Bool) (k:Int) (F:Nat) (x:Int) (w:World) (hk:k<9218868437227405312) (hF:F<9007199254740992) (hx0:-1100<=x) (hx1:x<=1000)
 (HN0:Hid (∀ u,Calls Tryz.prog 151 #[.agg #[.int .i64 53,.int .i64 (-1074),.int .u64 9218868437227405312],.int .u64 k] u fun r w'=>∃ v,r=.returned (.tuple #[v,.int .i64 x])/\Nt u.heap.size w' v F/\Below u.heap.size u w')) :
 Calls Tryz.prog 111 #[.agg #[.int .i64 53,.int .i64 (-1074),.int .u64 9218868437227405312],.bool neg,.int .u64 k] w fun r w'=>Dj w.heap.size w' r (mkS neg F x)/\Below w.heap.size w w':=by
 have HB:=aA (show Below w.heap.size w ((w.alloc (.cells #[.int .i64 53,.int .i64 (-1074),.int .u64 9218868437227405312] 98)).alloc (.cells zD3 25)) from(af w _).alloc aQ _);have HN:=hid (HN0.o ((w.alloc (.cells #[.int .i64 53,.int .i64 (-1074),.int .u64 9218868437227405312] 98)).alloc (.cells zD3 25)));have hl:=aR neg F x;have hFl:(ws F).length<=100:=by have:=jg F;have:=tX F hF;omega
 have HM:Hid (∀ (u:World) (a:Option Addr) (c:Nat),Arg u a (ws F).length c (ws F)->Calls Tryz.prog 54 #[.bool neg,.slice a (ws F).length c,.int .i64 x] u fun r w'=>Dj u.heap.size w' r (mkS neg F x)/\Below u.heap.size u w'):=by
  intro u a c hA;have:=qV hA ae neg x ae ae;exact yy
 obtain⟨o,ho⟩:∃ o,mkS neg F x=o:=⟨_,rfl⟩;rw[ho] at HM hl |-;unfold Dj at HM |-;obtain⟨dn,hdn⟩:∃ d,dN o=d:=⟨_,rfl⟩;obtain⟨X,BQ⟩:∃ d,dX o=d:=⟨_,rfl⟩;obtain⟨de,hde⟩:∃ d,dE o=d:=⟨_,rfl⟩;obtain⟨er,her⟩:∃ d,o.isSome=d:=⟨_,rfl⟩;rw[hdn,BQ,hde,her] at HM |-;rw[BQ] at hl;clear ho hdn BQ hde her hF hx0 hx1 HN0;go_enter Tryz.func111,Tryz.ntmps111;go_wp2_with fail;refine HN.o.mono ?_;rintro r w2 ⟨v,rfl,hN,hb⟩;obtain⟨a2,c2,rfl,A2⟩:=hN.arg ae;obtain⟨hc,hf⟩:=aU hb;have hz:w.heap.size+1<w2.heap.size:=by have:=hb.size;simp at this;omega
 have H2:=hid (HM.o w2 a2 c2 A2);have S2:=aA (HB.o.trans (hb.mono (by simp;omega)));clear hN hb A2;go_wp2_with fail;refine H2.o.mono ?_;rintro r w3 ⟨⟨v3,rfl,hN⟩,hb⟩;obtain⟨a3,c3,rfl,_⟩:=hN.arg ae;obtain⟨hc3,hf3⟩:=aU hb;have HF:=aA (show Fin w.heap.size w2.heap.size w w3 (.slice a3 (ws X).length c3) X from⟨hN,S2.o.trans (hb.mono ae),by have:=hb.size;omega⟩);clear hN hb;go_wp2;exact aG (v:=.tuple #[.agg #[.bool dn,.slice a3 (ws X).length c3,.int .i64 de],.bool er]) (by simp[results,Tryz.results111,go_sem,hc,hc3,hz]) rfl (Fin.lh (m:=w2.heap.size) (by repeat (first | exact HF.o | refine Fin.alloc ?_ _ | refine Fin.set ?_ _ _ _ ae ae)) ae)
theorem MG(neg:Bool)(k:Nat)(w:World)(hk:k<9218868437227405312) :
 Calls Tryz.prog 111 #[.agg #[.int .i64 53,.int .i64 (-1074),.int .u64 9218868437227405312],.bool neg,.int .u64 (k:Nat)] w fun r w'=>Dj w.heap.size w' r (mkS neg (aO k).1 (aO k).2)/\Below w.heap.size w w':=by
 have hb1:(aO k).1<9007199254740992/\-1100<=(aO k).2/\(aO k).2<=1000:=by unfold aO;split <;> simp <;> omega
 exact IL neg (k:Int) _ _ w ae hb1.1 hb1.2.1 hb1.2.2 (hid fun u=>oh k ae u)
end
section
open Go.RowKit
attribute [local go_sem] B.bF B.aH
theorem E8 (s:Bool) (b:Nat) (k:Int) (dn:Bool) (X:Nat) (de:Int) (er:Bool) (w:World) (hl:(ws X).length<=8192)
 (e1:((b:Int)/9223372036854775808==1)=s) (e2:IntKind.u64.wrap ((b:Int)*2)/2=k) (hX:er=false->dn=false/\X=0/\de=0)
 (hO:Hid (∀ u,Calls Tryz.prog 67 #[] u fun r w'=>r=.returned (.agg #[.int .i64 53,.int .i64 (-1074),.int .u64 9218868437227405312])/\Below u.heap.size u w'))
 (HW:Hid (∀ u,Calls Tryz.prog 111 #[.agg #[.int .i64 53,.int .i64 (-1074),.int .u64 9218868437227405312],.bool s,.int .u64 k] u fun r w'=>(∃ v,r=.returned (.tuple #[.agg #[.bool dn,v,.int .i64 de],.bool er])/\Nt u.heap.size w' v X)/\Below u.heap.size u w')) :
 Calls Tryz.prog 77 #[.float .f64 b] w fun r w'=>(∃ v,r=.returned (.tuple #[.agg #[.bool dn,v,.int .i64 de],.int .i64 (if er then 0 else 30)])/\Nt w.heap.size w' v X)/\Below w.heap.size w w':=by
 go_enter Tryz.func77,Tryz.ntmps77;go_wp2_with fail;refine(aF (hO.o _)) ?_;rintro r w1 ⟨rfl,hb1⟩;have hz:w.heap.size<w1.heap.size:=by have:=hb1.size;simp at this;omega
 have S1:=aA ((af w (.cells zD3 25)).trans (hb1.mono aQ));obtain⟨hc,hf⟩:=aU hb1;clear hb1;go_wp2_with fail
 try simp only[e1,e2]
 refine(aF (HW.o _)) ?_;rintro r w2 ⟨⟨v,rfl,hN⟩,hb2⟩;obtain⟨a2,c2,rfl,_⟩:=hN.arg ae;obtain⟨hc2,hf2⟩:=aU hb2;have hz2:w.heap.size<w2.heap.size:=by have:=hb2.size;omega
 have HF:=aA (show Fin w.heap.size w1.heap.size w w2 (.slice a2 (ws X).length c2) X from⟨hN,S1.o.trans (hb2.mono ae),ae⟩);clear hN hb2 e1 e2
 cases er
 · obtain⟨rfl,rfl,rfl⟩:=hX rfl;clear hX;go_wp2;exact aG (v:=.tuple #[.agg zD3,.int .i64 30]) (by simp[results,Tryz.results77,go_sem,hc,hc2,hz,hz2]) rfl (Fin.dnil (m:=w1.heap.size) (v:=.slice a2 (ws 0).length c2) (X:=0) (by repeat (first | exact HF.o | refine Fin.alloc ?_ _ | refine Fin.set ?_ _ _ _ ae ae)))
 · clear hX;go_wp2;exact aG (v:=.tuple #[.agg #[.bool dn,.slice a2 (ws X).length c2,.int .i64 de],.int .i64 0]) (by simp[results,Tryz.results77,go_sem,hc,hc2,hz,hz2]) rfl (Fin.lh (m:=w1.heap.size) (by repeat (first | exact HF.o | refine Fin.alloc ?_ _ | refine Fin.set ?_ _ _ _ ae ae)) ae)
theorem E9(s:Bool)(e f:Nat)(he:e<2048)(hf:f<4503599627370496)(w:World) :
 Calls Tryz.prog 77 #[.float .f64 (B.bw s e f)] w fun r w'=>OAns w.heap.size w' r (Vj s e f) (QF e)/\Below w.heap.size w w':=by
 have hbl:=B.yH s e f he hf;have hb1:(B.bw s e f:Int)=(if s then 9223372036854775808 else 0)+((e*4503599627370496+f:Nat):Int):=by unfold B.bw;cases s <;> simp <;> omega
 obtain⟨b,hb⟩:∃ b,B.bw s e f=b:=⟨_,rfl⟩;obtain⟨k,hk⟩:∃ k,e*4503599627370496+f=k:=⟨_,rfl⟩;rw[hb,hk] at hb1;rw[hb] at hbl |-;have hk2:k<9223372036854775808:=ae
 have e1:((b:Int)/9223372036854775808==1)=s:=by cases s <;> simp at hb1 |- <;> omega
 have e2:IntKind.u64.wrap ((b:Int)*2)/2=(k:Int):=by
  simp[IntKind.wrap,IntKind.bits,IntKind.signed]
  cases s <;> simp at hb1 <;> omega
 unfold Vj QF
 by_cases h7:e=2047
 · rw[if_pos h7,if_pos h7]
   exact E8 s b (k:Int) false 0 0 false w (by rw[bO];simp) e1 e2 (fun _=>⟨rfl,rfl,rfl⟩) (hid fun u=>tY u)
    (hid fun u=>(IK s (k:Int) u ae ae).mono fun r w' ⟨h1,h2⟩=>⟨⟨_,h1,Nt.nil _ _⟩,h2⟩)
 · rw[if_neg h7,if_neg h7];have hn:=IJ e f hf;rw[hk] at hn;have hF:(if e=0 then f else f+4503599627370496)<9007199254740992:=by split <;> omega
   have hx0:(-1100:Int)<=(if e=0 then -1074 else(e:Int)-1075):=by split <;> omega
   have hx1:(if e=0 then -1074 else(e:Int)-1075)<=(1000:Int):=by split <;> omega
   obtain⟨d,hd⟩:=Kv s _ _ hF hx0 hx1;have hl:=aR s (if e=0 then f else f+4503599627370496) (if e=0 then -1074 else(e:Int)-1075);have hB:∀ u,_:=fun u=>MG s k u ae;rw[hn] at hB;simp only[] at hB;rw[hd] at hB hl |-;exact E8 s b (k:Int) _ _ _ true w hl e1 e2 (fun h=>by cases h) (hid fun u=>tY u) (hid hB)
end
section
open Go.RowKit
theorem Dm (n:Int) (m:Nat) (X:Nat) (dn:Bool) (de:Int) (er:Int) (w:World) (h0:n<0) (h1:-9223372036854775808<=n) (hm:(ws m).length<=100) (hl:(ws X).length<=8192) (e1:IntKind.u64.wrap (-IntKind.u64.wrap n)=(m:Int))
 (HO:Hid (∀ u,Calls Tryz.prog 91 #[.int .u64 (m:Int)] u fun r w'=>∃ v,r=.returned v/\Nt u.heap.size w' v m/\Below u.heap.size u w'))
 (HM:Hid (∀ (u:World) (a:Option Addr) (c:Nat),Below w.heap.size w u->Arg u a (ws m).length c (ws m)->Calls Tryz.prog 90 #[.bool true,.slice a (ws m).length c,.int .i64 0] u fun r w'=>(∃ v,r=.returned (.tuple #[.agg #[.bool dn,v,.int .i64 de],.int .i64 er])/\Nt u.heap.size w' v X)/\Below u.heap.size u w')) :
 Calls Tryz.prog 48 #[.int .i64 n] w fun r w'=>(∃ v,r=.returned (.agg #[.bool dn,v,.int .i64 de])/\Nt w.heap.size w' v X)/\Below w.heap.size w w':=by
 go_enter Tryz.func48,Tryz.ntmps48;go_wp2_with fail
 try rw[e1]
 refine(aF (HO.o _)) ?_;rintro r w1 ⟨v,rfl,hN,hb⟩;obtain⟨a1,c1,rfl,A1⟩:=hN.arg ae;have hz:w.heap.size<w1.heap.size:=by have:=hb.size;simp at this;omega
 have hbw:Below w.heap.size w w1:=(af w (.cells zD3 25)).trans (hb.mono aQ);have S1:=aA hbw;have H2:=hid (HM.o w1 a1 c1 hbw A1);obtain⟨hc,hf⟩:=aU hb;clear hN hb A1 hbw;go_wp2_with fail;refine H2.o.mono ?_;rintro r w2 ⟨⟨v,rfl,hN⟩,hb2⟩;obtain⟨a2,c2,rfl,_⟩:=hN.arg ae;obtain⟨hc2,hf2⟩:=aU hb2;have hz2:w.heap.size<w2.heap.size:=by have:=hb2.size;omega
 have HF:=aA (show Fin w.heap.size w1.heap.size w w2 (.slice a2 (ws X).length c2) X from⟨hN,S1.o.trans (hb2.mono ae),ae⟩);clear hN hb2;go_wp2;exact aG (v:=.agg #[.bool dn,.slice a2 (ws X).length c2,.int .i64 de]) (by simp[results,Tryz.results48,go_sem,hc,hc2,hz,hz2]) rfl (Fin.QE (m:=w1.heap.size) (by repeat (first | exact HF.o | refine Fin.alloc ?_ _ | refine Fin.set ?_ _ _ _ ae ae)) ae)
theorem Dn (n:Int) (m:Nat) (X:Nat) (dn:Bool) (de:Int) (er:Int) (w:World) (h0:0<=n) (h1:n<=9223372036854775807) (hd:decide (n<0)=false) (hm:(ws m).length<=100) (hl:(ws X).length<=8192) (e1:IntKind.u64.wrap n=n)
 (HO:Hid (∀ u,Calls Tryz.prog 91 #[.int .u64 n] u fun r w'=>∃ v,r=.returned v/\Nt u.heap.size w' v m/\Below u.heap.size u w'))
 (HM:Hid (∀ (u:World) (a:Option Addr) (c:Nat),Below w.heap.size w u->Arg u a (ws m).length c (ws m)->Calls Tryz.prog 90 #[.bool false,.slice a (ws m).length c,.int .i64 0] u fun r w'=>(∃ v,r=.returned (.tuple #[.agg #[.bool dn,v,.int .i64 de],.int .i64 er])/\Nt u.heap.size w' v X)/\Below u.heap.size u w')) :
 Calls Tryz.prog 48 #[.int .i64 n] w fun r w'=>(∃ v,r=.returned (.agg #[.bool dn,v,.int .i64 de])/\Nt w.heap.size w' v X)/\Below w.heap.size w w':=by
 go_enter Tryz.func48,Tryz.ntmps48;go_wp2_with fail
 try rw[e1]
 refine(aF (HO.o _)) ?_;rintro r w1 ⟨v,rfl,hN,hb⟩;obtain⟨a1,c1,rfl,A1⟩:=hN.arg ae;have hz:w.heap.size<w1.heap.size:=by have:=hb.size;simp at this;omega
 have hbw:Below w.heap.size w w1:=(af w (.cells zD3 25)).trans (hb.mono aQ);have S1:=aA hbw;have H2:=hid (HM.o w1 a1 c1 hbw A1);obtain⟨hc,hf⟩:=aU hb;clear hN hb A1 hbw;go_wp2_with fail;refine H2.o.mono ?_;rintro r w2 ⟨⟨v,rfl,hN⟩,hb2⟩;obtain⟨a2,c2,rfl,_⟩:=hN.arg ae;obtain⟨hc2,hf2⟩:=aU hb2;have hz2:w.heap.size<w2.heap.size:=by have:=hb2.size;omega
 have HF:=aA (show Fin w.heap.size w1.heap.size w w2 (.slice a2 (ws X).length c2) X from⟨hN,S1.o.trans (hb2.mono ae),ae⟩);clear hN hb2;go_wp2;exact aG (v:=.agg #[.bool dn,.slice a2 (ws X).length c2,.int .i64 de]) (by simp[results,Tryz.results48,go_sem,hc,hc2,hz,hz2]) rfl (Fin.QE (m:=w1.heap.size) (by repeat (first | exact HF.o | refine Fin.alloc ?_ _ | refine Fin.set ?_ _ _ _ ae ae)) ae)
theorem AB (n:Int) (m:Nat) (X:Nat) (dn:Bool) (de:Int) (er:Bool) (w:World) (h0:n<0) (h1:-9223372036854775808<=n) (hm:(ws m).length<=100) (hl:(ws X).length<=8192) (e1:IntKind.u64.wrap (-IntKind.u64.wrap n)=(m:Int))
 (HO:Hid (∀ u,Calls Tryz.prog 55 #[.int .u64 (m:Int)] u fun r w'=>∃ v,r=.returned v/\Nt u.heap.size w' v m/\Below u.heap.size u w'))
 (HM:Hid (∀ (u:World) (a:Option Addr) (c:Nat),Below w.heap.size w u->Arg u a (ws m).length c (ws m)->Calls Tryz.prog 54 #[.bool true,.slice a (ws m).length c,.int .i64 0] u fun r w'=>(∃ v,r=.returned (.tuple #[.agg #[.bool dn,v,.int .i64 de],.bool er])/\Nt u.heap.size w' v X)/\Below u.heap.size u w')) :
 Calls Tryz.prog 22 #[.int .i64 n] w fun r w'=>(∃ v,r=.returned (.agg #[.bool dn,v,.int .i64 de])/\Nt w.heap.size w' v X)/\Below w.heap.size w w':=by
 go_enter Tryz.func22,Tryz.ntmps22;go_wp2_with fail
 try rw[e1]
 refine(aF (HO.o _)) ?_;rintro r w1 ⟨v,rfl,hN,hb⟩;obtain⟨a1,c1,rfl,A1⟩:=hN.arg ae;have hz:w.heap.size<w1.heap.size:=by have:=hb.size;simp at this;omega
 have hbw:Below w.heap.size w w1:=(af w (.cells zD3 25)).trans (hb.mono aQ);have S1:=aA hbw;have H2:=hid (HM.o w1 a1 c1 hbw A1);obtain⟨hc,hf⟩:=aU hb;clear hN hb A1 hbw;go_wp2_with fail;refine H2.o.mono ?_;rintro r w2 ⟨⟨v,rfl,hN⟩,hb2⟩;obtain⟨a2,c2,rfl,_⟩:=hN.arg ae;obtain⟨hc2,hf2⟩:=aU hb2;have hz2:w.heap.size<w2.heap.size:=by have:=hb2.size;omega
 have HF:=aA (show Fin w.heap.size w1.heap.size w w2 (.slice a2 (ws X).length c2) X from⟨hN,S1.o.trans (hb2.mono ae),ae⟩);clear hN hb2;go_wp2;exact aG (v:=.agg #[.bool dn,.slice a2 (ws X).length c2,.int .i64 de]) (by simp[results,Tryz.results22,go_sem,hc,hc2,hz,hz2]) rfl (Fin.QE (m:=w1.heap.size) (by repeat (first | exact HF.o | refine Fin.alloc ?_ _ | refine Fin.set ?_ _ _ _ ae ae)) ae)
theorem AJ (n:Int) (m:Nat) (X:Nat) (dn:Bool) (de:Int) (er:Bool) (w:World) (h0:0<=n) (h1:n<=9223372036854775807) (hd:decide (n<0)=false) (hm:(ws m).length<=100) (hl:(ws X).length<=8192) (e1:IntKind.u64.wrap n=n)
 (HO:Hid (∀ u,Calls Tryz.prog 55 #[.int .u64 n] u fun r w'=>∃ v,r=.returned v/\Nt u.heap.size w' v m/\Below u.heap.size u w'))
 (HM:Hid (∀ (u:World) (a:Option Addr) (c:Nat),Below w.heap.size w u->Arg u a (ws m).length c (ws m)->Calls Tryz.prog 54 #[.bool false,.slice a (ws m).length c,.int .i64 0] u fun r w'=>(∃ v,r=.returned (.tuple #[.agg #[.bool dn,v,.int .i64 de],.bool er])/\Nt u.heap.size w' v X)/\Below u.heap.size u w')) :
 Calls Tryz.prog 22 #[.int .i64 n] w fun r w'=>(∃ v,r=.returned (.agg #[.bool dn,v,.int .i64 de])/\Nt w.heap.size w' v X)/\Below w.heap.size w w':=by
 go_enter Tryz.func22,Tryz.ntmps22;go_wp2_with fail
 try rw[e1]
 refine(aF (HO.o _)) ?_;rintro r w1 ⟨v,rfl,hN,hb⟩;obtain⟨a1,c1,rfl,A1⟩:=hN.arg ae;have hz:w.heap.size<w1.heap.size:=by have:=hb.size;simp at this;omega
 have hbw:Below w.heap.size w w1:=(af w (.cells zD3 25)).trans (hb.mono aQ);have S1:=aA hbw;have H2:=hid (HM.o w1 a1 c1 hbw A1);obtain⟨hc,hf⟩:=aU hb;clear hN hb A1 hbw;go_wp2_with fail;refine H2.o.mono ?_;rintro r w2 ⟨⟨v,rfl,hN⟩,hb2⟩;obtain⟨a2,c2,rfl,_⟩:=hN.arg ae;obtain⟨hc2,hf2⟩:=aU hb2;have hz2:w.heap.size<w2.heap.size:=by have:=hb2.size;omega
 have HF:=aA (show Fin w.heap.size w1.heap.size w w2 (.slice a2 (ws X).length c2) X from⟨hN,S1.o.trans (hb2.mono ae),ae⟩);clear hN hb2;go_wp2;exact aG (v:=.agg #[.bool dn,.slice a2 (ws X).length c2,.int .i64 de]) (by simp[results,Tryz.results22,go_sem,hc,hc2,hz,hz2]) rfl (Fin.QE (m:=w1.heap.size) (by repeat (first | exact HF.o | refine Fin.alloc ?_ _ | refine Fin.set ?_ _ _ _ ae ae)) ae)
theorem y9(n:Int)(h0:-9223372036854775808<=n)(h1:n<=9223372036854775807):(ws n.natAbs).length<=100:=by
 have:=(aW n.natAbs 2).2 (by rw[show pw 2=18446744073709551616 from rfl];omega);omega
theorem Vn(n:Int)(w:World)(hT:dU w)(h0:-9223372036854775808<=n)(h1:n<=9223372036854775807) :
 Calls Tryz.prog 48 #[.int .i64 n] w fun r w'=>bI w.heap.size w' r (mkS (decide (n<0)) n.natAbs 0)/\Below w.heap.size w w':=by
 have hl:=y9 n h0 h1
 have HM:∀ (s:Bool) (u:World) (a:Option Addr) (c:Nat),Below w.heap.size w u->Arg u a (ws n.natAbs).length c (ws n.natAbs)->Calls Tryz.prog 90 #[.bool s,.slice a (ws n.natAbs).length c,.int .i64 0] u fun r w'=>dm u.heap.size w' r (mkS s n.natAbs 0)/\Below u.heap.size u w':=by
  intro s u a c hu hA;have:=iV hA (hT.belows hu) s 0 ae ae;exact yy
 by_cases hn:n<0
 · rw[decide_eq_true hn];exact Dm n n.natAbs _ _ _ _ w hn h0 hl (aR _ _ _) (by simp[IntKind.wrap,IntKind.bits,IntKind.signed];omega) (hid fun u=>r9 _ u ae) (hid (HM true))
 · rw[decide_eq_false hn];have e:((n.natAbs:Nat):Int)=n:=ae
   exact Dn n n.natAbs _ _ _ _ w ae h1 (decide_eq_false hn) hl (aR _ _ _) (by simp[IntKind.wrap,IntKind.bits,IntKind.signed];omega) (hid fun u=>by have:=r9 n.natAbs u ae;rw[e] at this;exact this) (hid (HM false))
theorem QI(n:Int)(w:World)(h0:-9223372036854775808<=n)(h1:n<=9223372036854775807) :
 Calls Tryz.prog 22 #[.int .i64 n] w fun r w'=>bI w.heap.size w' r (mkS (decide (n<0)) n.natAbs 0)/\Below w.heap.size w w':=by
 have hl:=y9 n h0 h1
 have HM:∀ (s:Bool) (u:World) (a:Option Addr) (c:Nat),Below w.heap.size w u->Arg u a (ws n.natAbs).length c (ws n.natAbs)->Calls Tryz.prog 54 #[.bool s,.slice a (ws n.natAbs).length c,.int .i64 0] u fun r w'=>Dj u.heap.size w' r (mkS s n.natAbs 0)/\Below u.heap.size u w':=by
  intro s u a c hu hA;have:=qV hA ae s 0 ae ae;exact yy
 by_cases hn:n<0
 · rw[decide_eq_true hn];exact AB n n.natAbs _ _ _ _ w hn h0 hl (aR _ _ _) (by simp[IntKind.wrap,IntKind.bits,IntKind.signed];omega) (hid fun u=>xR _ u ae) (hid (HM true))
 · rw[decide_eq_false hn];have e:((n.natAbs:Nat):Int)=n:=ae
   exact AJ n n.natAbs _ _ _ _ w ae h1 (decide_eq_false hn) hl (aR _ _ _) (by simp[IntKind.wrap,IntKind.bits,IntKind.signed];omega) (hid fun u=>by have:=xR n.natAbs u ae;rw[e] at this;exact this) (hid (HM false))
theorem Nt.aY{lo:Nat}{w:World}{a:Option Addr}{n c X:Nat}(h:Nt lo w (.slice a n c) X)(hs:(ws X).length<=35184372088832):n=(ws X).length/\Arg w a (ws X).length c (ws X):=by
 obtain⟨a',c',e,A⟩:=h.arg hs
 cases e
 exact⟨rfl,A⟩
theorem len8{X:Nat}(h:bl X<=262144):(ws X).length<=8192:=by rw[jg];omega
theorem nG{X:Nat}(h:bl X<=262144):¬ LG X:=by rw[wE];omega
theorem o9{X Y:Nat}(h:X<=Y):bl X<=bl Y:=by
 by_cases h0:bl X=0
 · omega
 · have h1:=(wD X (bl X-1)).1 ae;have:=(wD Y (bl X-1)).2 (dW h1 h);omega
theorem Kw{X k:Nat}(h:X<2^k):bl X<=k:=by
 by_cases h0:k<bl X
 · have:=(wD X k).1 h0;omega
 · omega
theorem za{X:Nat}(h:bl X<=262144):bz X (-1)=(X/2,0):=by
 unfold bz;rw[if_neg (nG h)]
 by_cases h0:X=0
 · rw[if_pos h0,h0]
 · rw[if_neg h0,if_pos ae];rfl
theorem Ky{X k:Nat}(h:bl X<=k+1):X/2<2^k:=by
 have h1:=iT X;have h2:2^bl X<=2^(k+1):=fe ae h;rw[fC] at h2;omega
theorem MH{P Q:Nat}(hP:P%2=1)(hQ:Q%2=1)(bP:bl P<=262144)(bQ:bl Q<=262144):bl (P/2+Q/2)<=262144/\bl (P/2+Q/2+1)<=262144/\2*(P/2+Q/2+1)=P+Q:=by
 have h1:=Ky (X:=P) (k:=262143) bP;have h2:=Ky (X:=Q) (k:=262143) bQ;have key:∀ k:Nat,P/2<2^k->Q/2<2^k->P/2+Q/2+1<2^(k+1):=by intro k;rw[fC];omega
 have h3:=key _ h1 h2;have h4:=Kw h3;exact⟨dW (o9 ae) h4,h4,ae⟩
theorem Fa {w:World}{a b:Option Addr}{l c k d:Nat}{xs ys:List Nat}(h1:Arg w a l c xs) (h2:Arg w b k d ys) (hT:dU w) (neg:Bool) (e:Int) (he0:-1048576<=e) (he1:e<=1048576)
 (P Q:Nat) (hP:val xs=P) (hQ:val ys=Q) (oP:P%2=1) (oQ:Q%2=1) (bP:bl P<=262144) (bQ:bl Q<=262144) :
 Calls Tryz.prog 171 #[.bool neg,.slice a l c,.slice b k d,.int .i64 e] w fun r w'=>dm w.heap.size w' r (mkS neg (P+Q) e)/\Below w.heap.size w w':=by
 obtain⟨b3,b4,e5⟩:=MH oP oQ bP bQ;rw[<-e5,IE];obtain⟨P2,hP2⟩:∃ x,P/2=x:=⟨_,rfl⟩;obtain⟨Q2,Uu⟩:∃ x,Q/2=x:=⟨_,rfl⟩;have l1:(ws P2).length<=8192:=by rw[<-hP2];exact len8 (dW (o9 (p8 _ _)) bP)
 have l2:(ws Q2).length<=8192:=by rw[<-Uu];exact len8 (dW (o9 (p8 _ _)) bQ)
 have s1:=za bP;have s2:=za bQ;rw[hP2] at s1 b3 b4 |-;rw[Uu] at s2 b3 b4 |-;obtain⟨V,hV⟩:∃ x,P2+Q2=x:=⟨_,rfl⟩;rw[hV] at b3 b4 |-;obtain⟨H1,hH1⟩:∃ x,V+1=x:=⟨_,rfl⟩;rw[hH1] at b4 |-;have l3:(ws V).length<=8192:=len8 b3;have l4:(ws H1).length<=8192:=len8 b4;have l5:(ws 1).length<=8192:=by rw[uU];simp
 have HX:=(YF h1 h2 hT hP hQ s1 s2 hV hH1 b3 b4);clear h1 h2 hT hP hQ oP oQ bP bQ e5 hP2 Uu s1 s2 hV hH1 b3 b4;unfold dm;have hl:=aR neg H1 (e+1);obtain⟨o,ho⟩:∃ o,mkS neg H1 (e+1)=o:=⟨_,rfl⟩;rw[ho] at hl |-;obtain⟨dn,hdn⟩:∃ d,dN o=d:=⟨_,rfl⟩;obtain⟨X,hX⟩:∃ d,dX o=d:=⟨_,rfl⟩;obtain⟨de,hde⟩:∃ d,dE o=d:=⟨_,rfl⟩;obtain⟨er,her⟩:∃ d,o7 o=d:=⟨_,rfl⟩;rw[hdn,hX,hde,her];rw[hX] at hl;have HS:=(fO ho hdn hX hde her);clear ho hdn hX hde her;have S0:=aA (show Below (w.alloc (.cells zD3 25)).heap.size (w.alloc (.cells zD3 25)) (w.alloc (.cells zD3 25)) from aD _ _);have B0:=aA (show Below w.heap.size w (w.alloc (.cells zD3 25)) from af w _);go_enter Tryz.func171,Tryz.ntmps171;obtain C:=S0.o;have BW:Below w.heap.size w (w.alloc (.cells zD3 25)):=B0.o.trans (C.mono aQ);have H:=hid (gH (V:=P2) (-1) (HX.o.1.below BW) (by rw[HX.o.r3.1];exact HX.o.r5.1) ae ae);clear C BW;go_wp2_with fail;refine H.o.mono ?_;rintro r u1 ⟨v,rfl,hN,hb⟩;obtain⟨a1,c1,rfl,_⟩:=hN.arg ae;obtain C:=S0.o;have hz1:=C.size;have S1:=(aP (C.trans (hb.mono C.size)) (hN.mono C.size));clear C hb H hN;obtain⟨C,N1⟩:=S1.o;have BW:Below w.heap.size w u1:=B0.o.trans (C.mono aQ);have H:=hid (gH (V:=Q2) (-1) (HX.o.2.1.below BW) (by rw[HX.o.r4.1];exact HX.o.r6.1) ae ae);clear C BW N1;go_wp2_with fail;refine H.o.mono ?_;rintro r u2 ⟨v,rfl,hN,hb⟩;obtain⟨a2,c2,rfl,_⟩:=hN.arg ae;obtain⟨C,N1⟩:=S1.o;have hz2:=C.size;have S2:=(dC (C.trans (hb.mono C.size)) (N1.below hb) (hN.mono C.size));clear C hb H hN N1;obtain⟨C,N1,N2⟩:=S2.o;have BW:Below w.heap.size w u2:=B0.o.trans (C.mono aQ);have H:=hid (xN (V:=V) (N1.aY ae).2 (N2.aY ae).2 (by rw[ak,ak];exact xP (nG HX.o.2.2.2.2.2.2.2.2.2.1) HX.o.r7.1));clear C BW N1 N2;go_wp2_with fail;refine H.o.mono ?_;rintro r u3 ⟨v,rfl,hN,hb⟩;obtain⟨a3,c3,rfl,_⟩:=hN.arg ae;obtain⟨C,N1,N2⟩:=S2.o;have hz3:=C.size;have S3:=(ic (C.trans (hb.mono C.size)) (N1.below hb) (N2.below hb) (hN.mono C.size));clear C hb H hN N1 N2;obtain⟨C,N1,N2,N3⟩:=S3.o;have BW:Below w.heap.size w u3:=B0.o.trans (C.mono aQ);have H:=hid (r9 1 u3 ae);clear C BW N1 N2 N3;go_wp2_with fail;refine H.o.mono ?_;rintro r u4 ⟨v,rfl,hN,hb⟩;obtain⟨a4,c4,rfl,_⟩:=hN.arg ae;obtain⟨C,N1,N2,N3⟩:=S3.o;have MC:=C.size;have S4:=(fO (C.trans (hb.mono C.size)) (N1.below hb) (N2.below hb) (N3.below hb) (hN.mono C.size));clear C hb H hN N1 N2 N3;obtain⟨C,N1,N2,N3,N4⟩:=S4.o;have BW:Below w.heap.size w u4:=B0.o.trans (C.mono aQ);have H:=hid (xN (V:=H1) (N3.aY ae).2 (N4.aY ae).2 (by rw[ak,ak];exact xP (nG HX.o.2.2.2.2.2.2.2.2.2.2) HX.o.r8.1));clear C BW N1 N2 N3 N4;go_wp2_with fail;refine H.o.mono ?_;rintro r u5 ⟨v,rfl,hN,hb⟩;obtain⟨a5,c5,rfl,_⟩:=hN.arg ae;obtain⟨C,N1,N2,N3,N4⟩:=S4.o;have ME:=C.size;have S5:=(jJ (C.trans (hb.mono C.size)) (N1.below hb) (N2.below hb) (N3.below hb) (N4.below hb) (hN.mono C.size));clear C hb H hN N1 N2 N3 N4;obtain⟨C,N1,N2,N3,N4,N5⟩:=S5.o;have BW:Below w.heap.size w u5:=B0.o.trans (C.mono aQ);have H0:=show Calls Tryz.prog 90 #[.bool neg,.slice a5 (ws H1).length c5,.int .i64 (e+1)] u5 fun r w'=>dm u5.heap.size w' r (mkS neg H1 (e+1))/\Below u5.heap.size u5 w' from by have:=iV (N5.aY ae).2 (HX.o.r2.1.belows BW) neg (e+1) ae ae;rw[ak] at this;exact this
 unfold dm at H0;rw[HS.o.1,HS.o.2.1,HS.o.r2.1,HS.o.r3.1,HS.o.r4] at H0;have H:=hid H0;clear C BW H0 N1 N2 N3 N4 N5;go_wp2_with fail;refine H.o.mono ?_;rintro r uu ⟨⟨v,rfl,hN⟩,hb⟩;obtain⟨aa,cc,rfl,_⟩:=hN.arg ae;obtain⟨C,N1,N2,N3,N4,N5⟩:=S5.o;have hbb:=C.trans (hb.mono C.size);obtain⟨hc,hf⟩:=aU hbb;have HF:=aA (Fin.of 1 B0.o aQ (hN.mono C.size) hbb);have hz:w.heap.size<uu.heap.size:=by have:=hbb.size;simp at this;omega
 clear C hb hN hbb H N1 N2 N3 N4 N5;go_wp2;exact aG (v:=.tuple #[.agg #[.bool dn,.slice aa (ws X).length cc,.int .i64 de],.int .i64 er]) (by simp[results,Tryz.results171,go_sem,hc]) rfl (Fin.lh (m:=w.heap.size+1) (by repeat (first | exact HF.o | refine Fin.alloc ?_ _ | refine Fin.set ?_ _ _ _ ae ae)) ae)
theorem Vo {w:World}{a b:Option Addr}{l c k d:Nat}{xs ys:List Nat}(h1:Arg w a l c xs) (h2:Arg w b k d ys) (hT:dU w) (neg:Bool) (e:Int) (he0:-1048576<=e) (he1:e<=1048576)
 (P Q:Nat) (hP:val xs=P) (hQ:val ys=Q) (oP:P%2=1) (oQ:Q%2=1) (bP:bl P<=262144) (bQ:bl Q<=262144) :
 Calls Tryz.prog 138 #[.bool neg,.slice a l c,.slice b k d,.int .i64 e] w fun r w'=>dm w.heap.size w' r (mkS neg (P+Q) e)/\Below w.heap.size w w':=by
 have HX:=(XP h1 h2 hT hP hQ oP oQ bP bQ);clear h1 h2 hT hP hQ oP oQ bP bQ;unfold dm;have hl:=aR neg (P+Q) e;obtain⟨o,ho⟩:∃ o,mkS neg (P+Q) e=o:=⟨_,rfl⟩;rw[ho] at hl |-;obtain⟨dn,hdn⟩:∃ d,dN o=d:=⟨_,rfl⟩;obtain⟨X,hX⟩:∃ d,dX o=d:=⟨_,rfl⟩;obtain⟨de,hde⟩:∃ d,dE o=d:=⟨_,rfl⟩;obtain⟨er,her⟩:∃ d,o7 o=d:=⟨_,rfl⟩;rw[hdn,hX,hde,her];rw[hX] at hl;have HS:=(fO ho hdn hX hde her);clear ho hdn hX hde her;have S0:=aA (show Below (w.alloc (.cells zD3 25)).heap.size (w.alloc (.cells zD3 25)) (w.alloc (.cells zD3 25)) from aD _ _);have B0:=aA (show Below w.heap.size w (w.alloc (.cells zD3 25)) from af w _);go_enter Tryz.func138,Tryz.ntmps138;obtain C:=S0.o;have BW:Below w.heap.size w (w.alloc (.cells zD3 25)):=B0.o.trans (C.mono aQ);have H:=hid (show Calls Tryz.prog 160 #[.slice a l c,.int .i64 0] (w.alloc (.cells zD3 25)) fun r w'=>r=.returned (.bool true)/\w'=(w.alloc (.cells zD3 25)) from by have A:=HX.o.1.below BW;have:=tQ xs a l c _ 0 _ A.len A.wf A.rd ae;rw[gK,wm,HX.o.r3.1,HX.o.r5.1] at this;exact this);clear C BW;go_wp2_with fail;refine H.o.mono ?_;rintro r ww ⟨rfl,hw⟩;rw[hw];clear H hw ww;obtain C:=S0.o;have BW:Below w.heap.size w (w.alloc (.cells zD3 25)):=B0.o.trans (C.mono aQ);have H0:=Fa (HX.o.1.below BW) (HX.o.2.1.below BW) (HX.o.r2.1.belows BW) neg e he0 he1 P Q HX.o.r3.1 HX.o.r4.1 HX.o.r5.1 HX.o.r6.1 HX.o.r7.1 HX.o.r8;unfold dm at H0;rw[HS.o.1,HS.o.2.1,HS.o.r2.1,HS.o.r3.1,HS.o.r4] at H0;have H:=hid H0;clear C BW H0;go_wp2_with fail;refine H.o.mono ?_;rintro r uu ⟨⟨v,rfl,hN⟩,hb⟩;obtain⟨aa,cc,rfl,_⟩:=hN.arg ae;obtain C:=S0.o;have hbb:=C.trans (hb.mono C.size);obtain⟨hc,hf⟩:=aU hbb;have HF:=aA (Fin.of 1 B0.o aQ (hN.mono C.size) hbb);have hz:w.heap.size<uu.heap.size:=by have:=hbb.size;simp at this;omega
 clear C hb hN hbb H;go_wp2;exact aG (v:=.tuple #[.agg #[.bool dn,.slice aa (ws X).length cc,.int .i64 de],.int .i64 er]) (by simp[results,Tryz.results138,go_sem,hc]) rfl (Fin.lh (m:=w.heap.size+1) (by repeat (first | exact HF.o | refine Fin.alloc ?_ _ | refine Fin.set ?_ _ _ _ ae ae)) ae)
theorem QJ {w:World}{a b:Option Addr}{l c k d:Nat}{xs ys:List Nat}(h1:Arg w a l c xs) (h2:Arg w b k d ys) (hT:dU w) (neg:Bool) (e:Int) (he0:-1048576<=e) (he1:e<=1048576)
 (P Q:Nat) (hP:val xs=P) (hQ:val ys=Q) (oP:P%2=0) (hs:bl (P+Q)<=262144) :
 Calls Tryz.prog 138 #[.bool neg,.slice a l c,.slice b k d,.int .i64 e] w fun r w'=>dm w.heap.size w' r (mkS neg (P+Q) e)/\Below w.heap.size w w':=by
 obtain⟨V,hV⟩:∃ x,P+Q=x:=⟨_,rfl⟩;rw[hV] at hs |-;have l1:=len8 hs;have HX:=(uI h1 h2 hT hP hQ oP hs hV);clear h1 h2 hT hP hQ oP hs hV;unfold dm;have hl:=aR neg V e;obtain⟨o,ho⟩:∃ o,mkS neg V e=o:=⟨_,rfl⟩;rw[ho] at hl |-;obtain⟨dn,hdn⟩:∃ d,dN o=d:=⟨_,rfl⟩;obtain⟨X,hX⟩:∃ d,dX o=d:=⟨_,rfl⟩;obtain⟨de,hde⟩:∃ d,dE o=d:=⟨_,rfl⟩;obtain⟨er,her⟩:∃ d,o7 o=d:=⟨_,rfl⟩;rw[hdn,hX,hde,her];rw[hX] at hl;have HS:=(fO ho hdn hX hde her);clear ho hdn hX hde her;have S0:=aA (show Below (w.alloc (.cells zD3 25)).heap.size (w.alloc (.cells zD3 25)) (w.alloc (.cells zD3 25)) from aD _ _);have B0:=aA (show Below w.heap.size w (w.alloc (.cells zD3 25)) from af w _);go_enter Tryz.func138,Tryz.ntmps138;obtain C:=S0.o;have BW:Below w.heap.size w (w.alloc (.cells zD3 25)):=B0.o.trans (C.mono aQ);have H:=hid (show Calls Tryz.prog 160 #[.slice a l c,.int .i64 0] (w.alloc (.cells zD3 25)) fun r w'=>r=.returned (.bool false)/\w'=(w.alloc (.cells zD3 25)) from by have A:=HX.o.1.below BW;have:=tQ xs a l c _ 0 _ A.len A.wf A.rd ae;rw[gK,wm,HX.o.r3.1,HX.o.r5.1] at this;exact this);clear C BW;go_wp2_with fail;refine H.o.mono ?_;rintro r ww ⟨rfl,hw⟩;rw[hw];clear H hw ww;obtain C:=S0.o;have BW:Below w.heap.size w (w.alloc (.cells zD3 25)):=B0.o.trans (C.mono aQ);have H:=hid (xN (V:=V) (HX.o.1.below BW) (HX.o.2.1.below BW) (by rw[HX.o.r3.1,HX.o.r4.1];exact xP (nG HX.o.r6.1) HX.o.r7));clear C BW;go_wp2_with fail;refine H.o.mono ?_;rintro r u1 ⟨v,rfl,hN,hb⟩;obtain⟨a1,c1,rfl,_⟩:=hN.arg ae;obtain C:=S0.o;have hz1:=C.size;have S1:=(aP (C.trans (hb.mono C.size)) (hN.mono C.size));clear C hb H hN;obtain⟨C,N1⟩:=S1.o;have BW:Below w.heap.size w u1:=B0.o.trans (C.mono aQ);have H0:=show Calls Tryz.prog 90 #[.bool neg,.slice a1 (ws V).length c1,.int .i64 e] u1 fun r w'=>dm u1.heap.size w' r (mkS neg V e)/\Below u1.heap.size u1 w' from by have:=iV (N1.aY ae).2 (HX.o.r2.1.belows BW) neg e ae ae;rw[ak] at this;exact this
 unfold dm at H0;rw[HS.o.1,HS.o.2.1,HS.o.r2.1,HS.o.r3.1,HS.o.r4] at H0;have H:=hid H0;clear C BW H0 N1;go_wp2_with fail;refine H.o.mono ?_;rintro r uu ⟨⟨v,rfl,hN⟩,hb⟩;obtain⟨aa,cc,rfl,_⟩:=hN.arg ae;obtain⟨C,N1⟩:=S1.o;have hbb:=C.trans (hb.mono C.size);obtain⟨hc,hf⟩:=aU hbb;have HF:=aA (Fin.of 1 B0.o aQ (hN.mono C.size) hbb);have hz:w.heap.size<uu.heap.size:=by have:=hbb.size;simp at this;omega
 clear C hb hN hbb H N1;go_wp2;exact aG (v:=.tuple #[.agg #[.bool dn,.slice aa (ws X).length cc,.int .i64 de],.int .i64 er]) (by simp[results,Tryz.results138,go_sem,hc]) rfl (Fin.lh (m:=w.heap.size+1) (by repeat (first | exact HF.o | refine Fin.alloc ?_ _ | refine Fin.set ?_ _ _ _ ae ae)) ae)
theorem MI{w:World}{a b:Option Addr}{n c m d:Nat}{xs ys:List Nat}(h1:Arg w a n c xs)(h2:Arg w b m d ys)(h:LG (val xs+val ys)) :
 Calls Tryz.prog 141 #[.slice a n c,.slice b m d] w fun r w'=>∃ v,r=.returned (.tuple #[v,.int .i64 2])/\Nt w.heap.size w' v 0/\Below w.heap.size w w' :=
 (Kn xs ys a b n c m d w.heap.size w h1.len h2.len h1.cap h2.cap (by have:=h1.big;omega) (by have:=h2.big;omega) h1.wf h2.wf h1.rd h2.rd (aC _)).mono fun r w' ⟨⟨v,h3,h4⟩,h5⟩=>by
  have e:wZ (val xs) (val ys)=(0,2):=by unfold wZ;rw[if_pos h]
  rw[e] at h3 h4;exact⟨v,h3,h4,h5⟩
theorem QK {w:World}{a b:Option Addr}{l c k d:Nat}{xs ys:List Nat}(h1:Arg w a l c xs) (h2:Arg w b k d ys) (hT:dU w) (neg:Bool) (e:Int) (he0:-1048576<=e) (he1:e<=1048576)
 (P Q:Nat) (hP:val xs=P) (hQ:val ys=Q) (oP:P%2=0) (hs:262144<bl (P+Q)) :
 Calls Tryz.prog 138 #[.bool neg,.slice a l c,.slice b k d,.int .i64 e] w fun r w'=>dm w.heap.size w' r none/\Below w.heap.size w w':=by
 have l0:(ws 0).length=0:=by rw[bO];rfl
 have HX:=(nU h1 h2 hT hP hQ oP hs);clear h1 h2 hT hP hQ oP hs;have S0:=aA (show Below (w.alloc (.cells zD3 25)).heap.size (w.alloc (.cells zD3 25)) (w.alloc (.cells zD3 25)) from aD _ _);have B0:=aA (show Below w.heap.size w (w.alloc (.cells zD3 25)) from af w _);go_enter Tryz.func138,Tryz.ntmps138;obtain C:=S0.o;have BW:Below w.heap.size w (w.alloc (.cells zD3 25)):=B0.o.trans (C.mono aQ);have H:=hid (show Calls Tryz.prog 160 #[.slice a l c,.int .i64 0] (w.alloc (.cells zD3 25)) fun r w'=>r=.returned (.bool false)/\w'=(w.alloc (.cells zD3 25)) from by have A:=HX.o.1.below BW;have:=tQ xs a l c _ 0 _ A.len A.wf A.rd ae;rw[gK,wm,HX.o.r3.1,HX.o.r5.1] at this;exact this);clear C BW;go_wp2_with fail;refine H.o.mono ?_;rintro r ww ⟨rfl,hw⟩;rw[hw];clear H hw ww;obtain C:=S0.o;have BW:Below w.heap.size w (w.alloc (.cells zD3 25)):=B0.o.trans (C.mono aQ);have H:=hid (MI (HX.o.1.below BW) (HX.o.2.1.below BW) (by rw[HX.o.r3.1,HX.o.r4.1,wE];exact HX.o.r6));clear C BW;go_wp2_with fail;refine H.o.mono ?_;rintro r u1 ⟨v,rfl,hN,hb⟩;obtain⟨a1,c1,rfl,_⟩:=hN.arg ae;obtain C:=S0.o;have hz1:=C.size;have S1:=(aP (C.trans (hb.mono C.size)) (hN.mono C.size));clear C hb H hN;obtain⟨C,N1⟩:=S1.o;obtain⟨hc,hf⟩:=aU C;have HF:=aA (show Fin w.heap.size (w.heap.size+1) w u1 (.slice none 0 0) 0 from⟨Nt.nil _ _,B0.o.trans (C.mono aQ),by have:=C.size;simp at this;omega⟩);have hz:w.heap.size<u1.heap.size:=by have:=C.size;simp at this;omega
 clear C N1;go_wp2;exact aG (v:=.tuple #[.agg zD3,.int .i64 2]) (by simp[results,Tryz.results138,go_sem,hc]) rfl (Fin.lh (m:=w.heap.size+1) (by repeat (first | exact HF.o | refine Fin.alloc ?_ _ | refine Fin.set ?_ _ _ _ ae ae)) ae)
theorem Vp {w:World}{a b:Option Addr}{l c k d:Nat}{xs ys:List Nat}(h1:Arg w a l c xs) (h2:Arg w b k d ys) (hT:dU w) (neg:Bool) (e:Int) (he0:-1048576<=e) (he1:e<=1048576)
 (P Q:Nat) (hP:val xs=P) (hQ:val ys=Q) (oQ:Q%2=1) (bP:bl P<=262144) (bQ:bl Q<=262144) :
 Calls Tryz.prog 138 #[.bool neg,.slice a l c,.slice b k d,.int .i64 e] w fun r w'=>dm w.heap.size w' r (mkS neg (P+Q) e)/\Below w.heap.size w w':=by
 rcases Ho P with oP|oP
 · by_cases hs:bl (P+Q)<=262144
   · exact QJ h1 h2 hT neg e he0 he1 P Q hP hQ oP hs
   · have e1:mkS neg (P+Q) e=none:=by rw[Kr _ _ _ ae,if_pos (.inl ae)]
     rw[e1];exact QK h1 h2 hT neg e he0 he1 P Q hP hQ oP ae
 · exact Vo h1 h2 hT neg e he0 he1 P Q hP hQ oP oQ bP bQ
theorem QL {w:World}{a b:Option Addr}{l c k d:Nat}{xs ys:List Nat}(h1:Arg w a l c xs) (h2:Arg w b k d ys) (hT:dU w) (neg:Bool) (e:Int) (he0:-1048576<=e) (he1:e<=1048576)
 (P Q:Nat) (hP:val xs=P) (hQ:val ys=Q) (bP:bl P<=262144) (bQ:bl Q<=262144) (hlt:P<Q) :
 Calls Tryz.prog 139 #[.bool neg,.slice a l c,.slice b k d,.int .i64 e] w fun r w'=>dm w.heap.size w' r (mkS (!neg) (Q-P) e)/\Below w.heap.size w w':=by
 obtain⟨z,hz0⟩:∃ z,bJ P Q=z:=⟨_,rfl⟩;have hzz:z=-1:=by rw[<-hz0];exact o6 hlt
 obtain⟨V,hV⟩:∃ x,Q-P=x:=⟨_,rfl⟩;have bV:bl V<=262144:=by rw[<-hV];exact dW (o9 (Bp _ _)) bQ
 rw[hV];have l1:=len8 bV;have hsub:V+P=Q:=ae
 have HX:=(XP h1 h2 hT hP hQ hz0 hsub bP bQ);subst hzz;clear h1 h2 hT hP hQ hz0 hsub bP bQ hlt hV bV;unfold dm;have hl:=aR (!neg) V e;obtain⟨o,ho⟩:∃ o,mkS (!neg) V e=o:=⟨_,rfl⟩;rw[ho] at hl |-;obtain⟨dn,hdn⟩:∃ d,dN o=d:=⟨_,rfl⟩;obtain⟨X,hX⟩:∃ d,dX o=d:=⟨_,rfl⟩;obtain⟨de,hde⟩:∃ d,dE o=d:=⟨_,rfl⟩;obtain⟨er,her⟩:∃ d,o7 o=d:=⟨_,rfl⟩;rw[hdn,hX,hde,her];rw[hX] at hl;have HS:=(fO ho hdn hX hde her);clear ho hdn hX hde her;have S0:=aA (show Below (w.alloc (.cells zD3 25)).heap.size (w.alloc (.cells zD3 25)) (w.alloc (.cells zD3 25)) from aD _ _);have B0:=aA (show Below w.heap.size w (w.alloc (.cells zD3 25)) from af w _);go_enter Tryz.func139,Tryz.ntmps139;obtain C:=S0.o;have BW:Below w.heap.size w (w.alloc (.cells zD3 25)):=B0.o.trans (C.mono aQ);have H:=hid (show Calls Tryz.prog 162 #[.slice a l c,.slice b k d] (w.alloc (.cells zD3 25)) fun r w'=>r=.returned (.int .i64 (-1))/\Below (w.alloc (.cells zD3 25)).heap.size (w.alloc (.cells zD3 25)) w' from Dh (HX.o.1.below BW) (HX.o.2.1.below BW) (-1) (by rw[HX.o.r3.1,HX.o.r4.1];exact HX.o.r5.1));clear C BW;go_wp2_with fail;refine H.o.mono ?_;rintro r u1 ⟨rfl,hb⟩;obtain C:=S0.o;have hz1:=C.size;have S1:=aA (C.trans (hb.mono C.size));clear C hb H;obtain C:=S1.o;have BW:Below w.heap.size w u1:=B0.o.trans (C.mono aQ);have H:=hid (xO (V:=V) (HX.o.2.1.below BW) (HX.o.1.below BW) (by rw[HX.o.r4.1,HX.o.r3.1];exact xQ (nG HX.o.r8) (nG HX.o.r7.1) HX.o.r6.1));clear C BW;go_wp2_with fail;refine H.o.mono ?_;rintro r u2 ⟨v,rfl,hN,hb⟩;obtain⟨a2,c2,rfl,_⟩:=hN.arg ae;obtain C:=S1.o;have hz2:=C.size;have S2:=(aP (C.trans (hb.mono C.size)) (hN.mono C.size));clear C hb H hN;obtain⟨C,N2⟩:=S2.o;have BW:Below w.heap.size w u2:=B0.o.trans (C.mono aQ);have H0:=show Calls Tryz.prog 90 #[.bool (!neg),.slice a2 (ws V).length c2,.int .i64 e] u2 fun r w'=>dm u2.heap.size w' r (mkS (!neg) V e)/\Below u2.heap.size u2 w' from by have:=iV (N2.aY ae).2 (HX.o.r2.1.belows BW) (!neg) e ae ae;rw[ak] at this;exact this
 unfold dm at H0;rw[HS.o.1,HS.o.2.1,HS.o.r2.1,HS.o.r3.1,HS.o.r4] at H0;have H:=hid H0;clear C BW H0 N2;go_wp2_with fail;refine H.o.mono ?_;rintro r uu ⟨⟨v,rfl,hN⟩,hb⟩;obtain⟨aa,cc,rfl,_⟩:=hN.arg ae;obtain⟨C,N2⟩:=S2.o;have hbb:=C.trans (hb.mono C.size);obtain⟨hc,hf⟩:=aU hbb;have HF:=aA (Fin.of 1 B0.o aQ (hN.mono C.size) hbb);have hz:w.heap.size<uu.heap.size:=by have:=hbb.size;simp at this;omega
 clear C hb hN hbb H N2;go_wp2;exact aG (v:=.tuple #[.agg #[.bool dn,.slice aa (ws X).length cc,.int .i64 de],.int .i64 er]) (by simp[results,Tryz.results139,go_sem,hc]) rfl (Fin.lh (m:=w.heap.size+1) (by repeat (first | exact HF.o | refine Fin.alloc ?_ _ | refine Fin.set ?_ _ _ _ ae ae)) ae)
theorem MJ {w:World}{a b:Option Addr}{l c k d:Nat}{xs ys:List Nat}(h1:Arg w a l c xs) (h2:Arg w b k d ys) (hT:dU w) (neg:Bool) (e:Int) (he0:-1048576<=e) (he1:e<=1048576)
 (P Q:Nat) (hP:val xs=P) (hQ:val ys=Q) (bP:bl P<=262144) (bQ:bl Q<=262144) (hlt:Q<=P) :
 Calls Tryz.prog 139 #[.bool neg,.slice a l c,.slice b k d,.int .i64 e] w fun r w'=>dm w.heap.size w' r (mkS neg (P-Q) e)/\Below w.heap.size w w':=by
 obtain⟨z,hz0⟩:∃ z,bJ P Q=z:=⟨_,rfl⟩;have hzz:0<=z:=by rw[<-hz0];exact Kq hlt
 obtain⟨V,hV⟩:∃ x,P-Q=x:=⟨_,rfl⟩;have bV:bl V<=262144:=by rw[<-hV];exact dW (o9 (Bp _ _)) bP
 rw[hV];have l1:=len8 bV;have hsub:V+Q=P:=ae
 have HX:=(XP h1 h2 hT hP hQ hz0 hsub bP bQ);have XV:decide (z<0)=false:=decide_eq_false ae;clear h1 h2 hT hP hQ hz0 hsub bP bQ hlt hV bV;unfold dm;have hl:=aR neg V e;obtain⟨o,ho⟩:∃ o,mkS neg V e=o:=⟨_,rfl⟩;rw[ho] at hl |-;obtain⟨dn,hdn⟩:∃ d,dN o=d:=⟨_,rfl⟩;obtain⟨X,hX⟩:∃ d,dX o=d:=⟨_,rfl⟩;obtain⟨de,hde⟩:∃ d,dE o=d:=⟨_,rfl⟩;obtain⟨er,her⟩:∃ d,o7 o=d:=⟨_,rfl⟩;rw[hdn,hX,hde,her];rw[hX] at hl;have HS:=(fO ho hdn hX hde her);clear ho hdn hX hde her;have S0:=aA (show Below (w.alloc (.cells zD3 25)).heap.size (w.alloc (.cells zD3 25)) (w.alloc (.cells zD3 25)) from aD _ _);have B0:=aA (show Below w.heap.size w (w.alloc (.cells zD3 25)) from af w _);go_enter Tryz.func139,Tryz.ntmps139;obtain C:=S0.o;have BW:Below w.heap.size w (w.alloc (.cells zD3 25)):=B0.o.trans (C.mono aQ);have H:=hid (show Calls Tryz.prog 162 #[.slice a l c,.slice b k d] (w.alloc (.cells zD3 25)) fun r w'=>r=.returned (.int .i64 z)/\Below (w.alloc (.cells zD3 25)).heap.size (w.alloc (.cells zD3 25)) w' from Dh (HX.o.1.below BW) (HX.o.2.1.below BW) z (by rw[HX.o.r3.1,HX.o.r4.1];exact HX.o.r5.1));clear C BW;go_wp2_with fail;refine H.o.mono ?_;rintro r u1 ⟨rfl,hb⟩;obtain C:=S0.o;have hz1:=C.size;have S1:=aA (C.trans (hb.mono C.size));clear C hb H;obtain C:=S1.o;have BW:Below w.heap.size w u1:=B0.o.trans (C.mono aQ);have H:=hid (xO (V:=V) (HX.o.1.below BW) (HX.o.2.1.below BW) (by rw[HX.o.r3.1,HX.o.r4.1];exact xQ (nG HX.o.r7.1) (nG HX.o.r8) HX.o.r6.1));clear C BW;go_wp2_with fail;refine H.o.mono ?_;rintro r u2 ⟨v,rfl,hN,hb⟩;obtain⟨a2,c2,rfl,_⟩:=hN.arg ae;obtain C:=S1.o;have hz2:=C.size;have S2:=(aP (C.trans (hb.mono C.size)) (hN.mono C.size));clear C hb H hN;obtain⟨C,N2⟩:=S2.o;have BW:Below w.heap.size w u2:=B0.o.trans (C.mono aQ);have H0:=show Calls Tryz.prog 90 #[.bool neg,.slice a2 (ws V).length c2,.int .i64 e] u2 fun r w'=>dm u2.heap.size w' r (mkS neg V e)/\Below u2.heap.size u2 w' from by have:=iV (N2.aY ae).2 (HX.o.r2.1.belows BW) neg e ae ae;rw[ak] at this;exact this
 unfold dm at H0;rw[HS.o.1,HS.o.2.1,HS.o.r2.1,HS.o.r3.1,HS.o.r4] at H0;have H:=hid H0;clear C BW H0 N2;go_wp2_with fail;refine H.o.mono ?_;rintro r uu ⟨⟨v,rfl,hN⟩,hb⟩;obtain⟨aa,cc,rfl,_⟩:=hN.arg ae;obtain⟨C,N2⟩:=S2.o;have hbb:=C.trans (hb.mono C.size);obtain⟨hc,hf⟩:=aU hbb;have HF:=aA (Fin.of 1 B0.o aQ (hN.mono C.size) hbb);have hz:w.heap.size<uu.heap.size:=by have:=hbb.size;simp at this;omega
 clear C hb hN hbb H N2;go_wp2;exact aG (v:=.tuple #[.agg #[.bool dn,.slice aa (ws X).length cc,.int .i64 de],.int .i64 er]) (by simp[results,Tryz.results139,go_sem,hc]) rfl (Fin.lh (m:=w.heap.size+1) (by repeat (first | exact HF.o | refine Fin.alloc ?_ _ | refine Fin.set ?_ _ _ _ ae ae)) ae)
end
end Go.Proofs.YtfmfhehbdfhnbaaGreatDoor
