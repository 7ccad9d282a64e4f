import Derived.Test.YtjppdacikihpdaaGreatDoorS10x
import Derived.Deep.RegionWith
import Derived.BigQuiet
import Derived.Deep.RegionHeld3
import Derived.Test.YtjppdacikihpdaaGreatDoorBIeeex
set_option linter.unusedVariables false
set_option linter.unusedSimpArgs false
set_option maxHeartbeats 16000000
set_option maxRecDepth 20000
namespace Go.Proofs.YtjppdacikihpdaaGreatDoor
section
open Go.RowKit
attribute [local go_sem] B.LM B.fld0 B.fld1 B.fld2 B.fld3
def Z9(s:Bool)(e f:Nat):Option (Bool×Nat×Int):=if e=2047 then none else mkS s (if e=0 then f else f+4503599627370496) (if e=0 then -1074 else(e:Int)-1075)
def Y6(e:Nat):Int:=if e=2047 then 30 else 0
def OAns(lo:Nat)(w:World)(r:Ending)(o:Option (Bool×Nat×Int))(er:Int):Prop :=
 ∃v,r=.returned (.tuple #[.agg #[.bool (dN o),v,.int .i64 (dE o)],.int .i64 er])/\Nt lo w v (dX o)
theorem qK(X:Nat)(h:X<9007199254740992):bl X<=53:=by
 by_cases h0:X=0
 . subst h0;rw[dI];omega
 . have:=(kH (a:=2) ae).1 (iC (iw X h0) (show X<2^53 from h));omega
theorem LU(s:Bool)(X:Nat)(x:Int)(hX:X<9007199254740992)(h0:-1100<=x)(h1:x<=1000):∃d,mkS s X x=some d:=by
 unfold mkS
 by_cases h:X=0
 . rw[if_pos h];exact⟨_,rfl⟩
 . rw[if_neg h];obtain⟨m,_,_,hb⟩:=iI X h;have:=qK X hX;rw[if_neg ae];exact⟨_,rfl⟩
theorem Wy (s:Bool) (b:Nat) (F:Nat) (k x:Int) (w:World) (hT:gP w) (hF:F<9007199254740992) (hx0:-1100<=x) (hx1:x<=1000)
 (HA:Hid (∀u,Ax 126 #[.float .f64 b] u (.float .f64 (b%9223372036854775808))))
 (HS:Hid (∀u,At 76 #[.float .f64 (b%9223372036854775808)] u (.agg #[.bool false,.int .i64 k,.int .i64 x,.int .u64 (F:Nat)])))
 (H0:Hid (∀u,At 76 #[.float .f64 0] u (.agg #[.bool false,.int .i64 0,.int .i64 (-1074),.int .u64 0])))
 (hlt:(FloatKind.f64.format.order b 0==some .lt)=s) (k0:(k==0)=false) (k3:(k==3)=false) (k4:(k==4)=false) :
 As 78 #[.float .f64 b] w λr w'=>dm w.heap.size w' r (mkS s F x)/\An w w':=by
 generalize hb2:b%9223372036854775808=b2 at *;clear hb2;have HO:Hid (∀u,As 95 #[.int .u64 (F:Nat)] u λr w'=>∃v,r=.returned v/\Nt u.heap.size w' v F/\An u w'):=λu=>nS F u ae
 have HM:Hid (∀(u:World) (a:Option Addr) (c:Nat),gP u->Arg u a (ws F).length c (ws F)->As 94 #[.bool s,.slice a (ws F).length c,.int .i64 x] u λr w'=>dm u.heap.size w' r (mkS s F x)/\An u w'):=by
  intro u a c hTu hA;have:=fZ hA hTu s x ae ae;exact Qab
 have hFl:(ws F).length<=100:=by have:=ic F;have:=qK F hF;omega
 have hl:=aR s F x;obtain⟨o,ho⟩:∃o,mkS s F x=o:=⟨_,rfl⟩;rw[ho] at HM hl |-;unfold dm at HM |-;obtain⟨dn,hdn⟩:∃d,dN o=d:=⟨_,rfl⟩;obtain⟨X,Jt⟩:∃d,dX o=d:=⟨_,rfl⟩;obtain⟨de,hde⟩:∃d,dE o=d:=⟨_,rfl⟩;obtain⟨er,her⟩:∃d,xG o=d:=⟨_,rfl⟩;rw[hdn,Jt,hde,her] at HM |-;rw[Jt] at hl;have HT:=ak hT;clear ho hdn Jt hde her hT hF hx0 hx1;go_enter Tryz.func78,Tryz.ntmps78;go_wp2_with fail;refine(eG (HA.o _)) ?_;rintro r w1 ⟨rfl,rfl⟩;go_wp2_with fail;refine(eG (HS.o _)) ?_;rintro r w2 ⟨rfl,hb⟩;obtain⟨hc,hf⟩:=bz hb;have hz:w.heap.size<w2.heap.size:=by have:=hb.size;simp at this;omega
 have hbw:An w w2:=((aD _ _).alloc (aA _) _).trans (hb.mono aN);have SB:=ak hbw;clear hb hbw;obtain⟨W2,hW2⟩:=ah (w2.alloc (.cells #[.bool false,.int .i64 k,.int .i64 x,.int .u64 (F:Nat)] 98));have hbW:An w W2:=by rw[hW2];exact SB.o.alloc ae _
 have P:W2.heap[w2.heap.size]?=some (.cells #[.bool false,.int .i64 k,.int .i64 x,.int .u64 (F:Nat)] 98 (0,0)):=by rw[hW2,iF]
 have p0:W2.cell? ⟨w2.heap.size,0,none⟩=some (.bool false):=by simp[World.cell?,P]
 have p1:W2.cell? ⟨w2.heap.size,1,none⟩=some (.int .i64 k):=by simp[World.cell?,P]
 have p2:W2.cell? ⟨w2.heap.size,2,none⟩=some (.int .i64 x):=by simp[World.cell?,P]
 have p3:W2.cell? ⟨w2.heap.size,3,none⟩=some (.int .u64 (F:Nat)):=by simp[World.cell?,P]
 have r0:W2.cell? ⟨w.heap.size,0,none⟩=some (.bool false):=by rw[hW2];go_simp
 have r1:W2.cell? ⟨w.heap.size,1,none⟩=some (.slice none 0 0):=by rw[hW2];go_simp
 have r2:W2.cell? ⟨w.heap.size,2,none⟩=some (.int .i64 0):=by rw[hW2];go_simp
 have f0:W2.frozen? ⟨w.heap.size,0,none⟩=false:=by rw[hW2];go_simp
 have f1:W2.frozen? ⟨w.heap.size,1,none⟩=false:=by rw[hW2];go_simp
 have f2:W2.frozen? ⟨w.heap.size,2,none⟩=false:=by rw[hW2];go_simp
 have hz2:w2.heap.size<W2.heap.size:=by rw[hW2];simp
 have hz3:w.heap.size<W2.heap.size:=ae
 have SW:=ak hbW;go_wp2_with fail;rw[<-hW2];clear hW2 hbW P hc hf SB
 go_region_with (go_at_call 76;refine(H0.o _).mono ?_;rintro r w3 ⟨rfl,hb3⟩;have hb4:An W2 w3:=(by first | exact hb3 | exact((aD _ W2).drew).trans (hb3.mono (aA _)));obtain⟨hc,hf⟩:=bz hb4;have S3:=ak hb4;clear hb3 hb4)
 all_goals (
  go_wp2_with fail;have Og:w2.heap.size<w3.heap.size:=by have:=S3.o.size;omega
  have Oh:w.heap.size<w3.heap.size:=by have:=S3.o.size;omega
  go_region_with (first
   | (go_at_call 95
      refine(HO.o _).mono ?_;rintro r w4 ⟨v4,rfl,hN,hb⟩;obtain⟨a4,c4,rfl,A4⟩:=hN.arg ae;have Sa:An w3 w4:=(by first | exact hb | exact((aD _ w3).drew).trans (hb.mono (aA _)));have T4:gP w4:=(HT.o.belows SW.o).belows (S3.o.trans (Sa.mono S3.o.size));obtain⟨hc4,hf4⟩:=bz Sa;have hz6:w.heap.size<w4.heap.size:=by have:=Sa.size;omega
      have S4:=(gp Sa A4 T4)
      clear hN hb Sa A4 T4)
   | (go_at_call 94
      refine(HM.o _ a4 c4 (by first | exact S4.o.r2 | exact S4.o.r2) (by first | exact S4.o.2.1 | exact Arg.drew' S4.o.2.1)).mono ?_;rintro r w5 ⟨⟨v5,rfl,hN⟩,hb⟩;obtain⟨a5,c5,rfl,_⟩:=hN.arg ae;have Wz:An w4 w5:=(by first | exact hb | exact((aD _ w4).drew).trans (hb.mono (aA _)));obtain⟨hc5,hf5⟩:=bz Wz;have HF:=ak (show Fin w.heap.size w4.heap.size w w5 (.slice a5 (ws X).length c5) X from⟨hN,((SW.o.trans (S3.o.mono ae)).trans (S4.o.1.mono ae)).trans (Wz.mono ae),by have:=Wz.size;omega⟩)
      clear hN hb Wz))
  all_goals (
   go_wp2
   exact aH (v:=.tuple #[.agg #[.bool dn,.slice a5 (ws X).length c5,.int .i64 de],.int .i64 er]) (by simp[results,Tryz.results78,go_sem,hc5,hc4,hc,hz6,Oh,hz3,r0,r1,r2]) rfl (Fin.j4 (m:=w4.heap.size) (by repeat (first | exact HF.o | refine Fin.alloc ?_ _ | refine Fin.set ?_ _ _ _ ae ae)) ae)))
theorem Oi (b b2:Nat) (w:World)
 (HA:Hid (∀u,Ax 126 #[.float .f64 b] u (.float .f64 b2)))
 (HS:Hid (∀u,At 76 #[.float .f64 b2] u (.agg #[.bool false,.int .i64 0,.int .i64 (-1074),.int .u64 0])))
 (H0:Hid (∀u,At 76 #[.float .f64 0] u (.agg #[.bool false,.int .i64 0,.int .i64 (-1074),.int .u64 0]))) :
 At 78 #[.float .f64 b] w (.tuple #[.agg zD3,.int .i64 0]):=by
 go_enter Tryz.func78,Tryz.ntmps78;go_wp2_with fail;refine(eG (HA.o _)) ?_;rintro r w1 ⟨rfl,rfl⟩;go_wp2_with fail;refine(eG (HS.o _)) ?_;rintro r w2 ⟨rfl,hb⟩;obtain⟨hc,hf⟩:=bz hb;have hz:w.heap.size<w2.heap.size:=by have:=hb.size;simp at this;omega
 have hbw:An w w2:=((aD _ _).alloc (aA _) _).trans (hb.mono aN);have SB:=ak hbw;clear hb hbw;obtain⟨W2,hW2⟩:=ah (w2.alloc (.cells #[.bool false,.int .i64 0,.int .i64 (-1074),.int .u64 0] 98));have hbW:An w W2:=by rw[hW2];exact SB.o.alloc ae _
 have P:W2.heap[w2.heap.size]?=some (.cells #[.bool false,.int .i64 0,.int .i64 (-1074),.int .u64 0] 98 (0,0)):=by rw[hW2,iF]
 have p0:W2.cell? ⟨w2.heap.size,0,none⟩=some (.bool false):=by simp[World.cell?,P]
 have p1:W2.cell? ⟨w2.heap.size,1,none⟩=some (.int .i64 0):=by simp[World.cell?,P]
 have p2:W2.cell? ⟨w2.heap.size,2,none⟩=some (.int .i64 (-1074)):=by simp[World.cell?,P]
 have p3:W2.cell? ⟨w2.heap.size,3,none⟩=some (.int .u64 0):=by simp[World.cell?,P]
 have r0:W2.cell? ⟨w.heap.size,0,none⟩=some (.bool false):=by rw[hW2];go_simp
 have r1:W2.cell? ⟨w.heap.size,1,none⟩=some (.slice none 0 0):=by rw[hW2];go_simp
 have r2:W2.cell? ⟨w.heap.size,2,none⟩=some (.int .i64 0):=by rw[hW2];go_simp
 have f0:W2.frozen? ⟨w.heap.size,0,none⟩=false:=by rw[hW2];go_simp
 have f1:W2.frozen? ⟨w.heap.size,1,none⟩=false:=by rw[hW2];go_simp
 have f2:W2.frozen? ⟨w.heap.size,2,none⟩=false:=by rw[hW2];go_simp
 have hz2:w2.heap.size<W2.heap.size:=by rw[hW2];simp
 have hz3:w.heap.size<W2.heap.size:=ae
 have SW:=ak hbW;go_wp2_with fail;rw[<-hW2];clear hW2 hbW P hc hf SB
 go_region_with (go_at_call 76;refine(H0.o _).mono ?_;rintro r w3 ⟨rfl,hb3⟩;have hb4:An W2 w3:=(by first | exact hb3 | exact((aD _ W2).drew).trans (hb3.mono (aA _)));obtain⟨hc,hf⟩:=bz hb4;have S3:=ak hb4;clear hb3 hb4)
 all_goals (
  go_wp2;have hbf:=SW.o.trans (S3.o.mono ae);have Y7:w.heap.size<=w3.heap.size:=by have:=S3.o.size;omega
  exact aH (v:=.tuple #[.agg zD3,.int .i64 0]) (by simp[results,Tryz.results78,go_sem,hc,hz3,r0,r1,r2]) rfl ⟨rfl,Below.ru (Below.ru (Below.ru hbf _ _ _ (aA _) Y7) _ _ _ (aA _) (by simpa [World.setCell] using Y7)) _ _ _ (aA _) (by simpa [World.setCell] using Y7)⟩)
theorem WA (b b2:Nat) (k:Int) (w:World) (hk:k=3\/k=4)
 (HA:Hid (∀u,Ax 126 #[.float .f64 b] u (.float .f64 b2)))
 (HS:Hid (∀u,At 76 #[.float .f64 b2] u (.agg #[.bool false,.int .i64 k,.int .i64 0,.int .u64 0])))
 (H0:Hid (∀u,At 76 #[.float .f64 0] u (.agg #[.bool false,.int .i64 0,.int .i64 (-1074),.int .u64 0]))) :
 At 78 #[.float .f64 b] w (.tuple #[.agg zD3,.int .i64 30]):=by
 have k0:(k==0)=false:=by rcases hk with rfl | rfl <;> rfl
 go_enter Tryz.func78,Tryz.ntmps78;go_wp2_with fail;refine(eG (HA.o _)) ?_;rintro r w1 ⟨rfl,rfl⟩;go_wp2_with fail;refine(eG (HS.o _)) ?_;rintro r w2 ⟨rfl,hb⟩;obtain⟨hc,hf⟩:=bz hb;have hz:w.heap.size<w2.heap.size:=by have:=hb.size;simp at this;omega
 have hbw:An w w2:=((aD _ _).alloc (aA _) _).trans (hb.mono aN);have SB:=ak hbw;clear hb hbw;obtain⟨W2,hW2⟩:=ah (w2.alloc (.cells #[.bool false,.int .i64 k,.int .i64 0,.int .u64 0] 98));have hbW:An w W2:=by rw[hW2];exact SB.o.alloc ae _
 have P:W2.heap[w2.heap.size]?=some (.cells #[.bool false,.int .i64 k,.int .i64 0,.int .u64 0] 98 (0,0)):=by rw[hW2,iF]
 have p0:W2.cell? ⟨w2.heap.size,0,none⟩=some (.bool false):=by simp[World.cell?,P]
 have p1:W2.cell? ⟨w2.heap.size,1,none⟩=some (.int .i64 k):=by simp[World.cell?,P]
 have p2:W2.cell? ⟨w2.heap.size,2,none⟩=some (.int .i64 0):=by simp[World.cell?,P]
 have p3:W2.cell? ⟨w2.heap.size,3,none⟩=some (.int .u64 0):=by simp[World.cell?,P]
 have r0:W2.cell? ⟨w.heap.size,0,none⟩=some (.bool false):=by rw[hW2];go_simp
 have r1:W2.cell? ⟨w.heap.size,1,none⟩=some (.slice none 0 0):=by rw[hW2];go_simp
 have r2:W2.cell? ⟨w.heap.size,2,none⟩=some (.int .i64 0):=by rw[hW2];go_simp
 have f0:W2.frozen? ⟨w.heap.size,0,none⟩=false:=by rw[hW2];go_simp
 have f1:W2.frozen? ⟨w.heap.size,1,none⟩=false:=by rw[hW2];go_simp
 have f2:W2.frozen? ⟨w.heap.size,2,none⟩=false:=by rw[hW2];go_simp
 have hz2:w2.heap.size<W2.heap.size:=by rw[hW2];simp
 have hz3:w.heap.size<W2.heap.size:=ae
 have SW:=ak hbW;go_wp2_with fail;rw[<-hW2];clear hW2 hbW P hc hf SB
 go_region_with (go_at_call 76;refine(H0.o _).mono ?_;rintro r w3 ⟨rfl,hb3⟩;have hb4:An W2 w3:=(by first | exact hb3 | exact((aD _ W2).drew).trans (hb3.mono (aA _)));obtain⟨hc,hf⟩:=bz hb4;have S3:=ak hb4;clear hb3 hb4)
 all_goals (
  have hbf:=ak (SW.o.trans (S3.o.mono ae));have Y7:w.heap.size<=w3.heap.size:=by have:=S3.o.size;omega
  rcases hk with rfl|rfl
  all_goals (
   go_wp2
   exact aH (v:=.tuple #[.agg zD3,.int .i64 30]) (by simp[results,Tryz.results78,go_sem,hc,hz3,r0,r1,r2]) rfl ⟨rfl,Below.ru (Below.ru (Below.ru hbf.o _ _ _ (aA _) Y7) _ _ _ (aA _) (by simpa [World.setCell] using Y7)) _ _ _ (aA _) (by simpa [World.setCell] using Y7)⟩))
theorem Of_any(s:Bool)(e f:Nat)(he:e<2048)(hf:f<4503599627370496)(w:World)(hT:gP w) :
 As 78 #[.float .f64 (B.bw s e f)] w λr w'=>OAns w.heap.size w' r (Z9 s e f) (Y6 e)/\An w w':=by
 have HA:Hid (∀u,Ax 126 #[.float .f64 (B.bw s e f)] u (.float .f64 (B.bw false e f))):=λu=>B.Dn s e f he hf u;have HS:∀u,At 76 #[.float .f64 (B.bw false e f)] u (.agg #[.bool (B.ng false e f),.int .i64 (B.cls e f),.int .i64 (B.xp e),.int .u64 (B.fr e f)]):=λu=>B.nz false e f he hf u;have H0:Hid (∀u,At 76 #[.float .f64 0] u (.agg #[.bool false,.int .i64 0,.int .i64 (-1074),.int .u64 0])):=λu=>B.nz false 0 0 ae ae u;have Iy:B.ng false e f=false:=by unfold B.ng;split <;> rfl
 rw[Iy] at HS;unfold Z9 Y6
 by_cases h7:e=2047
 . rw[if_pos h7,if_pos h7];have h2:B.xp e=0/\B.fr e f=0:=by unfold B.xp B.fr;rw[if_pos h7,if_pos h7];exact⟨rfl,rfl⟩
   rw[h2.1,h2.2] at HS;have hk:B.cls e f=3\/B.cls e f=4:=by unfold B.cls;rw[if_pos h7];split <;> simp
   exact(WA _ _ _ w hk HA (hid HS) H0).mono λr w' ⟨h1,h3⟩=>⟨⟨_,h1,Nt.nil _ _⟩,h3⟩
 . rw[if_neg h7,if_neg h7];have hx:B.xp e=(if e=0 then -1074 else(e:Int)-1075):=by unfold B.xp;rw[if_neg h7]
   have hfr:B.fr e f=(((if e=0 then f else f+4503599627370496:Nat)):Int):=by unfold B.fr;rw[if_neg h7];split <;> simp
   rw[hx,hfr] at HS
   by_cases h0:e=0/\f=0
   . obtain⟨rfl,rfl⟩:=h0;rw[show B.cls 0 0=0 from rfl] at HS;simp only[if_pos,Int.ofNat_zero] at HS;rw[if_pos rfl,fP];exact(Oi _ _ w HA (hid HS) H0).mono λr w' ⟨h1,h3⟩=>⟨⟨_,h1,Nt.nil _ _⟩,h3⟩
   . have hcl:B.cls e f=1\/B.cls e f=2:=by
      unfold B.cls;rw[if_neg h7]
      by_cases h1:e=0
      . rw[if_pos h1,if_neg (λh=>h0 ⟨h1,h⟩)];simp
      . rw[if_neg h1];simp
     obtain⟨F,hF⟩:∃F:Nat,(if e=0 then f else f+4503599627370496:Nat)=F:=⟨_,rfl⟩;obtain⟨x,fE⟩:∃x:Int,(if e=0 then -1074 else(e:Int)-1075)=x:=⟨_,rfl⟩;have hFb:F<9007199254740992:=by rw[<-hF];split <;> omega
     have hxb:-1100<=x/\x<=1000:=by rw[<-fE];split <;> omega
     rw[hF,fE] at HS |-;have ho:B.odd e f=false:=by unfold B.odd;simp[h7]
     have hz:(e==0&&f==0)=false:=by
      cases h1:(e==0&&f==0)
      . rfl
      . exact absurd (by simpa using h1) h0
     have hb2:B.bw false e f=B.bw s e f%9223372036854775808:=by
      have h1:=B.Ro s e f he hf;have h2:(B.bw false e f:Int)=(e:Int)*4503599627370496+f:=by unfold B.bw;simp
      omega
     rw[hb2] at HA HS;obtain⟨d,hd⟩:=LU s F x hFb hxb.1 hxb.2;have:=Wy s (B.bw s e f) F (B.cls e f) x w hT hFb hxb.1 hxb.2 HA (hid HS) H0 (B.LK s e f he hf ho hz) (by rcases hcl with h | h <;> rw[h] <;> rfl) (by rcases hcl with h | h <;> rw[h] <;> rfl) (by rcases hcl with h | h <;> rw[h] <;> rfl);refine this.mono λr w' ⟨⟨v,h1,h2⟩,h3⟩=>⟨⟨v,?_,h2⟩,h3⟩;rw[h1,hd];rfl
end
section
open Go.RowKit
attribute [local go_sem] B.aW B.aJ
def gX(k:Nat):Nat×Int:=if k/4503599627370496=0 then(k%4503599627370496,-1074) else(4503599627370496+k%4503599627370496,-1074+((k/4503599627370496:Nat):Int)-1)
theorem Ad (K:Int) (V:Nat) (w:World) (e1:K/4503599627370496=0) (hK0:0<=K) (hK1:K<=9218868437227405312)
 (HO:Hid (∀u,As 112 #[.int .u64 (K%4503599627370496)] u λr w'=>∃v,r=.returned v/\Nt u.heap.size w' v V/\An u w')) :
 As 163 #[.agg #[.int .i64 53,.int .i64 (-1074),.int .u64 9218868437227405312],.int .u64 K] w λr w'=>∃v,r=.returned (.tuple #[v,.int .i64 (-1074)])/\Nt w.heap.size w' v V/\An w w':=by
 obtain⟨W1,hW1⟩:=ah (w.alloc (.cells #[.int .i64 53,.int .i64 (-1074),.int .u64 9218868437227405312] 137));have P:W1.heap[w.heap.size]?=some (.cells #[.int .i64 53,.int .i64 (-1074),.int .u64 9218868437227405312] 137 (0,0)):=by rw[hW1,iF]
 have p1:W1.cell? ⟨w.heap.size,1,none⟩=some (.int .i64 (-1074)):=by simp[World.cell?,P]
 have hz:w.heap.size<W1.heap.size:=by rw[hW1];simp
 have HB:=ak (show An w W1 by rw[hW1];exact af w _);go_enter Tryz.func163,Tryz.ntmps163;go_wp2;rw[<-hW1];clear hW1 P e1
 go_region_held3 (λw'=>w'.cell? ⟨w.heap.size,1,none⟩=some (.int .i64 (-1074))) (go_keep) (first | (go_at_call 112;refine(HO.o _).mono ?_;rintro r w2 ⟨v,rfl,hN,hb⟩;have hb2:An W1 w2:=(by first | exact hb | exact((aD _ W1).drew).trans (hb.mono (aA _)));have p2:w2.cell? ⟨w.heap.size,1,none⟩=some (.int .i64 (-1074)):=(hb2.cell (p:=⟨w.heap.size,1,none⟩) hz).trans p1;have S2:=(bA hb2 hN);clear hb hb2 hN))
 all_goals (
  go_wp2;go_simp
  go_ret2
  exact⟨v,rfl,S2.o.2.mono (fU hz),HB.o.trans (S2.o.1.mono (fU hz))⟩)
theorem y9 (K q f g x y:Int) (V:Nat) (w:World) (e1:K/4503599627370496=q) (e2:K%4503599627370496=f) (e3:IntKind.u64.wrap (4503599627370496+f)=g) (e4:IntKind.i64.wrap q=q) (e5:IntKind.i64.wrap (-1074+q)=x) (e6:IntKind.i64.wrap (x-1)=y) (hK0:0<=K) (hK1:K<=9218868437227405312) (hq0:(q==0)=false)
 (HO:Hid (∀u,As 112 #[.int .u64 g] u λr w'=>∃v,r=.returned v/\Nt u.heap.size w' v V/\An u w')) :
 As 163 #[.agg #[.int .i64 53,.int .i64 (-1074),.int .u64 9218868437227405312],.int .u64 K] w λr w'=>∃v,r=.returned (.tuple #[v,.int .i64 y])/\Nt w.heap.size w' v V/\An w w':=by
 obtain⟨W1,hW1⟩:=ah (w.alloc (.cells #[.int .i64 53,.int .i64 (-1074),.int .u64 9218868437227405312] 137));have P:W1.heap[w.heap.size]?=some (.cells #[.int .i64 53,.int .i64 (-1074),.int .u64 9218868437227405312] 137 (0,0)):=by rw[hW1,iF]
 have p1:W1.cell? ⟨w.heap.size,1,none⟩=some (.int .i64 (-1074)):=by simp[World.cell?,P]
 have hz:w.heap.size<W1.heap.size:=by rw[hW1];simp
 have HB:=ak (show An w W1 by rw[hW1];exact af w _);go_enter Tryz.func163,Tryz.ntmps163;go_wp2;rw[<-hW1]
 try simp only[e1,e2]
 clear hW1 P e1 e2 hK0 hK1
 go_region_held3 (λw'=>w'.cell? ⟨w.heap.size,1,none⟩=some (.int .i64 (-1074))) (go_keep) (first | (go_at_call 112;refine(HO.o _).mono ?_;rintro r w2 ⟨v,rfl,hN,hb⟩;have hb2:An W1 w2:=(by first | exact hb | exact((aD _ W1).drew).trans (hb.mono (aA _)));have p2:w2.cell? ⟨w.heap.size,1,none⟩=some (.int .i64 (-1074)):=(hb2.cell (p:=⟨w.heap.size,1,none⟩) hz).trans p1;have S2:=(bA hb2 hN);clear hb hb2 hN))
 all_goals (
  go_wp2;go_simp
  go_ret2
  exact⟨v,rfl,S2.o.2.mono (fU hz),HB.o.trans (S2.o.1.mono (fU hz))⟩)
theorem Bq(k:Nat)(hk:k<=9218868437227405312)(w:World) :
 As 163 #[.agg #[.int .i64 53,.int .i64 (-1074),.int .u64 9218868437227405312],.int .u64 (k:Nat)] w λr w'=>∃v,r=.returned (.tuple #[v,.int .i64 (gX k).2])/\Nt w.heap.size w' v (gX k).1/\An w w':=by
 unfold gX
 by_cases h0:k/4503599627370496=0
 . rw[if_pos h0];exact Ad (k:Int) (k%4503599627370496) w ae ae ae (hid λu=>by simpa using xE (k%4503599627370496) u ae)
 . rw[if_neg h0];have hw:∀n:Int,0<=n->n<18446744073709551616->IntKind.u64.wrap n=n:=λn h1 h2=>by simp[IntKind.wrap,IntKind.bits,IntKind.signed];omega
   have hv:∀n:Int,-4000<=n->n<4000->IntKind.i64.wrap n=n:=λn h1 h2=>by simp[IntKind.wrap,IntKind.bits,IntKind.signed];omega
   have e3:(4503599627370496:Int)+((k%4503599627370496:Nat):Int)=((4503599627370496+k%4503599627370496:Nat):Int):=ae
   exact y9 (k:Int) ((k/4503599627370496:Nat):Int) ((k%4503599627370496:Nat):Int) ((4503599627370496+k%4503599627370496:Nat):Int) (-1074+((k/4503599627370496:Nat):Int)) (-1074+((k/4503599627370496:Nat):Int)-1) (4503599627370496+k%4503599627370496) w ae ae (by rw[e3];exact hw _ ae ae) (hv _ ae ae) (hv _ ae ae) (hv _ ae ae) ae ae (beq_eq_false_iff_ne.2 ae) (hid λu=>xE _ u ae)
theorem Jw(e f:Nat)(hf:f<4503599627370496):gX (e*4503599627370496+f)=(if e=0 then f else f+4503599627370496,if e=0 then -1074 else(e:Int)-1075):=by
 have h1:(e*4503599627370496+f)/4503599627370496=e:=ae
 have h2:(e*4503599627370496+f)%4503599627370496=f:=ae
 unfold gX;rw[h1,h2]
 by_cases h:e=0
 . rw[if_pos h,if_pos h,if_pos h]
 . rw[if_neg h,if_neg h,if_neg h];refine Prod.ext (by simp;omega) (by simp;omega)
theorem tZ(w:World):At 105 #[] w (.agg #[.int .i64 53,.int .i64 (-1074),.int .u64 9218868437227405312]):=by
 go_enter Tryz.func105,Tryz.ntmps105;go_wp2;exact aH (v:=.agg #[.int .i64 53,.int .i64 (-1074),.int .u64 9218868437227405312]) (by simp[results,Tryz.results105,go_sem]) rfl ⟨rfl,by repeat (first | exact aD _ _ | refine Below.alloc ?_ (by first | omega | simp) _ | refine Below.ru ?_ _ _ _ ae aN)⟩
theorem Jy(neg:Bool)(k:Int)(w:World)(hk:9218868437227405312<=k)(hk2:k<9223372036854775808) :
 At 106 #[.agg #[.int .i64 53,.int .i64 (-1074),.int .u64 9218868437227405312],.bool neg,.int .u64 k] w (.tuple #[.agg zD3,.bool false]):=by
 have HB:=ak (show An w ((w.alloc (.cells #[.int .i64 53,.int .i64 (-1074),.int .u64 9218868437227405312] 137)).alloc (.cells zD3 79)) from(af w _).alloc aN _);go_enter Tryz.func106,Tryz.ntmps106;go_wp2;exact aH (v:=.tuple #[.agg zD3,.bool false]) (by simp[results,Tryz.results106,go_sem]) rfl ⟨rfl,HB.o⟩
theorem Jz (neg:Bool) (k:Int) (F:Nat) (x:Int) (w:World) (hk:k<9218868437227405312) (hF:F<9007199254740992) (hx0:-1100<=x) (hx1:x<=1000)
 (Sb:Hid (∀u,As 163 #[.agg #[.int .i64 53,.int .i64 (-1074),.int .u64 9218868437227405312],.int .u64 k] u λr w'=>∃v,r=.returned (.tuple #[v,.int .i64 x])/\Nt u.heap.size w' v F/\An u w')) :
 As 106 #[.agg #[.int .i64 53,.int .i64 (-1074),.int .u64 9218868437227405312],.bool neg,.int .u64 k] w λr w'=>Dh w.heap.size w' r (mkS neg F x)/\An w w':=by
 have HB:=ak (show An w ((w.alloc (.cells #[.int .i64 53,.int .i64 (-1074),.int .u64 9218868437227405312] 137)).alloc (.cells zD3 79)) from(af w _).alloc aN _);have HN:=hid (Sb.o ((w.alloc (.cells #[.int .i64 53,.int .i64 (-1074),.int .u64 9218868437227405312] 137)).alloc (.cells zD3 79)));have hl:=aR neg F x;have hFl:(ws F).length<=100:=by have:=ic F;have:=qK F hF;omega
 have HM:Hid (∀(u:World) (a:Option Addr) (c:Nat),Arg u a (ws F).length c (ws F)->As 111 #[.bool neg,.slice a (ws F).length c,.int .i64 x] u λr w'=>Dh u.heap.size w' r (mkS neg F x)/\An u w'):=by
  intro u a c hA;have:=qI hA ae neg x ae ae;exact Qab
 obtain⟨o,ho⟩:∃o,mkS neg F x=o:=⟨_,rfl⟩;rw[ho] at HM hl |-;unfold Dh at HM |-;obtain⟨dn,hdn⟩:∃d,dN o=d:=⟨_,rfl⟩;obtain⟨X,Jt⟩:∃d,dX o=d:=⟨_,rfl⟩;obtain⟨de,hde⟩:∃d,dE o=d:=⟨_,rfl⟩;obtain⟨er,her⟩:∃d,o.isSome=d:=⟨_,rfl⟩;rw[hdn,Jt,hde,her] at HM |-;rw[Jt] at hl;clear ho hdn Jt hde her hF hx0 hx1 Sb;go_enter Tryz.func106,Tryz.ntmps106;go_wp2_with fail;refine HN.o.mono ?_;rintro r w2 ⟨v,rfl,hN,hb⟩;obtain⟨a2,c2,rfl,A2⟩:=hN.arg ae;obtain⟨hc,hf⟩:=bz hb;have hz:w.heap.size+1<w2.heap.size:=by have:=hb.size;simp at this;omega
 have H2:=hid (HM.o w2 a2 c2 A2);have S2:=ak (HB.o.trans (hb.mono (by simp;omega)));clear hN hb A2;go_wp2_with fail;refine H2.o.mono ?_;rintro r w3 ⟨⟨v3,rfl,hN⟩,hb⟩;obtain⟨a3,c3,rfl,_⟩:=hN.arg ae;obtain⟨hc3,hf3⟩:=bz hb;have HF:=ak (show Fin w.heap.size w2.heap.size w w3 (.slice a3 (ws X).length c3) X from⟨hN,S2.o.trans (hb.mono ae),by have:=hb.size;omega⟩);clear hN hb;go_wp2;exact aH (v:=.tuple #[.agg #[.bool dn,.slice a3 (ws X).length c3,.int .i64 de],.bool er]) (by simp[results,Tryz.results106,go_sem,hc,hc3,hz]) rfl (Fin.j4 (m:=w2.heap.size) (by repeat (first | exact HF.o | refine Fin.alloc ?_ _ | refine Fin.set ?_ _ _ _ ae ae)) ae)
theorem qF(neg:Bool)(k:Nat)(w:World)(hk:k<9218868437227405312) :
 As 106 #[.agg #[.int .i64 53,.int .i64 (-1074),.int .u64 9218868437227405312],.bool neg,.int .u64 (k:Nat)] w λr w'=>Dh w.heap.size w' r (mkS neg (gX k).1 (gX k).2)/\An w w':=by
 have hb1:(gX k).1<9007199254740992/\-1100<=(gX k).2/\(gX k).2<=1000:=by unfold gX;split <;> simp <;> omega
 exact Jz neg (k:Int) _ _ w ae hb1.1 hb1.2.1 hb1.2.2 (hid λu=>Bq k ae u)
end
section
open Go.RowKit
attribute [local go_sem] B.aW B.aJ
theorem F8 (s:Bool) (b:Nat) (k:Int) (dn:Bool) (X:Nat) (de:Int) (er:Bool) (w:World) (hl:(ws X).length<=8192)
 (e1:((b:Int)/9223372036854775808==1)=s) (e2:IntKind.u64.wrap ((b:Int)*2)/2=k) (hX:er=false->dn=false/\X=0/\de=0)
 (hO:Hid (∀u,At 105 #[] u (.agg #[.int .i64 53,.int .i64 (-1074),.int .u64 9218868437227405312])))
 (HW:Hid (∀u,As 106 #[.agg #[.int .i64 53,.int .i64 (-1074),.int .u64 9218868437227405312],.bool s,.int .u64 k] u λr w'=>(∃v,r=.returned (.tuple #[.agg #[.bool dn,v,.int .i64 de],.bool er])/\Nt u.heap.size w' v X)/\An u w')) :
 As 66 #[.float .f64 b] w λr w'=>(∃v,r=.returned (.tuple #[.agg #[.bool dn,v,.int .i64 de],.int .i64 (if er then 0 else 30)])/\Nt w.heap.size w' v X)/\An w w':=by
 go_enter Tryz.func66,Tryz.ntmps66;go_wp2_with fail;refine(eG (hO.o _)) ?_;rintro r w1 ⟨rfl,hb1⟩;have hz:w.heap.size<w1.heap.size:=by have:=hb1.size;simp at this;omega
 have S1:=ak ((af w (.cells zD3 79)).trans (hb1.mono aN));obtain⟨hc,hf⟩:=bz hb1;clear hb1;go_wp2_with fail
 try simp only[e1,e2]
 refine(eG (HW.o _)) ?_;rintro r w2 ⟨⟨v,rfl,hN⟩,hb2⟩;obtain⟨a2,c2,rfl,_⟩:=hN.arg ae;obtain⟨hc2,hf2⟩:=bz hb2;have hz2:w.heap.size<w2.heap.size:=by have:=hb2.size;omega
 have HF:=ak (show Fin w.heap.size w1.heap.size w w2 (.slice a2 (ws X).length c2) X from⟨hN,S1.o.trans (hb2.mono ae),ae⟩);clear hN hb2 e1 e2
 cases er
 . obtain⟨rfl,rfl,rfl⟩:=hX rfl;clear hX;go_wp2;exact aH (v:=.tuple #[.agg zD3,.int .i64 30]) (by simp[results,Tryz.results66,go_sem,hc,hc2,hz,hz2]) rfl (Fin.dnil (m:=w1.heap.size) (v:=.slice a2 (ws 0).length c2) (X:=0) (by repeat (first | exact HF.o | refine Fin.alloc ?_ _ | refine Fin.set ?_ _ _ _ ae ae)))
 . clear hX;go_wp2;exact aH (v:=.tuple #[.agg #[.bool dn,.slice a2 (ws X).length c2,.int .i64 de],.int .i64 0]) (by simp[results,Tryz.results66,go_sem,hc,hc2,hz,hz2]) rfl (Fin.j4 (m:=w1.heap.size) (by repeat (first | exact HF.o | refine Fin.alloc ?_ _ | refine Fin.set ?_ _ _ _ ae ae)) ae)
theorem Sc(s:Bool)(e f:Nat)(he:e<2048)(hf:f<4503599627370496)(w:World) :
 As 66 #[.float .f64 (B.bw s e f)] w λr w'=>OAns w.heap.size w' r (Z9 s e f) (Y6 e)/\An w w':=by
 have hbl:=B.pU s e f he hf;have hb1:(B.bw s e f:Int)=(if s then 9223372036854775808 else 0)+((e*4503599627370496+f:Nat):Int):=by unfold B.bw;cases s <;> simp <;> omega
 obtain⟨b,hb⟩:∃b,B.bw s e f=b:=⟨_,rfl⟩;obtain⟨k,hk⟩:∃k,e*4503599627370496+f=k:=⟨_,rfl⟩;rw[hb,hk] at hb1;rw[hb] at hbl |-;have hk2:k<9223372036854775808:=ae
 have e1:((b:Int)/9223372036854775808==1)=s:=by cases s <;> simp at hb1 |- <;> omega
 have e2:IntKind.u64.wrap ((b:Int)*2)/2=(k:Int):=by
  simp[IntKind.wrap,IntKind.bits,IntKind.signed]
  cases s <;> simp at hb1 <;> omega
 unfold Z9 Y6
 by_cases h7:e=2047
 . rw[if_pos h7,if_pos h7]
   exact F8 s b (k:Int) false 0 0 false w (by rw[cB];simp) e1 e2 (λ_=>⟨rfl,rfl,rfl⟩) (hid λu=>tZ u)
    (hid λu=>(Jy s (k:Int) u ae ae).mono λr w' ⟨h1,h2⟩=>⟨⟨_,h1,Nt.nil _ _⟩,h2⟩)
 . rw[if_neg h7,if_neg h7];have hn:=Jw e f hf;rw[hk] at hn;have hF:(if e=0 then f else f+4503599627370496)<9007199254740992:=by split <;> omega
   have hx0:(-1100:Int)<=(if e=0 then -1074 else(e:Int)-1075):=by split <;> omega
   have hx1:(if e=0 then -1074 else(e:Int)-1075)<=(1000:Int):=by split <;> omega
   obtain⟨d,hd⟩:=LU s _ _ hF hx0 hx1;have hl:=aR s (if e=0 then f else f+4503599627370496) (if e=0 then -1074 else(e:Int)-1075);have hB:∀u,_:=λu=>qF s k u ae;rw[hn] at hB;simp only[] at hB;rw[hd] at hB hl |-;exact F8 s b (k:Int) _ _ _ true w hl e1 e2 (λh=>by cases h) (hid λu=>tZ u) (hid hB)
end
section
open Go.RowKit
theorem Dp (n:Int) (m:Nat) (X:Nat) (dn:Bool) (de:Int) (er:Int) (w:World) (h0:n<0) (h1:-9223372036854775808<=n) (hm:(ws m).length<=100) (hl:(ws X).length<=8192) (e1:IntKind.u64.wrap (-IntKind.u64.wrap n)=(m:Int))
 (HO:Hid (∀u,As 95 #[.int .u64 (m:Int)] u λr w'=>∃v,r=.returned v/\Nt u.heap.size w' v m/\An u w'))
 (HM:Hid (∀(u:World) (a:Option Addr) (c:Nat),An w u->Arg u a (ws m).length c (ws m)->As 94 #[.bool true,.slice a (ws m).length c,.int .i64 0] u λr w'=>(∃v,r=.returned (.tuple #[.agg #[.bool dn,v,.int .i64 de],.int .i64 er])/\Nt u.heap.size w' v X)/\An u w')) :
 As 57 #[.int .i64 n] w λr w'=>(∃v,r=.returned (.agg #[.bool dn,v,.int .i64 de])/\Nt w.heap.size w' v X)/\An w w':=by
 go_enter Tryz.func57,Tryz.ntmps57;go_wp2_with fail
 try rw[e1]
 refine(eG (HO.o _)) ?_;rintro r w1 ⟨v,rfl,hN,hb⟩;obtain⟨a1,c1,rfl,A1⟩:=hN.arg ae;have hz:w.heap.size<w1.heap.size:=by have:=hb.size;simp at this;omega
 have hbw:An w w1:=(af w (.cells zD3 79)).trans (hb.mono aN);have S1:=ak hbw;have H2:=hid (HM.o w1 a1 c1 hbw A1);obtain⟨hc,hf⟩:=bz hb;clear hN hb A1 hbw;go_wp2_with fail;refine H2.o.mono ?_;rintro r w2 ⟨⟨v,rfl,hN⟩,hb2⟩;obtain⟨a2,c2,rfl,_⟩:=hN.arg ae;obtain⟨hc2,hf2⟩:=bz hb2;have hz2:w.heap.size<w2.heap.size:=by have:=hb2.size;omega
 have HF:=ak (show Fin w.heap.size w1.heap.size w w2 (.slice a2 (ws X).length c2) X from⟨hN,S1.o.trans (hb2.mono ae),ae⟩);clear hN hb2;go_wp2;exact aH (v:=.agg #[.bool dn,.slice a2 (ws X).length c2,.int .i64 de]) (by simp[results,Tryz.results57,go_sem,hc,hc2,hz,hz2]) rfl (Fin.Wx (m:=w1.heap.size) (by repeat (first | exact HF.o | refine Fin.alloc ?_ _ | refine Fin.set ?_ _ _ _ ae ae)) ae)
theorem Dq (n:Int) (m:Nat) (X:Nat) (dn:Bool) (de:Int) (er:Int) (w:World) (h0:0<=n) (h1:n<=9223372036854775807) (hd:decide (n<0)=false) (hm:(ws m).length<=100) (hl:(ws X).length<=8192) (e1:IntKind.u64.wrap n=n)
 (HO:Hid (∀u,As 95 #[.int .u64 n] u λr w'=>∃v,r=.returned v/\Nt u.heap.size w' v m/\An u w'))
 (HM:Hid (∀(u:World) (a:Option Addr) (c:Nat),An w u->Arg u a (ws m).length c (ws m)->As 94 #[.bool false,.slice a (ws m).length c,.int .i64 0] u λr w'=>(∃v,r=.returned (.tuple #[.agg #[.bool dn,v,.int .i64 de],.int .i64 er])/\Nt u.heap.size w' v X)/\An u w')) :
 As 57 #[.int .i64 n] w λr w'=>(∃v,r=.returned (.agg #[.bool dn,v,.int .i64 de])/\Nt w.heap.size w' v X)/\An w w':=by
 go_enter Tryz.func57,Tryz.ntmps57;go_wp2_with fail
 try rw[e1]
 refine(eG (HO.o _)) ?_;rintro r w1 ⟨v,rfl,hN,hb⟩;obtain⟨a1,c1,rfl,A1⟩:=hN.arg ae;have hz:w.heap.size<w1.heap.size:=by have:=hb.size;simp at this;omega
 have hbw:An w w1:=(af w (.cells zD3 79)).trans (hb.mono aN);have S1:=ak hbw;have H2:=hid (HM.o w1 a1 c1 hbw A1);obtain⟨hc,hf⟩:=bz hb;clear hN hb A1 hbw;go_wp2_with fail;refine H2.o.mono ?_;rintro r w2 ⟨⟨v,rfl,hN⟩,hb2⟩;obtain⟨a2,c2,rfl,_⟩:=hN.arg ae;obtain⟨hc2,hf2⟩:=bz hb2;have hz2:w.heap.size<w2.heap.size:=by have:=hb2.size;omega
 have HF:=ak (show Fin w.heap.size w1.heap.size w w2 (.slice a2 (ws X).length c2) X from⟨hN,S1.o.trans (hb2.mono ae),ae⟩);clear hN hb2;go_wp2;exact aH (v:=.agg #[.bool dn,.slice a2 (ws X).length c2,.int .i64 de]) (by simp[results,Tryz.results57,go_sem,hc,hc2,hz,hz2]) rfl (Fin.Wx (m:=w1.heap.size) (by repeat (first | exact HF.o | refine Fin.alloc ?_ _ | refine Fin.set ?_ _ _ _ ae ae)) ae)
theorem Ae (n:Int) (m:Nat) (X:Nat) (dn:Bool) (de:Int) (er:Bool) (w:World) (h0:n<0) (h1:-9223372036854775808<=n) (hm:(ws m).length<=100) (hl:(ws X).length<=8192) (e1:IntKind.u64.wrap (-IntKind.u64.wrap n)=(m:Int))
 (HO:Hid (∀u,As 112 #[.int .u64 (m:Int)] u λr w'=>∃v,r=.returned v/\Nt u.heap.size w' v m/\An u w'))
 (HM:Hid (∀(u:World) (a:Option Addr) (c:Nat),An w u->Arg u a (ws m).length c (ws m)->As 111 #[.bool true,.slice a (ws m).length c,.int .i64 0] u λr w'=>(∃v,r=.returned (.tuple #[.agg #[.bool dn,v,.int .i64 de],.bool er])/\Nt u.heap.size w' v X)/\An u w')) :
 As 69 #[.int .i64 n] w λr w'=>(∃v,r=.returned (.agg #[.bool dn,v,.int .i64 de])/\Nt w.heap.size w' v X)/\An w w':=by
 go_enter Tryz.func69,Tryz.ntmps69;go_wp2_with fail
 try rw[e1]
 refine(eG (HO.o _)) ?_;rintro r w1 ⟨v,rfl,hN,hb⟩;obtain⟨a1,c1,rfl,A1⟩:=hN.arg ae;have hz:w.heap.size<w1.heap.size:=by have:=hb.size;simp at this;omega
 have hbw:An w w1:=(af w (.cells zD3 79)).trans (hb.mono aN);have S1:=ak hbw;have H2:=hid (HM.o w1 a1 c1 hbw A1);obtain⟨hc,hf⟩:=bz hb;clear hN hb A1 hbw;go_wp2_with fail;refine H2.o.mono ?_;rintro r w2 ⟨⟨v,rfl,hN⟩,hb2⟩;obtain⟨a2,c2,rfl,_⟩:=hN.arg ae;obtain⟨hc2,hf2⟩:=bz hb2;have hz2:w.heap.size<w2.heap.size:=by have:=hb2.size;omega
 have HF:=ak (show Fin w.heap.size w1.heap.size w w2 (.slice a2 (ws X).length c2) X from⟨hN,S1.o.trans (hb2.mono ae),ae⟩);clear hN hb2;go_wp2;exact aH (v:=.agg #[.bool dn,.slice a2 (ws X).length c2,.int .i64 de]) (by simp[results,Tryz.results69,go_sem,hc,hc2,hz,hz2]) rfl (Fin.Wx (m:=w1.heap.size) (by repeat (first | exact HF.o | refine Fin.alloc ?_ _ | refine Fin.set ?_ _ _ _ ae ae)) ae)
theorem Af (n:Int) (m:Nat) (X:Nat) (dn:Bool) (de:Int) (er:Bool) (w:World) (h0:0<=n) (h1:n<=9223372036854775807) (hd:decide (n<0)=false) (hm:(ws m).length<=100) (hl:(ws X).length<=8192) (e1:IntKind.u64.wrap n=n)
 (HO:Hid (∀u,As 112 #[.int .u64 n] u λr w'=>∃v,r=.returned v/\Nt u.heap.size w' v m/\An u w'))
 (HM:Hid (∀(u:World) (a:Option Addr) (c:Nat),An w u->Arg u a (ws m).length c (ws m)->As 111 #[.bool false,.slice a (ws m).length c,.int .i64 0] u λr w'=>(∃v,r=.returned (.tuple #[.agg #[.bool dn,v,.int .i64 de],.bool er])/\Nt u.heap.size w' v X)/\An u w')) :
 As 69 #[.int .i64 n] w λr w'=>(∃v,r=.returned (.agg #[.bool dn,v,.int .i64 de])/\Nt w.heap.size w' v X)/\An w w':=by
 go_enter Tryz.func69,Tryz.ntmps69;go_wp2_with fail
 try rw[e1]
 refine(eG (HO.o _)) ?_;rintro r w1 ⟨v,rfl,hN,hb⟩;obtain⟨a1,c1,rfl,A1⟩:=hN.arg ae;have hz:w.heap.size<w1.heap.size:=by have:=hb.size;simp at this;omega
 have hbw:An w w1:=(af w (.cells zD3 79)).trans (hb.mono aN);have S1:=ak hbw;have H2:=hid (HM.o w1 a1 c1 hbw A1);obtain⟨hc,hf⟩:=bz hb;clear hN hb A1 hbw;go_wp2_with fail;refine H2.o.mono ?_;rintro r w2 ⟨⟨v,rfl,hN⟩,hb2⟩;obtain⟨a2,c2,rfl,_⟩:=hN.arg ae;obtain⟨hc2,hf2⟩:=bz hb2;have hz2:w.heap.size<w2.heap.size:=by have:=hb2.size;omega
 have HF:=ak (show Fin w.heap.size w1.heap.size w w2 (.slice a2 (ws X).length c2) X from⟨hN,S1.o.trans (hb2.mono ae),ae⟩);clear hN hb2;go_wp2;exact aH (v:=.agg #[.bool dn,.slice a2 (ws X).length c2,.int .i64 de]) (by simp[results,Tryz.results69,go_sem,hc,hc2,hz,hz2]) rfl (Fin.Wx (m:=w1.heap.size) (by repeat (first | exact HF.o | refine Fin.alloc ?_ _ | refine Fin.set ?_ _ _ _ ae ae)) ae)
theorem za(n:Int)(h0:-9223372036854775808<=n)(h1:n<=9223372036854775807):(ws n.natAbs).length<=100:=by
 have:=(aS n.natAbs 2).2 (by rw[show pw 2=18446744073709551616 from rfl];omega);omega
theorem Dr(n:Int)(w:World)(hT:gP w)(h0:-9223372036854775808<=n)(h1:n<=9223372036854775807) :
 As 57 #[.int .i64 n] w λr w'=>Ju w.heap.size w' r (mkS (decide (n<0)) n.natAbs 0)/\An w w':=by
 have hl:=za n h0 h1
 have HM:∀(s:Bool) (u:World) (a:Option Addr) (c:Nat),An w u->Arg u a (ws n.natAbs).length c (ws n.natAbs)->As 94 #[.bool s,.slice a (ws n.natAbs).length c,.int .i64 0] u λr w'=>dm u.heap.size w' r (mkS s n.natAbs 0)/\An u w':=by
  intro s u a c hu hA;have:=fZ hA (hT.belows hu) s 0 ae ae;exact Qab
 by_cases hn:n<0
 . rw[decide_eq_true hn];exact Dp n n.natAbs _ _ _ _ w hn h0 hl (aR _ _ _) (by simp[IntKind.wrap,IntKind.bits,IntKind.signed];omega) (hid λu=>nS _ u ae) (hid (HM true))
 . rw[decide_eq_false hn];have e:((n.natAbs:Nat):Int)=n:=ae
   exact Dq n n.natAbs _ _ _ _ w ae h1 (decide_eq_false hn) hl (aR _ _ _) (by simp[IntKind.wrap,IntKind.bits,IntKind.signed];omega) (hid λu=>by have:=nS n.natAbs u ae;rw[e] at this;exact this) (hid (HM false))
theorem zb(n:Int)(w:World)(h0:-9223372036854775808<=n)(h1:n<=9223372036854775807) :
 As 69 #[.int .i64 n] w λr w'=>Ju w.heap.size w' r (mkS (decide (n<0)) n.natAbs 0)/\An w w':=by
 have hl:=za n h0 h1
 have HM:∀(s:Bool) (u:World) (a:Option Addr) (c:Nat),An w u->Arg u a (ws n.natAbs).length c (ws n.natAbs)->As 111 #[.bool s,.slice a (ws n.natAbs).length c,.int .i64 0] u λr w'=>Dh u.heap.size w' r (mkS s n.natAbs 0)/\An u w':=by
  intro s u a c hu hA;have:=qI hA ae s 0 ae ae;exact Qab
 by_cases hn:n<0
 . rw[decide_eq_true hn];exact Ae n n.natAbs _ _ _ _ w hn h0 hl (aR _ _ _) (by simp[IntKind.wrap,IntKind.bits,IntKind.signed];omega) (hid λu=>xE _ u ae) (hid (HM true))
 . rw[decide_eq_false hn];have e:((n.natAbs:Nat):Int)=n:=ae
   exact Af n n.natAbs _ _ _ _ w ae h1 (decide_eq_false hn) hl (aR _ _ _) (by simp[IntKind.wrap,IntKind.bits,IntKind.signed];omega) (hid λu=>by have:=xE n.natAbs u ae;rw[e] at this;exact this) (hid (HM false))
theorem Nt.bS{lo:Nat}{w:World}{a:Option Addr}{n c X:Nat}(h:Nt lo w (.slice a n c) X)(hs:(ws X).length<=35184372088832):n=(ws X).length/\Arg w a (ws X).length c (ws X):=by
 obtain⟨a',c',e,A⟩:=h.arg hs
 cases e
 exact⟨rfl,A⟩
theorem len8{X:Nat}(h:bl X<=262144):(ws X).length<=8192:=by rw[ic];omega
theorem mH{X:Nat}(h:bl X<=262144):¬ LG X:=by rw[pV];omega
theorem nW{X Y:Nat}(h:X<=Y):bl X<=bl Y:=by
 by_cases h0:bl X=0
 . omega
 . have h1:=(wO X (bl X-1)).1 ae;have:=(wO Y (bl X-1)).2 (dB h1 h);omega
theorem bl_le{X k:Nat}(h:X<2^k):bl X<=k:=by
 by_cases h0:k<bl X
 . have:=(wO X k).1 h0;omega
 . omega
theorem ze{X:Nat}(h:bl X<=262144):bJ X (-1)=(X/2,0):=by
 unfold bJ;rw[if_neg (mH h)]
 by_cases h0:X=0
 . rw[if_pos h0,h0]
 . rw[if_neg h0,if_pos ae];rfl
theorem LV{X k:Nat}(h:bl X<=k+1):X/2<2^k:=by
 have h1:=iT X;have h2:2^bl X<=2^(k+1):=fD ae h;rw[dS] at h2;omega
theorem Oj{P Q:Nat}(hP:P%2=1)(hQ:Q%2=1)(bP:bl P<=262144)(bQ:bl Q<=262144):bl (P/2+Q/2)<=262144/\bl (P/2+Q/2+1)<=262144/\2*(P/2+Q/2+1)=P+Q:=by
 have h1:=LV (X:=P) (k:=262143) bP;have h2:=LV (X:=Q) (k:=262143) bQ;have key:∀k:Nat,P/2<2^k->Q/2<2^k->P/2+Q/2+1<2^(k+1):=by intro k;rw[dS];omega
 have h3:=key _ h1 h2;have h4:=bl_le h3;exact⟨dB (nW ae) h4,h4,ae⟩
theorem F9 {w:World}{a b:Option Addr}{l c k d:Nat}{xs ys:List Nat}(h1:Arg w a l c xs) (h2:Arg w b k d ys) (hT:gP w) (neg:Bool) (e:Int) (he0:-1048576<=e) (he1:e<=1048576)
 (P Q:Nat) (hP:val xs=P) (hQ:val ys=Q) (oP:P%2=1) (oQ:Q%2=1) (bP:bl P<=262144) (bQ:bl Q<=262144) :
 As 134 #[.bool neg,.slice a l c,.slice b k d,.int .i64 e] w λr w'=>dm w.heap.size w' r (mkS neg (P+Q) e)/\An w w':=by
 obtain⟨b3,b4,e5⟩:=Oj oP oQ bP bQ;rw[<-e5,yS];obtain⟨P2,hP2⟩:∃x,P/2=x:=⟨_,rfl⟩;obtain⟨Q2,Vy⟩:∃x,Q/2=x:=⟨_,rfl⟩;have l1:(ws P2).length<=8192:=by rw[<-hP2];exact len8 (dB (nW (o8 _ _)) bP)
 have l2:(ws Q2).length<=8192:=by rw[<-Vy];exact len8 (dB (nW (o8 _ _)) bQ)
 have s1:=ze bP;have s2:=ze bQ;rw[hP2] at s1 b3 b4 |-;rw[Vy] at s2 b3 b4 |-;obtain⟨V,hV⟩:∃x,P2+Q2=x:=⟨_,rfl⟩;rw[hV] at b3 b4 |-;obtain⟨H1,hH1⟩:∃x,V+1=x:=⟨_,rfl⟩;rw[hH1] at b4 |-;have l3:(ws V).length<=8192:=len8 b3;have l4:(ws H1).length<=8192:=len8 b4;have l5:(ws 1).length<=8192:=by rw[CW];simp
 have HX:=(Zz h1 h2 hT hP hQ s1 s2 hV hH1 b3 b4);clear h1 h2 hT hP hQ oP oQ bP bQ e5 hP2 Vy s1 s2 hV hH1 b3 b4;unfold dm;have hl:=aR neg H1 (e+1);obtain⟨o,ho⟩:∃o,mkS neg H1 (e+1)=o:=⟨_,rfl⟩;rw[ho] at hl |-;obtain⟨dn,hdn⟩:∃d,dN o=d:=⟨_,rfl⟩;obtain⟨X,hX⟩:∃d,dX o=d:=⟨_,rfl⟩;obtain⟨de,hde⟩:∃d,dE o=d:=⟨_,rfl⟩;obtain⟨er,her⟩:∃d,xG o=d:=⟨_,rfl⟩;rw[hdn,hX,hde,her];rw[hX] at hl;have HS:=(gy ho hdn hX hde her);clear ho hdn hX hde her;have S0:=ak (show Below (w.alloc (.cells zD3 79)).heap.size (w.alloc (.cells zD3 79)) (w.alloc (.cells zD3 79)) from aD _ _);have B0:=ak (show An w (w.alloc (.cells zD3 79)) from af w _);go_enter Tryz.func134,Tryz.ntmps134;obtain C:=S0.o;have BW:An w (w.alloc (.cells zD3 79)):=B0.o.trans (C.mono aN);have H:=hid (fV (V:=P2) (-1) (HX.o.1.below BW) (by rw[HX.o.r3.1];exact HX.o.r5.1) ae ae);clear C BW;go_wp2_with fail;refine H.o.mono ?_;rintro r u1 ⟨v,rfl,hN,hb⟩;obtain⟨a1,c1,rfl,_⟩:=hN.arg ae;obtain C:=S0.o;have hz1:=C.size;have S1:=(bA (C.trans (hb.mono C.size)) (hN.mono C.size));clear C hb H hN;obtain⟨C,N1⟩:=S1.o;have BW:An w u1:=B0.o.trans (C.mono aN);have H:=hid (fV (V:=Q2) (-1) (HX.o.2.1.below BW) (by rw[HX.o.r4.1];exact HX.o.r6.1) ae ae);clear C BW N1;go_wp2_with fail;refine H.o.mono ?_;rintro r u2 ⟨v,rfl,hN,hb⟩;obtain⟨a2,c2,rfl,_⟩:=hN.arg ae;obtain⟨C,N1⟩:=S1.o;have hz2:=C.size;have S2:=(gp (C.trans (hb.mono C.size)) (N1.below hb) (hN.mono C.size));clear C hb H hN N1;obtain⟨C,N1,N2⟩:=S2.o;have BW:An w u2:=B0.o.trans (C.mono aN);have H:=hid (xz (V:=V) (N1.bS ae).2 (N2.bS ae).2 (by rw[aB,aB];exact xB (mH HX.o.2.2.2.2.2.2.2.2.2.1) HX.o.r7.1));clear C BW N1 N2;go_wp2_with fail;refine H.o.mono ?_;rintro r u3 ⟨v,rfl,hN,hb⟩;obtain⟨a3,c3,rfl,_⟩:=hN.arg ae;obtain⟨C,N1,N2⟩:=S2.o;have hz3:=C.size;have S3:=(iN (C.trans (hb.mono C.size)) (N1.below hb) (N2.below hb) (hN.mono C.size));clear C hb H hN N1 N2;obtain⟨C,N1,N2,N3⟩:=S3.o;have BW:An w u3:=B0.o.trans (C.mono aN);have H:=hid (nS 1 u3 ae);clear C BW N1 N2 N3;go_wp2_with fail;refine H.o.mono ?_;rintro r u4 ⟨v,rfl,hN,hb⟩;obtain⟨a4,c4,rfl,_⟩:=hN.arg ae;obtain⟨C,N1,N2,N3⟩:=S3.o;have Og:=C.size;have S4:=(gy (C.trans (hb.mono C.size)) (N1.below hb) (N2.below hb) (N3.below hb) (hN.mono C.size));clear C hb H hN N1 N2 N3;obtain⟨C,N1,N2,N3,N4⟩:=S4.o;have BW:An w u4:=B0.o.trans (C.mono aN);have H:=hid (xz (V:=H1) (N3.bS ae).2 (N4.bS ae).2 (by rw[aB,aB];exact xB (mH HX.o.2.2.2.2.2.2.2.2.2.2) HX.o.r8.1));clear C BW N1 N2 N3 N4;go_wp2_with fail;refine H.o.mono ?_;rintro r u5 ⟨v,rfl,hN,hb⟩;obtain⟨a5,c5,rfl,_⟩:=hN.arg ae;obtain⟨C,N1,N2,N3,N4⟩:=S4.o;have Oh:=C.size;have S5:=(kz (C.trans (hb.mono C.size)) (N1.below hb) (N2.below hb) (N3.below hb) (N4.below hb) (hN.mono C.size));clear C hb H hN N1 N2 N3 N4;obtain⟨C,N1,N2,N3,N4,N5⟩:=S5.o;have BW:An w u5:=B0.o.trans (C.mono aN);have H0:=show As 94 #[.bool neg,.slice a5 (ws H1).length c5,.int .i64 (e+1)] u5 λr w'=>dm u5.heap.size w' r (mkS neg H1 (e+1))/\An u5 w' from by have:=fZ (N5.bS ae).2 (HX.o.r2.1.belows BW) neg (e+1) ae ae;rw[aB] at this;exact this
 unfold dm at H0;rw[HS.o.1,HS.o.2.1,HS.o.r2.1,HS.o.r3.1,HS.o.r4] at H0;have H:=hid H0;clear C BW H0 N1 N2 N3 N4 N5;go_wp2_with fail;refine H.o.mono ?_;rintro r uu ⟨⟨v,rfl,hN⟩,hb⟩;obtain⟨aa,cc,rfl,_⟩:=hN.arg ae;obtain⟨C,N1,N2,N3,N4,N5⟩:=S5.o;have hbb:=C.trans (hb.mono C.size);obtain⟨hc,hf⟩:=bz hbb;have HF:=ak (Fin.of 1 B0.o aN (hN.mono C.size) hbb);have hz:w.heap.size<uu.heap.size:=by have:=hbb.size;simp at this;omega
 clear C hb hN hbb H N1 N2 N3 N4 N5;go_wp2;exact aH (v:=.tuple #[.agg #[.bool dn,.slice aa (ws X).length cc,.int .i64 de],.int .i64 er]) (by simp[results,Tryz.results134,go_sem,hc]) rfl (Fin.j4 (m:=w.heap.size+1) (by repeat (first | exact HF.o | refine Fin.alloc ?_ _ | refine Fin.set ?_ _ _ _ ae ae)) ae)
theorem WB {w:World}{a b:Option Addr}{l c k d:Nat}{xs ys:List Nat}(h1:Arg w a l c xs) (h2:Arg w b k d ys) (hT:gP w) (neg:Bool) (e:Int) (he0:-1048576<=e) (he1:e<=1048576)
 (P Q:Nat) (hP:val xs=P) (hQ:val ys=Q) (oP:P%2=1) (oQ:Q%2=1) (bP:bl P<=262144) (bQ:bl Q<=262144) :
 As 82 #[.bool neg,.slice a l c,.slice b k d,.int .i64 e] w λr w'=>dm w.heap.size w' r (mkS neg (P+Q) e)/\An w w':=by
 have HX:=(QC h1 h2 hT hP hQ oP oQ bP bQ);clear h1 h2 hT hP hQ oP oQ bP bQ;unfold dm;have hl:=aR neg (P+Q) e;obtain⟨o,ho⟩:∃o,mkS neg (P+Q) e=o:=⟨_,rfl⟩;rw[ho] at hl |-;obtain⟨dn,hdn⟩:∃d,dN o=d:=⟨_,rfl⟩;obtain⟨X,hX⟩:∃d,dX o=d:=⟨_,rfl⟩;obtain⟨de,hde⟩:∃d,dE o=d:=⟨_,rfl⟩;obtain⟨er,her⟩:∃d,xG o=d:=⟨_,rfl⟩;rw[hdn,hX,hde,her];rw[hX] at hl;have HS:=(gy ho hdn hX hde her);clear ho hdn hX hde her;have S0:=ak (show Below (w.alloc (.cells zD3 79)).heap.size (w.alloc (.cells zD3 79)) (w.alloc (.cells zD3 79)) from aD _ _);have B0:=ak (show An w (w.alloc (.cells zD3 79)) from af w _);go_enter Tryz.func82,Tryz.ntmps82;obtain C:=S0.o;have BW:An w (w.alloc (.cells zD3 79)):=B0.o.trans (C.mono aN);have H:=hid (show Ax 133 #[.slice a l c,.int .i64 0] (w.alloc (.cells zD3 79)) (.bool true) from by have A:=HX.o.1.below BW;have:=xD xs a l c _ 0 _ A.len A.wf A.rd ae;rw[fO,Nat.div_one,HX.o.r3.1,HX.o.r5.1] at this;exact this);clear C BW;go_wp2_with fail;refine H.o.mono ?_;rintro r ww ⟨rfl,hw⟩;rw[hw];clear H hw ww;obtain C:=S0.o;have BW:An w (w.alloc (.cells zD3 79)):=B0.o.trans (C.mono aN);have H0:=F9 (HX.o.1.below BW) (HX.o.2.1.below BW) (HX.o.r2.1.belows BW) neg e he0 he1 P Q HX.o.r3.1 HX.o.r4.1 HX.o.r5.1 HX.o.r6.1 HX.o.r7.1 HX.o.r8;unfold dm at H0;rw[HS.o.1,HS.o.2.1,HS.o.r2.1,HS.o.r3.1,HS.o.r4] at H0;have H:=hid H0;clear C BW H0;go_wp2_with fail;refine H.o.mono ?_;rintro r uu ⟨⟨v,rfl,hN⟩,hb⟩;obtain⟨aa,cc,rfl,_⟩:=hN.arg ae;obtain C:=S0.o;have hbb:=C.trans (hb.mono C.size);obtain⟨hc,hf⟩:=bz hbb;have HF:=ak (Fin.of 1 B0.o aN (hN.mono C.size) hbb);have hz:w.heap.size<uu.heap.size:=by have:=hbb.size;simp at this;omega
 clear C hb hN hbb H;go_wp2;exact aH (v:=.tuple #[.agg #[.bool dn,.slice aa (ws X).length cc,.int .i64 de],.int .i64 er]) (by simp[results,Tryz.results82,go_sem,hc]) rfl (Fin.j4 (m:=w.heap.size+1) (by repeat (first | exact HF.o | refine Fin.alloc ?_ _ | refine Fin.set ?_ _ _ _ ae ae)) ae)
theorem Sd {w:World}{a b:Option Addr}{l c k d:Nat}{xs ys:List Nat}(h1:Arg w a l c xs) (h2:Arg w b k d ys) (hT:gP w) (neg:Bool) (e:Int) (he0:-1048576<=e) (he1:e<=1048576)
 (P Q:Nat) (hP:val xs=P) (hQ:val ys=Q) (oP:P%2=0) (hs:bl (P+Q)<=262144) :
 As 82 #[.bool neg,.slice a l c,.slice b k d,.int .i64 e] w λr w'=>dm w.heap.size w' r (mkS neg (P+Q) e)/\An w w':=by
 obtain⟨V,hV⟩:∃x,P+Q=x:=⟨_,rfl⟩;rw[hV] at hs |-;have l1:=len8 hs;have HX:=(Ck h1 h2 hT hP hQ oP hs hV);clear h1 h2 hT hP hQ oP hs hV;unfold dm;have hl:=aR neg V e;obtain⟨o,ho⟩:∃o,mkS neg V e=o:=⟨_,rfl⟩;rw[ho] at hl |-;obtain⟨dn,hdn⟩:∃d,dN o=d:=⟨_,rfl⟩;obtain⟨X,hX⟩:∃d,dX o=d:=⟨_,rfl⟩;obtain⟨de,hde⟩:∃d,dE o=d:=⟨_,rfl⟩;obtain⟨er,her⟩:∃d,xG o=d:=⟨_,rfl⟩;rw[hdn,hX,hde,her];rw[hX] at hl;have HS:=(gy ho hdn hX hde her);clear ho hdn hX hde her;have S0:=ak (show Below (w.alloc (.cells zD3 79)).heap.size (w.alloc (.cells zD3 79)) (w.alloc (.cells zD3 79)) from aD _ _);have B0:=ak (show An w (w.alloc (.cells zD3 79)) from af w _);go_enter Tryz.func82,Tryz.ntmps82;obtain C:=S0.o;have BW:An w (w.alloc (.cells zD3 79)):=B0.o.trans (C.mono aN);have H:=hid (show Ax 133 #[.slice a l c,.int .i64 0] (w.alloc (.cells zD3 79)) (.bool false) from by have A:=HX.o.1.below BW;have:=xD xs a l c _ 0 _ A.len A.wf A.rd ae;rw[fO,Nat.div_one,HX.o.r3.1,HX.o.r5.1] at this;exact this);clear C BW;go_wp2_with fail;refine H.o.mono ?_;rintro r ww ⟨rfl,hw⟩;rw[hw];clear H hw ww;obtain C:=S0.o;have BW:An w (w.alloc (.cells zD3 79)):=B0.o.trans (C.mono aN);have H:=hid (xz (V:=V) (HX.o.1.below BW) (HX.o.2.1.below BW) (by rw[HX.o.r3.1,HX.o.r4.1];exact xB (mH HX.o.r6.1) HX.o.r7));clear C BW;go_wp2_with fail;refine H.o.mono ?_;rintro r u1 ⟨v,rfl,hN,hb⟩;obtain⟨a1,c1,rfl,_⟩:=hN.arg ae;obtain C:=S0.o;have hz1:=C.size;have S1:=(bA (C.trans (hb.mono C.size)) (hN.mono C.size));clear C hb H hN;obtain⟨C,N1⟩:=S1.o;have BW:An w u1:=B0.o.trans (C.mono aN);have H0:=show As 94 #[.bool neg,.slice a1 (ws V).length c1,.int .i64 e] u1 λr w'=>dm u1.heap.size w' r (mkS neg V e)/\An u1 w' from by have:=fZ (N1.bS ae).2 (HX.o.r2.1.belows BW) neg e ae ae;rw[aB] at this;exact this
 unfold dm at H0;rw[HS.o.1,HS.o.2.1,HS.o.r2.1,HS.o.r3.1,HS.o.r4] at H0;have H:=hid H0;clear C BW H0 N1;go_wp2_with fail;refine H.o.mono ?_;rintro r uu ⟨⟨v,rfl,hN⟩,hb⟩;obtain⟨aa,cc,rfl,_⟩:=hN.arg ae;obtain⟨C,N1⟩:=S1.o;have hbb:=C.trans (hb.mono C.size);obtain⟨hc,hf⟩:=bz hbb;have HF:=ak (Fin.of 1 B0.o aN (hN.mono C.size) hbb);have hz:w.heap.size<uu.heap.size:=by have:=hbb.size;simp at this;omega
 clear C hb hN hbb H N1;go_wp2;exact aH (v:=.tuple #[.agg #[.bool dn,.slice aa (ws X).length cc,.int .i64 de],.int .i64 er]) (by simp[results,Tryz.results82,go_sem,hc]) rfl (Fin.j4 (m:=w.heap.size+1) (by repeat (first | exact HF.o | refine Fin.alloc ?_ _ | refine Fin.set ?_ _ _ _ ae ae)) ae)
theorem Ol{w:World}{a b:Option Addr}{n c m d:Nat}{xs ys:List Nat}(h1:Arg w a n c xs)(h2:Arg w b m d ys)(h:LG (val xs+val ys)) :
 As 135 #[.slice a n c,.slice b m d] w λr w'=>∃v,r=.returned (.tuple #[v,.int .i64 2])/\Nt w.heap.size w' v 0/\An w w' :=
 (Li xs ys a b n c m d w.heap.size w h1.len h2.len h1.cap h2.cap (by have:=h1.big;omega) (by have:=h2.big;omega) h1.wf h2.wf h1.rd h2.rd (aA _)).mono λr w' ⟨⟨v,h3,h4⟩,h5⟩=>by
  have e:xh (val xs) (val ys)=(0,2):=by unfold xh;rw[if_pos h]
  rw[e] at h3 h4;exact⟨v,h3,h4,h5⟩
theorem Sg {w:World}{a b:Option Addr}{l c k d:Nat}{xs ys:List Nat}(h1:Arg w a l c xs) (h2:Arg w b k d ys) (hT:gP w) (neg:Bool) (e:Int) (he0:-1048576<=e) (he1:e<=1048576)
 (P Q:Nat) (hP:val xs=P) (hQ:val ys=Q) (oP:P%2=0) (hs:262144<bl (P+Q)) :
 As 82 #[.bool neg,.slice a l c,.slice b k d,.int .i64 e] w λr w'=>dm w.heap.size w' r none/\An w w':=by
 have l0:(ws 0).length=0:=by rw[cB];rfl
 have HX:=(Ew h1 h2 hT hP hQ oP hs);clear h1 h2 hT hP hQ oP hs;have S0:=ak (show Below (w.alloc (.cells zD3 79)).heap.size (w.alloc (.cells zD3 79)) (w.alloc (.cells zD3 79)) from aD _ _);have B0:=ak (show An w (w.alloc (.cells zD3 79)) from af w _);go_enter Tryz.func82,Tryz.ntmps82;obtain C:=S0.o;have BW:An w (w.alloc (.cells zD3 79)):=B0.o.trans (C.mono aN);have H:=hid (show Ax 133 #[.slice a l c,.int .i64 0] (w.alloc (.cells zD3 79)) (.bool false) from by have A:=HX.o.1.below BW;have:=xD xs a l c _ 0 _ A.len A.wf A.rd ae;rw[fO,Nat.div_one,HX.o.r3.1,HX.o.r5.1] at this;exact this);clear C BW;go_wp2_with fail;refine H.o.mono ?_;rintro r ww ⟨rfl,hw⟩;rw[hw];clear H hw ww;obtain C:=S0.o;have BW:An w (w.alloc (.cells zD3 79)):=B0.o.trans (C.mono aN);have H:=hid (Ol (HX.o.1.below BW) (HX.o.2.1.below BW) (by rw[HX.o.r3.1,HX.o.r4.1,pV];exact HX.o.r6));clear C BW;go_wp2_with fail;refine H.o.mono ?_;rintro r u1 ⟨v,rfl,hN,hb⟩;obtain⟨a1,c1,rfl,_⟩:=hN.arg ae;obtain C:=S0.o;have hz1:=C.size;have S1:=(bA (C.trans (hb.mono C.size)) (hN.mono C.size));clear C hb H hN;obtain⟨C,N1⟩:=S1.o;obtain⟨hc,hf⟩:=bz C;have HF:=ak (show Fin w.heap.size (w.heap.size+1) w u1 (.slice none 0 0) 0 from⟨Nt.nil _ _,B0.o.trans (C.mono aN),by have:=C.size;simp at this;omega⟩);have hz:w.heap.size<u1.heap.size:=by have:=C.size;simp at this;omega
 clear C N1;go_wp2;exact aH (v:=.tuple #[.agg zD3,.int .i64 2]) (by simp[results,Tryz.results82,go_sem,hc]) rfl (Fin.j4 (m:=w.heap.size+1) (by repeat (first | exact HF.o | refine Fin.alloc ?_ _ | refine Fin.set ?_ _ _ _ ae ae)) ae)
theorem WG {w:World}{a b:Option Addr}{l c k d:Nat}{xs ys:List Nat}(h1:Arg w a l c xs) (h2:Arg w b k d ys) (hT:gP w) (neg:Bool) (e:Int) (he0:-1048576<=e) (he1:e<=1048576)
 (P Q:Nat) (hP:val xs=P) (hQ:val ys=Q) (oQ:Q%2=1) (bP:bl P<=262144) (bQ:bl Q<=262144) :
 As 82 #[.bool neg,.slice a l c,.slice b k d,.int .i64 e] w λr w'=>dm w.heap.size w' r (mkS neg (P+Q) e)/\An w w':=by
 rcases IL P with oP|oP
 . by_cases hs:bl (P+Q)<=262144
   . exact Sd h1 h2 hT neg e he0 he1 P Q hP hQ oP hs
   . have e1:mkS neg (P+Q) e=none:=by rw[Lx _ _ _ ae,if_pos (.inl ae)]
     rw[e1];exact Sg h1 h2 hT neg e he0 he1 P Q hP hQ oP ae
 . exact WB h1 h2 hT neg e he0 he1 P Q hP hQ oP oQ bP bQ
theorem Si {w:World}{a b:Option Addr}{l c k d:Nat}{xs ys:List Nat}(h1:Arg w a l c xs) (h2:Arg w b k d ys) (hT:gP w) (neg:Bool) (e:Int) (he0:-1048576<=e) (he1:e<=1048576)
 (P Q:Nat) (hP:val xs=P) (hQ:val ys=Q) (bP:bl P<=262144) (bQ:bl Q<=262144) (hlt:P<Q) :
 As 83 #[.bool neg,.slice a l c,.slice b k d,.int .i64 e] w λr w'=>dm w.heap.size w' r (mkS (!neg) (Q-P) e)/\An w w':=by
 obtain⟨z,hz0⟩:∃z,bI P Q=z:=⟨_,rfl⟩;have hzz:z=-1:=by rw[<-hz0];exact nT hlt
 obtain⟨V,hV⟩:∃x,Q-P=x:=⟨_,rfl⟩;have bV:bl V<=262144:=by rw[<-hV];exact dB (nW (Nat.sub_le _ _)) bQ
 rw[hV];have l1:=len8 bV;have hsub:V+P=Q:=ae
 have HX:=(QC h1 h2 hT hP hQ hz0 hsub bP bQ);subst hzz;clear h1 h2 hT hP hQ hz0 hsub bP bQ hlt hV bV;unfold dm;have hl:=aR (!neg) V e;obtain⟨o,ho⟩:∃o,mkS (!neg) V e=o:=⟨_,rfl⟩;rw[ho] at hl |-;obtain⟨dn,hdn⟩:∃d,dN o=d:=⟨_,rfl⟩;obtain⟨X,hX⟩:∃d,dX o=d:=⟨_,rfl⟩;obtain⟨de,hde⟩:∃d,dE o=d:=⟨_,rfl⟩;obtain⟨er,her⟩:∃d,xG o=d:=⟨_,rfl⟩;rw[hdn,hX,hde,her];rw[hX] at hl;have HS:=(gy ho hdn hX hde her);clear ho hdn hX hde her;have S0:=ak (show Below (w.alloc (.cells zD3 79)).heap.size (w.alloc (.cells zD3 79)) (w.alloc (.cells zD3 79)) from aD _ _);have B0:=ak (show An w (w.alloc (.cells zD3 79)) from af w _);go_enter Tryz.func83,Tryz.ntmps83;obtain C:=S0.o;have BW:An w (w.alloc (.cells zD3 79)):=B0.o.trans (C.mono aN);have H:=hid (show At 136 #[.slice a l c,.slice b k d] (w.alloc (.cells zD3 79)) (.int .i64 (-1)) from CZ (HX.o.1.below BW) (HX.o.2.1.below BW) (-1) (by rw[HX.o.r3.1,HX.o.r4.1];exact HX.o.r5.1));clear C BW;go_wp2_with fail;refine H.o.mono ?_;rintro r u1 ⟨rfl,hb⟩;obtain C:=S0.o;have hz1:=C.size;have S1:=ak (C.trans (hb.mono C.size));clear C hb H;obtain C:=S1.o;have BW:An w u1:=B0.o.trans (C.mono aN);have H:=hid (xA (V:=V) (HX.o.2.1.below BW) (HX.o.1.below BW) (by rw[HX.o.r4.1,HX.o.r3.1];exact xC (mH HX.o.r8) (mH HX.o.r7.1) HX.o.r6.1));clear C BW;go_wp2_with fail;refine H.o.mono ?_;rintro r u2 ⟨v,rfl,hN,hb⟩;obtain⟨a2,c2,rfl,_⟩:=hN.arg ae;obtain C:=S1.o;have hz2:=C.size;have S2:=(bA (C.trans (hb.mono C.size)) (hN.mono C.size));clear C hb H hN;obtain⟨C,N2⟩:=S2.o;have BW:An w u2:=B0.o.trans (C.mono aN);have H0:=show As 94 #[.bool (!neg),.slice a2 (ws V).length c2,.int .i64 e] u2 λr w'=>dm u2.heap.size w' r (mkS (!neg) V e)/\An u2 w' from by have:=fZ (N2.bS ae).2 (HX.o.r2.1.belows BW) (!neg) e ae ae;rw[aB] at this;exact this
 unfold dm at H0;rw[HS.o.1,HS.o.2.1,HS.o.r2.1,HS.o.r3.1,HS.o.r4] at H0;have H:=hid H0;clear C BW H0 N2;go_wp2_with fail;refine H.o.mono ?_;rintro r uu ⟨⟨v,rfl,hN⟩,hb⟩;obtain⟨aa,cc,rfl,_⟩:=hN.arg ae;obtain⟨C,N2⟩:=S2.o;have hbb:=C.trans (hb.mono C.size);obtain⟨hc,hf⟩:=bz hbb;have HF:=ak (Fin.of 1 B0.o aN (hN.mono C.size) hbb);have hz:w.heap.size<uu.heap.size:=by have:=hbb.size;simp at this;omega
 clear C hb hN hbb H N2;go_wp2;exact aH (v:=.tuple #[.agg #[.bool dn,.slice aa (ws X).length cc,.int .i64 de],.int .i64 er]) (by simp[results,Tryz.results83,go_sem,hc]) rfl (Fin.j4 (m:=w.heap.size+1) (by repeat (first | exact HF.o | refine Fin.alloc ?_ _ | refine Fin.set ?_ _ _ _ ae ae)) ae)
theorem Om {w:World}{a b:Option Addr}{l c k d:Nat}{xs ys:List Nat}(h1:Arg w a l c xs) (h2:Arg w b k d ys) (hT:gP w) (neg:Bool) (e:Int) (he0:-1048576<=e) (he1:e<=1048576)
 (P Q:Nat) (hP:val xs=P) (hQ:val ys=Q) (bP:bl P<=262144) (bQ:bl Q<=262144) (hlt:Q<=P) :
 As 83 #[.bool neg,.slice a l c,.slice b k d,.int .i64 e] w λr w'=>dm w.heap.size w' r (mkS neg (P-Q) e)/\An w w':=by
 obtain⟨z,hz0⟩:∃z,bI P Q=z:=⟨_,rfl⟩;have hzz:0<=z:=by rw[<-hz0];exact Lv hlt
 obtain⟨V,hV⟩:∃x,P-Q=x:=⟨_,rfl⟩;have bV:bl V<=262144:=by rw[<-hV];exact dB (nW (Nat.sub_le _ _)) bP
 rw[hV];have l1:=len8 bV;have hsub:V+Q=P:=ae
 have HX:=(QC h1 h2 hT hP hQ hz0 hsub bP bQ);have Y7:decide (z<0)=false:=decide_eq_false ae;clear h1 h2 hT hP hQ hz0 hsub bP bQ hlt hV bV;unfold dm;have hl:=aR neg V e;obtain⟨o,ho⟩:∃o,mkS neg V e=o:=⟨_,rfl⟩;rw[ho] at hl |-;obtain⟨dn,hdn⟩:∃d,dN o=d:=⟨_,rfl⟩;obtain⟨X,hX⟩:∃d,dX o=d:=⟨_,rfl⟩;obtain⟨de,hde⟩:∃d,dE o=d:=⟨_,rfl⟩;obtain⟨er,her⟩:∃d,xG o=d:=⟨_,rfl⟩;rw[hdn,hX,hde,her];rw[hX] at hl;have HS:=(gy ho hdn hX hde her);clear ho hdn hX hde her;have S0:=ak (show Below (w.alloc (.cells zD3 79)).heap.size (w.alloc (.cells zD3 79)) (w.alloc (.cells zD3 79)) from aD _ _);have B0:=ak (show An w (w.alloc (.cells zD3 79)) from af w _);go_enter Tryz.func83,Tryz.ntmps83;obtain C:=S0.o;have BW:An w (w.alloc (.cells zD3 79)):=B0.o.trans (C.mono aN);have H:=hid (show At 136 #[.slice a l c,.slice b k d] (w.alloc (.cells zD3 79)) (.int .i64 z) from CZ (HX.o.1.below BW) (HX.o.2.1.below BW) z (by rw[HX.o.r3.1,HX.o.r4.1];exact HX.o.r5.1));clear C BW;go_wp2_with fail;refine H.o.mono ?_;rintro r u1 ⟨rfl,hb⟩;obtain C:=S0.o;have hz1:=C.size;have S1:=ak (C.trans (hb.mono C.size));clear C hb H;obtain C:=S1.o;have BW:An w u1:=B0.o.trans (C.mono aN);have H:=hid (xA (V:=V) (HX.o.1.below BW) (HX.o.2.1.below BW) (by rw[HX.o.r3.1,HX.o.r4.1];exact xC (mH HX.o.r7.1) (mH HX.o.r8) HX.o.r6.1));clear C BW;go_wp2_with fail;refine H.o.mono ?_;rintro r u2 ⟨v,rfl,hN,hb⟩;obtain⟨a2,c2,rfl,_⟩:=hN.arg ae;obtain C:=S1.o;have hz2:=C.size;have S2:=(bA (C.trans (hb.mono C.size)) (hN.mono C.size));clear C hb H hN;obtain⟨C,N2⟩:=S2.o;have BW:An w u2:=B0.o.trans (C.mono aN);have H0:=show As 94 #[.bool neg,.slice a2 (ws V).length c2,.int .i64 e] u2 λr w'=>dm u2.heap.size w' r (mkS neg V e)/\An u2 w' from by have:=fZ (N2.bS ae).2 (HX.o.r2.1.belows BW) neg e ae ae;rw[aB] at this;exact this
 unfold dm at H0;rw[HS.o.1,HS.o.2.1,HS.o.r2.1,HS.o.r3.1,HS.o.r4] at H0;have H:=hid H0;clear C BW H0 N2;go_wp2_with fail;refine H.o.mono ?_;rintro r uu ⟨⟨v,rfl,hN⟩,hb⟩;obtain⟨aa,cc,rfl,_⟩:=hN.arg ae;obtain⟨C,N2⟩:=S2.o;have hbb:=C.trans (hb.mono C.size);obtain⟨hc,hf⟩:=bz hbb;have HF:=ak (Fin.of 1 B0.o aN (hN.mono C.size) hbb);have hz:w.heap.size<uu.heap.size:=by have:=hbb.size;simp at this;omega
 clear C hb hN hbb H N2;go_wp2;exact aH (v:=.tuple #[.agg #[.bool dn,.slice aa (ws X).length cc,.int .i64 de],.int .i64 er]) (by simp[results,Tryz.results83,go_sem,hc]) rfl (Fin.j4 (m:=w.heap.size+1) (by repeat (first | exact HF.o | refine Fin.alloc ?_ _ | refine Fin.set ?_ _ _ _ ae ae)) ae)
end
end Go.Proofs.YtjppdacikihpdaaGreatDoor
