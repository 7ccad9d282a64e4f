import Derived.Test.YtaejmlkaefnbhaaGreatDoorS11ax
import Derived.Deep.RegionWith
import Derived.BigQuiet
import Derived.Deep.RegionHeld3
import Derived.Test.YtaejmlkaefnbhaaGreatDoorBIeeex
set_option linter.unusedVariables false
set_option linter.unusedSimpArgs false
set_option maxHeartbeats 16000000
set_option maxRecDepth 20000
namespace Go.Proofs.YtaejmlkaefnbhaaGreatDoor
namespace B
open Go.RowKit
attribute [local go_sem] bu aM
theorem FR{a b:Bool}(h:a=b):Ending.returned (.bool a)=.returned (.bool b):=by rw[h]
theorem FU(s:Bool)(e f:Nat)(he:e<2048)(hf:f<4503599627370496)(w:World) :
 Calls Tryz.prog 170 #[.float .f64 (bw s e f)] w fun r w'=>r=.returned (.bool s)/\w'=w:=by
 have hl:=xW s e f he hf
 cases s
 · have h1:bw false e f<9223372036854775808:=by unfold bw;simp only[iE];omega
   go_enter Tryz.func170,Tryz.ntmps170;go_wp2;go_ret;exact⟨FR (decide_eq_false af),rfl⟩
 · have h1:9223372036854775808<=bw true e f:=by unfold bw;simp only[iD];omega
   go_enter Tryz.func170,Tryz.ntmps170;go_wp2;go_ret;exact⟨FR (decide_eq_true (by unfold wrap64;omega)),rfl⟩
theorem Dc(s:Bool)(e f:Nat)(he:e<2048)(hf:f<4503599627370496)(w:World) :
 Calls Tryz.prog 215 #[.float .f64 (bw s e f)] w fun r w'=>r=.returned (.float .f64 (bw false e f))/\w'=w:=by
 have h1:=RN s e f he hf;go_enter Tryz.func215,Tryz.ntmps215;go_wp2;go_ret;exact⟨rfl,rfl⟩
theorem A7(s t:Bool)(e f u v:Nat)(he:e<2048)(hf:f<4503599627370496)(hu:u<2048)(hv:v<4503599627370496)(w:World) :
 Calls Tryz.prog 100 #[.float .f64 (bw s e f),.float .f64 (bw t u v)] w fun r w'=>r=.returned (.int .i64 (oc (ky s e f) (ky t u v)))/\w'=w:=by
 have HS:=FQ s t e f u v he hf hu hv;have hgt:=RJ s t e f u v he hf hu hv;have hlt:=Jy s t e f u v he hf hu hv
 cases hd:decide (cb s e f=cb t u v)
 · rw[hd] at HS;have H2:Hid (∀ w,Calls Tryz.prog 168 #[.float .f64 (bw s e f),.float .f64 (bw t u v)] w fun r w'=>r=.returned (.bool false)/\w'=w):=HS;have hne:=of_decide_eq_false hd;clear HS hd
   cases h1:odd e f
   · cases h2:odd u v
     · rw[h1,h2] at hgt hlt;simp only[Bool.not_false,vk] at hgt hlt;rw[kF s e f (gK e f h1),kF t u v (gK u v h2)] at hne
       by_cases c1:pl t u v<pl s e f
       · rw[RP (FP t s u v e f h2 h1 c1)];rw[decide_eq_true c1] at hgt;clear hne c1 hlt;go_enter Tryz.func100,Tryz.ntmps100;go_wp2_with fail;refine(H2.o _).mono ?_;rintro r w1 ⟨rfl,rfl⟩;go_wp2_with fail;refine(bJ s e f he hf _).mono ?_;rintro r w1 ⟨rfl,rfl⟩;go_wp2_with fail;exact Ks
       · by_cases c2:pl s e f<pl t u v
         · rw[RO (FP s t e f u v h1 h2 c2)];rw[decide_eq_true c2] at hlt;rw[decide_eq_false c1] at hgt;clear hne c1 c2;go_enter Tryz.func100,Tryz.ntmps100;go_wp2_with fail;refine(H2.o _).mono ?_;rintro r w1 ⟨rfl,rfl⟩;go_wp2_with fail;refine(bJ s e f he hf _).mono ?_;rintro r w1 ⟨rfl,rfl⟩;go_wp2_with fail;refine(bJ t u v hu hv _).mono ?_;rintro r w1 ⟨rfl,rfl⟩;go_wp2_with fail;exact Ks
         · rw[decide_eq_false c1] at hgt;rw[decide_eq_false c2] at hlt;have hk:=VQ s t e f u v h1 h2 hne af;clear hne c1 c2
           cases s
           · rw[RP (hk.1 rfl)];clear hk;go_enter Tryz.func100,Tryz.ntmps100;go_wp2_with fail;refine(H2.o _).mono ?_;rintro r w1 ⟨rfl,rfl⟩;go_wp2_with fail;refine(bJ false e f he hf _).mono ?_;rintro r w1 ⟨rfl,rfl⟩;go_wp2_with fail;refine(bJ t u v hu hv _).mono ?_;rintro r w1 ⟨rfl,rfl⟩;go_wp2_with fail;refine(FU false e f he hf _).mono ?_;rintro r w1 ⟨rfl,rfl⟩;go_wp2_with fail;exact Ks
           · rw[RO (hk.2 rfl)];clear hk;go_enter Tryz.func100,Tryz.ntmps100;go_wp2_with fail;refine(H2.o _).mono ?_;rintro r w1 ⟨rfl,rfl⟩;go_wp2_with fail;refine(bJ true e f he hf _).mono ?_;rintro r w1 ⟨rfl,rfl⟩;go_wp2_with fail;refine(bJ t u v hu hv _).mono ?_;rintro r w1 ⟨rfl,rfl⟩;go_wp2_with fail;refine(FU true e f he hf _).mono ?_;rintro r w1 ⟨rfl,rfl⟩;go_wp2_with fail;exact Ks
     · rw[Da t u v h2,RO (Yz s e f he hf h1)];rw[h1,h2] at hgt hlt;simp only[Bool.not_false,vk,Bool.not_true,vg] at hgt hlt;clear hne hlt;go_enter Tryz.func100,Tryz.ntmps100;go_wp2_with fail;refine(H2.o _).mono ?_;rintro r w1 ⟨rfl,rfl⟩;go_wp2_with fail;refine(bJ s e f he hf _).mono ?_;rintro r w1 ⟨rfl,rfl⟩;go_wp2_with fail;refine(bJ t u v hu hv _).mono ?_;rintro r w1 ⟨rfl,rfl⟩;go_wp2_with fail;exact Ks
   · have h2:odd u v=false:=by
      cases h2:odd u v
      · rfl
      · exact absurd ((qO s e f (l7 e f h1)).trans (qO t u v (l7 u v h2)).symm) hne
     rw[Da s e f h1,RP (Yz t u v hu hv h2)];clear hne hgt hlt;go_enter Tryz.func100,Tryz.ntmps100;go_wp2_with fail;refine(H2.o _).mono ?_;rintro r w1 ⟨rfl,rfl⟩;go_wp2_with fail;refine(bJ s e f he hf _).mono ?_;rintro r w1 ⟨rfl,rfl⟩;go_wp2_with fail;exact Ks
 · rw[hd] at HS;have H2:Hid (∀ w,Calls Tryz.prog 168 #[.float .f64 (bw s e f),.float .f64 (bw t u v)] w fun r w'=>r=.returned (.bool true)/\w'=w):=HS;rw[oc_eq (RS s t e f u v he hf hu hv (of_decide_eq_true hd))];clear HS hd hgt hlt;go_enter Tryz.func100,Tryz.ntmps100;go_wp2_with fail;refine(H2.o _).mono ?_;rintro r w1 ⟨rfl,rfl⟩;go_wp2_with fail;go_ret;exact⟨rfl,rfl⟩
end B
section
open Go.RowKit
attribute [local go_sem] B.LY B.fld0 B.fld1 B.fld2 B.fld3
def ofR(s:Bool)(e f:Nat):Option (Bool×Nat×Int):=if e=2047 then none else mkS s (if e=0 then f else f+4503599627370496) (if e=0 then -1074 else(e:Int)-1075)
def ofE(e:Nat):Int:=if e=2047 then 30 else 0
def OAns(lo:Nat)(w:World)(r:Ending)(o:Option (Bool×Nat×Int))(er:Int):Prop :=
 ∃ v,r=.returned (.tuple #[.agg #[.bool (dN o),v,.int .i64 (dE o)],.int .i64 er])/\Nt lo w v (dX o)
theorem De(X:Nat)(h:X<9007199254740992):bl X<=53:=by
 by_cases h0:X=0
 · subst h0;rw[eY];omega
 · have:=(ku (a:=2) af).1 (iC (iM X h0) (show X<2^53 from h));omega
theorem VT(s:Bool)(X:Nat)(x:Int)(hX:X<9007199254740992)(h0:-1100<=x)(h1:x<=1000):∃ d,mkS s X x=some d:=by
 unfold mkS
 by_cases h:X=0
 · rw[if_pos h];exact⟨_,rfl⟩
 · rw[if_neg h];obtain⟨m,_,_,hb⟩:=gX X h;have:=De X hX;rw[if_neg af];exact⟨_,rfl⟩
theorem xr{P:Prop}(h:P:=by
 rw[aC] at this;exact this):P:=h
theorem VU (s:Bool) (b:Nat) (F:Nat) (k x:Int) (w:World) (hT:bO w) (hF:F<9007199254740992) (hx0:-1100<=x) (hx1:x<=1000)
 (HA:Hid (∀ u,Calls Tryz.prog 215 #[.float .f64 b] u fun r w'=>r=.returned (.float .f64 (b%9223372036854775808))/\w'=u))
 (HS:Hid (∀ u,Calls Tryz.prog 203 #[.float .f64 (b%9223372036854775808)] u fun r w'=>r=.returned (.agg #[.bool false,.int .i64 k,.int .i64 x,.int .u64 (F:Nat)])/\Below u.heap.size u w'))
 (H0:Hid (∀ u,Calls Tryz.prog 203 #[.float .f64 0] u fun r w'=>r=.returned (.agg #[.bool false,.int .i64 0,.int .i64 (-1074),.int .u64 0])/\Below u.heap.size u w'))
 (hlt:(FloatKind.f64.format.order b 0==some .lt)=s) (k0:(k==0)=false) (k3:(k==3)=false) (k4:(k==4)=false) :
 Calls Tryz.prog 137 #[.float .f64 b] w fun r w'=>dh w.heap.size w' r (mkS s F x)/\Below w.heap.size w w':=by
 generalize hb2:b%9223372036854775808=b2 at *;clear hb2;have HO:Hid (∀ u,Calls Tryz.prog 193 #[.int .u64 (F:Nat)] u fun r w'=>∃ v,r=.returned v/\Nt u.heap.size w' v F/\Below u.heap.size u w'):=fun u=>ni F u af
 have HM:Hid (∀ (u:World) (a:Option Addr) (c:Nat),bO u->Arg u a (ws F).length c (ws F)->Calls Tryz.prog 192 #[.bool s,.slice a (ws F).length c,.int .i64 x] u fun r w'=>dh u.heap.size w' r (mkS s F x)/\Below u.heap.size u w'):=by
  intro u a c LZ hA;have:=fJ hA LZ s x af af;exact xr
 have hFl:(ws F).length<=100:=by have:=qd F;have:=De F hF;omega
 have hl:=bC s F x;obtain⟨o,ho⟩:∃ o,mkS s F x=o:=⟨_,rfl⟩;rw[ho] at HM hl |-;unfold dh at HM |-;obtain⟨dn,hdn⟩:∃ d,dN o=d:=⟨_,rfl⟩;obtain⟨X,Zz⟩:∃ d,dX o=d:=⟨_,rfl⟩;obtain⟨de,hde⟩:∃ d,dE o=d:=⟨_,rfl⟩;obtain⟨er,her⟩:∃ d,qx o=d:=⟨_,rfl⟩;rw[hdn,Zz,hde,her] at HM |-;rw[Zz] at hl;have HT:=au hT;clear ho hdn Zz hde her hT hF hx0 hx1;go_enter Tryz.func137,Tryz.ntmps137;go_wp2_with fail;refine(dI (HA.o _)) ?_;rintro r w1 ⟨rfl,rfl⟩;go_wp2_with fail;refine(dI (HS.o _)) ?_;rintro r w2 ⟨rfl,hb⟩;obtain⟨hc,hf⟩:=aU hb;have hz:w.heap.size<w2.heap.size:=by have:=hb.size;simp at this;omega
 have hbw:Below w.heap.size w w2:=((aG _ _).alloc (aB _) _).trans (hb.mono aL);have SB:=au hbw;clear hb hbw;obtain⟨W2,hW2⟩:=ah (w2.alloc (.cells #[.bool false,.int .i64 k,.int .i64 x,.int .u64 (F:Nat)] 222));have hbW:Below w.heap.size w W2:=by rw[hW2];exact SB.o.alloc af _
 have P:W2.heap[w2.heap.size]?=some (.cells #[.bool false,.int .i64 k,.int .i64 x,.int .u64 (F:Nat)] 222 (0,0)):=by rw[hW2,jC]
 have p0:W2.cell? ⟨w2.heap.size,0,none⟩=some (.bool false):=by simp[World.cell?,P]
 have p1:W2.cell? ⟨w2.heap.size,1,none⟩=some (.int .i64 k):=by simp[World.cell?,P]
 have p2:W2.cell? ⟨w2.heap.size,2,none⟩=some (.int .i64 x):=by simp[World.cell?,P]
 have p3:W2.cell? ⟨w2.heap.size,3,none⟩=some (.int .u64 (F:Nat)):=by simp[World.cell?,P]
 have r0:W2.cell? ⟨w.heap.size,0,none⟩=some (.bool false):=by rw[hW2];go_simp
 have r1:W2.cell? ⟨w.heap.size,1,none⟩=some (.slice none 0 0):=by rw[hW2];go_simp
 have r2:W2.cell? ⟨w.heap.size,2,none⟩=some (.int .i64 0):=by rw[hW2];go_simp
 have f0:W2.frozen? ⟨w.heap.size,0,none⟩=false:=by rw[hW2];go_simp
 have f1:W2.frozen? ⟨w.heap.size,1,none⟩=false:=by rw[hW2];go_simp
 have f2:W2.frozen? ⟨w.heap.size,2,none⟩=false:=by rw[hW2];go_simp
 have hz2:w2.heap.size<W2.heap.size:=by rw[hW2];simp
 have hz3:w.heap.size<W2.heap.size:=af
 have SW:=au hbW;go_wp2_with fail;rw[<-hW2];clear hW2 hbW P hc hf SB
 go_region_with (go_at_call 203;refine(H0.o _).mono ?_;rintro r w3 ⟨rfl,hb3⟩;have hb4:Below W2.heap.size W2 w3:=(by first | exact hb3 | exact((aG _ W2).drew).trans (hb3.mono (aB _)));obtain⟨hc,hf⟩:=aU hb4;have S3:=au hb4;clear hb3 hb4)
 all_goals (
  go_wp2_with fail;have Ol:w2.heap.size<w3.heap.size:=by have:=S3.o.size;omega
  have Om:w.heap.size<w3.heap.size:=by have:=S3.o.size;omega
  go_region_with (first
   | (go_at_call 193
      refine(HO.o _).mono ?_;rintro r w4 ⟨v4,rfl,hN,hb⟩;obtain⟨a4,c4,rfl,A4⟩:=hN.arg af;have RV:Below w3.heap.size w3 w4:=(by first | exact hb | exact((aG _ w3).drew).trans (hb.mono (aB _)));have T4:bO w4:=(HT.o.belows SW.o).belows (S3.o.trans (RV.mono S3.o.size));obtain⟨hc4,hf4⟩:=aU RV;have ZA:w.heap.size<w4.heap.size:=by have:=RV.size;omega
      have S4:=(bM RV A4 T4)
      clear hN hb RV A4 T4)
   | (go_at_call 192
      refine(HM.o _ a4 c4 (by first | exact S4.o.r2 | exact S4.o.r2) (by first | exact S4.o.2.1 | exact Arg.drew' S4.o.2.1)).mono ?_;rintro r w5 ⟨⟨v5,rfl,hN⟩,hb⟩;obtain⟨a5,c5,rfl,_⟩:=hN.arg af;have VV:Below w4.heap.size w4 w5:=(by first | exact hb | exact((aG _ w4).drew).trans (hb.mono (aB _)));obtain⟨hc5,hf5⟩:=aU VV;have HF:=au (show Fin w.heap.size w4.heap.size w w5 (.slice a5 (ws X).length c5) X from⟨hN,((SW.o.trans (S3.o.mono af)).trans (S4.o.1.mono af)).trans (VV.mono af),by have:=VV.size;omega⟩)
      clear hN hb VV))
  all_goals (
   go_wp2
   exact aJ (v:=.tuple #[.agg #[.bool dn,.slice a5 (ws X).length c5,.int .i64 de],.int .i64 er]) (by simp[results,Tryz.results137,go_sem,hc5,hc4,hc,ZA,Om,hz3,r0,r1,r2]) rfl (Fin.qy (m:=w4.heap.size) (by repeat (first | exact HF.o | refine Fin.alloc ?_ _ | refine Fin.set ?_ _ _ _ af af)) af)))
theorem Oo (b b2:Nat) (w:World)
 (HA:Hid (∀ u,Calls Tryz.prog 215 #[.float .f64 b] u fun r w'=>r=.returned (.float .f64 b2)/\w'=u))
 (HS:Hid (∀ u,Calls Tryz.prog 203 #[.float .f64 b2] u fun r w'=>r=.returned (.agg #[.bool false,.int .i64 0,.int .i64 (-1074),.int .u64 0])/\Below u.heap.size u w'))
 (H0:Hid (∀ u,Calls Tryz.prog 203 #[.float .f64 0] u fun r w'=>r=.returned (.agg #[.bool false,.int .i64 0,.int .i64 (-1074),.int .u64 0])/\Below u.heap.size u w')) :
 Calls Tryz.prog 137 #[.float .f64 b] w fun r w'=>r=.returned (.tuple #[.agg #[.bool false,.slice none 0 0,.int .i64 0],.int .i64 0])/\Below w.heap.size w w':=by
 go_enter Tryz.func137,Tryz.ntmps137;go_wp2_with fail;refine(dI (HA.o _)) ?_;rintro r w1 ⟨rfl,rfl⟩;go_wp2_with fail;refine(dI (HS.o _)) ?_;rintro r w2 ⟨rfl,hb⟩;obtain⟨hc,hf⟩:=aU hb;have hz:w.heap.size<w2.heap.size:=by have:=hb.size;simp at this;omega
 have hbw:Below w.heap.size w w2:=((aG _ _).alloc (aB _) _).trans (hb.mono aL);have SB:=au hbw;clear hb hbw;obtain⟨W2,hW2⟩:=ah (w2.alloc (.cells #[.bool false,.int .i64 0,.int .i64 (-1074),.int .u64 0] 222));have hbW:Below w.heap.size w W2:=by rw[hW2];exact SB.o.alloc af _
 have P:W2.heap[w2.heap.size]?=some (.cells #[.bool false,.int .i64 0,.int .i64 (-1074),.int .u64 0] 222 (0,0)):=by rw[hW2,jC]
 have p0:W2.cell? ⟨w2.heap.size,0,none⟩=some (.bool false):=by simp[World.cell?,P]
 have p1:W2.cell? ⟨w2.heap.size,1,none⟩=some (.int .i64 0):=by simp[World.cell?,P]
 have p2:W2.cell? ⟨w2.heap.size,2,none⟩=some (.int .i64 (-1074)):=by simp[World.cell?,P]
 have p3:W2.cell? ⟨w2.heap.size,3,none⟩=some (.int .u64 0):=by simp[World.cell?,P]
 have r0:W2.cell? ⟨w.heap.size,0,none⟩=some (.bool false):=by rw[hW2];go_simp
 have r1:W2.cell? ⟨w.heap.size,1,none⟩=some (.slice none 0 0):=by rw[hW2];go_simp
 have r2:W2.cell? ⟨w.heap.size,2,none⟩=some (.int .i64 0):=by rw[hW2];go_simp
 have f0:W2.frozen? ⟨w.heap.size,0,none⟩=false:=by rw[hW2];go_simp
 have f1:W2.frozen? ⟨w.heap.size,1,none⟩=false:=by rw[hW2];go_simp
 have f2:W2.frozen? ⟨w.heap.size,2,none⟩=false:=by rw[hW2];go_simp
 have hz2:w2.heap.size<W2.heap.size:=by rw[hW2];simp
 have hz3:w.heap.size<W2.heap.size:=af
 have SW:=au hbW;go_wp2_with fail;rw[<-hW2];clear hW2 hbW P hc hf SB
 go_region_with (go_at_call 203;refine(H0.o _).mono ?_;rintro r w3 ⟨rfl,hb3⟩;have hb4:Below W2.heap.size W2 w3:=(by first | exact hb3 | exact((aG _ W2).drew).trans (hb3.mono (aB _)));obtain⟨hc,hf⟩:=aU hb4;have S3:=au hb4;clear hb3 hb4)
 all_goals (
  go_wp2;have hbf:=SW.o.trans (S3.o.mono af);have YA:w.heap.size<=w3.heap.size:=by have:=S3.o.size;omega
  exact aJ (v:=.tuple #[.agg #[.bool false,.slice none 0 0,.int .i64 0],.int .i64 0]) (by simp[results,Tryz.results137,go_sem,hc,hz3,r0,r1,r2]) rfl ⟨rfl,Below.qR (Below.qR (Below.qR hbf _ _ _ (aB _) YA) _ _ _ (aB _) (by simpa [World.setCell] using YA)) _ _ _ (aB _) (by simpa [World.setCell] using YA)⟩)
theorem VW (b b2:Nat) (k:Int) (w:World) (hk:k=3\/k=4)
 (HA:Hid (∀ u,Calls Tryz.prog 215 #[.float .f64 b] u fun r w'=>r=.returned (.float .f64 b2)/\w'=u))
 (HS:Hid (∀ u,Calls Tryz.prog 203 #[.float .f64 b2] u fun r w'=>r=.returned (.agg #[.bool false,.int .i64 k,.int .i64 0,.int .u64 0])/\Below u.heap.size u w'))
 (H0:Hid (∀ u,Calls Tryz.prog 203 #[.float .f64 0] u fun r w'=>r=.returned (.agg #[.bool false,.int .i64 0,.int .i64 (-1074),.int .u64 0])/\Below u.heap.size u w')) :
 Calls Tryz.prog 137 #[.float .f64 b] w fun r w'=>r=.returned (.tuple #[.agg #[.bool false,.slice none 0 0,.int .i64 0],.int .i64 30])/\Below w.heap.size w w':=by
 have k0:(k==0)=false:=by rcases hk with rfl | rfl <;> rfl
 go_enter Tryz.func137,Tryz.ntmps137;go_wp2_with fail;refine(dI (HA.o _)) ?_;rintro r w1 ⟨rfl,rfl⟩;go_wp2_with fail;refine(dI (HS.o _)) ?_;rintro r w2 ⟨rfl,hb⟩;obtain⟨hc,hf⟩:=aU hb;have hz:w.heap.size<w2.heap.size:=by have:=hb.size;simp at this;omega
 have hbw:Below w.heap.size w w2:=((aG _ _).alloc (aB _) _).trans (hb.mono aL);have SB:=au hbw;clear hb hbw;obtain⟨W2,hW2⟩:=ah (w2.alloc (.cells #[.bool false,.int .i64 k,.int .i64 0,.int .u64 0] 222));have hbW:Below w.heap.size w W2:=by rw[hW2];exact SB.o.alloc af _
 have P:W2.heap[w2.heap.size]?=some (.cells #[.bool false,.int .i64 k,.int .i64 0,.int .u64 0] 222 (0,0)):=by rw[hW2,jC]
 have p0:W2.cell? ⟨w2.heap.size,0,none⟩=some (.bool false):=by simp[World.cell?,P]
 have p1:W2.cell? ⟨w2.heap.size,1,none⟩=some (.int .i64 k):=by simp[World.cell?,P]
 have p2:W2.cell? ⟨w2.heap.size,2,none⟩=some (.int .i64 0):=by simp[World.cell?,P]
 have p3:W2.cell? ⟨w2.heap.size,3,none⟩=some (.int .u64 0):=by simp[World.cell?,P]
 have r0:W2.cell? ⟨w.heap.size,0,none⟩=some (.bool false):=by rw[hW2];go_simp
 have r1:W2.cell? ⟨w.heap.size,1,none⟩=some (.slice none 0 0):=by rw[hW2];go_simp
 have r2:W2.cell? ⟨w.heap.size,2,none⟩=some (.int .i64 0):=by rw[hW2];go_simp
 have f0:W2.frozen? ⟨w.heap.size,0,none⟩=false:=by rw[hW2];go_simp
 have f1:W2.frozen? ⟨w.heap.size,1,none⟩=false:=by rw[hW2];go_simp
 have f2:W2.frozen? ⟨w.heap.size,2,none⟩=false:=by rw[hW2];go_simp
 have hz2:w2.heap.size<W2.heap.size:=by rw[hW2];simp
 have hz3:w.heap.size<W2.heap.size:=af
 have SW:=au hbW;go_wp2_with fail;rw[<-hW2];clear hW2 hbW P hc hf SB
 go_region_with (go_at_call 203;refine(H0.o _).mono ?_;rintro r w3 ⟨rfl,hb3⟩;have hb4:Below W2.heap.size W2 w3:=(by first | exact hb3 | exact((aG _ W2).drew).trans (hb3.mono (aB _)));obtain⟨hc,hf⟩:=aU hb4;have S3:=au hb4;clear hb3 hb4)
 all_goals (
  have hbf:=au (SW.o.trans (S3.o.mono af));have YA:w.heap.size<=w3.heap.size:=by have:=S3.o.size;omega
  rcases hk with rfl|rfl
  all_goals (
   go_wp2
   exact aJ (v:=.tuple #[.agg #[.bool false,.slice none 0 0,.int .i64 0],.int .i64 30]) (by simp[results,Tryz.results137,go_sem,hc,hz3,r0,r1,r2]) rfl ⟨rfl,Below.qR (Below.qR (Below.qR hbf.o _ _ _ (aB _) YA) _ _ _ (aB _) (by simpa [World.setCell] using YA)) _ _ _ (aB _) (by simpa [World.setCell] using YA)⟩))
theorem RX(s:Bool)(e f:Nat)(he:e<2048)(hf:f<4503599627370496)(w:World)(hT:bO w) :
 Calls Tryz.prog 137 #[.float .f64 (B.bw s e f)] w fun r w'=>OAns w.heap.size w' r (ofR s e f) (ofE e)/\Below w.heap.size w w':=by
 have HA:Hid (∀ u,Calls Tryz.prog 215 #[.float .f64 (B.bw s e f)] u fun r w'=>r=.returned (.float .f64 (B.bw false e f))/\w'=u):=fun u=>B.Dc s e f he hf u;have HS:∀ u,Calls Tryz.prog 203 #[.float .f64 (B.bw false e f)] u fun r w'=>r=.returned (.agg #[.bool (B.ng false e f),.int .i64 (B.cls e f),.int .i64 (B.xp e),.int .u64 (B.fr e f)])/\Below u.heap.size u w':=fun u=>B.mE false e f he hf u;have H0:Hid (∀ u,Calls Tryz.prog 203 #[.float .f64 0] u fun r w'=>r=.returned (.agg #[.bool false,.int .i64 0,.int .i64 (-1074),.int .u64 0])/\Below u.heap.size u w'):=fun u=>B.mE false 0 0 af af u;have hng:B.ng false e f=false:=by unfold B.ng;split <;> rfl
 rw[hng] at HS;unfold ofR ofE
 by_cases h7:e=2047
 · rw[if_pos h7,if_pos h7];have h2:B.xp e=0/\B.fr e f=0:=by unfold B.xp B.fr;rw[if_pos h7,if_pos h7];exact⟨rfl,rfl⟩
   rw[h2.1,h2.2] at HS;have hk:B.cls e f=3\/B.cls e f=4:=by unfold B.cls;rw[if_pos h7];split <;> simp
   exact(VW _ _ _ w hk HA (hid HS) H0).mono fun r w' ⟨h1,h3⟩=>⟨⟨_,h1,Nt.nil _ _⟩,h3⟩
 · rw[if_neg h7,if_neg h7];have hx:B.xp e=(if e=0 then -1074 else(e:Int)-1075):=by unfold B.xp;rw[if_neg h7]
   have hfr:B.fr e f=(((if e=0 then f else f+4503599627370496:Nat)):Int):=by unfold B.fr;rw[if_neg h7];split <;> simp
   rw[hx,hfr] at HS
   by_cases h0:e=0/\f=0
   · obtain⟨rfl,rfl⟩:=h0;rw[show B.cls 0 0=0 from rfl] at HS;simp only[if_pos,Int.ofNat_zero] at HS;rw[if_pos rfl,gz];exact(Oo _ _ w HA (hid HS) H0).mono fun r w' ⟨h1,h3⟩=>⟨⟨_,h1,Nt.nil _ _⟩,h3⟩
   · have hcl:B.cls e f=1\/B.cls e f=2:=by
      unfold B.cls;rw[if_neg h7]
      by_cases h1:e=0
      · rw[if_pos h1,if_neg (fun h=>h0 ⟨h1,h⟩)];simp
      · rw[if_neg h1];simp
     obtain⟨F,hF⟩:∃ F:Nat,(if e=0 then f else f+4503599627370496:Nat)=F:=⟨_,rfl⟩;obtain⟨x,jl⟩:∃ x:Int,(if e=0 then -1074 else(e:Int)-1075)=x:=⟨_,rfl⟩;have hFb:F<9007199254740992:=by rw[<-hF];split <;> omega
     have hxb:-1100<=x/\x<=1000:=by rw[<-jl];split <;> omega
     rw[hF,jl] at HS |-;have ho:B.odd e f=false:=by unfold B.odd;simp[h7]
     have hz:(e==0&&f==0)=false:=by
      cases h1:(e==0&&f==0)
      · rfl
      · exact absurd (by simpa using h1) h0
     have hb2:B.bw false e f=B.bw s e f%9223372036854775808:=by
      have h1:=B.Zo s e f he hf;have h2:(B.bw false e f:Int)=(e:Int)*4503599627370496+f:=by unfold B.bw;simp
      omega
     rw[hb2] at HA HS;obtain⟨d,hd⟩:=VT s F x hFb hxb.1 hxb.2;have:=VU s (B.bw s e f) F (B.cls e f) x w hT hFb hxb.1 hxb.2 HA (hid HS) H0 (B.LX s e f he hf ho hz) (by rcases hcl with h | h <;> rw[h] <;> rfl) (by rcases hcl with h | h <;> rw[h] <;> rfl) (by rcases hcl with h | h <;> rw[h] <;> rfl);refine this.mono fun r w' ⟨⟨v,h1,h2⟩,h3⟩=>⟨⟨v,?_,h2⟩,h3⟩;rw[h1,hd];rfl
end
section
open Go.RowKit
theorem Df (n:Int) (m:Nat) (X:Nat) (dn:Bool) (de:Int) (er:Int) (w:World) (h0:n<0) (h1:-9223372036854775808<=n) (hm:(ws m).length<=100) (hl:(ws X).length<=8192) (e1:IntKind.u64.wrap (-IntKind.u64.wrap n)=(m:Int))
 (HO:Hid (∀ u,Calls Tryz.prog 193 #[.int .u64 (m:Int)] u fun r w'=>∃ v,r=.returned v/\Nt u.heap.size w' v m/\Below u.heap.size u w'))
 (HM:Hid (∀ (u:World) (a:Option Addr) (c:Nat),Below w.heap.size w u->Arg u a (ws m).length c (ws m)->Calls Tryz.prog 192 #[.bool true,.slice a (ws m).length c,.int .i64 0] u fun r w'=>(∃ v,r=.returned (.tuple #[.agg #[.bool dn,v,.int .i64 de],.int .i64 er])/\Nt u.heap.size w' v X)/\Below u.heap.size u w')) :
 Calls Tryz.prog 113 #[.int .i64 n] w fun r w'=>(∃ v,r=.returned (.agg #[.bool dn,v,.int .i64 de])/\Nt w.heap.size w' v X)/\Below w.heap.size w w':=by
 go_enter Tryz.func113,Tryz.ntmps113;go_wp2_with fail
 try rw[e1]
 refine(dI (HO.o _)) ?_;rintro r w1 ⟨v,rfl,hN,hb⟩;obtain⟨a1,c1,rfl,A1⟩:=hN.arg af;have hz:w.heap.size<w1.heap.size:=by have:=hb.size;simp at this;omega
 have hbw:Below w.heap.size w w1:=(ag w (.cells #[.bool false,.slice none 0 0,.int .i64 0] 77)).trans (hb.mono aL);have S1:=au hbw;have H2:=hid (HM.o w1 a1 c1 hbw A1);obtain⟨hc,hf⟩:=aU hb;clear hN hb A1 hbw;go_wp2_with fail;refine H2.o.mono ?_;rintro r w2 ⟨⟨v,rfl,hN⟩,hb2⟩;obtain⟨a2,c2,rfl,_⟩:=hN.arg af;obtain⟨hc2,hf2⟩:=aU hb2;have hz2:w.heap.size<w2.heap.size:=by have:=hb2.size;omega
 have HF:=au (show Fin w.heap.size w1.heap.size w w2 (.slice a2 (ws X).length c2) X from⟨hN,S1.o.trans (hb2.mono af),af⟩);clear hN hb2;go_wp2;exact aJ (v:=.agg #[.bool dn,.slice a2 (ws X).length c2,.int .i64 de]) (by simp[results,Tryz.results113,go_sem,hc,hc2,hz,hz2]) rfl (Fin.dval (m:=w1.heap.size) (by repeat (first | exact HF.o | refine Fin.alloc ?_ _ | refine Fin.set ?_ _ _ _ af af)) af)
theorem Dg (n:Int) (m:Nat) (X:Nat) (dn:Bool) (de:Int) (er:Int) (w:World) (h0:0<=n) (h1:n<=9223372036854775807) (hd:decide (n<0)=false) (hm:(ws m).length<=100) (hl:(ws X).length<=8192) (e1:IntKind.u64.wrap n=n)
 (HO:Hid (∀ u,Calls Tryz.prog 193 #[.int .u64 n] u fun r w'=>∃ v,r=.returned v/\Nt u.heap.size w' v m/\Below u.heap.size u w'))
 (HM:Hid (∀ (u:World) (a:Option Addr) (c:Nat),Below w.heap.size w u->Arg u a (ws m).length c (ws m)->Calls Tryz.prog 192 #[.bool false,.slice a (ws m).length c,.int .i64 0] u fun r w'=>(∃ v,r=.returned (.tuple #[.agg #[.bool dn,v,.int .i64 de],.int .i64 er])/\Nt u.heap.size w' v X)/\Below u.heap.size u w')) :
 Calls Tryz.prog 113 #[.int .i64 n] w fun r w'=>(∃ v,r=.returned (.agg #[.bool dn,v,.int .i64 de])/\Nt w.heap.size w' v X)/\Below w.heap.size w w':=by
 go_enter Tryz.func113,Tryz.ntmps113;go_wp2_with fail
 try rw[e1]
 refine(dI (HO.o _)) ?_;rintro r w1 ⟨v,rfl,hN,hb⟩;obtain⟨a1,c1,rfl,A1⟩:=hN.arg af;have hz:w.heap.size<w1.heap.size:=by have:=hb.size;simp at this;omega
 have hbw:Below w.heap.size w w1:=(ag w (.cells #[.bool false,.slice none 0 0,.int .i64 0] 77)).trans (hb.mono aL);have S1:=au hbw;have H2:=hid (HM.o w1 a1 c1 hbw A1);obtain⟨hc,hf⟩:=aU hb;clear hN hb A1 hbw;go_wp2_with fail;refine H2.o.mono ?_;rintro r w2 ⟨⟨v,rfl,hN⟩,hb2⟩;obtain⟨a2,c2,rfl,_⟩:=hN.arg af;obtain⟨hc2,hf2⟩:=aU hb2;have hz2:w.heap.size<w2.heap.size:=by have:=hb2.size;omega
 have HF:=au (show Fin w.heap.size w1.heap.size w w2 (.slice a2 (ws X).length c2) X from⟨hN,S1.o.trans (hb2.mono af),af⟩);clear hN hb2;go_wp2;exact aJ (v:=.agg #[.bool dn,.slice a2 (ws X).length c2,.int .i64 de]) (by simp[results,Tryz.results113,go_sem,hc,hc2,hz,hz2]) rfl (Fin.dval (m:=w1.heap.size) (by repeat (first | exact HF.o | refine Fin.alloc ?_ _ | refine Fin.set ?_ _ _ _ af af)) af)
theorem JC(n:Int)(h0:-9223372036854775808<=n)(h1:n<=9223372036854775807):(ws n.natAbs).length<=100:=by
 have:=(cO n.natAbs 2).2 (by rw[show pw 2=18446744073709551616 from rfl];omega);omega
theorem si(n:Int)(w:World)(hT:bO w)(h0:-9223372036854775808<=n)(h1:n<=9223372036854775807) :
 Calls Tryz.prog 113 #[.int .i64 n] w fun r w'=>fD w.heap.size w' r (mkS (decide (n<0)) n.natAbs 0)/\Below w.heap.size w w':=by
 have hl:=JC n h0 h1
 have HM:∀ (s:Bool) (u:World) (a:Option Addr) (c:Nat),Below w.heap.size w u->Arg u a (ws n.natAbs).length c (ws n.natAbs)->Calls Tryz.prog 192 #[.bool s,.slice a (ws n.natAbs).length c,.int .i64 0] u fun r w'=>dh u.heap.size w' r (mkS s n.natAbs 0)/\Below u.heap.size u w':=by
  intro s u a c hu hA;have:=fJ hA (hT.belows hu) s 0 af af;exact xr
 by_cases hn:n<0
 · rw[decide_eq_true hn];exact Df n n.natAbs _ _ _ _ w hn h0 hl (bC _ _ _) (by simp[IntKind.wrap,IntKind.bits,IntKind.signed];omega) (hid fun u=>ni _ u af) (hid (HM true))
 · rw[decide_eq_false hn];have e:((n.natAbs:Nat):Int)=n:=af
   exact Dg n n.natAbs _ _ _ _ w af h1 (decide_eq_false hn) hl (bC _ _ _) (by simp[IntKind.wrap,IntKind.bits,IntKind.signed];omega) (hid fun u=>by have:=ni n.natAbs u af;rw[e] at this;exact this) (hid (HM false))
theorem Nt.cB{lo:Nat}{w:World}{a:Option Addr}{n c X:Nat}(h:Nt lo w (.slice a n c) X)(hs:(ws X).length<=35184372088832):n=(ws X).length/\Arg w a (ws X).length c (ws X):=by
 obtain⟨a',c',e,A⟩:=h.arg hs
 cases e
 exact⟨rfl,A⟩
theorem len8{X:Nat}(h:bl X<=262144):(ws X).length<=8192:=by rw[qd];omega
theorem lU{X:Nat}(h:bl X<=262144):¬ LG X:=by rw[oK];omega
theorem nz{X Y:Nat}(h:X<=Y):bl X<=bl Y:=by
 by_cases h0:bl X=0
 · omega
 · have h1:=(vH X (bl X-1)).1 af;have:=(vH Y (bl X-1)).2 (aV h1 h);omega
theorem bl_le{X k:Nat}(h:X<2^k):bl X<=k:=by
 by_cases h0:k<bl X
 · have:=(vH X k).1 h0;omega
 · omega
theorem yf{X:Nat}(h:bl X<=262144):aX X (-1)=(X/2,0):=by
 unfold aX;rw[if_neg (lU h)]
 by_cases h0:X=0
 · rw[if_pos h0,h0]
 · rw[if_neg h0,if_pos af];rfl
theorem L6{X k:Nat}(h:bl X<=k+1):X/2<2^k:=by
 have h1:=iF X;have h2:2^bl X<=2^(k+1):=gF af h;rw[fw] at h2;omega
theorem Oq{P Q:Nat}(hP:P%2=1)(hQ:Q%2=1)(bP:bl P<=262144)(bQ:bl Q<=262144):bl (P/2+Q/2)<=262144/\bl (P/2+Q/2+1)<=262144/\2*(P/2+Q/2+1)=P+Q:=by
 have h1:=L6 (X:=P) (k:=262143) bP;have h2:=L6 (X:=Q) (k:=262143) bQ;have key:∀ k:Nat,P/2<2^k->Q/2<2^k->P/2+Q/2+1<2^(k+1):=by intro k;rw[fw];omega
 have h3:=key _ h1 h2;have h4:=bl_le h3;exact⟨aV (nz af) h4,h4,af⟩
theorem FW {w:World}{a b:Option Addr}{l c k d:Nat}{xs ys:List Nat}(h1:Arg w a l c xs) (h2:Arg w b k d ys) (hT:bO w) (neg:Bool) (e:Int) (he0:-1048576<=e) (he1:e<=1048576)
 (P Q:Nat) (hP:val xs=P) (hQ:val ys=Q) (oP:P%2=1) (oQ:Q%2=1) (bP:bl P<=262144) (bQ:bl Q<=262144) :
 Calls Tryz.prog 232 #[.bool neg,.slice a l c,.slice b k d,.int .i64 e] w fun r w'=>dh w.heap.size w' r (mkS neg (P+Q) e)/\Below w.heap.size w w':=by
 obtain⟨b3,b4,e5⟩:=Oq oP oQ bP bQ;rw[<-e5,xY];obtain⟨P2,hP2⟩:∃ x,P/2=x:=⟨_,rfl⟩;obtain⟨Q2,Va⟩:∃ x,Q/2=x:=⟨_,rfl⟩;have l1:(ws P2).length<=8192:=by rw[<-hP2];exact len8 (aV (nz (uU _ _)) bP)
 have l2:(ws Q2).length<=8192:=by rw[<-Va];exact len8 (aV (nz (uU _ _)) bQ)
 have s1:=yf bP;have s2:=yf bQ;rw[hP2] at s1 b3 b4 |-;rw[Va] at s2 b3 b4 |-;obtain⟨V,hV⟩:∃ x,P2+Q2=x:=⟨_,rfl⟩;rw[hV] at b3 b4 |-;obtain⟨H1,hH1⟩:∃ x,V+1=x:=⟨_,rfl⟩;rw[hH1] at b4 |-;have l3:(ws V).length<=8192:=len8 b3;have l4:(ws H1).length<=8192:=len8 b4;have l5:(ws 1).length<=8192:=by rw[Cx];simp
 have HX:=(qs11 h1 h2 hT hP hQ s1 s2 hV hH1 b3 b4);clear h1 h2 hT hP hQ oP oQ bP bQ e5 hP2 Va s1 s2 hV hH1 b3 b4;unfold dh;have hl:=bC neg H1 (e+1);obtain⟨o,ho⟩:∃ o,mkS neg H1 (e+1)=o:=⟨_,rfl⟩;rw[ho] at hl |-;obtain⟨dn,hdn⟩:∃ d,dN o=d:=⟨_,rfl⟩;obtain⟨X,hX⟩:∃ d,dX o=d:=⟨_,rfl⟩;obtain⟨de,hde⟩:∃ d,dE o=d:=⟨_,rfl⟩;obtain⟨er,her⟩:∃ d,qx o=d:=⟨_,rfl⟩;rw[hdn,hX,hde,her];rw[hX] at hl;have HS:=(iq ho hdn hX hde her);clear ho hdn hX hde her;have S0:=au (show Below (w.alloc (.cells #[.bool false,.slice none 0 0,.int .i64 0] 77)).heap.size (w.alloc (.cells #[.bool false,.slice none 0 0,.int .i64 0] 77)) (w.alloc (.cells #[.bool false,.slice none 0 0,.int .i64 0] 77)) from aG _ _);have B0:=au (show Below w.heap.size w (w.alloc (.cells #[.bool false,.slice none 0 0,.int .i64 0] 77)) from ag w _);go_enter Tryz.func232,Tryz.ntmps232;obtain C:=S0.o;have BW:Below w.heap.size w (w.alloc (.cells #[.bool false,.slice none 0 0,.int .i64 0] 77)):=B0.o.trans (C.mono aL);have H:=hid (fI (V:=P2) (-1) (HX.o.1.below BW) (by rw[HX.o.r3.1];exact HX.o.r5.1) af af);clear C BW;go_wp2_with fail;refine H.o.mono ?_;rintro r u1 ⟨v,rfl,hN,hb⟩;obtain⟨a1,c1,rfl,_⟩:=hN.arg af;obtain C:=S0.o;have hz1:=C.size;have S1:=(aT (C.trans (hb.mono C.size)) (hN.mono C.size));clear C hb H hN;obtain⟨C,N1⟩:=S1.o;have BW:Below w.heap.size w u1:=B0.o.trans (C.mono aL);have H:=hid (fI (V:=Q2) (-1) (HX.o.2.1.below BW) (by rw[HX.o.r4.1];exact HX.o.r6.1) af af);clear C BW N1;go_wp2_with fail;refine H.o.mono ?_;rintro r u2 ⟨v,rfl,hN,hb⟩;obtain⟨a2,c2,rfl,_⟩:=hN.arg af;obtain⟨C,N1⟩:=S1.o;have hz2:=C.size;have S2:=(bM (C.trans (hb.mono C.size)) (N1.below hb) (hN.mono C.size));clear C hb H hN N1;obtain⟨C,N1,N2⟩:=S2.o;have BW:Below w.heap.size w u2:=B0.o.trans (C.mono aL);have H:=hid (wI (V:=V) (N1.cB af).2 (N2.cB af).2 (by rw[aC,aC];exact wK (lU HX.o.2.2.2.2.2.2.2.2.2.1) HX.o.r7.1));clear C BW N1 N2;go_wp2_with fail;refine H.o.mono ?_;rintro r u3 ⟨v,rfl,hN,hb⟩;obtain⟨a3,c3,rfl,_⟩:=hN.arg af;obtain⟨C,N1,N2⟩:=S2.o;have hz3:=C.size;have S3:=(mh (C.trans (hb.mono C.size)) (N1.below hb) (N2.below hb) (hN.mono C.size));clear C hb H hN N1 N2;obtain⟨C,N1,N2,N3⟩:=S3.o;have BW:Below w.heap.size w u3:=B0.o.trans (C.mono aL);have H:=hid (ni 1 u3 af);clear C BW N1 N2 N3;go_wp2_with fail;refine H.o.mono ?_;rintro r u4 ⟨v,rfl,hN,hb⟩;obtain⟨a4,c4,rfl,_⟩:=hN.arg af;obtain⟨C,N1,N2,N3⟩:=S3.o;have Ol:=C.size;have S4:=(iq (C.trans (hb.mono C.size)) (N1.below hb) (N2.below hb) (N3.below hb) (hN.mono C.size));clear C hb H hN N1 N2 N3;obtain⟨C,N1,N2,N3,N4⟩:=S4.o;have BW:Below w.heap.size w u4:=B0.o.trans (C.mono aL);have H:=hid (wI (V:=H1) (N3.cB af).2 (N4.cB af).2 (by rw[aC,aC];exact wK (lU HX.o.2.2.2.2.2.2.2.2.2.2) HX.o.r8.1));clear C BW N1 N2 N3 N4;go_wp2_with fail;refine H.o.mono ?_;rintro r u5 ⟨v,rfl,hN,hb⟩;obtain⟨a5,c5,rfl,_⟩:=hN.arg af;obtain⟨C,N1,N2,N3,N4⟩:=S4.o;have Om:=C.size;have S5:=(rG (C.trans (hb.mono C.size)) (N1.below hb) (N2.below hb) (N3.below hb) (N4.below hb) (hN.mono C.size));clear C hb H hN N1 N2 N3 N4;obtain⟨C,N1,N2,N3,N4,N5⟩:=S5.o;have BW:Below w.heap.size w u5:=B0.o.trans (C.mono aL);have H0:=show Calls Tryz.prog 192 #[.bool neg,.slice a5 (ws H1).length c5,.int .i64 (e+1)] u5 fun r w'=>dh u5.heap.size w' r (mkS neg H1 (e+1))/\Below u5.heap.size u5 w' from by have:=fJ (N5.cB af).2 (HX.o.r2.1.belows BW) neg (e+1) af af;rw[aC] at this;exact this
 unfold dh at H0;rw[HS.o.1,HS.o.2.1,HS.o.r2.1,HS.o.r3.1,HS.o.r4] at H0;have H:=hid H0;clear C BW H0 N1 N2 N3 N4 N5;go_wp2_with fail;refine H.o.mono ?_;rintro r uu ⟨⟨v,rfl,hN⟩,hb⟩;obtain⟨aa,cc,rfl,_⟩:=hN.arg af;obtain⟨C,N1,N2,N3,N4,N5⟩:=S5.o;have hbb:=C.trans (hb.mono C.size);obtain⟨hc,hf⟩:=aU hbb;have HF:=au (Fin.of 1 B0.o aL (hN.mono C.size) hbb);have hz:w.heap.size<uu.heap.size:=by have:=hbb.size;simp at this;omega
 clear C hb hN hbb H N1 N2 N3 N4 N5;go_wp2;exact aJ (v:=.tuple #[.agg #[.bool dn,.slice aa (ws X).length cc,.int .i64 de],.int .i64 er]) (by simp[results,Tryz.results232,go_sem,hc]) rfl (Fin.qy (m:=w.heap.size+1) (by repeat (first | exact HF.o | refine Fin.alloc ?_ _ | refine Fin.set ?_ _ _ _ af af)) af)
theorem VX {w:World}{a b:Option Addr}{l c k d:Nat}{xs ys:List Nat}(h1:Arg w a l c xs) (h2:Arg w b k d ys) (hT:bO w) (neg:Bool) (e:Int) (he0:-1048576<=e) (he1:e<=1048576)
 (P Q:Nat) (hP:val xs=P) (hQ:val ys=Q) (oP:P%2=1) (oQ:Q%2=1) (bP:bl P<=262144) (bQ:bl Q<=262144) :
 Calls Tryz.prog 173 #[.bool neg,.slice a l c,.slice b k d,.int .i64 e] w fun r w'=>dh w.heap.size w' r (mkS neg (P+Q) e)/\Below w.heap.size w w':=by
 have HX:=(Yr h1 h2 hT hP hQ oP oQ bP bQ);clear h1 h2 hT hP hQ oP oQ bP bQ;unfold dh;have hl:=bC neg (P+Q) e;obtain⟨o,ho⟩:∃ o,mkS neg (P+Q) e=o:=⟨_,rfl⟩;rw[ho] at hl |-;obtain⟨dn,hdn⟩:∃ d,dN o=d:=⟨_,rfl⟩;obtain⟨X,hX⟩:∃ d,dX o=d:=⟨_,rfl⟩;obtain⟨de,hde⟩:∃ d,dE o=d:=⟨_,rfl⟩;obtain⟨er,her⟩:∃ d,qx o=d:=⟨_,rfl⟩;rw[hdn,hX,hde,her];rw[hX] at hl;have HS:=(iq ho hdn hX hde her);clear ho hdn hX hde her;have S0:=au (show Below (w.alloc (.cells #[.bool false,.slice none 0 0,.int .i64 0] 77)).heap.size (w.alloc (.cells #[.bool false,.slice none 0 0,.int .i64 0] 77)) (w.alloc (.cells #[.bool false,.slice none 0 0,.int .i64 0] 77)) from aG _ _);have B0:=au (show Below w.heap.size w (w.alloc (.cells #[.bool false,.slice none 0 0,.int .i64 0] 77)) from ag w _);go_enter Tryz.func173,Tryz.ntmps173;obtain C:=S0.o;have BW:Below w.heap.size w (w.alloc (.cells #[.bool false,.slice none 0 0,.int .i64 0] 77)):=B0.o.trans (C.mono aL);have H:=hid (show Calls Tryz.prog 231 #[.slice a l c,.int .i64 0] (w.alloc (.cells #[.bool false,.slice none 0 0,.int .i64 0] 77)) fun r w'=>r=.returned (.bool true)/\w'=(w.alloc (.cells #[.bool false,.slice none 0 0,.int .i64 0] 77)) from by have A:=HX.o.1.below BW;have:=wN xs a l c _ 0 _ A.len A.wf A.rd af;rw[jr,Nat.div_one,HX.o.r3.1,HX.o.r5.1] at this;exact this);clear C BW;go_wp2_with fail;refine H.o.mono ?_;rintro r ww ⟨rfl,hw⟩;rw[hw];clear H hw ww;obtain C:=S0.o;have BW:Below w.heap.size w (w.alloc (.cells #[.bool false,.slice none 0 0,.int .i64 0] 77)):=B0.o.trans (C.mono aL);have H0:=FW (HX.o.1.below BW) (HX.o.2.1.below BW) (HX.o.r2.1.belows BW) neg e he0 he1 P Q HX.o.r3.1 HX.o.r4.1 HX.o.r5.1 HX.o.r6.1 HX.o.r7.1 HX.o.r8;unfold dh at H0;rw[HS.o.1,HS.o.2.1,HS.o.r2.1,HS.o.r3.1,HS.o.r4] at H0;have H:=hid H0;clear C BW H0;go_wp2_with fail;refine H.o.mono ?_;rintro r uu ⟨⟨v,rfl,hN⟩,hb⟩;obtain⟨aa,cc,rfl,_⟩:=hN.arg af;obtain C:=S0.o;have hbb:=C.trans (hb.mono C.size);obtain⟨hc,hf⟩:=aU hbb;have HF:=au (Fin.of 1 B0.o aL (hN.mono C.size) hbb);have hz:w.heap.size<uu.heap.size:=by have:=hbb.size;simp at this;omega
 clear C hb hN hbb H;go_wp2;exact aJ (v:=.tuple #[.agg #[.bool dn,.slice aa (ws X).length cc,.int .i64 de],.int .i64 er]) (by simp[results,Tryz.results173,go_sem,hc]) rfl (Fin.qy (m:=w.heap.size+1) (by repeat (first | exact HF.o | refine Fin.alloc ?_ _ | refine Fin.set ?_ _ _ _ af af)) af)
theorem RY {w:World}{a b:Option Addr}{l c k d:Nat}{xs ys:List Nat}(h1:Arg w a l c xs) (h2:Arg w b k d ys) (hT:bO w) (neg:Bool) (e:Int) (he0:-1048576<=e) (he1:e<=1048576)
 (P Q:Nat) (hP:val xs=P) (hQ:val ys=Q) (oP:P%2=0) (hs:bl (P+Q)<=262144) :
 Calls Tryz.prog 173 #[.bool neg,.slice a l c,.slice b k d,.int .i64 e] w fun r w'=>dh w.heap.size w' r (mkS neg (P+Q) e)/\Below w.heap.size w w':=by
 obtain⟨V,hV⟩:∃ x,P+Q=x:=⟨_,rfl⟩;rw[hV] at hs |-;have l1:=len8 hs;have HX:=(EG h1 h2 hT hP hQ oP hs hV);clear h1 h2 hT hP hQ oP hs hV;unfold dh;have hl:=bC neg V e;obtain⟨o,ho⟩:∃ o,mkS neg V e=o:=⟨_,rfl⟩;rw[ho] at hl |-;obtain⟨dn,hdn⟩:∃ d,dN o=d:=⟨_,rfl⟩;obtain⟨X,hX⟩:∃ d,dX o=d:=⟨_,rfl⟩;obtain⟨de,hde⟩:∃ d,dE o=d:=⟨_,rfl⟩;obtain⟨er,her⟩:∃ d,qx o=d:=⟨_,rfl⟩;rw[hdn,hX,hde,her];rw[hX] at hl;have HS:=(iq ho hdn hX hde her);clear ho hdn hX hde her;have S0:=au (show Below (w.alloc (.cells #[.bool false,.slice none 0 0,.int .i64 0] 77)).heap.size (w.alloc (.cells #[.bool false,.slice none 0 0,.int .i64 0] 77)) (w.alloc (.cells #[.bool false,.slice none 0 0,.int .i64 0] 77)) from aG _ _);have B0:=au (show Below w.heap.size w (w.alloc (.cells #[.bool false,.slice none 0 0,.int .i64 0] 77)) from ag w _);go_enter Tryz.func173,Tryz.ntmps173;obtain C:=S0.o;have BW:Below w.heap.size w (w.alloc (.cells #[.bool false,.slice none 0 0,.int .i64 0] 77)):=B0.o.trans (C.mono aL);have H:=hid (show Calls Tryz.prog 231 #[.slice a l c,.int .i64 0] (w.alloc (.cells #[.bool false,.slice none 0 0,.int .i64 0] 77)) fun r w'=>r=.returned (.bool false)/\w'=(w.alloc (.cells #[.bool false,.slice none 0 0,.int .i64 0] 77)) from by have A:=HX.o.1.below BW;have:=wN xs a l c _ 0 _ A.len A.wf A.rd af;rw[jr,Nat.div_one,HX.o.r3.1,HX.o.r5.1] at this;exact this);clear C BW;go_wp2_with fail;refine H.o.mono ?_;rintro r ww ⟨rfl,hw⟩;rw[hw];clear H hw ww;obtain C:=S0.o;have BW:Below w.heap.size w (w.alloc (.cells #[.bool false,.slice none 0 0,.int .i64 0] 77)):=B0.o.trans (C.mono aL);have H:=hid (wI (V:=V) (HX.o.1.below BW) (HX.o.2.1.below BW) (by rw[HX.o.r3.1,HX.o.r4.1];exact wK (lU HX.o.r6.1) HX.o.r7));clear C BW;go_wp2_with fail;refine H.o.mono ?_;rintro r u1 ⟨v,rfl,hN,hb⟩;obtain⟨a1,c1,rfl,_⟩:=hN.arg af;obtain C:=S0.o;have hz1:=C.size;have S1:=(aT (C.trans (hb.mono C.size)) (hN.mono C.size));clear C hb H hN;obtain⟨C,N1⟩:=S1.o;have BW:Below w.heap.size w u1:=B0.o.trans (C.mono aL);have H0:=show Calls Tryz.prog 192 #[.bool neg,.slice a1 (ws V).length c1,.int .i64 e] u1 fun r w'=>dh u1.heap.size w' r (mkS neg V e)/\Below u1.heap.size u1 w' from by have:=fJ (N1.cB af).2 (HX.o.r2.1.belows BW) neg e af af;rw[aC] at this;exact this
 unfold dh at H0;rw[HS.o.1,HS.o.2.1,HS.o.r2.1,HS.o.r3.1,HS.o.r4] at H0;have H:=hid H0;clear C BW H0 N1;go_wp2_with fail;refine H.o.mono ?_;rintro r uu ⟨⟨v,rfl,hN⟩,hb⟩;obtain⟨aa,cc,rfl,_⟩:=hN.arg af;obtain⟨C,N1⟩:=S1.o;have hbb:=C.trans (hb.mono C.size);obtain⟨hc,hf⟩:=aU hbb;have HF:=au (Fin.of 1 B0.o aL (hN.mono C.size) hbb);have hz:w.heap.size<uu.heap.size:=by have:=hbb.size;simp at this;omega
 clear C hb hN hbb H N1;go_wp2;exact aJ (v:=.tuple #[.agg #[.bool dn,.slice aa (ws X).length cc,.int .i64 de],.int .i64 er]) (by simp[results,Tryz.results173,go_sem,hc]) rfl (Fin.qy (m:=w.heap.size+1) (by repeat (first | exact HF.o | refine Fin.alloc ?_ _ | refine Fin.set ?_ _ _ _ af af)) af)
theorem Ot{w:World}{a b:Option Addr}{n c m d:Nat}{xs ys:List Nat}(h1:Arg w a n c xs)(h2:Arg w b m d ys)(h:LG (val xs+val ys)) :
 Calls Tryz.prog 233 #[.slice a n c,.slice b m d] w fun r w'=>∃ v,r=.returned (.tuple #[v,.int .i64 2])/\Nt w.heap.size w' v 0/\Below w.heap.size w w' :=
 (Ll xs ys a b n c m d w.heap.size w h1.len h2.len h1.cap h2.cap (by have:=h1.big;omega) (by have:=h2.big;omega) h1.wf h2.wf h1.rd h2.rd (aB _)).mono fun r w' ⟨⟨v,h3,h4⟩,h5⟩=>by
  have e:vY (val xs) (val ys)=(0,2):=by unfold vY;rw[if_pos h]
  rw[e] at h3 h4;exact⟨v,h3,h4,h5⟩
theorem RZ {w:World}{a b:Option Addr}{l c k d:Nat}{xs ys:List Nat}(h1:Arg w a l c xs) (h2:Arg w b k d ys) (hT:bO w) (neg:Bool) (e:Int) (he0:-1048576<=e) (he1:e<=1048576)
 (P Q:Nat) (hP:val xs=P) (hQ:val ys=Q) (oP:P%2=0) (hs:262144<bl (P+Q)) :
 Calls Tryz.prog 173 #[.bool neg,.slice a l c,.slice b k d,.int .i64 e] w fun r w'=>dh w.heap.size w' r none/\Below w.heap.size w w':=by
 have l0:(ws 0).length=0:=by rw[bB];rfl
 have HX:=(EF h1 h2 hT hP hQ oP hs);clear h1 h2 hT hP hQ oP hs;have S0:=au (show Below (w.alloc (.cells #[.bool false,.slice none 0 0,.int .i64 0] 77)).heap.size (w.alloc (.cells #[.bool false,.slice none 0 0,.int .i64 0] 77)) (w.alloc (.cells #[.bool false,.slice none 0 0,.int .i64 0] 77)) from aG _ _);have B0:=au (show Below w.heap.size w (w.alloc (.cells #[.bool false,.slice none 0 0,.int .i64 0] 77)) from ag w _);go_enter Tryz.func173,Tryz.ntmps173;obtain C:=S0.o;have BW:Below w.heap.size w (w.alloc (.cells #[.bool false,.slice none 0 0,.int .i64 0] 77)):=B0.o.trans (C.mono aL);have H:=hid (show Calls Tryz.prog 231 #[.slice a l c,.int .i64 0] (w.alloc (.cells #[.bool false,.slice none 0 0,.int .i64 0] 77)) fun r w'=>r=.returned (.bool false)/\w'=(w.alloc (.cells #[.bool false,.slice none 0 0,.int .i64 0] 77)) from by have A:=HX.o.1.below BW;have:=wN xs a l c _ 0 _ A.len A.wf A.rd af;rw[jr,Nat.div_one,HX.o.r3.1,HX.o.r5.1] at this;exact this);clear C BW;go_wp2_with fail;refine H.o.mono ?_;rintro r ww ⟨rfl,hw⟩;rw[hw];clear H hw ww;obtain C:=S0.o;have BW:Below w.heap.size w (w.alloc (.cells #[.bool false,.slice none 0 0,.int .i64 0] 77)):=B0.o.trans (C.mono aL);have H:=hid (Ot (HX.o.1.below BW) (HX.o.2.1.below BW) (by rw[HX.o.r3.1,HX.o.r4.1,oK];exact HX.o.r6));clear C BW;go_wp2_with fail;refine H.o.mono ?_;rintro r u1 ⟨v,rfl,hN,hb⟩;obtain⟨a1,c1,rfl,_⟩:=hN.arg af;obtain C:=S0.o;have hz1:=C.size;have S1:=(aT (C.trans (hb.mono C.size)) (hN.mono C.size));clear C hb H hN;obtain⟨C,N1⟩:=S1.o;obtain⟨hc,hf⟩:=aU C;have HF:=au (show Fin w.heap.size (w.heap.size+1) w u1 (.slice none 0 0) 0 from⟨Nt.nil _ _,B0.o.trans (C.mono aL),by have:=C.size;simp at this;omega⟩);have hz:w.heap.size<u1.heap.size:=by have:=C.size;simp at this;omega
 clear C N1;go_wp2;exact aJ (v:=.tuple #[.agg #[.bool false,.slice none 0 0,.int .i64 0],.int .i64 2]) (by simp[results,Tryz.results173,go_sem,hc]) rfl (Fin.qy (m:=w.heap.size+1) (by repeat (first | exact HF.o | refine Fin.alloc ?_ _ | refine Fin.set ?_ _ _ _ af af)) af)
theorem VY {w:World}{a b:Option Addr}{l c k d:Nat}{xs ys:List Nat}(h1:Arg w a l c xs) (h2:Arg w b k d ys) (hT:bO w) (neg:Bool) (e:Int) (he0:-1048576<=e) (he1:e<=1048576)
 (P Q:Nat) (hP:val xs=P) (hQ:val ys=Q) (oQ:Q%2=1) (bP:bl P<=262144) (bQ:bl Q<=262144) :
 Calls Tryz.prog 173 #[.bool neg,.slice a l c,.slice b k d,.int .i64 e] w fun r w'=>dh w.heap.size w' r (mkS neg (P+Q) e)/\Below w.heap.size w w':=by
 rcases IX P with oP|oP
 · by_cases hs:bl (P+Q)<=262144
   · exact RY h1 h2 hT neg e he0 he1 P Q hP hQ oP hs
   · have e1:mkS neg (P+Q) e=none:=by rw[LJ _ _ _ af,if_pos (.inl af)]
     rw[e1];exact RZ h1 h2 hT neg e he0 he1 P Q hP hQ oP af
 · exact VX h1 h2 hT neg e he0 he1 P Q hP hQ oP oQ bP bQ
theorem R3 {w:World}{a b:Option Addr}{l c k d:Nat}{xs ys:List Nat}(h1:Arg w a l c xs) (h2:Arg w b k d ys) (hT:bO w) (neg:Bool) (e:Int) (he0:-1048576<=e) (he1:e<=1048576)
 (P Q:Nat) (hP:val xs=P) (hQ:val ys=Q) (bP:bl P<=262144) (bQ:bl Q<=262144) (hlt:P<Q) :
 Calls Tryz.prog 174 #[.bool neg,.slice a l c,.slice b k d,.int .i64 e] w fun r w'=>dh w.heap.size w' r (mkS (!neg) (Q-P) e)/\Below w.heap.size w w':=by
 obtain⟨z,hz0⟩:∃ z,aZ P Q=z:=⟨_,rfl⟩;have hzz:z=-1:=by rw[<-hz0];exact wH hlt
 obtain⟨V,hV⟩:∃ x,Q-P=x:=⟨_,rfl⟩;have bV:bl V<=262144:=by rw[<-hV];exact aV (nz (Nat.sub_le _ _)) bQ
 rw[hV];have l1:=len8 bV;have hsub:V+P=Q:=af
 have HX:=(Yr h1 h2 hT hP hQ hz0 hsub bP bQ);subst hzz;clear h1 h2 hT hP hQ hz0 hsub bP bQ hlt hV bV;unfold dh;have hl:=bC (!neg) V e;obtain⟨o,ho⟩:∃ o,mkS (!neg) V e=o:=⟨_,rfl⟩;rw[ho] at hl |-;obtain⟨dn,hdn⟩:∃ d,dN o=d:=⟨_,rfl⟩;obtain⟨X,hX⟩:∃ d,dX o=d:=⟨_,rfl⟩;obtain⟨de,hde⟩:∃ d,dE o=d:=⟨_,rfl⟩;obtain⟨er,her⟩:∃ d,qx o=d:=⟨_,rfl⟩;rw[hdn,hX,hde,her];rw[hX] at hl;have HS:=(iq ho hdn hX hde her);clear ho hdn hX hde her;have S0:=au (show Below (w.alloc (.cells #[.bool false,.slice none 0 0,.int .i64 0] 77)).heap.size (w.alloc (.cells #[.bool false,.slice none 0 0,.int .i64 0] 77)) (w.alloc (.cells #[.bool false,.slice none 0 0,.int .i64 0] 77)) from aG _ _);have B0:=au (show Below w.heap.size w (w.alloc (.cells #[.bool false,.slice none 0 0,.int .i64 0] 77)) from ag w _);go_enter Tryz.func174,Tryz.ntmps174;obtain C:=S0.o;have BW:Below w.heap.size w (w.alloc (.cells #[.bool false,.slice none 0 0,.int .i64 0] 77)):=B0.o.trans (C.mono aL);have H:=hid (show Calls Tryz.prog 234 #[.slice a l c,.slice b k d] (w.alloc (.cells #[.bool false,.slice none 0 0,.int .i64 0] 77)) fun r w'=>r=.returned (.int .i64 (-1))/\Below (w.alloc (.cells #[.bool false,.slice none 0 0,.int .i64 0] 77)).heap.size (w.alloc (.cells #[.bool false,.slice none 0 0,.int .i64 0] 77)) w' from CG (HX.o.1.below BW) (HX.o.2.1.below BW) (-1) (by rw[HX.o.r3.1,HX.o.r4.1];exact HX.o.r5.1));clear C BW;go_wp2_with fail;refine H.o.mono ?_;rintro r u1 ⟨rfl,hb⟩;obtain C:=S0.o;have hz1:=C.size;have S1:=au (C.trans (hb.mono C.size));clear C hb H;obtain C:=S1.o;have BW:Below w.heap.size w u1:=B0.o.trans (C.mono aL);have H:=hid (wJ (V:=V) (HX.o.2.1.below BW) (HX.o.1.below BW) (by rw[HX.o.r4.1,HX.o.r3.1];exact wL (lU HX.o.r8) (lU HX.o.r7.1) HX.o.r6.1));clear C BW;go_wp2_with fail;refine H.o.mono ?_;rintro r u2 ⟨v,rfl,hN,hb⟩;obtain⟨a2,c2,rfl,_⟩:=hN.arg af;obtain C:=S1.o;have hz2:=C.size;have S2:=(aT (C.trans (hb.mono C.size)) (hN.mono C.size));clear C hb H hN;obtain⟨C,N2⟩:=S2.o;have BW:Below w.heap.size w u2:=B0.o.trans (C.mono aL);have H0:=show Calls Tryz.prog 192 #[.bool (!neg),.slice a2 (ws V).length c2,.int .i64 e] u2 fun r w'=>dh u2.heap.size w' r (mkS (!neg) V e)/\Below u2.heap.size u2 w' from by have:=fJ (N2.cB af).2 (HX.o.r2.1.belows BW) (!neg) e af af;rw[aC] at this;exact this
 unfold dh at H0;rw[HS.o.1,HS.o.2.1,HS.o.r2.1,HS.o.r3.1,HS.o.r4] at H0;have H:=hid H0;clear C BW H0 N2;go_wp2_with fail;refine H.o.mono ?_;rintro r uu ⟨⟨v,rfl,hN⟩,hb⟩;obtain⟨aa,cc,rfl,_⟩:=hN.arg af;obtain⟨C,N2⟩:=S2.o;have hbb:=C.trans (hb.mono C.size);obtain⟨hc,hf⟩:=aU hbb;have HF:=au (Fin.of 1 B0.o aL (hN.mono C.size) hbb);have hz:w.heap.size<uu.heap.size:=by have:=hbb.size;simp at this;omega
 clear C hb hN hbb H N2;go_wp2;exact aJ (v:=.tuple #[.agg #[.bool dn,.slice aa (ws X).length cc,.int .i64 de],.int .i64 er]) (by simp[results,Tryz.results174,go_sem,hc]) rfl (Fin.qy (m:=w.heap.size+1) (by repeat (first | exact HF.o | refine Fin.alloc ?_ _ | refine Fin.set ?_ _ _ _ af af)) af)
theorem Ou {w:World}{a b:Option Addr}{l c k d:Nat}{xs ys:List Nat}(h1:Arg w a l c xs) (h2:Arg w b k d ys) (hT:bO w) (neg:Bool) (e:Int) (he0:-1048576<=e) (he1:e<=1048576)
 (P Q:Nat) (hP:val xs=P) (hQ:val ys=Q) (bP:bl P<=262144) (bQ:bl Q<=262144) (hlt:Q<=P) :
 Calls Tryz.prog 174 #[.bool neg,.slice a l c,.slice b k d,.int .i64 e] w fun r w'=>dh w.heap.size w' r (mkS neg (P-Q) e)/\Below w.heap.size w w':=by
 obtain⟨z,hz0⟩:∃ z,aZ P Q=z:=⟨_,rfl⟩;have hzz:0<=z:=by rw[<-hz0];exact VI hlt
 obtain⟨V,hV⟩:∃ x,P-Q=x:=⟨_,rfl⟩;have bV:bl V<=262144:=by rw[<-hV];exact aV (nz (Nat.sub_le _ _)) bP
 rw[hV];have l1:=len8 bV;have hsub:V+Q=P:=af
 have HX:=(Yr h1 h2 hT hP hQ hz0 hsub bP bQ);have YA:decide (z<0)=false:=decide_eq_false af;clear h1 h2 hT hP hQ hz0 hsub bP bQ hlt hV bV;unfold dh;have hl:=bC neg V e;obtain⟨o,ho⟩:∃ o,mkS neg V e=o:=⟨_,rfl⟩;rw[ho] at hl |-;obtain⟨dn,hdn⟩:∃ d,dN o=d:=⟨_,rfl⟩;obtain⟨X,hX⟩:∃ d,dX o=d:=⟨_,rfl⟩;obtain⟨de,hde⟩:∃ d,dE o=d:=⟨_,rfl⟩;obtain⟨er,her⟩:∃ d,qx o=d:=⟨_,rfl⟩;rw[hdn,hX,hde,her];rw[hX] at hl;have HS:=(iq ho hdn hX hde her);clear ho hdn hX hde her;have S0:=au (show Below (w.alloc (.cells #[.bool false,.slice none 0 0,.int .i64 0] 77)).heap.size (w.alloc (.cells #[.bool false,.slice none 0 0,.int .i64 0] 77)) (w.alloc (.cells #[.bool false,.slice none 0 0,.int .i64 0] 77)) from aG _ _);have B0:=au (show Below w.heap.size w (w.alloc (.cells #[.bool false,.slice none 0 0,.int .i64 0] 77)) from ag w _);go_enter Tryz.func174,Tryz.ntmps174;obtain C:=S0.o;have BW:Below w.heap.size w (w.alloc (.cells #[.bool false,.slice none 0 0,.int .i64 0] 77)):=B0.o.trans (C.mono aL);have H:=hid (show Calls Tryz.prog 234 #[.slice a l c,.slice b k d] (w.alloc (.cells #[.bool false,.slice none 0 0,.int .i64 0] 77)) fun r w'=>r=.returned (.int .i64 z)/\Below (w.alloc (.cells #[.bool false,.slice none 0 0,.int .i64 0] 77)).heap.size (w.alloc (.cells #[.bool false,.slice none 0 0,.int .i64 0] 77)) w' from CG (HX.o.1.below BW) (HX.o.2.1.below BW) z (by rw[HX.o.r3.1,HX.o.r4.1];exact HX.o.r5.1));clear C BW;go_wp2_with fail;refine H.o.mono ?_;rintro r u1 ⟨rfl,hb⟩;obtain C:=S0.o;have hz1:=C.size;have S1:=au (C.trans (hb.mono C.size));clear C hb H;obtain C:=S1.o;have BW:Below w.heap.size w u1:=B0.o.trans (C.mono aL);have H:=hid (wJ (V:=V) (HX.o.1.below BW) (HX.o.2.1.below BW) (by rw[HX.o.r3.1,HX.o.r4.1];exact wL (lU HX.o.r7.1) (lU HX.o.r8) HX.o.r6.1));clear C BW;go_wp2_with fail;refine H.o.mono ?_;rintro r u2 ⟨v,rfl,hN,hb⟩;obtain⟨a2,c2,rfl,_⟩:=hN.arg af;obtain C:=S1.o;have hz2:=C.size;have S2:=(aT (C.trans (hb.mono C.size)) (hN.mono C.size));clear C hb H hN;obtain⟨C,N2⟩:=S2.o;have BW:Below w.heap.size w u2:=B0.o.trans (C.mono aL);have H0:=show Calls Tryz.prog 192 #[.bool neg,.slice a2 (ws V).length c2,.int .i64 e] u2 fun r w'=>dh u2.heap.size w' r (mkS neg V e)/\Below u2.heap.size u2 w' from by have:=fJ (N2.cB af).2 (HX.o.r2.1.belows BW) neg e af af;rw[aC] at this;exact this
 unfold dh at H0;rw[HS.o.1,HS.o.2.1,HS.o.r2.1,HS.o.r3.1,HS.o.r4] at H0;have H:=hid H0;clear C BW H0 N2;go_wp2_with fail;refine H.o.mono ?_;rintro r uu ⟨⟨v,rfl,hN⟩,hb⟩;obtain⟨aa,cc,rfl,_⟩:=hN.arg af;obtain⟨C,N2⟩:=S2.o;have hbb:=C.trans (hb.mono C.size);obtain⟨hc,hf⟩:=aU hbb;have HF:=au (Fin.of 1 B0.o aL (hN.mono C.size) hbb);have hz:w.heap.size<uu.heap.size:=by have:=hbb.size;simp at this;omega
 clear C hb hN hbb H N2;go_wp2;exact aJ (v:=.tuple #[.agg #[.bool dn,.slice aa (ws X).length cc,.int .i64 de],.int .i64 er]) (by simp[results,Tryz.results174,go_sem,hc]) rfl (Fin.qy (m:=w.heap.size+1) (by repeat (first | exact HF.o | refine Fin.alloc ?_ _ | refine Fin.set ?_ _ _ _ af af)) af)
def Dk(w:World)(g:Nat)(n:Bool)(v:Value)(e:Int):Prop:=w.heap[g]?=some (.cells #[.bool n,v,.int .i64 e] 77 (0,0))
theorem Dk.lt{w:World}{g:Nat}{n:Bool}{v:Value}{e:Int}(h:Dk w g n v e):g<w.heap.size:=(fG.1 h).1
theorem Dk.below{w w':World}{g:Nat}{n:Bool}{v:Value}{e:Int}(h:Dk w g n v e)(hb:Below w.heap.size w w'):Dk w' g n v e:=by
 unfold Dk;rw[hb.block g h.lt];exact h
theorem Dk.alloc{w:World}{g:Nat}{n:Bool}{v:Value}{e:Int}(h:Dk w g n v e)(o:Obj):Dk (w.alloc o) g n v e:=h.below (ag w o)
theorem Dk.new(w:World)(n:Bool)(v:Value)(e:Int):Dk (w.alloc (.cells #[.bool n,v,.int .i64 e] 77)) w.heap.size n v e:=jC _ _
theorem Dk.facts{w:World}{g:Nat}{n:Bool}{v:Value}{e:Int}(h:Dk w g n v e) :
 w.cell? ⟨g,0,none⟩=some (.bool n)/\w.cell? ⟨g,1,none⟩=some v/\w.cell? ⟨g,2,none⟩=some (.int .i64 e)/\w.frozen? ⟨g,0,none⟩=false/\w.frozen? ⟨g,1,none⟩=false/\w.frozen? ⟨g,2,none⟩=false:=by
 unfold Dk at h;simp[World.cell?,World.frozen?,h]
abbrev dx(w:World)(g:Nat)(x y z:Value):World:=((w.setCell ⟨g,0,none⟩ x).setCell ⟨g,1,none⟩ y).setCell ⟨g,2,none⟩ z
theorem FZ(w:World)(g:Nat)(x y z:Value):(dx w g x y z).heap.size=w.heap.size:=by simp[dx,World.setCell]
theorem Dk.set{w:World}{g:Nat}{n:Bool}{v:Value}{e:Int}(h:Dk w g n v e)(m:Bool)(u:Value)(f:Int):Dk (dx w g (.bool m) u (.int .i64 f)) g m u f:=by
 unfold Dk at h |-;simp[dx,World.setCell,iA,h]
theorem Dk.other{w:World}{g:Nat}{n:Bool}{v:Value}{e:Int}(h:Dk w g n v e)(g':Nat)(hg:g≠g')(x y z:Value):Dk (dx w g' x y z) g n v e:=by
 unfold Dk;rw[(oM g' w x y z).block g h.lt hg];exact h
theorem Fin.dx{lo m:Nat}{w0 w:World}{v:Value}{X:Nat}(H:Fin lo m w0 w v X)(g:Nat)(x y z:Value)(h1:lo<=g)(h2:g<m):Fin lo m w0 (dx w g x y z) v X:=((H.set g 0 x h1 h2).set g 1 y h1 h2).set g 2 z h1 h2
theorem Fin.below{lo m:Nat}{w0 w w':World}{v:Value}{X:Nat}(H:Fin lo m w0 w v X)(hb:Below w.heap.size w w'):Fin lo m w0 w' v X:=⟨H.nt.below hb,H.aD.trans (hb.mono H.size),aV H.size hb.size⟩
theorem Fin.drew{lo m:Nat}{w0 w:World}{v:Value}{X:Nat}(H:Fin lo m w0 w v X):Fin lo m w0 w.drew v X:=⟨H.nt,H.aD.drew,H.size⟩
theorem Fin.pair{lo m:Nat}{w0 w:World}{v v':Value}{X X':Nat}{n n':Bool}{e e':Int}{k:Value}(H:Fin lo m w0 w v X)(H':Fin lo m w0 w v' X')(h:lo<=m) :
 ∃ p q,Ending.returned (.tuple #[.agg #[.bool n,v,.int .i64 e],.agg #[.bool n',v',.int .i64 e'],k])=.returned (.tuple #[.agg #[.bool n,p,.int .i64 e],.agg #[.bool n',q,.int .i64 e'],k])/\Nt lo w p X/\Nt lo w q X'/\Below lo w0 w:=⟨v,v',rfl,H.nt.mono h,H'.nt.mono h,H.aD⟩
theorem A8(W:World)(g h:Nat)(n m:Bool)(v u:Value)(e f k:Int)(tmps:Array Value)(ht:tmps[4]?.getD undef=.pointer (some ⟨g,0,none⟩))(hs:tmps[5]?.getD undef=.pointer (some ⟨h,0,none⟩))(hk:tmps[6]?.getD undef=.int .i64 k)(D:Dk W g n v e)(E:Dk W h m u f) :
 (results Tryz.f171 tmps).run Tryz.prog W=.ok (.tuple #[.agg #[.bool n,v,.int .i64 e],.agg #[.bool m,u,.int .i64 f],.int .i64 k]) W:=by
 obtain⟨x0,x1,x2,dB,dC,dD⟩:=D.facts;obtain⟨y0,y1,y2,eF,eG,eO⟩:=E.facts;simp[results,Tryz.results171,ht,hs,hk,go_sem,x0,x1,x2,y0,y1,y2]
theorem F7 {w:World}{a b:Option Addr}{l c k d:Nat}{xs ys:List Nat}(h1:Arg w a l c xs) (h2:Arg w b k d ys) (hT:bO w) (n m:Bool) (e f:Int) (he0:-9223372036854775808<=e) (he1:e<=9223372036854775807) (hf0:-9223372036854775808<=f) (hf1:f<=9223372036854775807)
 (n1 m1:Bool) (X Y:Nat) (e1 f1:Int) (hx:mkS n (val xs) e=some (n1,X,e1)) (hy:mkS m (val ys) f=some (m1,Y,f1)) :
 Calls Tryz.prog 171 #[.agg #[.bool n,.slice a l c,.int .i64 e],.agg #[.bool m,.slice b k d,.int .i64 f]] w fun r w' =>
  ∃ v u,r=.returned (.tuple #[.agg #[.bool n1,v,.int .i64 e1],.agg #[.bool m1,u,.int .i64 f1],.int .i64 0])/\Nt w.heap.size w' v X/\Nt w.heap.size w' u Y/\Below w.heap.size w w':=by
 obtain⟨W1,hW1⟩:=ah ((((w.alloc (.cells #[.bool n,.slice a l c,.int .i64 e] 77)).alloc (.cells #[.bool m,.slice b k d,.int .i64 f] 77)).alloc (.cells #[.bool false,.slice none 0 0,.int .i64 0] 77)).alloc (.cells #[.bool false,.slice none 0 0,.int .i64 0] 77));have hB:Below w.heap.size w W1:=by rw[hW1];exact(((ag w _).alloc aL _).alloc (by simp;omega) _).alloc (by simp;omega) _
 have hz1:W1.heap.size=w.heap.size+4:=by rw[hW1];simp
 have D1:Dk W1 (w.heap.size+1) m (.slice b k d) f:=by rw[hW1];have:=((Dk.new (w.alloc (.cells #[.bool n,.slice a l c,.int .i64 e] 77)) m (.slice b k d) f).alloc (.cells #[.bool false,.slice none 0 0,.int .i64 0] 77)).alloc (.cells #[.bool false,.slice none 0 0,.int .i64 0] 77);simpa using this
 have D2:Dk W1 (w.heap.size+1+1) false (.slice none 0 0) 0:=by rw[hW1];have:=(Dk.new ((w.alloc (.cells #[.bool n,.slice a l c,.int .i64 e] 77)).alloc (.cells #[.bool m,.slice b k d,.int .i64 f] 77)) false (.slice none 0 0) 0).alloc (.cells #[.bool false,.slice none 0 0,.int .i64 0] 77);simpa using this
 have D3:Dk W1 (w.heap.size+1+1+1) false (.slice none 0 0) 0:=by rw[hW1];have:=Dk.new (((w.alloc (.cells #[.bool n,.slice a l c,.int .i64 e] 77)).alloc (.cells #[.bool m,.slice b k d,.int .i64 f] 77)).alloc (.cells #[.bool false,.slice none 0 0,.int .i64 0] 77)) false (.slice none 0 0) 0;simpa using this
 have L9:=mI (h1.below hB) (hT.belows hB) n e he0 he1;have YB:Hid (∀ u,Below w.heap.size w u->Calls Tryz.prog 188 #[.agg #[.bool m,.slice b k d,.int .i64 f]] u fun r w'=>dh u.heap.size w' r (mkS m (val ys) f)/\Below u.heap.size u w'):=fun u hu=>mI (h2.below hu) (hT.belows hu) m f hf0 hf1;have lX:(ws X).length<=8192:=by have:=bC n (val xs) e;rw[hx] at this;exact this
 have lY:(ws Y).length<=8192:=by have:=bC m (val ys) f;rw[hy] at this;exact this
 rw[hx] at L9;rw[hy] at YB;simp only[dh,dN,dX,dE,qx,Option.isSome,Option.getD,if_true,dY,if_false] at L9 YB;have H1:=hid L9;have SB:=(iq hB hz1 D1 D2 D3);clear L9 h1 h2 hT hx hy he0 he1 hf0 hf1 hB hz1 D1 D2 D3;go_enter Tryz.func171,Tryz.ntmps171;go_wp2_with fail;rw[<-hW1];clear hW1;refine H1.o.mono ?_;rintro r u1 ⟨⟨v,rfl,hN⟩,hb⟩;obtain⟨a1,c1,rfl,_⟩:=hN.arg af;obtain⟨hB,hz1,D1,D2,D3⟩:=SB.o;have E1:=D1.below hb;have E2:=D2.below hb;have E3:=D3.below hb;obtain⟨p0,p1,p2,ZE,ZF,ZG⟩:=E1.facts;obtain⟨q0,q1,q2,Ov,Ow,Ox⟩:=E2.facts;have F1:Fin w.heap.size (w.heap.size+4) w u1 (.slice a1 (ws X).length c1) X:=⟨by rw[<-hz1];exact hN,hB.trans (hb.mono af),by have:=hb.size;omega⟩;obtain⟨U1,dJ⟩:=ah (dx u1 (w.heap.size+1+1) (.bool n1) (.slice a1 (ws X).length c1) (.int .i64 e1));have G1:Fin w.heap.size (w.heap.size+4) w U1 (.slice a1 (ws X).length c1) X:=by rw[dJ];exact F1.dx _ _ _ _ af af
 have I2:Dk U1 (w.heap.size+1+1) n1 (.slice a1 (ws X).length c1) e1:=by rw[dJ];exact E2.set _ _ _
 have I3:Dk U1 (w.heap.size+1+1+1) false (.slice none 0 0) 0:=by rw[dJ];exact E3.other _ af _ _ _
 have I1:Dk U1 (w.heap.size+1) m (.slice b k d) f:=by rw[dJ];exact E1.other _ af _ _ _
 have hsz1:U1.heap.size=u1.heap.size:=by rw[dJ];exact FZ _ _ _ _ _
 have H2:=hid (YB.o _ G1.aD);have S1:=(bM G1 I2 I3);obtain⟨i0,i1,i2,if0,if1,if2⟩:=I1.facts;have Ol:w.heap.size+4<=U1.heap.size:=by rw[hsz1];have:=hb.size;omega
 clear hN hb F1 G1 H1 hB hz1 D1 D2 D3 E1 E2 E3 I2 I3 I1 SB hsz1;unfold dx at dJ;go_wp2_with fail;rw[<-dJ];clear dJ;refine H2.o.mono ?_;rintro r u2 ⟨⟨v,rfl,hN⟩,hb⟩;obtain⟨a2,c2,rfl,_⟩:=hN.arg af;obtain⟨G1,I2,I3⟩:=S1.o;have J2:=I2.below hb;have J3:=I3.below hb;obtain⟨U2,IE⟩:=ah (dx u2 (w.heap.size+1+1+1) (.bool m1) (.slice a2 (ws Y).length c2) (.int .i64 f1));have K2:Dk U2 (w.heap.size+1+1) n1 (.slice a1 (ws X).length c1) e1:=by rw[IE];exact J2.other _ af _ _ _
 have K3:Dk U2 (w.heap.size+1+1+1) m1 (.slice a2 (ws Y).length c2) f1:=by rw[IE];exact J3.set _ _ _
 have Q1:=au (show Fin w.heap.size (w.heap.size+4) w U2 (.slice a1 (ws X).length c1) X by rw[IE];exact(G1.below hb).dx _ _ _ _ af af);have Q2:=au (show Fin w.heap.size (w.heap.size+4) w U2 (.slice a2 (ws Y).length c2) Y by rw[IE];exact Fin.dx ⟨hN.mono Ol,(G1.below hb).aD,(G1.below hb).size⟩ _ _ _ _ af af);obtain⟨s0,s1,s2,IG,II,IJ⟩:=J3.facts;obtain⟨x0,x1,x2,dB,dC,dD⟩:=K2.facts;obtain⟨y0,y1,y2,eF,eG,eO⟩:=K3.facts;clear hN hb H2 S1 G1 I2 I3 J2 J3 K2 K3;unfold dx at IE;go_wp2;rw[<-IE];clear IE YB
 go_region
 all_goals (
  go_wp2;refine aJ (v:=.tuple #[.agg #[.bool n1,.slice a1 (ws X).length c1,.int .i64 e1],.agg #[.bool m1,.slice a2 (ws Y).length c2,.int .i64 f1],.int .i64 0]) (by simp[results,Tryz.results171,go_sem,x0,x1,x2,y0,y1,y2]) rfl ?_;refine Fin.pair (m:=w.heap.size+4) ?_ ?_ af
  · repeat (with_reducible first | exact Q1.o | refine Fin.drew ?_ | refine Fin.alloc ?_ _ | refine Fin.set ?_ _ _ _ af af)
  · repeat (with_reducible first | exact Q2.o | refine Fin.drew ?_ | refine Fin.alloc ?_ _ | refine Fin.set ?_ _ _ _ af af))
theorem yg {w:World}{a b:Option Addr}{l c k d:Nat}{xs ys:List Nat}(h1:Arg w a l c xs) (h2:Arg w b k d ys) (hT:bO w) (n m:Bool) (e f:Int) (he0:-9223372036854775808<=e) (he1:e<=9223372036854775807) (hf0:-9223372036854775808<=f) (hf1:f<=9223372036854775807)
 (hx:mkS n (val xs) e=none) :
 Calls Tryz.prog 171 #[.agg #[.bool n,.slice a l c,.int .i64 e],.agg #[.bool m,.slice b k d,.int .i64 f]] w fun r w' =>
  r=.returned (.tuple #[.agg #[.bool false,.slice none 0 0,.int .i64 0],.agg #[.bool false,.slice none 0 0,.int .i64 0],.int .i64 2])/\Below w.heap.size w w':=by
 obtain⟨W1,hW1⟩:=ah ((((w.alloc (.cells #[.bool n,.slice a l c,.int .i64 e] 77)).alloc (.cells #[.bool m,.slice b k d,.int .i64 f] 77)).alloc (.cells #[.bool false,.slice none 0 0,.int .i64 0] 77)).alloc (.cells #[.bool false,.slice none 0 0,.int .i64 0] 77));have hB:Below w.heap.size w W1:=by rw[hW1];exact(((ag w _).alloc aL _).alloc (by simp;omega) _).alloc (by simp;omega) _
 have hz1:W1.heap.size=w.heap.size+4:=by rw[hW1];simp
 have D1:Dk W1 (w.heap.size+1) m (.slice b k d) f:=by rw[hW1];have:=((Dk.new (w.alloc (.cells #[.bool n,.slice a l c,.int .i64 e] 77)) m (.slice b k d) f).alloc (.cells #[.bool false,.slice none 0 0,.int .i64 0] 77)).alloc (.cells #[.bool false,.slice none 0 0,.int .i64 0] 77);simpa using this
 have D2:Dk W1 (w.heap.size+1+1) false (.slice none 0 0) 0:=by rw[hW1];have:=(Dk.new ((w.alloc (.cells #[.bool n,.slice a l c,.int .i64 e] 77)).alloc (.cells #[.bool m,.slice b k d,.int .i64 f] 77)) false (.slice none 0 0) 0).alloc (.cells #[.bool false,.slice none 0 0,.int .i64 0] 77);simpa using this
 have D3:Dk W1 (w.heap.size+1+1+1) false (.slice none 0 0) 0:=by rw[hW1];have:=Dk.new (((w.alloc (.cells #[.bool n,.slice a l c,.int .i64 e] 77)).alloc (.cells #[.bool m,.slice b k d,.int .i64 f] 77)).alloc (.cells #[.bool false,.slice none 0 0,.int .i64 0] 77)) false (.slice none 0 0) 0;simpa using this
 have L9:=mI (h1.below hB) (hT.belows hB) n e he0 he1;have l0:(ws 0).length=0:=by rw[bB];rfl
 rw[hx] at L9;simp only[dh,dN,dX,dE,qx,Option.isSome,Option.getD,if_true,dY,if_false] at L9;have H1:=hid L9;have SB:=(iq hB hz1 D1 D2 D3);clear L9 h1 h2 hT hx he0 he1 hf0 hf1 hB hz1 D1 D2 D3;go_enter Tryz.func171,Tryz.ntmps171;go_wp2_with fail;rw[<-hW1];clear hW1;refine H1.o.mono ?_;rintro r u1 ⟨⟨v,rfl,hN⟩,hb⟩;obtain⟨a1,c1,rfl,_⟩:=hN.arg af;obtain⟨hB,hz1,D1,D2,D3⟩:=SB.o;have E2:=D2.below hb;have E3:=D3.below hb;obtain⟨q0,q1,q2,Ov,Ow,Ox⟩:=E2.facts;obtain⟨y0,y1,y2,eF,eG,eO⟩:=E3.facts;have F1:=au (show Fin w.heap.size (w.heap.size+4) w u1 (.slice none 0 0) 0 from⟨Nt.nil _ _,hB.trans (hb.mono af),by have:=hb.size;omega⟩);have SE:=(aT E2 E3);clear hN hb H1 hB hz1 D1 D2 D3 E2 E3 SB;go_wp2;obtain⟨E2,E3⟩:=SE.o;refine aJ (A8 _ (w.heap.size+1+1) (w.heap.size+1+1+1) false false (.slice none 0 0) (.slice none 0 0) 0 0 2 _ rfl rfl rfl (((E2.set _ _ _).set _ _ _).other _ af _ _ _) (((E3.other _ af _ _ _).other _ af _ _ _).set _ _ _)) rfl ⟨rfl,?_⟩;refine Fin.aD (m:=w.heap.size+4) (v:=.slice none 0 0) (X:=0) ?_
 repeat (with_reducible first | exact F1.o | refine Fin.drew ?_ | refine Fin.alloc ?_ _ | refine Fin.set ?_ _ _ _ af af)
theorem yh {w:World}{a b:Option Addr}{l c k d:Nat}{xs ys:List Nat}(h1:Arg w a l c xs) (h2:Arg w b k d ys) (hT:bO w) (n m:Bool) (e f:Int) (he0:-9223372036854775808<=e) (he1:e<=9223372036854775807) (hf0:-9223372036854775808<=f) (hf1:f<=9223372036854775807)
 (n1:Bool) (X:Nat) (e1:Int) (hx:mkS n (val xs) e=some (n1,X,e1)) (hy:mkS m (val ys) f=none) :
 Calls Tryz.prog 171 #[.agg #[.bool n,.slice a l c,.int .i64 e],.agg #[.bool m,.slice b k d,.int .i64 f]] w fun r w' =>
  r=.returned (.tuple #[.agg #[.bool false,.slice none 0 0,.int .i64 0],.agg #[.bool false,.slice none 0 0,.int .i64 0],.int .i64 2])/\Below w.heap.size w w':=by
 obtain⟨W1,hW1⟩:=ah ((((w.alloc (.cells #[.bool n,.slice a l c,.int .i64 e] 77)).alloc (.cells #[.bool m,.slice b k d,.int .i64 f] 77)).alloc (.cells #[.bool false,.slice none 0 0,.int .i64 0] 77)).alloc (.cells #[.bool false,.slice none 0 0,.int .i64 0] 77));have hB:Below w.heap.size w W1:=by rw[hW1];exact(((ag w _).alloc aL _).alloc (by simp;omega) _).alloc (by simp;omega) _
 have hz1:W1.heap.size=w.heap.size+4:=by rw[hW1];simp
 have D1:Dk W1 (w.heap.size+1) m (.slice b k d) f:=by rw[hW1];have:=((Dk.new (w.alloc (.cells #[.bool n,.slice a l c,.int .i64 e] 77)) m (.slice b k d) f).alloc (.cells #[.bool false,.slice none 0 0,.int .i64 0] 77)).alloc (.cells #[.bool false,.slice none 0 0,.int .i64 0] 77);simpa using this
 have D2:Dk W1 (w.heap.size+1+1) false (.slice none 0 0) 0:=by rw[hW1];have:=(Dk.new ((w.alloc (.cells #[.bool n,.slice a l c,.int .i64 e] 77)).alloc (.cells #[.bool m,.slice b k d,.int .i64 f] 77)) false (.slice none 0 0) 0).alloc (.cells #[.bool false,.slice none 0 0,.int .i64 0] 77);simpa using this
 have D3:Dk W1 (w.heap.size+1+1+1) false (.slice none 0 0) 0:=by rw[hW1];have:=Dk.new (((w.alloc (.cells #[.bool n,.slice a l c,.int .i64 e] 77)).alloc (.cells #[.bool m,.slice b k d,.int .i64 f] 77)).alloc (.cells #[.bool false,.slice none 0 0,.int .i64 0] 77)) false (.slice none 0 0) 0;simpa using this
 have L9:=mI (h1.below hB) (hT.belows hB) n e he0 he1;have YB:Hid (∀ u,Below w.heap.size w u->Calls Tryz.prog 188 #[.agg #[.bool m,.slice b k d,.int .i64 f]] u fun r w'=>dh u.heap.size w' r (mkS m (val ys) f)/\Below u.heap.size u w'):=fun u hu=>mI (h2.below hu) (hT.belows hu) m f hf0 hf1;have lX:(ws X).length<=8192:=by have:=bC n (val xs) e;rw[hx] at this;exact this
 have l0:(ws 0).length=0:=by rw[bB];rfl
 rw[hx] at L9;rw[hy] at YB;simp only[dh,dN,dX,dE,qx,Option.isSome,Option.getD,if_true,dY,if_false] at L9 YB;have H1:=hid L9;have SB:=(iq hB hz1 D1 D2 D3);clear L9 h1 h2 hT hx hy he0 he1 hf0 hf1 hB hz1 D1 D2 D3;go_enter Tryz.func171,Tryz.ntmps171;go_wp2_with fail;rw[<-hW1];clear hW1;refine H1.o.mono ?_;rintro r u1 ⟨⟨v,rfl,hN⟩,hb⟩;obtain⟨a1,c1,rfl,_⟩:=hN.arg af;obtain⟨hB,hz1,D1,D2,D3⟩:=SB.o;have E1:=D1.below hb;have E2:=D2.below hb;have E3:=D3.below hb;obtain⟨p0,p1,p2,ZE,ZF,ZG⟩:=E1.facts;obtain⟨q0,q1,q2,Ov,Ow,Ox⟩:=E2.facts;have F1:Fin w.heap.size (w.heap.size+4) w u1 (.slice a1 (ws X).length c1) X:=⟨by rw[<-hz1];exact hN,hB.trans (hb.mono af),by have:=hb.size;omega⟩;obtain⟨U1,dJ⟩:=ah (dx u1 (w.heap.size+1+1) (.bool n1) (.slice a1 (ws X).length c1) (.int .i64 e1));have G1:Fin w.heap.size (w.heap.size+4) w U1 (.slice a1 (ws X).length c1) X:=by rw[dJ];exact F1.dx _ _ _ _ af af
 have I2:Dk U1 (w.heap.size+1+1) n1 (.slice a1 (ws X).length c1) e1:=by rw[dJ];exact E2.set _ _ _
 have I3:Dk U1 (w.heap.size+1+1+1) false (.slice none 0 0) 0:=by rw[dJ];exact E3.other _ af _ _ _
 have I1:Dk U1 (w.heap.size+1) m (.slice b k d) f:=by rw[dJ];exact E1.other _ af _ _ _
 have hsz1:U1.heap.size=u1.heap.size:=by rw[dJ];exact FZ _ _ _ _ _
 have H2:=hid (YB.o _ G1.aD);have S1:=(bM G1 I2 I3);obtain⟨i0,i1,i2,if0,if1,if2⟩:=I1.facts;have Ol:w.heap.size+4<=U1.heap.size:=by rw[hsz1];have:=hb.size;omega
 clear hN hb F1 G1 H1 hB hz1 D1 D2 D3 E1 E2 E3 I2 I3 I1 SB hsz1;unfold dx at dJ;go_wp2_with fail;rw[<-dJ];clear dJ;refine H2.o.mono ?_;rintro r u2 ⟨⟨v,rfl,hN⟩,hb⟩;obtain⟨a2,c2,rfl,_⟩:=hN.arg af;obtain⟨G1,I2,I3⟩:=S1.o;have J2:=I2.below hb;have J3:=I3.below hb;have Q1:=au (G1.below hb);obtain⟨s0,s1,s2,IG,II,IJ⟩:=J3.facts;obtain⟨x0,x1,x2,dB,dC,dD⟩:=J2.facts;have SE:=(aT J2 J3);clear hN hb H2 S1 G1 I2 I3 J2 J3;go_wp2;obtain⟨E2,E3⟩:=SE.o;refine aJ (A8 _ (w.heap.size+1+1) (w.heap.size+1+1+1) false false (.slice none 0 0) (.slice none 0 0) 0 0 2 _ rfl rfl rfl (((E2.other _ af _ _ _).set _ _ _).other _ af _ _ _) (((E3.set _ _ _).other _ af _ _ _).set _ _ _)) rfl ⟨rfl,?_⟩;refine Fin.aD (m:=w.heap.size+4) (v:=.slice a1 (ws X).length c1) (X:=X) ?_
 repeat (with_reducible first | exact Q1.o | refine Fin.drew ?_ | refine Fin.alloc ?_ _ | refine Fin.set ?_ _ _ _ af af)
end
end Go.Proofs.YtaejmlkaefnbhaaGreatDoor
