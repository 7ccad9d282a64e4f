import Derived.Test.YtaejmlkaefnbhaaGreatDoorF9x
import Derived.Test.YtaejmlkaefnbhaaGreatDoorSE4x
import Derived.Test.YtaejmlkaefnbhaaGreatDoorS11ax
import Derived.Deep.RegionHeld3
import Derived.Test.YtaejmlkaefnbhaaGreatDoorSD6x
import Derived.Test.YtaejmlkaefnbhaaGreatDoorMO7nx
import Derived.Test.YtaejmlkaefnbhaaGreatDoorD30x
import Derived.Test.YtaejmlkaefnbhaaGreatDoorM1x
import Derived.Test.YtaejmlkaefnbhaaGreatDoorBIeeex
import Derived.Test.YtaejmlkaefnbhaaGreatDoorW14x
import Derived.BigQuiet
import Derived.Test.YtaejmlkaefnbhaaGreatDoorF3x
import Derived.Test.YtaejmlkaefnbhaaGreatDoorZ7x
import Derived.Deep.Cut
import Derived.Test.YtaejmlkaefnbhaaGreatDoorBW6x
import Derived.Test.YtaejmlkaefnbhaaGreatDoorD21x
import Derived.Deep.RegionWith
import Derived.Deep.CutRange
import Derived.OwnWalk
import Derived.ArgAppend
import Derived.Maps.AppendAt
import Derived.WalkMore
set_option linter.unusedVariables false
set_option linter.unusedSimpArgs false
set_option maxHeartbeats 16000000
set_option maxRecDepth 20000
namespace Go.Proofs.YtaejmlkaefnbhaaGreatDoor
namespace J
end J
section
open Go Go.RowKit J
theorem Hl {w:World}{g:Nat}{s:Sp}{o q:Option (Bool×Nat×Int)}{lo hi:Nat}(H:fe w g s o q lo hi) (hs:s.sm) (Fo:Fm o) (Fq:Fm q)
 (h:(nT s=0/\dX o=0/\dX q=0)\/(nT s≠0/\(∀ u:World,Below w.heap.size w u->Calls Tryz.prog 181 #[.pointer (some ⟨g,0,none⟩),.int .i64 (nT s)] u fun r w'=>r=.returned (.bool true)/\Below u.heap.size u w')/\(∀ u:World,Below w.heap.size w u->Calls Tryz.prog 182 #[.pointer (some ⟨g,0,none⟩),.int .i64 (nT s)] u fun r w'=>r=.returned (.bool true)/\Below u.heap.size u w'))) :
 Calls Tryz.prog 106 #[.pointer (some ⟨g,0,none⟩)] w fun r w'=>r=.returned (.bool true)/\Below w.heap.size w w':=by
 have HP:=hid (wU s hs w);obtain⟨k,hkk⟩:=ah (nT s);rw[<-hkk] at HP h;obtain⟨a1,c1,a2,c2,kb,n1,n2⟩:=H
 have zh:Hid (∀ u:World,Below w.heap.size w u->Calls Tryz.prog 52 #[.agg #[.bool (dN o),.slice a1 (ws (dX o)).length c1,.int .i64 (dE o)]] u fun r w'=>r=.returned (.int .i64 (iP (dN o) (dX o)))/\Below u.heap.size u w'):=by
  intro u hu;have:=fK (Fo.a12 (n1.below hu)) (dN o) (dE o);exact xr
 have HSQ:Hid (∀ u:World,Below w.heap.size w u->Calls Tryz.prog 52 #[.agg #[.bool (dN q),.slice a2 (ws (dX q)).length c2,.int .i64 (dE q)]] u fun r w'=>r=.returned (.int .i64 (iP (dN q) (dX q)))/\Below u.heap.size u w'):=by
  intro u hu;have:=fK (Fq.a12 (n2.below hu)) (dN q) (dE q);exact xr
 have HB:Aside (∀ u:World,Below w.heap.size w u->Bl u g 79 (uE s o q a1 c1 a2 c2 lo hi)):=au fun u hu=>kb.below hu kb.lt;have y0:=kb.cell 0 _ rfl;have y1:=kb.cell 1 _ rfl;have y2:=kb.cell 2 _ rfl;have y3:=kb.cell 3 _ rfl;have y4:=kb.cell 4 _ rfl;have y5:=kb.cell 5 _ rfl;obtain⟨n,u,d,m,p,l⟩:=s;unfold Sp.agg at HP;simp only at HP HB;clear kb n1 n2 hkk hs Fo Fq;rcases h with ⟨h0,h1,h2⟩|⟨h0,h1,h2⟩
 · rw[show iP (dN o) (dX o)=0 by unfold iP;rw[if_pos h1]] at zh;rw[show iP (dN q) (dX q)=0 by unfold iP;rw[if_pos h2]] at HSQ;have t0:(k==0)=true:=by simp[h0]
   clear h1 h2;go_enter Tryz.func106,Tryz.ntmps106;go_wp2_with fail;refine HP.o.mono ?_;rintro r v ⟨rfl,hb⟩;have E1:=au hb;clear hb HP y0 y1 y2 y3 y4 y5;have y6:=(HB.o v E1.o).cell 6 _ rfl;have y7:=(HB.o v E1.o).cell 7 _ rfl;have y8:=(HB.o v E1.o).cell 8 _ rfl;go_wp2_with fail;refine(zh.o _ E1.o).mono ?_;rintro r v2 ⟨rfl,hb⟩;have E2:=au (E1.o.trans (hb.mono E1.o.size));clear hb zh y6 y7 y8;have y6:=(HB.o v2 E2.o).cell 9 _ rfl;have y7:=(HB.o v2 E2.o).cell 10 _ rfl;have y8:=(HB.o v2 E2.o).cell 11 _ rfl;go_wp2_with fail;refine(HSQ.o _ E2.o).mono ?_;rintro r v3 ⟨rfl,hb⟩;have E3:=au (E2.o.trans (hb.mono E2.o.size));clear hb HSQ y6 y7 y8;exact Qba
 · have t0:(k==0)=false:=by simp[h0]
   have H1:=hid h1;have H2:=hid h2;clear h1 h2 zh HSQ;go_enter Tryz.func106,Tryz.ntmps106;go_wp2_with fail;refine HP.o.mono ?_;rintro r v ⟨rfl,hb⟩;have E1:=au hb;clear hb HP y0 y1 y2 y3 y4 y5;go_wp2_with fail;refine(H1.o _ E1.o).mono ?_;rintro r v2 ⟨rfl,hb⟩;have E2:=au (E1.o.trans (hb.mono E1.o.size));clear hb H1;go_wp2_with fail;refine(H2.o _ E2.o).mono ?_;rintro r v3 ⟨rfl,hb⟩;have E3:=au (E2.o.trans (hb.mono E2.o.size));clear hb H2;exact Qba
theorem Uo(x:Nat)(hx:x<18446744073709551616)(u:World):Calls Tryz.prog 168 #[.float .f64 x,.float .f64 x] u fun r w'=>r=.returned (.bool true)/\w'=u:=by
 obtain⟨s,e,f,h1,h2,h3,_⟩:=Xd hx;have:=B.FQ s s e f e f h1 h2 h1 h2 u;rw[<-h3,decide_eq_true rfl] at this;exact this
theorem MW{x:Nat}(hx:x<18446744073709551616)(hf:aP x<9218868437227405312)(w:World) :
 Calls Tryz.prog 135 #[.float .f64 x] w fun r w'=>(∃ c:Int,r=.returned (.int .i64 c)/\decide (c<3)=true)/\Below w.heap.size w w':=by
 obtain⟨s,e,f,h1,h2,h3,h4,h5,h6⟩:=Xd hx;have h:=B.AU s e f h1 h2 w;rw[<-h3] at h;refine h.mono fun r w' ⟨hr,hb⟩=>⟨⟨_,hr,?_⟩,hb⟩;subst h5 h6;rw[decide_eq_true_eq];unfold B.cls
 (repeat' split) <;> omega
theorem Hm(b:Bool)(u:World):Calls Tryz.prog 238 #[.bool b] u fun r w'=>r=.returned (.float .f64 (if b=true then 9223372036854775808 else 0))/\w'=u:=by
 have HM:=hid (fun v:World=>AQ v)
 cases b
 · rw[if_neg aA];go_enter Tryz.func238,Tryz.ntmps238;go_wp2;exact Ks
 · rw[if_pos rfl];go_enter Tryz.func238,Tryz.ntmps238;go_wp2_with fail;refine(HM.o _).mono ?_;rintro r v ⟨rfl,rfl⟩;go_wp2;exact Ks
theorem yr{P:Prop}(h:P:=by
 clear hb1
 go_region_held3 (fun w'=>w'.cell? ⟨g,12,none⟩=some (.float .f64 lo)) (with_reducible exact kS.o) (first
  | (go_at_call 127
     with_reducible refine(HI.o _).mono ?_
     rintro r v ⟨rfl,rfl⟩)
  | (go_at_call 168
     with_reducible refine(HSA.o _).mono ?_
     rintro r v ⟨rfl,rfl⟩))
 go_wp2;go_ret;exact⟨rfl,KB.o.drew⟩):P:=h
theorem Ep{w:World}{g:Nat}{s:Sp}{o q:Option (Bool×Nat×Int)}{lo hi:Nat}(H:fe w g s o q lo hi)(hs:s.sm)(hw:lo<18446744073709551616)(h:if 0<s.d then lo=18442240474082181120 else if iZ s=0 then lo=9218868437227405312 else if nT s=0 then lo=(if 0<s.m then 9223372036854775808 else 0) else aP lo<9218868437227405312) :
 Calls Tryz.prog 183 #[.pointer (some ⟨g,0,none⟩)] w fun r w'=>r=.returned (.bool true)/\Below w.heap.size w w':=by
 have jG:=hid (fun u:World=>mQ s hs u);have zJ:=hid (fun u:World=>wU s hs u);have HSA:=hid (fun u:World=>Uo lo hw u);obtain⟨a1,c1,a2,c2,kb,n1,n2⟩:=H;have HB:Aside (∀ u:World,Below w.heap.size w u->Bl u g 79 (uE s o q a1 c1 a2 c2 lo hi)):=au fun u hu=>kb.below hu kb.lt;have yc:=kb.cell 2 _ rfl;have HW:=au hw;obtain⟨fl,hfl⟩:=ah (iZ s);obtain⟨pl,hpl⟩:=ah (nT s);rw[show s.a-s.n-s.u-s.d=fl from hfl.symm] at jG;rw[<-hpl] at zJ h;rw[<-hfl] at h;obtain⟨n,u,d,m,p,l⟩:=s;unfold Sp.agg at jG zJ;simp only at jG zJ HB h yc;clear kb n1 n2 hfl hpl hs hw
 by_cases hd:0<d
 · rw[if_pos hd] at h;have t0:decide (0<d)=true:=decide_eq_true hd;clear hd jG zJ;go_enter Tryz.func183,Tryz.ntmps183;go_wp2_with fail;have hb1:=HB.o w.drew (aG w.heap.size w).drew;have kS:Aside (w.drew.cell? ⟨g,12,none⟩=some (.float .f64 lo)):=au (hb1.cell 12 _ rfl)
   have HI:Hid (∀ u:World,Calls Tryz.prog 127 #[.int .i64 (-1)] u fun r w'=>r=.returned (.float .f64 lo)/\w'=u):=by
    intro u;have:=uh u;rw[<-h] at this;exact this
   clear h;have KB:=au (aG w.heap.size w);exact yr
 rw[if_neg hd] at h;have t0:decide (0<d)=false:=decide_eq_false hd;clear hd
 by_cases hf:fl=0
 · rw[if_pos hf] at h;have t1:(fl==0)=true:=by simp[hf]
   clear hf zJ;have y0:=(HB.o w (aG _ _)).cell 0 _ rfl;have y1:=(HB.o w (aG _ _)).cell 1 _ rfl;have y2:=(HB.o w (aG _ _)).cell 2 _ rfl;have y3:=(HB.o w (aG _ _)).cell 3 _ rfl;have y4:=(HB.o w (aG _ _)).cell 4 _ rfl;have y5:=(HB.o w (aG _ _)).cell 5 _ rfl;go_enter Tryz.func183,Tryz.ntmps183;go_wp2_with fail;refine(jG.o _).mono ?_;rintro r v1 ⟨rfl,hb⟩;have E1:=au hb;clear hb jG y0 y1 y2 y3 y4 y5;go_wp2_with fail;have hb1:=HB.o v1.drew E1.o.drew;have kS:Aside (v1.drew.cell? ⟨g,12,none⟩=some (.float .f64 lo)):=au (hb1.cell 12 _ rfl)
   have HI:Hid (∀ u:World,Calls Tryz.prog 127 #[.int .i64 (1)] u fun r w'=>r=.returned (.float .f64 lo)/\w'=u):=by
    intro u;have:=Db u;rw[<-h] at this;exact this
   clear h;have KB:=au E1.o;exact yr
 rw[if_neg hf] at h;have t1:(fl==0)=false:=by simp[hf]
 clear hf
 by_cases hp:pl=0
 · rw[if_pos hp] at h;have t2:(pl==0)=true:=by simp[hp]
   obtain⟨zb,hzb⟩:=ah (decide (0<m));have hz:lo=(if zb=true then 9223372036854775808 else 0):=by rw[h,hzb];simp
   have HNO:=hid (fun u:World=>Hm zb u);rw[<-hz] at HNO;clear hp h hz;have y0:=(HB.o w (aG _ _)).cell 0 _ rfl;have y1:=(HB.o w (aG _ _)).cell 1 _ rfl;have y2:=(HB.o w (aG _ _)).cell 2 _ rfl;have y3:=(HB.o w (aG _ _)).cell 3 _ rfl;have y4:=(HB.o w (aG _ _)).cell 4 _ rfl;have y5:=(HB.o w (aG _ _)).cell 5 _ rfl;go_enter Tryz.func183,Tryz.ntmps183;go_wp2_with fail;refine(jG.o _).mono ?_;rintro r v1 ⟨rfl,hb⟩;have E1:=au hb;clear hb jG y0 y1 y2 y3 y4 y5;have y0:=(HB.o v1 E1.o).cell 0 _ rfl;have y1:=(HB.o v1 E1.o).cell 1 _ rfl;have y2:=(HB.o v1 E1.o).cell 2 _ rfl;have y3:=(HB.o v1 E1.o).cell 3 _ rfl;have y4:=(HB.o v1 E1.o).cell 4 _ rfl;have y5:=(HB.o v1 E1.o).cell 5 _ rfl;go_wp2_with fail;refine(zJ.o _).mono ?_;rintro r v2 ⟨rfl,hb⟩;have E2:=au (E1.o.trans (hb.mono E1.o.size));clear hb zJ y0 y1 y2 y3 y4 y5;have hb1:=HB.o v2.drew E2.o.drew;have kS:Aside (v2.drew.cell? ⟨g,12,none⟩=some (.float .f64 lo)/\v2.drew.cell? ⟨g,3,none⟩=some (.int .i64 m)):=au ⟨hb1.cell 12 _ rfl,hb1.cell 3 _ rfl⟩;have hzb':=hzb.symm;clear hb1 hzb;go_wp2_with fail
   go_region_held3 (fun w'=>w'.cell? ⟨g,12,none⟩=some (.float .f64 lo)/\w'.cell? ⟨g,3,none⟩=some (.int .i64 m)) (with_reducible exact kS.o) (first
    | (go_at_call 238
       with_reducible refine(HNO.o _).mono ?_
       rintro r v ⟨rfl,rfl⟩)
    | (go_at_call 168
       with_reducible refine(HSA.o _).mono ?_
       rintro r v ⟨rfl,rfl⟩))
   go_wp2;go_ret;exact⟨rfl,E2.o.drew⟩
 rw[if_neg hp] at h;have t2:(pl==0)=false:=by simp[hp]
 have HCL:=hid (fun u:World=>MW HW.o h u);clear hp h;have y0:=(HB.o w (aG _ _)).cell 0 _ rfl;have y1:=(HB.o w (aG _ _)).cell 1 _ rfl;have y2:=(HB.o w (aG _ _)).cell 2 _ rfl;have y3:=(HB.o w (aG _ _)).cell 3 _ rfl;have y4:=(HB.o w (aG _ _)).cell 4 _ rfl;have y5:=(HB.o w (aG _ _)).cell 5 _ rfl;go_enter Tryz.func183,Tryz.ntmps183;go_wp2_with fail;refine(jG.o _).mono ?_;rintro r v1 ⟨rfl,hb⟩;have E1:=au hb;clear hb jG y0 y1 y2 y3 y4 y5;have y0:=(HB.o v1 E1.o).cell 0 _ rfl;have y1:=(HB.o v1 E1.o).cell 1 _ rfl;have y2:=(HB.o v1 E1.o).cell 2 _ rfl;have y3:=(HB.o v1 E1.o).cell 3 _ rfl;have y4:=(HB.o v1 E1.o).cell 4 _ rfl;have y5:=(HB.o v1 E1.o).cell 5 _ rfl;go_wp2_with fail;refine(zJ.o _).mono ?_;rintro r v2 ⟨rfl,hb⟩;have E2:=au (E1.o.trans (hb.mono E1.o.size));clear hb zJ y0 y1 y2 y3 y4 y5;have y0:=(HB.o v2 E2.o).cell 12 _ rfl;go_wp2_with fail;refine(HCL.o _).mono ?_;rintro r v3 ⟨⟨cc,rfl,hcc⟩,hb⟩;have E3:=au (E2.o.trans (hb.mono E2.o.size));clear hb HCL;go_wp2;go_ret;exact⟨rfl,E3.o⟩
theorem yv{P:Prop}(h:P:=by
 clear hb1
 go_region_held3 (fun w'=>w'.cell? ⟨g,13,none⟩=some (.float .f64 hi)) (with_reducible exact kS.o) (first
  | (go_at_call 127
     with_reducible refine(HI.o _).mono ?_
     rintro r v ⟨rfl,rfl⟩)
  | (go_at_call 168
     with_reducible refine(HSA.o _).mono ?_
     rintro r v ⟨rfl,rfl⟩))
 go_wp2;go_ret;exact⟨rfl,KB.o.drew⟩):P:=h
theorem Ho{w:World}{g:Nat}{s:Sp}{o q:Option (Bool×Nat×Int)}{lo hi:Nat}(H:fe w g s o q lo hi)(hs:s.sm)(hw:hi<18446744073709551616)(h:if 0<s.u then hi=9218868437227405312 else if iZ s=0 then hi=18442240474082181120 else if nT s=0 then hi=(if s.p=0 then 9223372036854775808 else 0) else aP hi<9218868437227405312) :
 Calls Tryz.prog 184 #[.pointer (some ⟨g,0,none⟩)] w fun r w'=>r=.returned (.bool true)/\Below w.heap.size w w':=by
 have jG:=hid (fun u:World=>mQ s hs u);have zJ:=hid (fun u:World=>wU s hs u);have HSA:=hid (fun u:World=>Uo hi hw u);obtain⟨a1,c1,a2,c2,kb,n1,n2⟩:=H;have HB:Aside (∀ u:World,Below w.heap.size w u->Bl u g 79 (uE s o q a1 c1 a2 c2 lo hi)):=au fun u hu=>kb.below hu kb.lt;have yc:=kb.cell 1 _ rfl;have HW:=au hw;obtain⟨fl,hfl⟩:=ah (iZ s);obtain⟨pl,hpl⟩:=ah (nT s);rw[show s.a-s.n-s.u-s.d=fl from hfl.symm] at jG;rw[<-hpl] at zJ h;rw[<-hfl] at h;obtain⟨n,u,d,m,p,l⟩:=s;unfold Sp.agg at jG zJ;simp only at jG zJ HB h yc;clear kb n1 n2 hfl hpl hs hw
 by_cases hd:0<u
 · rw[if_pos hd] at h;have t0:decide (0<u)=true:=decide_eq_true hd;clear hd jG zJ;go_enter Tryz.func184,Tryz.ntmps184;go_wp2_with fail;have hb1:=HB.o w.drew (aG w.heap.size w).drew;have kS:Aside (w.drew.cell? ⟨g,13,none⟩=some (.float .f64 hi)):=au (hb1.cell 13 _ rfl)
   have HI:Hid (∀ u:World,Calls Tryz.prog 127 #[.int .i64 (1)] u fun r w'=>r=.returned (.float .f64 hi)/\w'=u):=by
    intro u;have:=Db u;rw[<-h] at this;exact this
   clear h;have KB:=au (aG w.heap.size w);exact yv
 rw[if_neg hd] at h;have t0:decide (0<u)=false:=decide_eq_false hd;clear hd
 by_cases hf:fl=0
 · rw[if_pos hf] at h;have t1:(fl==0)=true:=by simp[hf]
   clear hf zJ;have y0:=(HB.o w (aG _ _)).cell 0 _ rfl;have y1:=(HB.o w (aG _ _)).cell 1 _ rfl;have y2:=(HB.o w (aG _ _)).cell 2 _ rfl;have y3:=(HB.o w (aG _ _)).cell 3 _ rfl;have y4:=(HB.o w (aG _ _)).cell 4 _ rfl;have y5:=(HB.o w (aG _ _)).cell 5 _ rfl;go_enter Tryz.func184,Tryz.ntmps184;go_wp2_with fail;refine(jG.o _).mono ?_;rintro r v1 ⟨rfl,hb⟩;have E1:=au hb;clear hb jG y0 y1 y2 y3 y4 y5;go_wp2_with fail;have hb1:=HB.o v1.drew E1.o.drew;have kS:Aside (v1.drew.cell? ⟨g,13,none⟩=some (.float .f64 hi)):=au (hb1.cell 13 _ rfl)
   have HI:Hid (∀ u:World,Calls Tryz.prog 127 #[.int .i64 (-1)] u fun r w'=>r=.returned (.float .f64 hi)/\w'=u):=by
    intro u;have:=uh u;rw[<-h] at this;exact this
   clear h;have KB:=au E1.o;exact yv
 rw[if_neg hf] at h;have t1:(fl==0)=false:=by simp[hf]
 clear hf
 by_cases hp:pl=0
 · rw[if_pos hp] at h;have t2:(pl==0)=true:=by simp[hp]
   obtain⟨zb,hzb⟩:=ah ((p==0));have hz:hi=(if zb=true then 9223372036854775808 else 0):=by rw[h,hzb];simp
   have HNO:=hid (fun u:World=>Hm zb u);rw[<-hz] at HNO;clear hp h hz;have y0:=(HB.o w (aG _ _)).cell 0 _ rfl;have y1:=(HB.o w (aG _ _)).cell 1 _ rfl;have y2:=(HB.o w (aG _ _)).cell 2 _ rfl;have y3:=(HB.o w (aG _ _)).cell 3 _ rfl;have y4:=(HB.o w (aG _ _)).cell 4 _ rfl;have y5:=(HB.o w (aG _ _)).cell 5 _ rfl;go_enter Tryz.func184,Tryz.ntmps184;go_wp2_with fail;refine(jG.o _).mono ?_;rintro r v1 ⟨rfl,hb⟩;have E1:=au hb;clear hb jG y0 y1 y2 y3 y4 y5;have y0:=(HB.o v1 E1.o).cell 0 _ rfl;have y1:=(HB.o v1 E1.o).cell 1 _ rfl;have y2:=(HB.o v1 E1.o).cell 2 _ rfl;have y3:=(HB.o v1 E1.o).cell 3 _ rfl;have y4:=(HB.o v1 E1.o).cell 4 _ rfl;have y5:=(HB.o v1 E1.o).cell 5 _ rfl;go_wp2_with fail;refine(zJ.o _).mono ?_;rintro r v2 ⟨rfl,hb⟩;have E2:=au (E1.o.trans (hb.mono E1.o.size));clear hb zJ y0 y1 y2 y3 y4 y5;have hb1:=HB.o v2.drew E2.o.drew;have kS:Aside (v2.drew.cell? ⟨g,13,none⟩=some (.float .f64 hi)/\v2.drew.cell? ⟨g,4,none⟩=some (.int .i64 p)):=au ⟨hb1.cell 13 _ rfl,hb1.cell 4 _ rfl⟩;have hzb':=hzb.symm;clear hb1 hzb;go_wp2_with fail
   go_region_held3 (fun w'=>w'.cell? ⟨g,13,none⟩=some (.float .f64 hi)/\w'.cell? ⟨g,4,none⟩=some (.int .i64 p)) (with_reducible exact kS.o) (first
    | (go_at_call 238
       with_reducible refine(HNO.o _).mono ?_
       rintro r v ⟨rfl,rfl⟩)
    | (go_at_call 168
       with_reducible refine(HSA.o _).mono ?_
       rintro r v ⟨rfl,rfl⟩))
   go_wp2;go_ret;exact⟨rfl,E2.o.drew⟩
 rw[if_neg hp] at h;have t2:(pl==0)=false:=by simp[hp]
 have HCL:=hid (fun u:World=>MW HW.o h u);clear hp h;have y0:=(HB.o w (aG _ _)).cell 0 _ rfl;have y1:=(HB.o w (aG _ _)).cell 1 _ rfl;have y2:=(HB.o w (aG _ _)).cell 2 _ rfl;have y3:=(HB.o w (aG _ _)).cell 3 _ rfl;have y4:=(HB.o w (aG _ _)).cell 4 _ rfl;have y5:=(HB.o w (aG _ _)).cell 5 _ rfl;go_enter Tryz.func184,Tryz.ntmps184;go_wp2_with fail;refine(jG.o _).mono ?_;rintro r v1 ⟨rfl,hb⟩;have E1:=au hb;clear hb jG y0 y1 y2 y3 y4 y5;have y0:=(HB.o v1 E1.o).cell 0 _ rfl;have y1:=(HB.o v1 E1.o).cell 1 _ rfl;have y2:=(HB.o v1 E1.o).cell 2 _ rfl;have y3:=(HB.o v1 E1.o).cell 3 _ rfl;have y4:=(HB.o v1 E1.o).cell 4 _ rfl;have y5:=(HB.o v1 E1.o).cell 5 _ rfl;go_wp2_with fail;refine(zJ.o _).mono ?_;rintro r v2 ⟨rfl,hb⟩;have E2:=au (E1.o.trans (hb.mono E1.o.size));clear hb zJ y0 y1 y2 y3 y4 y5;have y0:=(HB.o v2 E2.o).cell 13 _ rfl;go_wp2_with fail;refine(HCL.o _).mono ?_;rintro r v3 ⟨⟨cc,rfl,hcc⟩,hb⟩;have E3:=au (E2.o.trans (hb.mono E2.o.size));clear hb HCL;go_wp2;go_ret;exact⟨rfl,E3.o⟩
theorem Hq {w:World}{g:Nat}{s:Sp}{o q:Option (Bool×Nat×Int)}{lo hi:Nat}(H:fe w g s o q lo hi) (hw1:lo<18446744073709551616) (hw2:hi<18446744073709551616)
 (h:s.n<s.a->(bG lo<=bG hi/\(∀ u:World,Below w.heap.size w u->Calls Tryz.prog 183 #[.pointer (some ⟨g,0,none⟩)] u fun r w'=>r=.returned (.bool true)/\Below u.heap.size u w')/\(∀ u:World,Below w.heap.size w u->Calls Tryz.prog 184 #[.pointer (some ⟨g,0,none⟩)] u fun r w'=>r=.returned (.bool true)/\Below u.heap.size u w'))) :
 Calls Tryz.prog 107 #[.pointer (some ⟨g,0,none⟩)] w fun r w'=>r=.returned (.bool true)/\Below w.heap.size w w':=by
 have HR:=hid (ll H);have HO:=hid (fun u:World=>Eb hw1 hw2 u);obtain⟨a1,c1,a2,c2,kb,n1,n2⟩:=H;have HB:Aside (∀ u:World,Below w.heap.size w u->Bl u g 79 (uE s o q a1 c1 a2 c2 lo hi)):=au fun u hu=>kb.below hu kb.lt;clear kb n1 n2 hw1 hw2
 by_cases hna:s.n<s.a
 · rw[decide_eq_true hna] at HR;obtain⟨h0,h1,h2⟩:=h hna;have H1:=hid h1;have H2:=hid h2
   have t0:decide (B.oc (bG lo) (bG hi)<=0)=true:=by
    rw[decide_eq_true_eq];have:=(TK (bG lo) (bG hi)).2
    by_cases c:0<B.oc (bG lo) (bG hi)
    · rw[this] at c;omega
    · omega
   obtain⟨oc,hoc⟩:=ah (B.oc (bG lo) (bG hi));rw[<-hoc] at HO t0;clear hoc h0 h1 h2 h hna;go_enter Tryz.func107,Tryz.ntmps107;go_wp2_with fail;refine HR.o.mono ?_;rintro r v ⟨rfl,hb⟩;have E1:=au hb;clear hb HR;have hb1:=HB.o v.drew E1.o.drew;have kS:Aside (v.drew.cell? ⟨g,12,none⟩=some (.float .f64 lo)/\v.drew.cell? ⟨g,13,none⟩=some (.float .f64 hi)):=au ⟨hb1.cell 12 _ rfl,hb1.cell 13 _ rfl⟩;have C1:=hid (H1.o v.drew E1.o.drew);clear hb1 H1;go_wp2_with fail
   go_region_held3 (fun w'=>w'.cell? ⟨g,12,none⟩=some (.float .f64 lo)/\w'.cell? ⟨g,13,none⟩=some (.float .f64 hi)) (with_reducible exact kS.o) (first
    | (go_at_call 183
       with_reducible refine C1.o.mono ?_
       rintro r v2 ⟨rfl,hb⟩;have E2:Aside (Below w.heap.size w v2):=au (E1.o.drew.trans (hb.mono E1.o.drew.size));have hb1:=HB.o v2 E2.o;have kS:Aside (v2.cell? ⟨g,12,none⟩=some (.float .f64 lo)/\v2.cell? ⟨g,13,none⟩=some (.float .f64 hi)):=au ⟨hb1.cell 12 _ rfl,hb1.cell 13 _ rfl⟩;have C2:=hid (H2.o v2 E2.o)
       clear hb hb1 C1)
    | (go_at_call 184
       with_reducible refine C2.o.mono ?_
       rintro r v3 ⟨rfl,hb⟩;have E3:Aside (Below w.heap.size w v3):=au (E2.o.trans (hb.mono E2.o.size));have hb1:=HB.o v3 E3.o;have kS:Aside (v3.cell? ⟨g,12,none⟩=some (.float .f64 lo)/\v3.cell? ⟨g,13,none⟩=some (.float .f64 hi)):=au ⟨hb1.cell 12 _ rfl,hb1.cell 13 _ rfl⟩;have C3:=hid (HO.o v3)
       clear hb hb1 C2)
    | (go_at_call 100
       with_reducible refine C3.o.mono ?_
       rintro r v4 ⟨rfl,rfl⟩))
   exact Qba
 · rw[decide_eq_false hna] at HR;clear h hna HO;go_enter Tryz.func107,Tryz.ntmps107;go_wp2_with fail;refine HR.o.mono ?_;rintro r v ⟨rfl,hb⟩;have E1:=au hb;clear hb HR;go_wp2;go_ret;exact⟨rfl,E1.o⟩
theorem XE {w:World}{g:Nat}
 (h1:∀ u:World,Below w.heap.size w u->Calls Tryz.prog 105 #[.pointer (some ⟨g,0,none⟩)] u fun r w'=>r=.returned (.bool true)/\Below u.heap.size u w')
 (h2:∀ u:World,Below w.heap.size w u->Calls Tryz.prog 106 #[.pointer (some ⟨g,0,none⟩)] u fun r w'=>r=.returned (.bool true)/\Below u.heap.size u w')
 (h3:∀ u:World,Below w.heap.size w u->Calls Tryz.prog 107 #[.pointer (some ⟨g,0,none⟩)] u fun r w'=>r=.returned (.bool true)/\Below u.heap.size u w') :
 Calls Tryz.prog 50 #[.pointer (some ⟨g,0,none⟩)] w fun r w'=>r=.returned (.bool true)/\Below w.heap.size w w':=by
 have H1:=hid h1;have H2:=hid h2;have H3:=hid h3;clear h1 h2 h3;go_enter Tryz.func50,Tryz.ntmps50;go_wp2_with fail;refine(H1.o _ (aG _ _)).mono ?_;rintro r v ⟨rfl,hb⟩;have E1:=au hb;clear hb H1;go_wp2_with fail;refine(H2.o _ E1.o).mono ?_;rintro r v2 ⟨rfl,hb⟩;have E2:=au (E1.o.trans (hb.mono E1.o.size));clear hb H2;go_wp2_with fail;refine(H3.o _ E2.o).mono ?_;rintro r v3 ⟨rfl,hb⟩;have E3:=au (E2.o.trans (hb.mono E2.o.size));clear hb H3;go_wp2;go_ret;exact⟨rfl,E3.o⟩
theorem Uq (w:World) (ao:Option Addr) (L:List Nat) (c n u d m p a:Nat) (o q:Option (Bool×Nat×Int)) (lo hi E1 E2:Nat) (hT:bO w)
 (hL:L=Ue n u d m p a o q lo hi) (hF:dO w.heap.size w ao L) (hc:L.length<=c)
 (hx:∀ x ∈ [n,u,d,m,p,a],x<=1099511627776) (h1:dE o=(E1:Int)-4096) (h2:dE q=(E2:Int)-4096) (hE1:E1<=65535) (hE2:E2<=65535) (l1:(ws (dX o)).length<=65535) (l2:(ws (dX q)).length<=65535)
 (f1:(dX o=0/\dN o=false/\E1=4096)\/dX o%2=1) (f2:(dX q=0/\dN q=false/\E2=4096)\/dX q%2=1) (e1:lo<18446744073709551616) (e2:hi<18446744073709551616) (he:n<a\/(lo=0/\hi=0))
 (hS:∀ (v:World) (gS:Nat),bO v->fe v gS ⟨n,u,d,m,p,a⟩ o q lo hi->Calls Tryz.prog 50 #[.pointer (some ⟨gS,0,none⟩)] v fun r w'=>r=.returned (.bool true)/\Below v.heap.size v w') :
 Calls Tryz.prog 13 #[.slice ao L.length c] w fun r w'=>∃ gS,r=.returned (.tuple #[.pointer (some ⟨gS,0,none⟩),.int .i64 0])/\w.heap.size<=gS/\fe w' gS ⟨n,u,d,m,p,a⟩ o q lo hi/\Below w.heap.size w w':=by
 obtain⟨W,hW⟩:=ah (w.alloc (Obj.cells #[.slice ao L.length c,.bool false] 91));have hB:Below w.heap.size w W:=by rw[hW];exact ak _ _
 have HR:gQ W w.heap.size ao L c false:=⟨by rw[hW];exact Bl.new _ _ [_,_],hc⟩
 have HG:Hid (Calls Tryz.prog 49 #[.pointer (some ⟨w.heap.size,0,none⟩)] W fun r w'=>(∃ gS,r=.returned (.pointer (some ⟨gS,0,none⟩))/\W.heap.size<=gS/\fe w' gS ⟨n,u,d,m,p,a⟩ o q lo hi)/\(∃ jq c',gQ w' w.heap.size jq [] c' false)/\But w.heap.size W w'):=by
  have hF':=hF.below hB;rw[hL,PV n u d m p a o q lo hi E1 E2 af af] at HR hF';exact Xy W w.heap.size w.heap.size ao c n u d m p a o q lo hi E1 E2 HR hF' (aB _) hB.size hx h1 h2 hE1 hE2 l1 l2 f1 f2 e1 e2 he
 have HX:=(bM hB hW hT);have HS:=hid hS;obtain⟨l,hl⟩:=ah (L.length);rw[<-hl] at HX |-;clear hL hF hc hx h1 h2 hE1 hE2 l1 l2 f1 f2 e1 e2 he hS hT hW HR hB hl;go_enter Tryz.func13,Tryz.ntmps13
 go_upto_region 2 with fail
 rw[<-HX.o.2.1];go_wp2_with fail;refine HG.o.mono ?_;rintro r v ⟨⟨gS,rfl,hg,hsh⟩,⟨jq,c',hre,_⟩,hbt⟩;have hb2:Below w.heap.size w v:=But.below HX.o.1 hbt HX.o.1.size (aB _);have C:=hid (HS.o v gS (HX.o.r2.belows hb2) hsh);have r0:=hre.cell 0 _ rfl;have r1:=hre.cell 1 _ rfl;have K:=(bM hsh hb2 hg);clear hre hbt hsh hb2 hg HS HG;go_wp2_with fail;refine C.o.mono ?_;rintro r v2 ⟨rfl,hb⟩;obtain⟨hsh,hb2,hg⟩:=K.o;have hs2:=hsh.aD hb;have hb3:=hb2.trans (hb.mono hb2.size);have hg2:w.heap.size<=gS:=by have:=HX.o.1.size;omega
 have K2:=(bM hs2 hb3 hg2);clear hb hsh hb2 hg C hs2 hb3 hg2;go_wp2;refine aJ (v:=.tuple #[.pointer (some ⟨gS,0,none⟩),.int .i64 0]) (by simp[results,Tryz.results13,go_sem]) rfl ?_;exact⟨gS,rfl,K2.o.r2,K2.o.1,K2.o.2.1⟩
theorem PY{w:World}{g:Nat}{C:List Value}(h:Bl w g 79 C)(h0:C[0]?=some (.int .i64 0))(h5:C[5]?=some (.int .i64 0)):Calls Tryz.prog 43 #[.pointer (some ⟨g,0,none⟩)] w fun r w'=>r=.returned (.bool false)/\Below w.heap.size w w':=by
 have x0:=h.cell 0 _ h0;have x5:=h.cell 5 _ h5;clear h h0 h5;go_enter Tryz.func43,Tryz.ntmps43;go_wp2_with fail
 go_quiet (fail)
 go_wp2;go_ret;exact⟨rfl,ib (aG _ _) _⟩
theorem Ur(w:World)(g:Nat)(am:Bool)(h:R0 w g am) :
 Calls Tryz.prog 49 #[.pointer (some ⟨g,0,none⟩)] w fun r w'=>(∃ gS,r=.returned (.pointer (some ⟨gS,0,none⟩)))/\R0 w' g true/\But g w w':=by
 have HN:=hid (Ty w);have HX:=au h;clear h;go_enter Tryz.func49,Tryz.ntmps49;go_wp2_with fail;refine HN.o.mono ?_;rintro r v0 ⟨rfl,hS,hb⟩;obtain⟨gS,QI⟩:=ah (w.heap.size);rw[<-QI];obtain⟨x1,y1,x2,y2,hS0,_,_⟩:=hS;rw[<-QI] at hS0;have K0:Aside (But g w v0/\Bl v0 gS 79 [.int .i64 0,.int .i64 0,.int .i64 0,.int .i64 0,.int .i64 0,.int .i64 0,.bool (dN dz),.slice x1 (ws (dX dz)).length y1,.int .i64 (dE dz),.bool (dN dz),.slice x2 (ws (dX dz)).length y2,.int .i64 (dE dz),.float .f64 0,.float .f64 0]/\gS=w.heap.size/\gS≠g):=au ⟨(But.refl g w).of_below hb,hS0,QI,by have:=HX.o.lt;omega⟩;have C:=hid (Ha v0 g am (HX.o.below hb HX.o.lt));clear hS0 QI hb HN;go_wp2_with fail;refine C.o.mono ?_;rintro r v1 ⟨rfl,⟨am1,q1⟩,hb⟩;have hS1:Bl v1 gS 79 [.int .i64 0,.int .i64 0,.int .i64 0,.int .i64 0,.int .i64 0,.int .i64 0,.bool (dN dz),.slice x1 (ws (dX dz)).length y1,.int .i64 (dE dz),.bool (dN dz),.slice x2 (ws (dX dz)).length y2,.int .i64 (dE dz),.float .f64 0,.float .f64 0]:=K0.o.2.1.but hb K0.o.r3;have z0:=hS1.cell 0 _ rfl;have f0:=hS1.frozen 0;have z1:=hS1.cell 1 _ rfl;have f1:=hS1.frozen 1;have z2:=hS1.cell 2 _ rfl;have f2:=hS1.frozen 2;have z3:=hS1.cell 3 _ rfl;have f3:=hS1.frozen 3;have z4:=hS1.cell 4 _ rfl;have f4:=hS1.frozen 4;have z5:=hS1.cell 5 _ rfl;have f5:=hS1.frozen 5;have hbS:=But.set (But.set (But.set (But.set (But.set (But.set (But.refl gS v1) 0 (.int .i64 0)) 1 (.int .i64 0)) 2 (.int .i64 0)) 3 (.int .i64 0)) 4 (.int .i64 0)) 5 (.int .i64 0);have hS2:Bl ((((((v1.setCell ⟨gS,0,none⟩ (.int .i64 0)).setCell ⟨gS,1,none⟩ (.int .i64 0)).setCell ⟨gS,2,none⟩ (.int .i64 0)).setCell ⟨gS,3,none⟩ (.int .i64 0)).setCell ⟨gS,4,none⟩ (.int .i64 0)).setCell ⟨gS,5,none⟩ (.int .i64 0)) gS 79 [.int .i64 0,.int .i64 0,.int .i64 0,.int .i64 0,.int .i64 0,.int .i64 0,.bool (dN dz),.slice x1 (ws (dX dz)).length y1,.int .i64 (dE dz),.bool (dN dz),.slice x2 (ws (dX dz)).length y2,.int .i64 (dE dz),.float .f64 0,.float .f64 0]:=((((((hS1.set 0 _).set 1 _).set 2 _).set 3 _).set 4 _).set 5 _);obtain⟨V1,hV1⟩:=ah (((((((v1.setCell ⟨gS,0,none⟩ (.int .i64 0)).setCell ⟨gS,1,none⟩ (.int .i64 0)).setCell ⟨gS,2,none⟩ (.int .i64 0)).setCell ⟨gS,3,none⟩ (.int .i64 0)).setCell ⟨gS,4,none⟩ (.int .i64 0)).setCell ⟨gS,5,none⟩ (.int .i64 0)))
 go_upto_region 3 with fail
 rw[<-hV1];rw[<-hV1] at hbS hS2;have K1:Aside (But g w V1/\Bl V1 gS 79 [.int .i64 0,.int .i64 0,.int .i64 0,.int .i64 0,.int .i64 0,.int .i64 0,.bool (dN dz),.slice x1 (ws (dX dz)).length y1,.int .i64 (dE dz),.bool (dN dz),.slice x2 (ws (dX dz)).length y2,.int .i64 (dE dz),.float .f64 0,.float .f64 0]/\gS=w.heap.size/\gS≠g):=au ⟨eQ (K0.o.1.trans hb) hbS (by have:=K0.o.r2.1;omega),hS2,K0.o.r2.1,K0.o.r3⟩;have C1:=hid (MR V1 g am1 (q1.but hbS K0.o.r3.symm));clear hV1 hbS hS2 hS1 q1 hb C K0 z0 f0 z1 f1 z2 f2 z3 f3 z4 f4 z5 f5;go_wp2_with fail;refine C1.o.mono ?_;rintro r v2 ⟨⟨b1,rfl⟩,q1,hb⟩;have hS1:Bl v2 gS 79 [.int .i64 0,.int .i64 0,.int .i64 0,.int .i64 0,.int .i64 0,.int .i64 0,.bool (dN dz),.slice x1 (ws (dX dz)).length y1,.int .i64 (dE dz),.bool (dN dz),.slice x2 (ws (dX dz)).length y2,.int .i64 (dE dz),.float .f64 0,.float .f64 0]:=K1.o.2.1.but hb K1.o.r3;have z6:=hS1.cell 6 _ rfl;have f6:=hS1.frozen 6;have z7:=hS1.cell 7 _ rfl;have f7:=hS1.frozen 7;have z8:=hS1.cell 8 _ rfl;have f8:=hS1.frozen 8;have hbS:=But.set (But.set (But.set (But.refl gS v2) 6 (.bool false)) 7 (.slice b1 0 0)) 8 (.int .i64 (-4096));have hS2:Bl (((v2.setCell ⟨gS,6,none⟩ (.bool false)).setCell ⟨gS,7,none⟩ (.slice b1 0 0)).setCell ⟨gS,8,none⟩ (.int .i64 (-4096))) gS 79 [.int .i64 0,.int .i64 0,.int .i64 0,.int .i64 0,.int .i64 0,.int .i64 0,.bool false,.slice b1 0 0,.int .i64 (-4096),.bool (dN dz),.slice x2 (ws (dX dz)).length y2,.int .i64 (dE dz),.float .f64 0,.float .f64 0]:=(((hS1.set 6 _).set 7 _).set 8 _);obtain⟨V2,hV2⟩:=ah ((((v2.setCell ⟨gS,6,none⟩ (.bool false)).setCell ⟨gS,7,none⟩ (.slice b1 0 0)).setCell ⟨gS,8,none⟩ (.int .i64 (-4096))))
 go_upto_region 4 with fail
 rw[<-hV2];rw[<-hV2] at hbS hS2;have hR2:R0 V2 g true:=q1.but hbS K1.o.r3.symm;have K2:Aside (But g w V2/\Bl V2 gS 79 [.int .i64 0,.int .i64 0,.int .i64 0,.int .i64 0,.int .i64 0,.int .i64 0,.bool false,.slice b1 0 0,.int .i64 (-4096),.bool (dN dz),.slice x2 (ws (dX dz)).length y2,.int .i64 (dE dz),.float .f64 0,.float .f64 0]/\gS=w.heap.size/\gS≠g):=au ⟨eQ (K1.o.1.trans hb) hbS (by have:=K1.o.r2.1;omega),hS2,K1.o.r2.1,K1.o.r3⟩;have C2:=hid (MR V2 g true hR2);clear hR2;clear hV2 hbS hS2 hS1 q1 hb C1 K1 z6 f6 z7 f7 z8 f8;go_wp2_with fail;refine C2.o.mono ?_;rintro r v3 ⟨⟨b2,rfl⟩,q1,hb⟩;have hS1:Bl v3 gS 79 [.int .i64 0,.int .i64 0,.int .i64 0,.int .i64 0,.int .i64 0,.int .i64 0,.bool false,.slice b1 0 0,.int .i64 (-4096),.bool (dN dz),.slice x2 (ws (dX dz)).length y2,.int .i64 (dE dz),.float .f64 0,.float .f64 0]:=K2.o.2.1.but hb K2.o.r3;have z9:=hS1.cell 9 _ rfl;have f9:=hS1.frozen 9;have z10:=hS1.cell 10 _ rfl;have f10:=hS1.frozen 10;have z11:=hS1.cell 11 _ rfl;have f11:=hS1.frozen 11;have hbS:=But.set (But.set (But.set (But.refl gS v3) 9 (.bool false)) 10 (.slice b2 0 0)) 11 (.int .i64 (-4096));have hS2:Bl (((v3.setCell ⟨gS,9,none⟩ (.bool false)).setCell ⟨gS,10,none⟩ (.slice b2 0 0)).setCell ⟨gS,11,none⟩ (.int .i64 (-4096))) gS 79 [.int .i64 0,.int .i64 0,.int .i64 0,.int .i64 0,.int .i64 0,.int .i64 0,.bool false,.slice b1 0 0,.int .i64 (-4096),.bool false,.slice b2 0 0,.int .i64 (-4096),.float .f64 0,.float .f64 0]:=(((hS1.set 9 _).set 10 _).set 11 _);obtain⟨V3,G7⟩:=ah ((((v3.setCell ⟨gS,9,none⟩ (.bool false)).setCell ⟨gS,10,none⟩ (.slice b2 0 0)).setCell ⟨gS,11,none⟩ (.int .i64 (-4096))))
 go_upto_region 5 with fail
 rw[<-G7];rw[<-G7] at hbS hS2;have hR3:R0 V3 g true:=q1.but hbS K2.o.r3.symm;have K3:Aside (But g w V3/\Bl V3 gS 79 [.int .i64 0,.int .i64 0,.int .i64 0,.int .i64 0,.int .i64 0,.int .i64 0,.bool false,.slice b1 0 0,.int .i64 (-4096),.bool false,.slice b2 0 0,.int .i64 (-4096),.float .f64 0,.float .f64 0]/\gS=w.heap.size/\gS≠g):=au ⟨eQ (K2.o.1.trans hb) hbS (by have:=K2.o.r2.1;omega),hS2,K2.o.r2.1,K2.o.r3⟩;clear G7 hbS hS2 hS1 q1 hb C2 K2 z9 f9 z10 f10 z11 f11;have CR:=hid (PY K3.o.2.1 rfl rfl);have HR:=au hR3;clear hR3;go_wp2_with fail;refine CR.o.mono ?_;rintro r v4 ⟨rfl,hb⟩;have KF:Aside (R0 v4 g true/\But g w v4):=au ⟨HR.o.below hb HR.o.lt,K3.o.1.of_below hb⟩;clear hb CR K3 HR;go_wp2;refine aJ (v:=.pointer (some ⟨gS,0,none⟩)) (by simp[results,Tryz.results49,go_sem]) rfl ?_;exact⟨⟨_,rfl⟩,KF.o.1,KF.o.2⟩
theorem PZ(w:World):Calls Tryz.prog 13 #[.slice none 0 0] w fun r w'=>r=.returned (.tuple #[.pointer none,.int .i64 210])/\Below w.heap.size w w':=by
 obtain⟨W,hW⟩:=ah (w.alloc (Obj.cells #[.slice none 0 0,.bool false] 91));have hB:Below w.heap.size w W:=by rw[hW];exact ak _ _
 have HR:R0 W w.heap.size false:=by rw[hW];exact Bl.new _ _ [_,_]
 have HG:=hid (Ur W w.heap.size false HR);have HX:=(aT hB hW);clear hW HR hB;go_enter Tryz.func13,Tryz.ntmps13
 go_upto_region 2 with fail
 rw[<-HX.o.2];go_wp2_with fail;refine HG.o.mono ?_;rintro r v ⟨⟨gS,rfl⟩,hre,hbt⟩;have hb2:Below w.heap.size w v:=But.below HX.o.1 hbt HX.o.1.size (aB _);have r0:=hre.cell 0 _ rfl;have r1:=hre.cell 1 _ rfl;have K:=au hb2;clear hre hbt hb2 HG;go_wp2;refine aJ (v:=.tuple #[.pointer none,.int .i64 210]) (by simp[results,Tryz.results13,go_sem]) rfl ?_;exact⟨rfl,K.o⟩
theorem P5 (w:World) (n h0 h1:Nat) (A T:Nat->Option (Bool×Nat×Int)) (hn:n<=65536) (hT:bO w) (FA:∀ i,i<n->Fm (A i)) (FT:∀ i,i<=n->Fm (T i)) (ET:∀ i,i<n->iO (T i) (A i)=T (i+1)) (E0:dz=T 0)
 (HC:Hid (∀ (i:Nat) (u:World),i<n->Below w.heap.size w u->Calls Tryz.prog 207 #[.int .i64 (i:Nat),.pointer (some ⟨h0,0,none⟩),.pointer (some ⟨h1,0,none⟩)] u fun r w'=>fD 0 w' r (A i)/\Below u.heap.size u w')) :
 Calls Tryz.prog 205 #[.int .i64 (n:Nat),.func (.func 207) #[] #[.pointer (some ⟨h0,0,none⟩),.pointer (some ⟨h1,0,none⟩)]] w fun r w'=>fD 0 w' r (T n)/\Below w.heap.size w w':=by
 obtain⟨W,hW⟩:=ah ((w.alloc (Obj.cells #[.bool false,.slice none 0 0,.int .i64 0] 77)).alloc (Obj.cells #[.bool false,.slice none 0 0,.int .i64 0] 77))
 have H0:Aside (Lo W (w.heap.size+1) (T 0)/\Lo W w.heap.size dz/\Below w.heap.size w W):=by
  exact xT
 have HP:Hid (∀ (i:Nat) (u:World) (p q:Option Addr) (cp cq:Nat),i<n->bO u->Nt 0 u (.slice p (ws (dX (T i))).length cp) (dX (T i))->Nt 0 u (.slice q (ws (dX (A i))).length cq) (dX (A i))->Calls Tryz.prog 253 #[.agg #[.bool (dN (T i)),.slice p (ws (dX (T i))).length cp,.int .i64 (dE (T i))],.agg #[.bool (dN (A i)),.slice q (ws (dX (A i))).length cq,.int .i64 (dE (A i))]] u fun r w'=>fD 0 w' r (T (i+1))/\Below u.heap.size u w') :=
  fun i u p q cp cq hi hT n1 n2=>Tw (FT i af) (FA i hi) (FT (i+1) af) n1 n2 hT (ET i hi)
 have HW:=au hW;have PF:=aT FT FA;have HT:=au hT;clear hW FT FA ET E0 hT;go_enter Tryz.func205,Tryz.ntmps205
 go_upto_region 2 with fail
 rw[<-HW.o];clear HW;go_wp2
 go_loopg [8] n (fun gk i wr=>∃ j:Nat,gk+j=n/\i=.int .i64 (j:Nat)/\Aside (Lo wr (w.heap.size+1) (T j)/\Lo wr w.heap.size dz/\Below w.heap.size w wr))
 case atStart=>exact⟨0,af,aL,H0.o⟩
 case round =>
  exact JT
theorem P6 (i n h0 h1 gx gy:Nat) (A B:Nat->Option (Bool×Nat×Int)) (c:Option (Bool×Nat×Int)) (u:World) (hi:i<n) (hn:n<=65536) (hT:bO u) (FA:Fm (A i)) (FB:Fm (B i)) (Fc:Fm c) (E:dM (A i) (B i)=c)
 (k0:u.cell? ⟨h0,0,none⟩=some (.slice (some ⟨gx,0,none⟩) n n)) (k1:u.cell? ⟨h1,0,none⟩=some (.slice (some ⟨gy,0,none⟩) n n)) (hx:Dr u gx n n A) (hy:Dr u gy n n B) :
 Calls Tryz.prog 207 #[.int .i64 (i:Nat),.pointer (some ⟨h0,0,none⟩),.pointer (some ⟨h1,0,none⟩)] u fun r w'=>fD 0 w' r c/\Below u.heap.size u w':=by
 obtain⟨W,hW⟩:=ah (u.alloc (Obj.cells #[.bool false,.slice none 0 0,.int .i64 0] 77));have LT:Aside (h0<u.heap.size/\h1<u.heap.size/\gx<u.heap.size/\gy<u.heap.size):=⟨iH u _ k0,iH u _ k1,hx.lt,hy.lt⟩;have hb:Below u.heap.size u W.drew:=by rw[hW];exact Ee u
 have L0:Lo W.drew u.heap.size dz:=by rw[hW];exact Ef u
 obtain⟨p1,q1,x0,x1,x2,M1⟩:=(hx.below hb).facts i hi;obtain⟨p2,q2,y0,y1,y2,M2⟩:=(hy.below hb).facts i hi;have kS:Aside (W.drew.cell? ⟨h0,0,none⟩=some (.slice (some ⟨gx,0,none⟩) n n)/\W.drew.cell? ⟨h1,0,none⟩=some (.slice (some ⟨gy,0,none⟩) n n)/\W.drew.cell? ⟨gx,i*3,none⟩=some (.bool (dN (A i)))/\W.drew.cell? ⟨gx,i*3+1,none⟩=some (.slice p1 (ws (dX (A i))).length q1)/\W.drew.cell? ⟨gx,i*3+2,none⟩=some (.int .i64 (dE (A i)))/\W.drew.cell? ⟨gy,i*3,none⟩=some (.bool (dN (B i)))/\W.drew.cell? ⟨gy,i*3+1,none⟩=some (.slice p2 (ws (dX (B i))).length q2)/\W.drew.cell? ⟨gy,i*3+2,none⟩=some (.int .i64 (dE (B i)))):=⟨jX k0 hb,jX k1 hb,x0,x1,x2,y0,y1,y2⟩;have C:=hid (Ms FA FB Fc M1 M2 (hT.belows hb) E);have BD:=(aT hb L0);have FF:=au Fc;have HW:=au hW;have HI:=au hi;clear hW hb L0 x0 x1 x2 y0 y1 y2 M1 M2 k0 k1 hx hy FA FB Fc E hT;go_enter Tryz.func207,Tryz.ntmps207
 go_upto_region 1 with fail
 rw[<-HW.o];clear HW
 go_region_held3 (fun w'=>w'.cell? ⟨h0,0,none⟩=some (.slice (some ⟨gx,0,none⟩) n n)/\w'.cell? ⟨h1,0,none⟩=some (.slice (some ⟨gy,0,none⟩) n n)/\w'.cell? ⟨gx,i*3,none⟩=some (.bool (dN (A i)))/\w'.cell? ⟨gx,i*3+1,none⟩=some (.slice p1 (ws (dX (A i))).length q1)/\w'.cell? ⟨gx,i*3+2,none⟩=some (.int .i64 (dE (A i)))/\w'.cell? ⟨gy,i*3,none⟩=some (.bool (dN (B i)))/\w'.cell? ⟨gy,i*3+1,none⟩=some (.slice p2 (ws (dX (B i))).length q2)/\w'.cell? ⟨gy,i*3+2,none⟩=some (.int .i64 (dE (B i)))) (first | with_reducible exact kS.o | with_reducible exact kT.o) (first
  | (go_at_call 196
     with_reducible refine C.o.mono ?_
     rintro r u3 ⟨hd,hb⟩;obtain⟨a3,c3,rfl,nO⟩:=hd.dR;have BD:=bM (BD.o.1.trans (hb.mono BD.o.1.size)) (BD.o.2.below hb) nO;have kS:=au (ck hb kS.o fun h=>ck4 hb h);have kT:=EG (GQ (x:=.bool (dN c)) (y:=.slice a3 (ws (dX c)).length c3) (z:=.int .i64 (dE c)) kS.o.1 (kz LT.o.1)) (GQ (x:=.bool (dN c)) (y:=.slice a3 (ws (dX c)).length c3) (z:=.int .i64 (dE c)) kS.o.2.1 (kz LT.o.2.1)) (GQ (x:=.bool (dN c)) (y:=.slice a3 (ws (dX c)).length c3) (z:=.int .i64 (dE c)) kS.o.r2.1 (kz LT.o.r2.1)) (GQ (x:=.bool (dN c)) (y:=.slice a3 (ws (dX c)).length c3) (z:=.int .i64 (dE c)) kS.o.r3.1 (kz LT.o.r2.1)) (GQ (x:=.bool (dN c)) (y:=.slice a3 (ws (dX c)).length c3) (z:=.int .i64 (dE c)) kS.o.r4.1 (kz LT.o.r2.1)) (GQ (x:=.bool (dN c)) (y:=.slice a3 (ws (dX c)).length c3) (z:=.int .i64 (dE c)) kS.o.r5.1 (kz LT.o.r3)) (GQ (x:=.bool (dN c)) (y:=.slice a3 (ws (dX c)).length c3) (z:=.int .i64 (dE c)) kS.o.r6.1 (kz LT.o.r3)) (GQ (x:=.bool (dN c)) (y:=.slice a3 (ws (dX c)).length c3) (z:=.int .i64 (dE c)) kS.o.r7 (kz LT.o.r3));obtain⟨zp,zq,DZ,MZ⟩:=BD.o.2.1;obtain⟨z0,z1,z2,OL,OM,OO⟩:=DZ.facts
     clear hb hd nO DZ MZ C))
 go_wp2;exact qI Tryz.results207 rfl BD.o.2.1 BD.o.1 (aB _) BD.o.r2
theorem uI{f g:Nat->Int}{n:Nat}(bf:∀ i,i<n->Bd 2098 (f i))(bg:∀ i,i<n->Bd 2098 (g i))(hn:n<=65536)(k:Nat)(hk:k<=n):Bd 4212 (tS (fun i=>f i*g i) k) :=
 (YK (m:=4196) (fun i hi=>((bf i hi).mul (bg i hi)).mono aA) hn k hk).mono aA
theorem Hr (w:World) (n gx gy:Nat) (ax ay:Option Addr) (cx cy:Nat) (oS oT oP oD:Option (Bool×Nat×Int)) (hP:Fm oP) (hD:Fm oD)
 (N1:Nt 0 w (.slice ax (ws (dX oS)).length cx) (dX oS)) (N2:Nt 0 w (.slice ay (ws (dX oT)).length cy) (dX oT))
 (HC:Hid (∀ u:World,Below w.heap.size w u->u.cell? ⟨w.heap.size,0,none⟩=some (.slice (some ⟨gx,0,none⟩) n n)->u.cell? ⟨w.heap.size+1,0,none⟩=some (.slice (some ⟨gy,0,none⟩) n n)->Calls Tryz.prog 205 #[.int .i64 (n:Nat),.func (.func 207) #[] #[.pointer (some ⟨w.heap.size,0,none⟩),.pointer (some ⟨w.heap.size+1,0,none⟩)]] u fun r w'=>fD 0 w' r oP/\Below u.heap.size u w'))
 (HD:Hid (∀ (u:World) (a b d:Option Addr) (ca cb cd:Nat),Below w.heap.size w u->Nt 0 u (.slice a (ws (dX oP)).length ca) (dX oP)->Nt 0 u (.slice b (ws (dX oS)).length cb) (dX oS)->Nt 0 u (.slice d (ws (dX oT)).length cd) (dX oT)->Calls Tryz.prog 117 #[.int .i64 (n:Nat),.agg #[.bool (dN oP),.slice a (ws (dX oP)).length ca,.int .i64 (dE oP)],.agg #[.bool (dN oS),.slice b (ws (dX oS)).length cb,.int .i64 (dE oS)],.agg #[.bool (dN oT),.slice d (ws (dX oT)).length cd,.int .i64 (dE oT)]] u fun r w'=>nG w' r oD 0/\Below u.heap.size u w')) :
 Calls Tryz.prog 130 #[.agg #[.slice (some ⟨gx,0,none⟩) n n,.bool (dN oS),.slice ax (ws (dX oS)).length cx,.int .i64 (dE oS)],.agg #[.slice (some ⟨gy,0,none⟩) n n,.bool (dN oT),.slice ay (ws (dX oT)).length cy,.int .i64 (dE oT)]] w fun r w'=>fD 0 w' r oD/\Below w.heap.size w w':=by
 obtain⟨W,hW⟩:=ah (((w.alloc (Obj.cells #[.slice (some ⟨gx,0,none⟩) n n,.bool (dN oS),.slice ax (ws (dX oS)).length cx,.int .i64 (dE oS)] 165)).alloc (Obj.cells #[.slice (some ⟨gy,0,none⟩) n n,.bool (dN oT),.slice ay (ws (dX oT)).length cy,.int .i64 (dE oT)] 165)).alloc (Obj.cells #[.bool false,.slice none 0 0,.int .i64 0] 77))
 have H0:Aside (Bl W w.heap.size 165 [.slice (some ⟨gx,0,none⟩) n n,.bool (dN oS),.slice ax (ws (dX oS)).length cx,.int .i64 (dE oS)]/\Bl W (w.heap.size+1) 165 [.slice (some ⟨gy,0,none⟩) n n,.bool (dN oT),.slice ay (ws (dX oT)).length cy,.int .i64 (dE oT)]/\Lo W (w.heap.size+2) dz/\Below w.heap.size w W/\Nt 0 W (.slice ax (ws (dX oS)).length cx) (dX oS)/\Nt 0 W (.slice ay (ws (dX oT)).length cy) (dX oT)):=by
  have hbW:Below w.heap.size w W:=by rw[hW];exact((ag _ _).trans ((ag _ _).mono aL)).trans ((ag _ _).mono (by simp;omega))
  refine⟨?_,?_,?_,hbW,N1.below hbW,N2.below hbW⟩
  · rw[hW];exact((Bl.new w 165 [.slice (some ⟨gx,0,none⟩) n n,.bool (dN oS),.slice ax (ws (dX oS)).length cx,.int .i64 (dE oS)]).alloc _).alloc _
  · have z1:=Bl.new (w.alloc (Obj.cells #[.slice (some ⟨gx,0,none⟩) n n,.bool (dN oS),.slice ax (ws (dX oS)).length cx,.int .i64 (dE oS)] 165)) 165 [.slice (some ⟨gy,0,none⟩) n n,.bool (dN oT),.slice ay (ws (dX oT)).length cy,.int .i64 (dE oT)];rw[dL] at z1;rw[hW];exact z1.alloc _
  · have z2:=Lo.zero ((w.alloc (Obj.cells #[.slice (some ⟨gx,0,none⟩) n n,.bool (dN oS),.slice ax (ws (dX oS)).length cx,.int .i64 (dE oS)] 165)).alloc (Obj.cells #[.slice (some ⟨gy,0,none⟩) n n,.bool (dN oT),.slice ay (ws (dX oT)).length cy,.int .i64 (dE oT)] 165));rw[dL,dL] at z2;rw[hW];exact z2
 have HW:=au hW;have FF:=(aT hP hD);clear hW N1 N2 hP hD;go_enter Tryz.func130,Tryz.ntmps130
 go_upto_region 1 with fail
 rw[<-HW.o];clear HW;have s0:=H0.o.1.cell 0 _ rfl;have hmf:∀ (fn:Fn) (first cap:Array Value) (w:World),(Instr.makeFunc fn first cap).run Tryz.prog w=.ok (.func fn first cap) w:=fun _ _ _ _=>rfl;have C:=hid (HC.o W H0.o.r3.1 (H0.o.1.cell 0 _ rfl) (H0.o.2.1.cell 0 _ rfl));go_wp2_with fail;refine C.o.mono ?_;rintro r u1 ⟨hd,hb⟩;obtain⟨a1,c1,rfl,hN1⟩:=hd.dR;obtain⟨U,hU⟩:=ah (u1.alloc (Obj.cells #[.bool (dN oP),.slice a1 (ws (dX oP)).length c1,.int .i64 (dE oP)] 77));obtain⟨g6,hg6⟩:=ah (u1.heap.size)
 have H1:Aside (Lo U g6 oP/\Bl U w.heap.size 165 [.slice (some ⟨gx,0,none⟩) n n,.bool (dN oS),.slice ax (ws (dX oS)).length cx,.int .i64 (dE oS)]/\Bl U (w.heap.size+1) 165 [.slice (some ⟨gy,0,none⟩) n n,.bool (dN oT),.slice ay (ws (dX oT)).length cy,.int .i64 (dE oT)]/\Lo U (w.heap.size+2) dz/\Below w.heap.size w U/\Nt 0 U (.slice ax (ws (dX oS)).length cx) (dX oS)/\Nt 0 U (.slice ay (ws (dX oT)).length cy) (dX oT)):=by
  have rE:Below W.heap.size W U:=by rw[hU];exact hb.trans ((ag _ _).mono hb.size)
  refine⟨?_,H0.o.1.below rE H0.o.1.lt,H0.o.2.1.below rE H0.o.2.1.lt,H0.o.r2.1.below rE,H0.o.r3.1.trans (rE.mono H0.o.r3.1.size),H0.o.r4.1.below rE,H0.o.r5.below rE⟩;rw[hU,hg6];exact Lo.new hN1
 have HU:=(aT hU hg6);clear hU hg6 hb hd hN1 C H0 s0
 go_upto_region 3 with fail
 rw[<-HU.o.1,<-HU.o.2];clear HU;obtain⟨pp,qp,DP,MP⟩:=H1.o.1;obtain⟨x0,x1,x2,dB,dC,dD⟩:=DP.facts;have s1:=H1.o.2.1.cell 1 _ rfl;have s2:=H1.o.2.1.cell 2 _ rfl;have s3:=H1.o.2.1.cell 3 _ rfl;have t1:=H1.o.r2.1.cell 1 _ rfl;have t2:=H1.o.r2.1.cell 2 _ rfl;have t3:=H1.o.r2.1.cell 3 _ rfl;have C:=hid (HD.o U pp ax ay qp cx cy H1.o.r4.1 MP H1.o.r5.1 H1.o.r6);clear DP MP;go_wp2_with fail;refine C.o.mono ?_;rintro r u2 ⟨hd,hb⟩;obtain⟨a2,c2,rfl,zI⟩:=hd.dR;obtain⟨V,hV⟩:=ah (u2.alloc (Obj.cells #[.bool (dN oD),.slice a2 (ws (dX oD)).length c2,.int .i64 (dE oD)] 77));obtain⟨g7,hg7⟩:=ah (u2.heap.size)
 have H2:Aside (Lo V g7 oD/\Lo V (w.heap.size+2) dz/\Below w.heap.size w V):=by
  have zT:Below U.heap.size U V:=by rw[hV];exact hb.trans ((ag _ _).mono hb.size)
  refine⟨?_,H1.o.r3.1.below zT,H1.o.r4.1.trans (zT.mono H1.o.r4.1.size)⟩;rw[hV,hg7];exact Lo.new zI
 have HV:=(aT hV hg7);clear hV hg7 hb hd zI C H1 x0 x1 x2 dB dC dD s1 s2 s3 t1 t2 t3
 go_upto_region 4 with fail
 rw[<-HV.o.1,<-HV.o.2];clear HV;obtain⟨p1,q1,D1,M1⟩:=H2.o.1;obtain⟨p2,q2,D2,M2⟩:=H2.o.2.1;obtain⟨x0,x1,x2,dB,dC,dD⟩:=D1.facts;obtain⟨y0,y1,y2,eF,eG,eO⟩:=D2.facts;have MM1:=au M1;clear D1 D2 M1 M2;go_wp2;exact qI Tryz.results130 rfl H2.o.2.1 H2.o.r2 af MM1.o
theorem Us {w:World}{v1 v2:Value}{n:Nat}{f g:Nat->Int}{S T:Int}(hn:n<=65536) (hT:bO w) (bf:∀ i,i<n->Bd 2098 (f i)) (bg:∀ i,i<n->Bd 2098 (g i)) (bS:Bd 2114 S) (bT:Bd 2114 T)
 (h1:Rr w v1 n (fun i=>gV 1074 (f i)) (gV 1074 S)) (h2:Rr w v2 n (fun i=>gV 1074 (g i)) (gV 1074 T)) :
 Calls Tryz.prog 130 #[v1,v2] w fun r w'=>fD 0 w' r (gV 2148 ((n:Int)*tS (fun i=>f i*g i) n-S*T))/\Below w.heap.size w w':=by
 obtain⟨gx,ax,cx,rfl,hx,n1⟩:=h1;obtain⟨gy,ay,cy,rfl,hy,n2⟩:=h2;have bP:=fun k hk=>uI bf bg hn k hk;have bn:Bd 16 (n:Int):=Bd.nat af;refine Hr w n gx gy ax ay cx cy (gV 1074 S) (gV 1074 T) (gV 2148 (tS (fun i=>f i*g i) n)) _ (cu aA aA (bP n (aB _))) (cu (m:=4229) aA aA (Bd.sub (m:=4228) ((bn.mul (bP n (aB _))).mono aA) ((bS.mul bT).mono aA))) n1 n2 (hid fun u hu k0 k1=>?_) (hid fun u a b d ca cb cd hu m1 m2 m3=>difg14 hn (bP n (aB _)) bS bT (hT.belows hu) m1 m2 m3);refine P5 u n w.heap.size (w.heap.size+1) (fun i=>gV 2148 (f i*g i)) (fun i=>gV 2148 (tS (fun i=>f i*g i) i)) hn (hT.belows hu) (fun i hi=>cu aA aA ((bf i hi).mul (bg i hi))) (fun i hi=>cu aA aA (bP i hi)) (fun i hi=>yI aA aA (bP i af) (((bf i hi).mul (bg i hi)).mono aA)) (yJ 2148).symm (hid fun i v hi hv=>?_);have hv2:Below w.heap.size w v:=hu.trans (hv.mono hu.size);exact P6 i n w.heap.size (w.heap.size+1) gx gy (fun i=>gV 1074 (f i)) (fun i=>gV 1074 (g i)) (gV 2148 (f i*g i)) v hi hn (hT.belows hv2) (cu aA aA (bf i hi)) (cu aA aA (bg i hi)) (cu aA aA ((bf i hi).mul (bg i hi))) (sI aA aA aA aA (bf i hi) (bg i hi)) (jX k0 hv) (jX k1 hv) (hx.below hv2) (hy.below hv2)
end
section
open Go.RowKit J
def IM(z:Nat):Nat:=if bN z then oddW else z
theorem XF:bN oddW=true:=aA
theorem MX(z:Nat):bN (IM z)=bN z:=by
 unfold IM
 cases h:bN z
 · simp[h]
 · simp[XF]
attribute [local go_sem] gZ
def XG(n:Nat):Value:=.float .f64 n
theorem Tryz.Kl:Tryz.prog.underlying 32=some (.slice 31):=by kernel_rfl
theorem Tryz.Ut:(Tryz.prog.info? 31).map (fun i=>(i.zero,i.size,i.bytes))=some (some (.float .f64 0),1,8):=by kernel_rfl
def jY(w:World)(g:Nat)(L:List Nat):Prop:=w.heap[g]?=some (.cells (L.map XG).toArray 31 (0,0))
theorem jY.lt{w:World}{g:Nat}{L:List Nat}(h:jY w g L):g<w.heap.size:=(fG.1 h).1
theorem jY.cell{w:World}{g:Nat}{L:List Nat}(h:jY w g L)(i:Nat)(hi:i<L.length):w.cell? ⟨g,i,none⟩=some (.float .f64 (L.getD i 0)):=by
 unfold jY at h;simp[World.cell?,h,XG,hi]
theorem jY.frozen{w:World}{g:Nat}{L:List Nat}(h:jY w g L)(i:Nat):w.frozen? ⟨g,i,none⟩=false:=by
 unfold jY at h;exact Qaw
theorem jY.set{w:World}{g:Nat}{L:List Nat}(h:jY w g L)(i x:Nat):jY (w.setCell ⟨g,i,none⟩ (.float .f64 x)) g (L.set i x):=by
 unfold jY at h |-;simp only[World.setCell,iA,h];simp[XG,wX]
theorem jY.below{w w':World}{g B:Nat}{L:List Nat}(h:jY w g L)(hb:Below B w w')(hg:g<B):jY w' g L:=by
 unfold jY at h |-;rw[hb.block g hg];exact h
theorem Ht(z:Int)(n:Nat)(hz:z=(n:Int))(hn:n<=17592186044416)(w:World) :
 (Instr.makeSlice 32 (.int .i64 z) (.int .i64 z)).run Tryz.prog w=.ok (.slice (some ⟨w.heap.size,0,none⟩) n n) (w.alloc (.cells (madeCells #[.float .f64 0] n) 31)):=by
 subst hz;exact run_make_row' 32 31 (.float .f64 0) 8 Tryz.Kl Tryz.Ut rfl .i64 .i64 n af af w
theorem jY.made(w:World)(n:Nat):jY (w.alloc (.cells (madeCells #[.float .f64 0] n) 31)) w.heap.size (List.replicate n 0):=by
 unfold jY;have h1:=jC w (.cells (madeCells #[.float .f64 0] n) 31);rw[h1];congr 2;apply BX.1;rw[toList_madeCells_one];simp[XG]
end
section
open Go Go.RowKit J
def QJ(mode:Int):Bool:=decide (0<=mode)&&decide (mode<=4)
def lsB(less:Int):Bool:=decide (less=0) || decide (less=1)
theorem md_ok{mode:Int}(h:QJ mode=true):0<=mode/\mode<=4:=by unfold QJ at h;simpa using h
theorem M5{less:Int}(h:lsB less=true):less=0\/less=1:=by unfold lsB at h;simpa using h
theorem tC(mode:Int)(w:World):Calls Tryz.prog 115 #[.int .i64 mode] w fun r w'=>r=.returned (.bool (QJ mode))/\w'=w:=by
 unfold QJ
 by_cases h0:0<=mode
 · have d0:decide (0<=mode)=true:=decide_eq_true h0
   by_cases h4:mode<=4
   · have d4:decide (mode<=4)=true:=decide_eq_true h4;rw[d0,d4];go_enter Tryz.func115,Tryz.ntmps115;go_wp2;exact Ks
   · have d4:decide (mode<=4)=false:=decide_eq_false h4;rw[d0,d4];go_enter Tryz.func115,Tryz.ntmps115;go_wp2;exact Ks
 · have d0:decide (0<=mode)=false:=decide_eq_false h0;rw[d0,vg];go_enter Tryz.func115,Tryz.ntmps115;go_wp2;exact Ks
theorem zk(less:Int)(w:World):Calls Tryz.prog 116 #[.int .i64 less] w fun r w'=>r=.returned (.bool (lsB less))/\w'=w:=by
 unfold lsB
 by_cases h0:less=0
 · subst h0;go_enter Tryz.func116,Tryz.ntmps116;go_wp2;exact Ks
 · by_cases h1:less=1
   · subst h1;go_enter Tryz.func116,Tryz.ntmps116;go_wp2;exact Ks
   · rw[decide_eq_false h0,decide_eq_false h1];have d0:(less==0)=false:=by simp[h0]
     have d1:(less==1)=false:=by simp[h1]
     go_enter Tryz.func116,Tryz.ntmps116;go_wp2;exact Ks
theorem Hu(n:Nat)(less:Int)(w:World)(hT:bO w)(hn:n<=1099511627776)(h0:0<=less)(h1:less<=1)(hl:less<n) :
 Calls Tryz.prog 118 #[.int .i64 (n:Nat),.int .i64 less] w fun r w'=>fD 0 w' r (gV 0 ((n:Int)*((n:Int)-less)))/\Below w.heap.size w w':=by
 have b1:Bd 41 (n:Int):=Bd.nat af;have b2:Bd 41 ((n:Int)-less):=by unfold Bd;omega
 obtain⟨oA,hA⟩:=ah (gV 0 (n:Int));obtain⟨oB,hB⟩:=ah (gV 0 ((n:Int)-less));obtain⟨oC,hC⟩:=ah (gV 0 ((n:Int)*((n:Int)-less)));have FA:Fm oA:=by rw[hA];exact cu aA aA b1
 have FB:Fm oB:=by rw[hB];exact cu aA aA b2
 have FC:Fm oC:=by rw[hC];exact cu aA aA (b1.mul b2)
 have E:dM oA oB=oC:=by rw[hA,hB,hC];exact sI aA aA aA aA b1 b2
 rw[<-hC];have HI1:Hid (∀ u:World,bO u->Calls Tryz.prog 113 #[.int .i64 (n:Nat)] u fun r w'=>fD 0 w' r oA/\Below u.heap.size u w'):=fun u hu=>by rw[hA];exact TM n u hu af af
 have HI2:Hid (∀ u:World,bO u->Calls Tryz.prog 113 #[.int .i64 ((n:Int)-less)] u fun r w'=>fD 0 w' r oB/\Below u.heap.size u w'):=fun u hu=>by rw[hB];exact TM _ u hu af af
 have HX:=iq FA FB FC E hT;have hwr:IntKind.i64.wrap ((n:Int)-less)=(n:Int)-less:=by rw[yy8Q];omega
 clear hA hB hC FA FB FC E hT b1 b2;obtain⟨W,hW⟩:=ah (w.alloc (Obj.cells #[.bool false,.slice none 0 0,.int .i64 0] 77));have H0:Aside (Lo W w.heap.size dz/\Below w.heap.size w W):=by rw[hW];exact⟨Lo.zero _,ag _ _⟩
 have HW:=au hW;clear hW;go_enter Tryz.func118,Tryz.ntmps118
 go_upto_region 1 with fail
 rw[<-HW.o];clear HW;have C:=hid (HI1.o W (HX.o.r4.belows H0.o.2));go_wp2_with fail;refine C.o.mono ?_;rintro r u1 ⟨hd,hb⟩;obtain⟨a1,c1,rfl,hN1⟩:=hd.dR;have H1:=(bM (H0.o.1.below hb) (H0.o.2.trans (hb.mono H0.o.2.size)) hN1);clear hb hd hN1 H0 C;have C:=hid (HI2.o u1 (HX.o.r4.belows H1.o.2.1));go_wp2_with fail;refine C.o.mono ?_;rintro r u2 ⟨hd,hb⟩;obtain⟨a2,c2,rfl,zI⟩:=hd.dR;have H2:=(mh (H1.o.1.below hb) (H1.o.2.1.trans (hb.mono H1.o.2.1.size)) (H1.o.r2.below hb) zI);clear hb hd zI H1 C;have C:=hid (Ms HX.o.1 HX.o.2.1 HX.o.r2.1 H2.o.r2.1 H2.o.r3 (HX.o.r4.belows H2.o.2.1) HX.o.r3.1);go_wp2_with fail;refine C.o.mono ?_;rintro r u3 ⟨hd,hb⟩;obtain⟨a3,c3,rfl,nO⟩:=hd.dR;have H3:=(bM (H2.o.1.below hb) (H2.o.2.1.trans (hb.mono H2.o.2.1.size)) nO);clear hb hd nO H2 C;obtain⟨p2,q2,D2,M2⟩:=H3.o.1;obtain⟨y0,y1,y2,eF,eG,eO⟩:=D2.facts;clear D2 M2;go_wp2;exact qI Tryz.results118 rfl H3.o.1 H3.o.2.1 (aB _) H3.o.r2
noncomputable def wE (V D:Option (Bool×Nat×Int)) (mode:Int):Nat×Int:=Gy nC ⟨dN V,.bool false,dX V,dE V,dN D,.bool false,dX D,dE D⟩ mode
theorem Quot14{u:World}{a b:Option Addr}{ca cb:Nat}{V D:Option (Bool×Nat×Int)}(mode:Int)(FV:Fm V)(FD:Fm D)(n1:Nt 0 u (.slice a (ws (dX V)).length ca) (dX V))(n2:Nt 0 u (.slice b (ws (dX D)).length cb) (dX D))(hT:bO u) :
 Calls Tryz.prog 70 #[.agg #[.bool (dN V),.slice a (ws (dX V)).length ca,.int .i64 (dE V),.bool (dN D),.slice b (ws (dX D)).length cb,.int .i64 (dE D)],.int .i64 mode] u fun r w'=>r=.returned (.tuple #[.float .f64 (wE V D mode).1,.int .i64 (wE V D mode).2])/\Below u.heap.size u w' :=
 DJ (w:=u) (n:=dN V) (m:=dN D) (X:=dX V) (Y:=dX D) (e:=dE V) (f:=dE D) mode ⟨n1.av (aV FV.len aA),n2.av (aV FD.len aA),FV.o7,FD.o7⟩ hT
theorem XH{B:Nat}{w:World}{a:Option Addr}{xs:List Nat}(h:Fs B w a xs):Ps.Rd B w a xs:=h
theorem M6{lo:Nat}{w:World}{v:Value}{xs:List Nat}(h:Ps.Lt lo w v xs):∃ a c,v=.slice a xs.length c/\Fs w.heap.size w a xs:=by
 have h2:=h.2;unfold Ps.Lt at h;rcases h2 with ⟨rfl,h0⟩|⟨g,cap,cur,rfl,hlo,hg,rest⟩
 · exact⟨none,0,by rw[h0],fun hne=>absurd (xg h0) hne⟩
 · refine⟨_,cap,rfl,fun _=>⟨g,0,(fG.1 hg).1,rfl,fun i hi=>?_⟩⟩;exact xj
theorem Sift14(xs:List Nat)(a:Option Addr)(n c:Nat)(pa pb:Int)(w:World)(hn:n=xs.length)(hm:n<=35184372088832)(hF:Fs w.heap.size w a xs)(hW:eD xs) :
 Calls Tryz.prog 66 #[.slice a n c,.agg #[.int .i64 pa,.int .i64 pb]] w fun r w' =>
  ((Ps.dZ pa pb xs≠0/\∃ a' c',r=.returned (.tuple #[.slice a' 0 c',.agg #[.int .i64 0,.int .i64 0,.int .i64 0,.int .i64 0,.int .i64 0,.int .i64 0],.int .i64 (Ps.dZ pa pb xs)])) \/
   (Ps.dZ pa pb xs=0/\∃ a' c',r=.returned (.tuple #[.slice a' (Ps.fin xs).length c',.agg #[.int .i64 (Ps.cn 5 xs:Nat),.int .i64 (Ps.cn 3 xs:Nat),.int .i64 (Ps.cn 4 xs:Nat),.int .i64 (Ps.cn 1 xs:Nat),.int .i64 (Ps.cn 2 xs:Nat),.int .i64 (xs.length:Nat)],.int .i64 0])/\Fs w'.heap.size w' a' (Ps.fin xs)))/\Below w.heap.size w w':=by
 refine(Ps.G5 xs a n c w.heap.size pa pb w hn hm hW (XH hF) (aB _)).mono ?_;rintro r w' ⟨v,rfl,hL,hb⟩;refine⟨?_,hb⟩;unfold Ps.GZ;unfold Ps.GV at hL
 by_cases h0:Ps.dZ pa pb xs=0
 · rw[if_pos h0] at hL |-;obtain⟨a',c',rfl,hF'⟩:=M6 hL;exact .inr ⟨h0,a',c',by rw[h0],hF'⟩
 · rw[if_neg h0] at hL |-;obtain⟨a',c',rfl,_⟩:=M6 hL;exact .inl ⟨h0,a',c',rfl⟩
def crB(pa pb:Int)(xs:List Nat):Bool:=(decide (0<Ps.cn 5 xs)&&decide (pa=0)) || (decide (0<Ps.cn 3 xs+Ps.cn 4 xs)&&decide (pb=0))
theorem zl{pa pb:Int}{xs:List Nat}(h:Ps.dZ pa pb xs=0):may pa pb=true/\xs.length<=65536:=by
 unfold Ps.dZ at h
 cases hm:may pa pb with
 | false=>rw[hm] at h;simp at h
 | true =>
   rw[hm,if_neg aA] at h
   by_cases hl:65536<xs.length
   · rw[if_pos hl] at h;exact absurd h aA
   · exact⟨rfl,af⟩
theorem Hw:∀ xs:List Nat,Ps.cn 5 xs+Ps.cn 3 xs+Ps.cn 4 xs+Ps.cn 1 xs+Ps.cn 2 xs<=xs.length
 | []=>by simp[Ps.cn]
 | x::xs=>by
   have ih:=Hw xs;unfold Ps.cn at ih |-;simp only[nZ,kU];have hk:=Ps.TR x;obtain q|q|q|q|q|q:kd x=0\/kd x=1\/kd x=2\/kd x=3\/kd x=4\/kd x=5:=af
   all_goals (rw[q];simp;omega)
theorem vd14{pa pb:Int}{xs:List Nat}(h:Ps.dZ pa pb xs=0):(vd (snd (Ps.cn 5 xs:Nat) (Ps.cn 3 xs:Nat) (Ps.cn 4 xs:Nat) (Ps.cn 1 xs:Nat) (Ps.cn 2 xs:Nat) (xs.length:Nat)&&may pa pb) (Ps.cn 5 xs:Nat) (Ps.cn 3 xs:Nat) (Ps.cn 4 xs:Nat) pa pb).2=crB pa pb xs:=by
 obtain⟨hm,hl⟩:=zl h;have hs:=Hw xs
 have e:snd (Ps.cn 5 xs:Nat) (Ps.cn 3 xs:Nat) (Ps.cn 4 xs:Nat) (Ps.cn 1 xs:Nat) (Ps.cn 2 xs:Nat) (xs.length:Nat)=true:=by
  unfold snd ct;simp;omega
 rw[e,hm];unfold vd crB
 by_cases h5:0<Ps.cn 5 xs/\pa=0
 · have h5':0<((Ps.cn 5 xs:Nat):Int)/\pa=0:=⟨af,h5.2⟩;rw[if_neg aA,if_pos h5'];simp[h5.1,h5.2]
 · have h5':¬ (0<((Ps.cn 5 xs:Nat):Int)/\pa=0):=fun q=>h5 ⟨af,q.2⟩
   have e5:(decide (0<Ps.cn 5 xs)&&decide (pa=0))=false:=by
    rcases iJ 0 (Ps.cn 5 xs) with q|q
    · have:¬ pa=0:=fun r=>h5 ⟨q,r⟩;simp[this]
    · have:¬ 0<Ps.cn 5 xs:=af
      simp[this]
   rw[if_neg aA,if_neg h5',e5,Bool.false_or]
   by_cases hb:pb=0
   · subst hb;rw[if_neg aL]
     by_cases h3:0<Ps.cn 3 xs
     · have:0<Ps.cn 3 xs+Ps.cn 4 xs:=af
       by_cases h4:0<Ps.cn 4 xs
       · rw[if_pos ⟨af,af⟩];simp[this]
       · rw[if_neg af,if_pos af];simp[this]
     · by_cases h4:0<Ps.cn 4 xs
       · have:0<Ps.cn 3 xs+Ps.cn 4 xs:=af
         rw[if_neg af,if_neg af,if_pos af];simp[this]
       · have:¬ 0<Ps.cn 3 xs+Ps.cn 4 xs:=af
         rw[if_neg af,if_neg af,if_neg af];simp[this]
   · rw[if_pos hb];simp[hb]
theorem P7{pa pb:Int}{xs:List Nat}(h:Ps.dZ pa pb xs=0)(w:World):Calls Tryz.prog 67 #[.agg #[.int .i64 (Ps.cn 5 xs:Nat),.int .i64 (Ps.cn 3 xs:Nat),.int .i64 (Ps.cn 4 xs:Nat),.int .i64 (Ps.cn 1 xs:Nat),.int .i64 (Ps.cn 2 xs:Nat),.int .i64 (xs.length:Nat)],.agg #[.int .i64 pa,.int .i64 pb]] w fun r w'=>(∃ x,r=.returned (.tuple #[.float .f64 x,.bool (crB pa pb xs)]))/\Below w.heap.size w w':=by
 refine(lT _ _ _ _ _ _ pa pb w).mono ?_;rintro r w' ⟨rfl,hb⟩;exact⟨⟨_,by rw[vd14 h]⟩,hb⟩
theorem XI{xs:List Nat}(h:eD xs):eD (Ps.fin xs):=fun x hx=>h x (Ag.1 hx).1
theorem BK{xs:List Nat}(h:eD xs):∀ x ∈ Ps.fin xs,iY x:=fun x hx=>by
 have hk:kd x<=2:=by simpa using (Ag.1 hx).2
 have hl:=h x (Ag.1 hx).1;show aP x<9218868437227405312;have em:aP x=x%9223372036854775808:=rfl;unfold kd at hk;rcases iJ (aP x) 9218868437227405312 with q|q
 · exact q
 · rcases Nat.eq_or_lt_of_le q with r | r
   · rw[if_neg af,if_pos af] at hk;split at hk <;> omega
   · rw[if_pos af] at hk;omega
theorem BL{pa pb:Int}{xs:List Nat}(h:Ps.dZ pa pb xs=0):(Ps.fin xs).length<=65536:=aV (Ps.TS xs) (zl h).2
theorem Uu{pa pb:Int}{xs:List Nat}(hW:eD xs)(h:Ps.dZ pa pb xs=0):PL (Ps.fin xs)=0:=by
 unfold PL;rw[if_neg (by have:=BL h;omega),if_pos ((Ed _).2 (BK hW))]
theorem XJ{o1 o2:Option (Bool×Nat×Int)}(r1:mkS (dN o1) (dX o1) (dE o1)=o1)(h:(iO o1 (mkS (!dN o2) (dX o2) (dE o2))).isSome=true):mkS (dN (iO o1 (mkS (!dN o2) (dX o2) (dE o2)))) (dX (iO o1 (mkS (!dN o2) (dX o2) (dE o2)))) (dE (iO o1 (mkS (!dN o2) (dX o2) (dE o2))))=iO o1 (mkS (!dN o2) (dX o2) (dE o2)):=by
 cases h1:o1 with
 | none=>rw[h1] at h;cases h
 | some x =>
   cases h2:mkS (!dN o2) (dX o2) (dE o2) with
   | none=>rw[h1,h2] at h;cases h
   | some y =>
     obtain⟨n,X,e⟩:=x;obtain⟨m,Y,f⟩:=y
     have F1:tZ n X e:=by
      have:=uB (n:=dN o1) (X:=dX o1) (e:=dE o1) (by rw[r1,h1];rfl);rw[r1,h1] at this;exact this
     have F2:tZ m Y f:=di h2
     cases h3:iO (some (n,X,e)) (some (m,Y,f)) with
     | none=>rw[h1,h2,h3] at h;cases h
     | some z =>
       obtain⟨n',Z,g⟩:=z;exact SY (Gl F1 F2 h3)
noncomputable def vV (n:Int) (o:Option (Bool×Nat×Int)) (less mode:Int):Nat×Int :=
 if QJ mode&&lsB less&&(decide (1<=n)&&decide (n<=1099511627776)) then
  if o.isSome then(if n<=less then(0,3) else wE o (gV 0 (n*(n-less))) mode) else(0,2)
 else(0,1)
theorem XK{n:Nat}{less:Int}(hn:n<=1099511627776)(h0:0<=less)(h1:less<=1):Bd 82 ((n:Int)*((n:Int)-less)) :=
 (Bd.mul (a:=41) (b:=41) (Bd.nat af) (by unfold Bd;omega))
theorem XL{u:World}{a b:Option Addr}{ca cb:Nat}{V D:Option (Bool×Nat×Int)}(mode:Int)(hV:V.isSome=true)(rV:mkS (dN V) (dX V) (dE V)=V)(FD:Fm D)(n1:Nt 0 u (.slice a (ws (dX V)).length ca) (dX V))(n2:Nt 0 u (.slice b (ws (dX D)).length cb) (dX D))(hT:bO u) :
 Calls Tryz.prog 70 #[.agg #[.bool (dN V),.slice a (ws (dX V)).length ca,.int .i64 (dE V),.bool (dN D),.slice b (ws (dX D)).length cb,.int .i64 (dE D)],.int .i64 mode] u fun r w'=>r=.returned (.tuple #[.float .f64 (wE V D mode).1,.int .i64 (wE V D mode).2])/\Below u.heap.size u w':=by
 obtain⟨l1,r1,r2⟩:=uG hV rV;exact DJ (w:=u) (n:=dN V) (m:=dN D) (X:=dX V) (Y:=dX D) (e:=dE V) (f:=dE D) mode ⟨n1.av af,n2.av (aV FD.len aA),⟨r1,r2⟩,FD.o7⟩ hT
theorem yi{P:Prop}(h:P:=by
 obtain⟨rfl,rfl⟩:=fB hz;clear hz HD;go_enter Tryz.func58,Tryz.ntmps58
 go_upto_region 1 with fail
 rw[<-pg.o];clear pg;go_wp2_with fail;refine C.o.mono ?_;rintro r v ⟨rfl,hv⟩;rw[hv];clear hv v C;go_wp2_with fail;refine D.o.mono ?_;rintro r v ⟨rfl,hv⟩;rw[hv];clear hv v D;go_wp2;exact aJ (v:=.tuple #[.float .f64 0,.int .i64 1]) (by simp[results,Tryz.results58,go_sem]) rfl ⟨rfl,B0.o.r2⟩):P:=h
theorem XM (w:World) (n:Int) (ns np:Bool) (as' ap:Option Addr) (ls cs lp cp:Nat) (es ep less mode:Int) (oV:Option (Bool×Nat×Int)) (hT:bO w) (rV:oV.isSome=true->mkS (dN oV) (dX oV) (dE oV)=oV)
 (HD:Hid (∀ u:World,Below w.heap.size w u->Calls Tryz.prog 117 #[.int .i64 n,.agg #[.bool np,.slice ap lp cp,.int .i64 ep],.agg #[.bool ns,.slice as' ls cs,.int .i64 es],.agg #[.bool ns,.slice as' ls cs,.int .i64 es]] u fun r w'=>nG w' r oV (qx oV)/\Below u.heap.size u w')) (z:Nat×Int) (hz:vV n oV less mode=z) :
 Calls Tryz.prog 58 #[.int .i64 n,.agg #[.bool ns,.slice as' ls cs,.int .i64 es],.agg #[.bool np,.slice ap lp cp,.int .i64 ep],.int .i64 less,.int .i64 mode] w fun r w'=>r=.returned (.tuple #[.float .f64 z.1,.int .i64 z.2])/\Below w.heap.size w w':=by
 obtain⟨X,E⟩:=z;simp only;obtain⟨W,nS⟩:=ah ((w.alloc (Obj.cells #[.bool ns,.slice as' ls cs,.int .i64 es] 77)).alloc (Obj.cells #[.bool np,.slice ap lp cp,.int .i64 ep] 77))
 have B0:Aside (Dk W w.heap.size ns (.slice as' ls cs) es/\Dk W (w.heap.size+1) np (.slice ap lp cp) ep/\Below w.heap.size w W):=by
  have z1:=Dk.new (w.alloc (Obj.cells #[.bool ns,.slice as' ls cs,.int .i64 es] 77)) np (.slice ap lp cp) ep;rw[dL] at z1;rw[nS];exact⟨(Dk.new _ _ _ _).below (ag _ _),z1,(ag _ _).trans ((ag _ _).mono aL)⟩
 have pg:=au nS;have HT:=au hT;have HRV:=au rV;clear nS hT rV;have C:=hid (tC mode W);have D:=hid (zk less W);unfold vV at hz
 cases hm:QJ mode with
 | false =>
   rw[hm,vg,vg,if_neg aA] at hz;rw[hm] at C;obtain⟨rfl,rfl⟩:=fB hz;clear hz HD;go_enter Tryz.func58,Tryz.ntmps58
   go_upto_region 1 with fail
   rw[<-pg.o];clear pg;go_wp2_with fail;refine C.o.mono ?_;rintro r v ⟨rfl,hv⟩;rw[hv];clear hv v C;go_wp2;exact aJ (v:=.tuple #[.float .f64 0,.int .i64 1]) (by simp[results,Tryz.results58,go_sem]) rfl ⟨rfl,B0.o.r2⟩
 | true =>
 rw[hm] at C hz
 cases hs:lsB less with
 | false =>
   rw[hs,vk,vg,if_neg aA] at hz;rw[hs] at D;obtain⟨rfl,rfl⟩:=fB hz;clear hz HD;go_enter Tryz.func58,Tryz.ntmps58
   go_upto_region 1 with fail
   rw[<-pg.o];clear pg;go_wp2_with fail;refine C.o.mono ?_;rintro r v ⟨rfl,hv⟩;rw[hv];clear hv v C;go_wp2_with fail;refine D.o.mono ?_;rintro r v ⟨rfl,hv⟩;rw[hv];clear hv v D;go_wp2;exact aJ (v:=.tuple #[.float .f64 0,.int .i64 1]) (by simp[results,Tryz.results58,go_sem]) rfl ⟨rfl,B0.o.r2⟩
 | true =>
 rw[hs] at D hz;rw[Bool.and_self,vk] at hz
 by_cases h1:1<=n
 case neg =>
  rw[decide_eq_false h1,vg,if_neg aA] at hz;have d1:decide (n<1)=true:=decide_eq_true af;exact yi
 case pos =>
 have d1:decide (n<1)=false:=decide_eq_false af
 by_cases h2:n<=1099511627776
 case neg =>
  rw[decide_eq_true h1,decide_eq_false h2,Bool.and_false,if_neg aA] at hz;have d2:decide (1099511627776<n)=true:=decide_eq_true af;exact yi
 case pos =>
  have d2:decide (1099511627776<n)=false:=decide_eq_false af;rw[decide_eq_true h1,decide_eq_true h2,Bool.and_self,if_pos rfl] at hz;have YX:0<=less/\less<=1:=by have:=M5 hs;omega
  obtain⟨N,rfl⟩:∃ N:Nat,n=(N:Int):=⟨n.toNat,af⟩;have C3:=hid (HD.o W B0.o.r2);have HZ:=au hz;have HL:=(bM YX h1 h2);clear hz HD hs hm YX h1 h2;go_enter Tryz.func58,Tryz.ntmps58
  go_upto_region 1 with fail
  rw[<-pg.o];clear pg;go_wp2_with fail;refine C.o.mono ?_;rintro r v ⟨rfl,hv⟩;rw[hv];clear hv v C;go_wp2_with fail;refine D.o.mono ?_;rintro r v ⟨rfl,hv⟩;rw[hv];clear hv v D;obtain⟨x0,x1,x2,dB,dC,dD⟩:=B0.o.1.facts;obtain⟨y0,y1,y2,eF,eG,eO⟩:=B0.o.2.1.facts;go_wp2_with fail;refine C3.o.mono ?_;rintro r u ⟨hd,hb⟩;obtain⟨p1,q1,rfl,hN⟩:=hd.dR;obtain⟨U,hU⟩:=ah (u.alloc (Obj.cells #[.bool (dN oV),.slice p1 (ws (dX oV)).length q1,.int .i64 (dE oV)] 77));obtain⟨g12,Py⟩:=ah (u.heap.size)
  have B1:Aside (Dk U g12 (dN oV) (.slice p1 (ws (dX oV)).length q1) (dE oV)/\Nt 0 U (.slice p1 (ws (dX oV)).length q1) (dX oV)/\Below w.heap.size w U):=by
   rw[hU,Py];have b:=B0.o.r2.trans (hb.mono B0.o.r2.size);exact⟨Dk.new _ _ _ _,hN.below (ag _ _),b.trans ((ag _ _).mono b.size)⟩
  have HU:=(aT hU Py);clear hU Py hN hd hb C3 x0 x1 x2 dB dC dD y0 y1 y2 eF eG eO B0;have hz:=HZ.o
  cases hso:oV.isSome with
  | false =>
    rw[hso,if_neg aA] at hz;rw[yS hso];obtain⟨rfl,rfl⟩:=fB hz;clear hz HZ hso
    go_upto_region 4 with fail
    rw[<-HU.o.1];clear HU;go_wp2;exact aJ (v:=.tuple #[.float .f64 0,.int .i64 2]) (by simp[results,Tryz.results58,go_sem]) rfl ⟨rfl,B1.o.r2⟩
  | true =>
    rw[hso,if_pos rfl] at hz;rw[yR hso];have HSO:=au hso
    go_upto_region 4 with fail
    rw[<-HU.o.1,<-HU.o.2];clear HU hso
    by_cases hle:(N:Int)<=less
    · have dle:decide ((N:Int)<=less)=true:=decide_eq_true hle;rw[if_pos hle] at hz;obtain⟨rfl,rfl⟩:=fB hz;clear hz HZ;go_wp2;exact aJ (v:=.tuple #[.float .f64 0,.int .i64 3]) (by simp[results,Tryz.results58,go_sem]) rfl ⟨rfl,B1.o.r2⟩
    · have dle:decide ((N:Int)<=less)=false:=decide_eq_false hle;rw[if_neg hle] at hz;obtain⟨oD,XN⟩:=ah (gV 0 ((N:Int)*((N:Int)-less)));rw[<-XN] at hz;have hN6:N<=1099511627776:=by have:=HL.o.r2;omega
      have FD:Fm oD:=by rw[XN];exact cu aA aA (XK hN6 HL.o.1.1 HL.o.1.2)
      have uj:Hid (∀ u:World,bO u->Calls Tryz.prog 118 #[.int .i64 (N:Nat),.int .i64 less] u fun r w'=>fD 0 w' r oD/\Below u.heap.size u w'):=fun u hu=>by
       rw[XN];exact Hu N less u hu hN6 HL.o.1.1 HL.o.1.2 af
      have HR:Hid (∀ (u:World) (b:Option Addr) (cb:Nat),bO u->Nt 0 u (.slice p1 (ws (dX oV)).length q1) (dX oV)->Nt 0 u (.slice b (ws (dX oD)).length cb) (dX oD)->Calls Tryz.prog 70 #[.agg #[.bool (dN oV),.slice p1 (ws (dX oV)).length q1,.int .i64 (dE oV),.bool (dN oD),.slice b (ws (dX oD)).length cb,.int .i64 (dE oD)],.int .i64 mode] u fun r w'=>r=.returned (.tuple #[.float .f64 X,.int .i64 E])/\Below u.heap.size u w'):=fun u b cb LZ n1 n2=>by
       have:=XL mode HSO.o (HRV.o HSO.o) FD n1 n2 LZ;rw[hz] at this;exact this
      have hdr:=(aG U.heap.size U).drew;have BD:=aT (B1.o.2.1.below hdr) (B1.o.r2.trans (hdr.mono B1.o.r2.size));have kS:Aside (U.drew.cell? ⟨g12,0,none⟩=some (.bool (dN oV))/\U.drew.cell? ⟨g12,1,none⟩=some (.slice p1 (ws (dX oV)).length q1)/\U.drew.cell? ⟨g12,2,none⟩=some (.int .i64 (dE oV))):=⟨(B1.o.1.below hdr).facts.1,(B1.o.1.below hdr).facts.2.1,(B1.o.1.below hdr).facts.2.2.1⟩;have C1:=hid (uj.o U.drew (HT.o.belows BD.o.2));clear hz HZ XN FD hdr hN6 hle HSO HRV HL B1;go_wp2_with fail
      go_region_held3 (fun w'=>w'.cell? ⟨g12,0,none⟩=some (.bool (dN oV))/\w'.cell? ⟨g12,1,none⟩=some (.slice p1 (ws (dX oV)).length q1)/\w'.cell? ⟨g12,2,none⟩=some (.int .i64 (dE oV))) (with_reducible exact kS.o) (first
       | (go_at_call 118
          with_reducible refine C1.o.mono ?_
          rintro r u4 ⟨hd,hb⟩;obtain⟨a4,c4,rfl,oz⟩:=hd.dR;have BG:=bM (BD.o.1.below hb) (BD.o.2.trans (hb.mono BD.o.2.size)) oz;have kS:=au (ck3 hb kS.o);have C3:=hid (HR.o u4 a4 c4 (HT.o.belows BG.o.2.1) BG.o.1 BG.o.r2)
          clear hb hd oz C1)
       | (go_at_call 70
          with_reducible refine C3.o.mono ?_
          rintro r u5 ⟨rfl,hb⟩;have BF:=au (BG.o.2.1.trans (hb.mono BG.o.2.1.size));have kS:=au (ck3 hb kS.o)
          clear hb C3))
      go_wp2;exact aJ (v:=.tuple #[.float .f64 X,.int .i64 E]) (by simp[results,Tryz.results58,go_sem]) rfl ⟨rfl,BF.o⟩
theorem Of14 {w:World}{as' ap:Option Addr}{ls cs lp cp:Nat}{xs ys:List Nat}(n:Int) (ns np:Bool) (es ep less mode:Int) (h1:Arg w as' ls cs xs) (h2:Arg w ap lp cp ys) (hT:bO w) (hn:-9223372036854775808<=n/\n<=9223372036854775807) (b1:-9223372036854775808<=es/\es<=9223372036854775807) (b2:-9223372036854775808<=ep/\ep<=9223372036854775807)
 (z:Nat×Int) (hz:vV n (uF (dM (gV 0 n) (mkS np (val ys) ep)) (dM (mkS ns (val xs) es) (mkS ns (val xs) es))) less mode=z) :
 Calls Tryz.prog 58 #[.int .i64 n,.agg #[.bool ns,.slice as' ls cs,.int .i64 es],.agg #[.bool np,.slice ap lp cp,.int .i64 ep],.int .i64 less,.int .i64 mode] w fun r w'=>r=.returned (.tuple #[.float .f64 z.1,.int .i64 z.2])/\Below w.heap.size w w':=by
 refine XM w n ns np as' ap ls cs lp cp es ep less mode _ hT (fun h=>?_) (hid fun u hu=>sQ n np ns ns ep es es (h2.below hu) (h1.below hu) (h1.below hu) (hT.belows hu) hn b2 b1 b1) z hz;unfold uF at h |-
 split at h
 · rename_i q;rw[if_pos q];rw[xD] at q;exact XJ (Eg q.1) h
 · cases h
end
end Go.Proofs.YtaejmlkaefnbhaaGreatDoor
