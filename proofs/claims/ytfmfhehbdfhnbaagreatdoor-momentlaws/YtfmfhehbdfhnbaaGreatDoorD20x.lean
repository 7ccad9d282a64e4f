import Derived.Test.YtfmfhehbdfhnbaaGreatDoorD15x
import Derived.Test.YtfmfhehbdfhnbaaGreatDoorW50x
import Derived.Deep.Cut
set_option linter.unusedVariables false
set_option linter.unusedSimpArgs false
set_option maxHeartbeats 16000000
set_option maxRecDepth 20000
namespace Go.Proofs.YtfmfhehbdfhnbaaGreatDoor
namespace B
open Go.RowKit
theorem QR(X:Nat)(h:X<=9007199254740991):bl X<=53:=by
 by_cases h0:X=0
 · subst h0;rw[dZ];omega
 · have:=(ku (a:=2) ae).1 (iP (iU X h0) (show X<2^53 by omega));omega
theorem IP(z:Nat)(hz:z<18446744073709551616):bits .and .u64 (z:Int) 1=((z%2:Nat):Int):=by
 have h:=bits_mask .u64 64 aj wraps_u64 1 aj (z:Int) ae ae;rw[show((2:Int)^1-1)=1 from rfl] at h;rw[h];omega
def LP:Nat:=1074
theorem dLP:Ieee.double.leastPlace=-(LP:Int):=aj
theorem vk(e g:Nat)(he:0<e)(hg:g<4503599627370496):val Ieee.double (e*4503599627370496+g)=(4503599627370496+g)*2^(e-1):=by
 obtain⟨j,rfl⟩:∃ j,e=j+1:=⟨e-1,ae⟩;have h:=uM Ieee.double j (4503599627370496+g) (.inr (by rw[Es];omega)) (by rw[Es];omega);rw[Es] at h;rw[show(j+1)*4503599627370496+g=j*4503599627370496+(4503599627370496+g) by omega,h];rfl
theorem QS(r:Nat)(h:r<4503599627370496):val Ieee.double r=r:=by unfold val;rw[Es,if_pos h]
theorem XX:(4503599627370496:Nat)=2^52:=rfl
structure Whole (c e g:Nat):Prop where
 e0:0<e
 e1:e<1077
 g0:g<4503599627370496
 v:(4503599627370496+g)*2^(e-1)=c*2^LP
 ex:e=bl c+1022
 gx:∀ k,bl c+k=53->4503599627370496+g=c*2^k
 top:bl c=54->g=0
theorem QT(c:Nat)(h0:0<c)(h1:c<=9007199254740992):∃ e g,Whole c e g:=by
 by_cases ht:c=9007199254740992
 · subst ht;have hb:bl 9007199254740992=54:=Ez _ 53 aj aj;obtain⟨e,he⟩:∃ e,e=1076:=⟨_,rfl⟩;refine⟨e,0,ae,ae,ae,?_,by rw[hb];omega,fun k hk=>by omega,fun _=>rfl⟩
   have key:∀ q,q=LP+1->(4503599627370496+0)*2^q=9007199254740992*2^LP:=by
    intro q hq;rw[hq,fC];generalize 2^LP=Q;omega
   exact key (e-1) (by rw[he];rfl)
 · have hb1:=eu c ae
   have hb2:bl c<=53:=by
    have:=(ku (a:=2) ae).1 (iP (iU c ae) (show c<2^53 by omega));omega
   obtain⟨k,hk⟩:∃ k,bl c+k=53:=⟨53-bl c,ae⟩
   have hlo:2^52<=c*2^k:=by
    have h2:=iU c ae;have h3:2^(bl c-1)*2^k<=c*2^k:=eZ _ h2;rw[<-aJ,show bl c-1+k=52 by omega] at h3;exact h3
   have hhi:c*2^k<2^53:=by
    have h3:=dO (iT c) (aZ k);rw[<-aJ,hk] at h3;exact h3
   have e52:(2:Nat)^52=4503599627370496:=rfl;have e53:(2:Nat)^53=9007199254740992:=rfl;rw[e52] at hlo;rw[e53] at hhi;refine⟨bl c+1022,c*2^k-4503599627370496,ae,ae,ae,?_,rfl,fun k' hk'=>?_,fun h=>by omega⟩
   · rw[show 4503599627370496+(c*2^k-4503599627370496)=c*2^k by omega,aM,<-aJ];congr 2;show k+(bl c+1022-1)=1074;omega
   · obtain rfl:k'=k:=ae
     omega
theorem Fh(c e g:Nat)(h:Whole c e g):floatOfInt .f64 (c:Int)=bw false e g:=by
 have hr:e*4503599627370496+g<Ieee.double.infRung:=by rw[oO];have:=h.e1;have:=h.g0;omega
 have hn:=Au Ieee.double false c LP (e*4503599627370496+g) hr (by rw[vk e g h.e0 h.g0,h.v]);rw[dLP] at hn;rw[CV,<-hn];show Ieee.double.nearest (decide ((c:Int)<0)) (c:Int).natAbs 0=_;rw[show decide ((c:Int)<0)=false from decide_eq_false ae,CK];congr 1
theorem Vr(e:Nat)(he:0<e)(q:Nat)(hq:e-1=q):val Ieee.double (e*4503599627370496+0)=2^(52+q):=by
 rw[vk e 0 he ae,hq,fT,aJ]
theorem Fj(e:Nat)(he:0<e)(q r:Nat)(hq:e-1=q)(hr:52+q=r):val Ieee.double (e*4503599627370496+0)=2^r:=by rw[Vr e he q hq,hr]
theorem KC:val Ieee.double 4607182418800017408=2^LP:=Fj 1023 ae (LP-52) LP rfl rfl
theorem Na:val Ieee.double 4368491638549381120*2^53=2^LP:=by
 have h:val Ieee.double 4368491638549381120=2^(LP-53):=Fj 970 ae (LP-105) (LP-53) rfl rfl;rw[h,<-aJ];congr 1
theorem mul_one(d:Nat)(hd:d<9218868437227405312)(h0:0<d)(t:TypeId)(u:World):(binOp .mul t (.float .f64 4607182418800017408) (.float .f64 d)).run Tryz.prog u=.ok (.float .f64 d) u:=by
 refine run_float_arith u .mul t .f64 _ _ _ ?_;show Ieee.double.mul 4607182418800017408 d=some d;have hw:∀ r:Nat,Ieee.double.word false r=r:=fun r=>by simp[Ieee.Format.word]
 have hp:0<val Ieee.double d:=by have:=bM Ieee.double (r:=0) (s:=d) h0;omega
 have:=BS Ieee.double dHs false false 4607182418800017408 d d LP dLP (by rw[oO];omega) (by rw[oO];omega) (by rw[oO];omega) (by rw[KC,cu]) (by rw[KC];have:=aZ LP;omega) ae;rw[hw,hw] at this;exact this
theorem Nb(d c:Nat)(hd:d<9218868437227405312)(hc:c<4503599627370496)(h0:0<c)(hv:val Ieee.double d=c*2^53)(t:TypeId)(u:World):(binOp .mul t (.float .f64 4368491638549381120) (.float .f64 d)).run Tryz.prog u=.ok (.float .f64 c) u:=by
 refine run_float_arith u .mul t .f64 _ _ _ ?_;show Ieee.double.mul 4368491638549381120 d=some c;have hw:∀ r:Nat,Ieee.double.word false r=r:=fun r=>by simp[Ieee.Format.word]
 have hs:=Na;have hp:val Ieee.double 4368491638549381120≠0:=by intro h;rw[h] at hs;have:=aZ LP;omega
 have:=BS Ieee.double dHs false false 4368491638549381120 d c LP dLP (by rw[oO];omega) (by rw[oO];omega) (by rw[oO];omega) (by rw[hv,QS c hc,<-hs];grind) hp (by rw[hv];have:=aZ 53;have:=iq h0 this;omega);rw[hw,hw,Bool.xor_false,hw] at this;exact this
theorem Zb(e g:Nat)(he:e<2047)(hg:g<4503599627370496)(u:World):Calls Tryz.prog 189 #[.float .f64 (bw false e g)] u fun r w'=>r=.returned (.bool false)/\w'=u:=by
 have:=LJ false e g ae hg u;rw[CW e g he] at this;exact this
theorem Nc(c e g:Nat)(x:Int)(w:World)(hw:Whole c e g)(h0:0<c)(h1:c<=9007199254740992)(hx0:-1074<=x)(hx1:x<=971)(hn:x=-1074\/4503599627370496<=c) :
 Calls Tryz.prog 176 #[.float .f64 (bw false e g),.int .i64 x] w fun r w'=>r=.returned (.float .f64 ((x+1074).toNat*4503599627370496+c))/\w'=w:=by
 have he0:=hw.e0;have he1:=hw.e1;have hg:=hw.g0;have hb:bw false e g=e*4503599627370496+g:=by unfold bw;simp
 have z0:(FloatKind.f64.format.order (bw false e g) 0==some .eq)=false:=by rw[J5 false e g ae hg];simp;omega
 have HI:Hid (∀ u,Calls Tryz.prog 188 #[.float .f64 (bw false e g),.int .i64 0] u fun r w'=>r=.returned (.bool false)/\w'=u):=fun u=>Za e g ae hg u;have HN:Hid (∀ u,Calls Tryz.prog 189 #[.float .f64 (bw false e g)] u fun r w'=>r=.returned (.bool false)/\w'=u):=fun u=>Zb e g ae hg u;have HZ:Hid (∀ u,Calls Tryz.prog 190 #[.float .f64 (bw false e g)] u fun r w'=>r=.returned (.tuple #[.float .f64 (bw false e g),.int .i64 0])/\w'=u):=fun u=>AZ e g he0 ae hg u;have e1:=PK false e g ae hg;have mc:=IM e g ae hg;have hbl:bl c<=54:=by have:=hw.ex;omega
 have hblp:=eu c ae;have hex:=hw.ex
 by_cases hc:4503599627370496<=c
 · have hb53:53<=bl c:=by
    have:=(wD c 52).2 (by rw[<-XX];exact hc);omega
   by_cases hb54:bl c=54
   · have hg0:=hw.top hb54
     have hc2:c=9007199254740992:=by
      have:=(wD c 53).1 ae;have e53:(2:Nat)^53=9007199254740992:=rfl;omega
     subst hg0
     by_cases hinf:x=971
     · subst hinf;have:=M9 (bw false e 0) e 0 971 1024 w (by rw[hb];omega) ae ae he0 ae ae z0 HI HN HZ e1 mc ae ae (by rw[J6 false e 0 ae ae (PO e) (by simp;omega)]);rw[hc2];exact this
     · obtain⟨E,hE⟩:∃ E:Nat,(E:Int)=x+((e:Int)-1023)+1023:=⟨(x+((e:Int)-1023)+1023).toNat,ae⟩;have hd:bw false E 0=(x+1074).toNat*4503599627370496+c:=by unfold bw;simp;omega
       have:=zh (bw false e 0) e 0 (bw false E 0) x (x+((e:Int)-1023)) ((E:Int)*4503599627370496) w (by rw[hb];omega) ae ae he0 ae ae z0 HI HN HZ e1 mc rfl ae ae ae ae ae (zg E 0 ae ae) (mul_one _ (by rw[hd];omega) (by rw[hd];omega) _);rw[hd] at this;exact this
   · have hb3:bl c=53:=ae
     have hgx:=hw.gx 0 ae;rw[gK,fU] at hgx;obtain⟨E,hE⟩:∃ E:Nat,(E:Int)=x+((e:Int)-1023)+1023:=⟨(x+((e:Int)-1023)+1023).toNat,ae⟩;have hd:bw false E g=(x+1074).toNat*4503599627370496+c:=by unfold bw;simp;omega
     have:=zh (bw false e g) e g (bw false E g) x (x+((e:Int)-1023)) ((E:Int)*4503599627370496) w (by rw[hb];omega) ae ae he0 ae hg z0 HI HN HZ e1 mc rfl ae ae ae ae ae (zg E g ae hg) (mul_one _ (by rw[hd];omega) (by rw[hd];omega) _);rw[hd] at this;exact this
 · obtain rfl:x=-1074:=ae
   have hb52:bl c<=52:=by
    by_cases h:52<bl c
    · have:=(wD c 52).1 h;rw[<-XX] at this;omega
    · omega
   obtain⟨k,hk⟩:∃ k,bl c+k=53:=⟨53-bl c,ae⟩;have hgx:=hw.gx k hk;obtain⟨E,hE⟩:∃ E:Nat,E=bl c+1:=⟨_,rfl⟩;have hd:bw false E g=E*4503599627370496+g:=by unfold bw;simp
   have hv:val Ieee.double (bw false E g)=c*2^53:=by
    rw[hd,vk E g ae hg,hgx,aM,<-aJ,show k+(E-1)=53 by omega]
   have:=M8 (bw false e g) e g (bw false E g) c (-1074) (-1074+((e:Int)-1023)) (-1074+((e:Int)-1023)+53) ((E:Int)*4503599627370496) w (by rw[hb];omega) ae ae he0 ae hg z0 HI HN HZ e1 mc rfl ae ae rfl ae ae ae ae ae (zg E g ae hg) (Nb _ c (by rw[hd];omega) ae h0 hv _);simpa using this
theorem Nf(c e g:Nat)(x:Int)(w:World)(hw:Whole c e g)(h0:0<c)(h1:c<=9007199254740992)(hx0:-1074<=x)(hx1:x<=971)(hn:x=-1074\/4503599627370496<=c) :
 Calls Tryz.prog 147 #[.float .f64 (bw false e g),.int .i64 x] w fun r w'=>r=.returned (.float .f64 ((x+1074).toNat*4503599627370496+c))/\w'=w:=by
 have H:=hid (Nc c e g x w hw h0 h1 hx0 hx1 hn);generalize bw false e g=b at *;generalize (x+1074).toNat*4503599627370496+c=d at *;clear hn hw;go_enter Tryz.func147,Tryz.ntmps147;go_wp2_with fail;refine H.o.mono ?_;rintro r w1 ⟨rfl,rfl⟩;go_wp2;go_ret;exact⟨rfl,rfl⟩
theorem Dq(x:Int)(w:World):Calls Tryz.prog 176 #[.float .f64 0,.int .i64 x] w fun r w'=>r=.returned (.float .f64 0)/\w'=w:=by
 have z0:(FloatKind.f64.format.order 0 0==some .eq)=true:=J5 false 0 0 ae ae;go_enter Tryz.func176,Tryz.ntmps176;exact XS
theorem Dt(x:Int)(w:World):Calls Tryz.prog 147 #[.float .f64 0,.int .i64 x] w fun r w'=>r=.returned (.float .f64 0)/\w'=w:=by
 have H:=hid (Dq x w);go_enter Tryz.func147,Tryz.ntmps147;go_wp2_with fail;refine H.o.mono ?_;rintro r w1 ⟨rfl,rfl⟩;exact XS
end B
section
open Go.RowKit
def Pk(w:World)(g:Nat)(f:Int)(e:Int)(t:Bool)(m:Int):Prop:=w.heap[g]?=some (.cells #[.int .u64 f,.int .i64 e,.bool t,.int .i64 m] 165 (0,0))
theorem Pk.lt{w:World}{g:Nat}{f e:Int}{t:Bool}{m:Int}(h:Pk w g f e t m):g<w.heap.size:=(gL.1 h).1
theorem Pk.below{w w':World}{g:Nat}{f e:Int}{t:Bool}{m:Int}(h:Pk w g f e t m)(hb:Below w.heap.size w w'):Pk w' g f e t m:=by
 unfold Pk;exact Qaf
theorem Pk.facts{w:World}{g:Nat}{f e:Int}{t:Bool}{m:Int}(h:Pk w g f e t m) :
 w.cell? ⟨g,0,none⟩=some (.int .u64 f)/\w.cell? ⟨g,1,none⟩=some (.int .i64 e)/\w.cell? ⟨g,2,none⟩=some (.bool t)/\w.cell? ⟨g,3,none⟩=some (.int .i64 m) /\
 w.frozen? ⟨g,0,none⟩=false/\w.frozen? ⟨g,1,none⟩=false/\w.frozen? ⟨g,2,none⟩=false/\w.frozen? ⟨g,3,none⟩=false:=by
 unfold Pk at h;simp[World.cell?,World.frozen?,h]
def Wk(w:World)(g:Nat)(a b c:Int):Prop:=w.heap[g]?=some (.cells #[.int .i64 a,.int .i64 b,.int .i64 c] 129 (0,0))
theorem Wk.facts{w:World}{g:Nat}{a b c:Int}(h:Wk w g a b c):w.cell? ⟨g,0,none⟩=some (.int .i64 a)/\w.cell? ⟨g,1,none⟩=some (.int .i64 b)/\w.cell? ⟨g,2,none⟩=some (.int .i64 c):=by
 unfold Wk at h;simp[World.cell?,h]
theorem mq(w:World)(n:Bool)(v:Value)(e a b c:Int)(W:World)(hW:W=((w.alloc (.cells #[.bool n,v,.int .i64 e] 25)).alloc (.cells #[.int .i64 a,.int .i64 b,.int .i64 c] 129)).alloc (.cells #[.int .u64 0,.int .i64 0,.bool false,.int .i64 0] 165)) :
 Below w.heap.size w W/\W.heap.size=w.heap.size+3/\Dk W w.heap.size n v e/\Wk W (w.heap.size+1) a b c/\Pk W (w.heap.size+1+1) 0 0 false 0:=by
 subst hW;refine⟨((af w _).alloc aQ _).alloc (by simp;omega) _,aQ,((Dk.new w n v e).alloc _).alloc _,?_,?_⟩
 · unfold Wk;rw[Below.heap_alloc _ _ _ aQ];have:=gY (w.alloc (.cells #[.bool n,v,.int .i64 e] 25)) (.cells #[.int .i64 a,.int .i64 b,.int .i64 c] 129);simpa using this
 · have:=gY ((w.alloc (.cells #[.bool n,v,.int .i64 e] 25)).alloc (.cells #[.int .i64 a,.int .i64 b,.int .i64 c] 129)) (.cells #[.int .u64 0,.int .i64 0,.bool false,.int .i64 0] 165);unfold Pk;simpa using this
def jw(dg:Nat)(least top:Int)(X:Nat)(e:Int):Nat×Int×Bool×Int :=
 if top<e+bl X then(2^dg-1,top-dg,false,1)
 else
  let ex:=max (e+bl X-dg) least
  let off:=ex-e
  if off<=0 then(X*2^(-off).toNat,ex,true,-1)
  else(X/2^off.toNat,ex,false,if off=1 then 0 else if X/2^(off-1).toNat%2=1 then 1 else -1)
abbrev st4(w:World)(g:Nat)(x y z t:Value):World:=(((w.setCell ⟨g,0,none⟩ x).setCell ⟨g,1,none⟩ y).setCell ⟨g,2,none⟩ z).setCell ⟨g,3,none⟩ t
theorem Pk.set{w:World}{g:Nat}{f e:Int}{t:Bool}{m:Int}(h:Pk w g f e t m)(f' e':Int)(t':Bool)(m':Int):Pk (st4 w g (.int .u64 f') (.int .i64 e') (.bool t') (.int .i64 m')) g f' e' t' m':=by
 unfold Pk at h |-;simp[st4,World.setCell,mJ,h]
theorem Pk.drew{w:World}{g:Nat}{f e:Int}{t:Bool}{m:Int}(h:Pk w g f e t m):Pk w.drew g f e t m:=h
theorem Pk.alloc{w:World}{g:Nat}{f e:Int}{t:Bool}{m:Int}(h:Pk w g f e t m)(o:Obj):Pk (w.alloc o) g f e t m:=h.below (af w o)
theorem pg(W:World)(g:Nat)(f e:Int)(t:Bool)(m:Int)(tmps:Array Value)(ht:tmps[4]?.getD undef=.pointer (some ⟨g,0,none⟩))(D:Pk W g f e t m) :
 (results Tryz.f145 tmps).run Tryz.prog W=.ok (.agg #[.int .u64 f,.int .i64 e,.bool t,.int .i64 m]) W:=by
 obtain⟨x0,x1,x2,x3,dw,dz,dA,xf3⟩:=D.facts;simp[results,Tryz.results145,ht,go_sem,x0,x1,x2,x3]
theorem Du {w:World}{a:Option Addr}{l c:Nat}(n:Bool) (X:Nat) (e:Int) (b:Nat) (he0:-1048576<=e) (he1:e<=1048576) (hb:b<=262144) (hfar:1024<e+(b:Int))
 (HL:Hid (∀ u,Below w.heap.size w u->Calls Tryz.prog 93 #[.slice a l c] u fun r w'=>r=.returned (.int .i64 (b:Nat))/\w'=u)) :
 Calls Tryz.prog 145 #[.agg #[.bool n,.slice a l c,.int .i64 e],.agg #[.int .i64 53,.int .i64 (-1074),.int .i64 1024]] w fun r w'=>r=.returned (.agg #[.int .u64 9007199254740991,.int .i64 971,.bool false,.int .i64 1])/\Below w.heap.size w w':=by
 obtain⟨W1,hW1⟩:=ah (((w.alloc (.cells #[.bool n,.slice a l c,.int .i64 e] 25)).alloc (.cells #[.int .i64 53,.int .i64 (-1074),.int .i64 1024] 129)).alloc (.cells #[.int .u64 0,.int .i64 0,.bool false,.int .i64 0] 165));obtain⟨hB,hz1,DD,DW,DP⟩:=mq w n (.slice a l c) e 53 (-1074) 1024 W1 hW1;have H1:=hid (HL.o W1 hB);obtain⟨x0,x1,x2,dw,dz,dA⟩:=DD.facts;obtain⟨y0,y1,y2⟩:=DW.facts;obtain⟨p0,p1,p2,p3,w9,xc,xe,pf3⟩:=DP.facts;have F0:=aA (show Fin w.heap.size (w.heap.size+3) w W1 (.slice none 0 0) 0 from⟨Nt.nil _ _,hB,ae⟩);have SB:=(dC hB hz1 DP);clear hB hz1 DD DW DP HL;go_enter Tryz.func145,Tryz.ntmps145;go_wp2_with fail;rw[<-hW1];clear hW1;refine H1.o.mono ?_;rintro r ww ⟨rfl,hw⟩;rw[hw];clear hw ww H1;go_wp2
 go_region
 all_goals (
  go_wp2;refine aG (pg _ (w.heap.size+1+1) 9007199254740991 971 false 1 _ rfl (by repeat (with_reducible first | exact SB.o.r2 | refine Pk.drew ?_ | refine Pk.set (f:=0) (e:=0) (t:=false) (m:=0) ?_ _ _ _ _))) rfl ⟨rfl,?_⟩;refine Fin.aB (m:=w.heap.size+3) (v:=.slice none 0 0) (X:=0) ?_
  repeat (with_reducible first | exact F0.o | refine Fin.drew ?_ | refine Fin.alloc ?_ _ | refine Fin.set ?_ _ _ _ ae ae))
theorem Dv {w:World}{a:Option Addr}{l c:Nat}(n:Bool) (e ex off:Int) (b F:Nat) (he0:-1048576<=e) (he1:e<=1048576) (hb:b<=262144) (hF:F<18446744073709551616) (lF:(ws F).length<=100) (hnf:e+(b:Int)<=1024)
 (hmx:max (e+(b:Int)-53) (-1074)=ex) (eof:ex-e=off) (hex0:-2000<=ex) (hex1:ex<=2000) (hof0:-2000000<=off) (hof1:off<=2000000) (tt:Bool) (Ng:decide (off<=0)=tt) (ho:(off==1)=true)
 (HL:Hid (∀ u,Below w.heap.size w u->Calls Tryz.prog 93 #[.slice a l c] u fun r w'=>r=.returned (.int .i64 (b:Nat))/\w'=u))
 (HS:Hid (∀ u,Below w.heap.size w u->Calls Tryz.prog 137 #[.slice a l c,.int .i64 (-off)] u fun r w'=>∃ v,r=.returned (.tuple #[v,.int .i64 0])/\Nt u.heap.size w' v F/\Below u.heap.size u w'))
 (HM:Hid (∀ (u:World) (p:Option Addr) (q:Nat),Arg u p (ws F).length q (ws F)->Calls Tryz.prog 174 #[.slice p (ws F).length q] u fun r w'=>r=.returned (.tuple #[.int .u64 (F:Nat),.int .i64 0])/\w'=u)) :
 Calls Tryz.prog 145 #[.agg #[.bool n,.slice a l c,.int .i64 e],.agg #[.int .i64 53,.int .i64 (-1074),.int .i64 1024]] w fun r w'=>r=.returned (.agg #[.int .u64 (F:Nat),.int .i64 ex,.bool tt,.int .i64 0])/\Below w.heap.size w w':=by
 obtain⟨W1,hW1⟩:=ah (((w.alloc (.cells #[.bool n,.slice a l c,.int .i64 e] 25)).alloc (.cells #[.int .i64 53,.int .i64 (-1074),.int .i64 1024] 129)).alloc (.cells #[.int .u64 0,.int .i64 0,.bool false,.int .i64 0] 165));obtain⟨hB,hz1,DD,DW,DP⟩:=mq w n (.slice a l c) e 53 (-1074) 1024 W1 hW1;have H1:=hid (HL.o W1 hB);have H2:=hid (HS.o W1 hB);obtain⟨x0,x1,x2,dw,dz,dA⟩:=DD.facts;obtain⟨y0,y1,y2⟩:=DW.facts;have SB:=(ic hB hz1 DD DP);clear hB hz1 DD DW DP HL HS;go_enter Tryz.func145,Tryz.ntmps145;go_wp2_with fail;rw[<-hW1];clear hW1;refine H1.o.mono ?_;rintro r ww ⟨rfl,hw⟩;rw[hw];clear hw ww H1;go_wp2_with fail
 try simp only[hmx,eof]
 refine H2.o.mono ?_;rintro r u1 ⟨v,rfl,hN,hbb⟩;obtain⟨a1,c1,rfl,A1⟩:=hN.arg ae;obtain⟨hB,hz1,DD,DP⟩:=SB.o;have H3:=hid (HM.o u1 a1 c1 A1);obtain⟨z0,z1,z2,gQ,gT,gU⟩:=(DD.below hbb).facts;have QU:=DP.below hbb;obtain⟨p0,p1,p2,p3,w9,xc,xe,pf3⟩:=QU.facts;have F0:=aA (show Fin w.heap.size (w.heap.size+3) w u1 (.slice none 0 0) 0 from⟨Nt.nil _ _,hB.trans (hbb.mono ae),by have:=hbb.size;omega⟩);have hz:w.heap.size+1+1<u1.heap.size:=by have:=hbb.size;omega
 have hz':w.heap.size<u1.heap.size:=ae
 have SP:=aA QU;clear hN hbb A1 hB hz1 DD DP QU H2 HM SB;go_wp2_with fail
 try simp only[hmx,eof]
 refine H3.o.mono ?_;rintro r ww ⟨rfl,hw⟩;rw[hw];clear hw ww H3;go_wp2;refine aG (pg _ (w.heap.size+1+1) (F:Nat) ex tt 0 _ rfl (by repeat (with_reducible first | exact SP.o | refine Pk.alloc ?_ _ | refine Pk.drew ?_ | refine Pk.set (f:=0) (e:=0) (t:=false) (m:=0) ?_ _ _ _ _))) rfl ⟨rfl,?_⟩;refine Fin.aB (m:=w.heap.size+3) (v:=.slice none 0 0) (X:=0) ?_
 repeat (with_reducible first | exact F0.o | refine Fin.drew ?_ | refine Fin.alloc ?_ _ | refine Fin.set ?_ _ _ _ ae ae)
theorem Fp {w:World}{a:Option Addr}{l c:Nat}(n:Bool) (e ex off:Int) (b F:Nat) (he0:-1048576<=e) (he1:e<=1048576) (hb:b<=262144) (hF:F<18446744073709551616) (lF:(ws F).length<=100) (hnf:e+(b:Int)<=1024)
 (hmx:max (e+(b:Int)-53) (-1074)=ex) (eof:ex-e=off) (hex0:-2000<=ex) (hex1:ex<=2000) (hof0:-2000000<=off) (hof1:off<=2000000) (tt:Bool) (Ng:decide (off<=0)=tt) (ho:(off==1)=false)
 (HL:Hid (∀ u,Below w.heap.size w u->Calls Tryz.prog 93 #[.slice a l c] u fun r w'=>r=.returned (.int .i64 (b:Nat))/\w'=u))
 (HS:Hid (∀ u,Below w.heap.size w u->Calls Tryz.prog 137 #[.slice a l c,.int .i64 (-off)] u fun r w'=>∃ v,r=.returned (.tuple #[v,.int .i64 0])/\Nt u.heap.size w' v F/\Below u.heap.size u w'))
 (HM:Hid (∀ (u:World) (p:Option Addr) (q:Nat),Arg u p (ws F).length q (ws F)->Calls Tryz.prog 174 #[.slice p (ws F).length q] u fun r w'=>r=.returned (.tuple #[.int .u64 (F:Nat),.int .i64 0])/\w'=u))
 (HB:Hid (∀ u,Below w.heap.size w u->Calls Tryz.prog 160 #[.slice a l c,.int .i64 (off-1)] u fun r w'=>r=.returned (.bool true)/\w'=u)) :
 Calls Tryz.prog 145 #[.agg #[.bool n,.slice a l c,.int .i64 e],.agg #[.int .i64 53,.int .i64 (-1074),.int .i64 1024]] w fun r w'=>r=.returned (.agg #[.int .u64 (F:Nat),.int .i64 ex,.bool tt,.int .i64 1])/\Below w.heap.size w w':=by
 obtain⟨W1,hW1⟩:=ah (((w.alloc (.cells #[.bool n,.slice a l c,.int .i64 e] 25)).alloc (.cells #[.int .i64 53,.int .i64 (-1074),.int .i64 1024] 129)).alloc (.cells #[.int .u64 0,.int .i64 0,.bool false,.int .i64 0] 165));obtain⟨hB,hz1,DD,DW,DP⟩:=mq w n (.slice a l c) e 53 (-1074) 1024 W1 hW1;have H1:=hid (HL.o W1 hB);have H2:=hid (HS.o W1 hB);obtain⟨x0,x1,x2,dw,dz,dA⟩:=DD.facts;obtain⟨y0,y1,y2⟩:=DW.facts;have SB:=(ic hB hz1 DD DP);clear hB hz1 DD DW DP HL HS;go_enter Tryz.func145,Tryz.ntmps145;go_wp2_with fail;rw[<-hW1];clear hW1;refine H1.o.mono ?_;rintro r ww ⟨rfl,hw⟩;rw[hw];clear hw ww H1;go_wp2_with fail
 try simp only[hmx,eof]
 refine H2.o.mono ?_;rintro r u1 ⟨v,rfl,hN,hbb⟩;obtain⟨a1,c1,rfl,A1⟩:=hN.arg ae;obtain⟨hB,hz1,DD,DP⟩:=SB.o;have H3:=hid (HM.o u1 a1 c1 A1);obtain⟨z0,z1,z2,gQ,gT,gU⟩:=(DD.below hbb).facts;have QU:=DP.below hbb;obtain⟨p0,p1,p2,p3,w9,xc,xe,pf3⟩:=QU.facts;have F0:=aA (show Fin w.heap.size (w.heap.size+3) w u1 (.slice none 0 0) 0 from⟨Nt.nil _ _,hB.trans (hbb.mono ae),by have:=hbb.size;omega⟩);have hz:w.heap.size+1+1<u1.heap.size:=by have:=hbb.size;omega
 have hz':w.heap.size<u1.heap.size:=ae
 have SP:=aA QU;clear hN hbb A1 hB hz1 DD DP QU H2 HM SB;go_wp2_with fail
 try simp only[hmx,eof]
 refine H3.o.mono ?_;rintro r ww ⟨rfl,hw⟩;rw[hw];clear hw ww H3;have H4:=hid (HB.o (u1.alloc (.cells #[.int .u64 (F:Nat),.int .i64 ex,.bool tt,.int .i64 (-1)] 165)) (F0.o.aB.alloc F0.o.size _));clear HB;go_wp2_with fail
 try simp only[hmx,eof,Ng]
 refine H4.o.mono ?_;rintro r ww ⟨rfl,hw⟩;rw[hw];clear hw ww H4;go_wp2;refine aG (pg _ (w.heap.size+1+1) (F:Nat) ex tt 1 _ rfl (by repeat (with_reducible first | exact SP.o | refine Pk.alloc ?_ _ | refine Pk.drew ?_ | refine Pk.set (f:=0) (e:=0) (t:=false) (m:=0) ?_ _ _ _ _))) rfl ⟨rfl,?_⟩;refine Fin.aB (m:=w.heap.size+3) (v:=.slice none 0 0) (X:=0) ?_
 repeat (with_reducible first | exact F0.o | refine Fin.drew ?_ | refine Fin.alloc ?_ _ | refine Fin.set ?_ _ _ _ ae ae)
theorem wG {w:World}{a:Option Addr}{l c:Nat}(n:Bool) (e ex off:Int) (b F:Nat) (he0:-1048576<=e) (he1:e<=1048576) (hb:b<=262144) (hF:F<18446744073709551616) (lF:(ws F).length<=100) (hnf:e+(b:Int)<=1024)
 (hmx:max (e+(b:Int)-53) (-1074)=ex) (eof:ex-e=off) (hex0:-2000<=ex) (hex1:ex<=2000) (hof0:-2000000<=off) (hof1:off<=2000000) (tt:Bool) (Ng:decide (off<=0)=tt) (ho:(off==1)=false)
 (HL:Hid (∀ u,Below w.heap.size w u->Calls Tryz.prog 93 #[.slice a l c] u fun r w'=>r=.returned (.int .i64 (b:Nat))/\w'=u))
 (HS:Hid (∀ u,Below w.heap.size w u->Calls Tryz.prog 137 #[.slice a l c,.int .i64 (-off)] u fun r w'=>∃ v,r=.returned (.tuple #[v,.int .i64 0])/\Nt u.heap.size w' v F/\Below u.heap.size u w'))
 (HM:Hid (∀ (u:World) (p:Option Addr) (q:Nat),Arg u p (ws F).length q (ws F)->Calls Tryz.prog 174 #[.slice p (ws F).length q] u fun r w'=>r=.returned (.tuple #[.int .u64 (F:Nat),.int .i64 0])/\w'=u))
 (HB:Hid (∀ u,Below w.heap.size w u->Calls Tryz.prog 160 #[.slice a l c,.int .i64 (off-1)] u fun r w'=>r=.returned (.bool false)/\w'=u)) :
 Calls Tryz.prog 145 #[.agg #[.bool n,.slice a l c,.int .i64 e],.agg #[.int .i64 53,.int .i64 (-1074),.int .i64 1024]] w fun r w'=>r=.returned (.agg #[.int .u64 (F:Nat),.int .i64 ex,.bool tt,.int .i64 (-1)])/\Below w.heap.size w w':=by
 obtain⟨W1,hW1⟩:=ah (((w.alloc (.cells #[.bool n,.slice a l c,.int .i64 e] 25)).alloc (.cells #[.int .i64 53,.int .i64 (-1074),.int .i64 1024] 129)).alloc (.cells #[.int .u64 0,.int .i64 0,.bool false,.int .i64 0] 165));obtain⟨hB,hz1,DD,DW,DP⟩:=mq w n (.slice a l c) e 53 (-1074) 1024 W1 hW1;have H1:=hid (HL.o W1 hB);have H2:=hid (HS.o W1 hB);obtain⟨x0,x1,x2,dw,dz,dA⟩:=DD.facts;obtain⟨y0,y1,y2⟩:=DW.facts;have SB:=(ic hB hz1 DD DP);clear hB hz1 DD DW DP HL HS;go_enter Tryz.func145,Tryz.ntmps145;go_wp2_with fail;rw[<-hW1];clear hW1;refine H1.o.mono ?_;rintro r ww ⟨rfl,hw⟩;rw[hw];clear hw ww H1;go_wp2_with fail
 try simp only[hmx,eof]
 refine H2.o.mono ?_;rintro r u1 ⟨v,rfl,hN,hbb⟩;obtain⟨a1,c1,rfl,A1⟩:=hN.arg ae;obtain⟨hB,hz1,DD,DP⟩:=SB.o;have H3:=hid (HM.o u1 a1 c1 A1);obtain⟨z0,z1,z2,gQ,gT,gU⟩:=(DD.below hbb).facts;have QU:=DP.below hbb;obtain⟨p0,p1,p2,p3,w9,xc,xe,pf3⟩:=QU.facts;have F0:=aA (show Fin w.heap.size (w.heap.size+3) w u1 (.slice none 0 0) 0 from⟨Nt.nil _ _,hB.trans (hbb.mono ae),by have:=hbb.size;omega⟩);have hz:w.heap.size+1+1<u1.heap.size:=by have:=hbb.size;omega
 have hz':w.heap.size<u1.heap.size:=ae
 have SP:=aA QU;clear hN hbb A1 hB hz1 DD DP QU H2 HM SB;go_wp2_with fail
 try simp only[hmx,eof]
 refine H3.o.mono ?_;rintro r ww ⟨rfl,hw⟩;rw[hw];clear hw ww H3;have H4:=hid (HB.o (u1.alloc (.cells #[.int .u64 (F:Nat),.int .i64 ex,.bool tt,.int .i64 (-1)] 165)) (F0.o.aB.alloc F0.o.size _));clear HB;go_wp2_with fail
 try simp only[hmx,eof,Ng]
 refine H4.o.mono ?_;rintro r ww ⟨rfl,hw⟩;rw[hw];clear hw ww H4;go_wp2;refine aG (pg _ (w.heap.size+1+1) (F:Nat) ex tt (-1) _ rfl (by repeat (with_reducible first | exact SP.o | refine Pk.alloc ?_ _ | refine Pk.drew ?_ | refine Pk.set (f:=0) (e:=0) (t:=false) (m:=0) ?_ _ _ _ _))) rfl ⟨rfl,?_⟩;refine Fin.aB (m:=w.heap.size+3) (v:=.slice none 0 0) (X:=0) ?_
 repeat (with_reducible first | exact F0.o | refine Fin.drew ?_ | refine Fin.alloc ?_ _ | refine Fin.set ?_ _ _ _ ae ae)
theorem QV{w:World}{p:Option Addr}{q F:Nat}(hF:F<18446744073709551616)(hA:Arg w p (ws F).length q (ws F)) :
 Calls Tryz.prog 174 #[.slice p (ws F).length q] w fun r w'=>r=.returned (.tuple #[.int .u64 (F:Nat),.int .i64 0])/\w'=w:=by
 have:=Mm (ws F) p (ws F).length q w.heap.size w hA.len hA.cap (by have:=hA.big;omega) hA.wf hA.rd;rw[ak] at this;unfold Ir at this;rw[if_pos hF] at this;exact this
theorem vo(X:Nat)(e:Int)(hX:X≠0)(he0:-1048576<=e)(he1:e<=1048576) :
 (jw 53 (-1074) 1024 X e).1<=9007199254740991/\-1074<=(jw 53 (-1074) 1024 X e).2.1/\(jw 53 (-1074) 1024 X e).2.1<=971/\((jw 53 (-1074) 1024 X e).2.1=-1074\/4503599627370496<=(jw 53 (-1074) 1024 X e).1):=by
 have hb:=eu X hX;have h1:=iT X;have h2:=iU X hX;have e53:(2:Nat)^53=9007199254740992:=rfl;have e52:(2:Nat)^52=4503599627370496:=rfl;unfold jw
 by_cases hf:1024<e+(bl X:Int)
 · rw[if_pos hf];refine⟨aQ,aQ,aQ,.inr aQ⟩
 · rw[if_neg hf];simp only;obtain⟨ex,hex⟩:∃ ex,max (e+(bl X:Int)-((53:Nat):Int)) (-1074)=ex:=⟨_,rfl⟩;rw[hex]
   by_cases ho:ex-e<=0
   · rw[if_pos ho];obtain⟨k,hk⟩:∃ k:Nat,(-(ex-e)).toNat=k:=⟨_,rfl⟩;rw[hk];have hub:X*2^k<2^(bl X+k):=by rw[aJ];exact dO h1 (aZ k)
     have hm:2^(bl X+k)<=2^53:=fe ae ae;refine⟨by simp only;omega,by simp only;omega,by simp only;omega,?_⟩
     by_cases hl:ex=-1074
     · exact .inl hl
     · right
       have hlb:2^(bl X-1)*2^k<=X*2^k:=eZ _ h2;rw[<-aJ,show bl X-1+k=52 by omega] at hlb;simp only;omega
   · rw[if_neg ho];obtain⟨k,hk⟩:∃ k:Nat,(ex-e).toNat=k:=⟨_,rfl⟩;rw[hk]
     have hub:X/2^k<2^53:=by
      rw[rE (aZ k),<-aJ];exact iQ h1 (fe ae ae)
     refine⟨by simp only;omega,by simp only;omega,by simp only;omega,?_⟩
     by_cases hl:ex=-1074
     · exact .inl hl
     · right
       have hlb:2^52<=X/2^k:=by
        rw[rF (aZ k),<-aJ,show 52+k=bl X-1 by omega];exact h2
       simp only;omega
theorem IQ(X:Nat)(k:Nat)(hX:X≠0)(hl:bl X<=262144)(h0:0<k):bz X (-(k:Int))=(X/2^k,0):=by
 unfold bz;rw[if_neg (nG hl),if_neg hX,if_pos ae,show(- -(k:Int)).toNat=k by omega]
theorem IU{w:World}{a:Option Addr}{l c:Nat}{X:Nat}(hA:Arg w a l c (ws X))(n:Bool)(e:Int)(he0:-1048576<=e)(he1:e<=1048576)(hX:X≠0)(hl:bl X<=262144) :
 Calls Tryz.prog 145 #[.agg #[.bool n,.slice a l c,.int .i64 e],.agg #[.int .i64 53,.int .i64 (-1074),.int .i64 1024]] w fun r w' =>
  r=.returned (.agg #[.int .u64 ((jw 53 (-1074) 1024 X e).1:Nat),.int .i64 (jw 53 (-1074) 1024 X e).2.1,.bool (jw 53 (-1074) 1024 X e).2.2.1,.int .i64 (jw 53 (-1074) 1024 X e).2.2.2])/\Below w.heap.size w w':=by
 have pf:=vo X e hX he0 he1
 have HL:Hid (∀ u,Below w.heap.size w u->Calls Tryz.prog 93 #[.slice a l c] u fun r w'=>r=.returned (.int .i64 (bl X:Nat))/\w'=u):=by
  intro u hu;have A:=hA.below hu;have:=qO (ws X) a l c u.heap.size u A.len A.cap (by have:=A.big;omega) A.wf A.rd;exact yy
 have hb:=eu X hX
 by_cases hf:1024<e+(bl X:Int)
 · have hp:jw 53 (-1074) 1024 X e=(9007199254740991,971,false,1):=by unfold jw;rw[if_pos hf];rfl
   rw[hp];exact Du n X e (bl X) he0 he1 hl hf HL
 · obtain⟨ex,hex⟩:∃ ex,max (e+(bl X:Int)-53) (-1074)=ex:=⟨_,rfl⟩;obtain⟨off,hof⟩:∃ off,ex-e=off:=⟨_,rfl⟩;have Fq:-2000<=ex/\ex<=2000:=ae
   have hp:jw 53 (-1074) 1024 X e=if off<=0 then(X*2^(-off).toNat,ex,true,-1) else(X/2^off.toNat,ex,false,if off=1 then 0 else if X/2^(off-1).toNat%2=1 then 1 else -1):=by
    unfold jw;rw[if_neg hf];simp only;rw[show((53:Nat):Int)=53 from rfl,hex,hof]
   obtain⟨F,hFe⟩:∃ F,(jw 53 (-1074) 1024 X e).1=F:=⟨_,rfl⟩;have hF:F<=9007199254740991:=by rw[<-hFe];exact pf.1
   have lF:(ws F).length<=100:=by have:=jg F;have:=B.QR F hF;omega
   have hsh:bz X (-off)=(F,0):=by
    rw[<-hFe,hp]
    by_cases ho:off<=0
    · rw[if_pos ho,zf X (-off) ae hX hl,if_neg ae]
    · obtain⟨k,hk⟩:∃ k:Nat,off=(k:Int):=⟨off.toNat,ae⟩;rw[if_neg ho,hk,IQ X k hX hl ae,nW]
   have HS:Hid (∀ u,Below w.heap.size w u->Calls Tryz.prog 137 #[.slice a l c,.int .i64 (-off)] u fun r w'=>∃ v,r=.returned (.tuple #[v,.int .i64 0])/\Nt u.heap.size w' v F/\Below u.heap.size u w'):=by
    intro u hu;have A:=hA.below hu;exact gH (-off) A (by rw[ak];exact hsh) ae ae
   have HM:Hid (∀ (u:World) (p:Option Addr) (q:Nat),Arg u p (ws F).length q (ws F)->Calls Tryz.prog 174 #[.slice p (ws F).length q] u fun r w'=>r=.returned (.tuple #[.int .u64 (F:Nat),.int .i64 0])/\w'=u):=fun u p q hA=>QV ae hA
   have HB:∀ t:Bool,(if off-1<0 then false else decide (X/2^(off-1).toNat%2=1))=t->Hid (∀ u,Below w.heap.size w u->Calls Tryz.prog 160 #[.slice a l c,.int .i64 (off-1)] u fun r w'=>r=.returned (.bool t)/\w'=u):=by
    intro t ht u hu;have A:=hA.below hu
    by_cases h0:off-1<0
    · rw[if_pos h0] at ht;subst ht;exact U4 a l c (off-1) u h0
    · rw[if_neg h0] at ht;obtain⟨k,hk⟩:∃ k:Nat,off-1=(k:Int):=⟨(off-1).toNat,ae⟩;have:=tQ (ws X) a l c u.heap.size k u A.len A.wf A.rd ae;rw[ak] at this;rw[hk] at ht |-;rw[nW] at ht;rw[ht] at this;exact this
   rw[hFe]
   by_cases h1:off=1
   · have:=Dv n e ex off (bl X) F he0 he1 hl ae lF ae hex hof Fq.1 Fq.2 ae ae false (decide_eq_false ae) (by simp[h1]) HL HS HM;rw[hp,if_neg ae];simp only[h1,if_true];exact this
   · have h1':(off==1)=false:=by simp[h1]
     by_cases ho:off<=0
     · have:=wG n e ex off (bl X) F he0 he1 hl ae lF ae hex hof Fq.1 Fq.2 ae ae true (decide_eq_true ho) h1' HL HS HM (HB false (by rw[if_pos ae]));rw[hp,if_pos ho];exact this
     · rw[hp,if_neg ho];simp only[if_neg h1]
       by_cases hbt:X/2^(off-1).toNat%2=1
       · have:=Fp n e ex off (bl X) F he0 he1 hl ae lF ae hex hof Fq.1 Fq.2 ae ae false (decide_eq_false ho) h1' HL HS HM (HB true (by rw[if_neg ae];exact decide_eq_true hbt));rw[if_pos hbt];exact this
       · have:=wG n e ex off (bl X) F he0 he1 hl ae lF ae hex hof Fq.1 Fq.2 ae ae false (decide_eq_false ho) h1' HL HS HM (HB false (by rw[if_neg ae];exact decide_eq_false hbt));rw[if_neg hbt];exact this
def jU(mode:Int)(F:Nat)(mid:Int)(n:Bool):Bool :=
 if mode=0 then decide (0<mid) || (decide (mid=0)&&decide (F%2=1)) else if mode=2 then !n else if mode=3 then n else if mode=4 then decide (0<=mid) else false
theorem Nh(z:Nat)(h:z<18446744073709551616):bits BinOp.and IntKind.u64 (z:Int) 1=((z%2:Nat):Int):=by
 have h:=B.IP z h;exact h
theorem Ni(F:Nat)(ex:Int)(t:Bool)(n:Bool)(w:World)  :
 Calls Tryz.prog 146 #[.agg #[.int .u64 (F:Nat),.int .i64 ex,.bool t,.int .i64 1],.int .i64 0,.bool n] w fun r w'=>r=.returned (.bool true)/\Below w.heap.size w w':=by
 have HB:=aA (show Below w.heap.size w (w.alloc (.cells #[.int .u64 (F:Nat),.int .i64 ex,.bool t,.int .i64 1] 165)) from af w _);go_enter Tryz.func146,Tryz.ntmps146;go_wp2
 all_goals go_ret
 all_goals exact⟨rfl,HB.o⟩
theorem Nj(F:Nat)(ex:Int)(t:Bool)(n:Bool)(w:World)(b:Bool)(hb:(bits BinOp.and IntKind.u64 (F:Int) 1==1)=b) :
 Calls Tryz.prog 146 #[.agg #[.int .u64 (F:Nat),.int .i64 ex,.bool t,.int .i64 0],.int .i64 0,.bool n] w fun r w'=>r=.returned (.bool b)/\Below w.heap.size w w':=by
 have HB:=aA (show Below w.heap.size w (w.alloc (.cells #[.int .u64 (F:Nat),.int .i64 ex,.bool t,.int .i64 0] 165)) from af w _);go_enter Tryz.func146,Tryz.ntmps146;go_wp2
 all_goals go_ret
 all_goals exact⟨rfl,HB.o⟩
theorem Nk(F:Nat)(ex:Int)(t:Bool)(n:Bool)(w:World)  :
 Calls Tryz.prog 146 #[.agg #[.int .u64 (F:Nat),.int .i64 ex,.bool t,.int .i64 (-1)],.int .i64 0,.bool n] w fun r w'=>r=.returned (.bool false)/\Below w.heap.size w w':=by
 have HB:=aA (show Below w.heap.size w (w.alloc (.cells #[.int .u64 (F:Nat),.int .i64 ex,.bool t,.int .i64 (-1)] 165)) from af w _);go_enter Tryz.func146,Tryz.ntmps146;go_wp2
 all_goals go_ret
 all_goals exact⟨rfl,HB.o⟩
theorem QW(F:Nat)(ex:Int)(t:Bool)(mid:Int)(n:Bool)(w:World)  :
 Calls Tryz.prog 146 #[.agg #[.int .u64 (F:Nat),.int .i64 ex,.bool t,.int .i64 mid],.int .i64 1,.bool n] w fun r w'=>r=.returned (.bool false)/\Below w.heap.size w w':=by
 have HB:=aA (show Below w.heap.size w (w.alloc (.cells #[.int .u64 (F:Nat),.int .i64 ex,.bool t,.int .i64 mid] 165)) from af w _);go_enter Tryz.func146,Tryz.ntmps146;go_wp2
 all_goals go_ret
 all_goals exact⟨rfl,HB.o⟩
theorem Zc(F:Nat)(ex:Int)(t:Bool)(mid:Int)(n:Bool)(w:World)  :
 Calls Tryz.prog 146 #[.agg #[.int .u64 (F:Nat),.int .i64 ex,.bool t,.int .i64 mid],.int .i64 2,.bool n] w fun r w'=>r=.returned (.bool (!n))/\Below w.heap.size w w':=by
 have HB:=aA (show Below w.heap.size w (w.alloc (.cells #[.int .u64 (F:Nat),.int .i64 ex,.bool t,.int .i64 mid] 165)) from af w _);go_enter Tryz.func146,Tryz.ntmps146;go_wp2
 all_goals go_ret
 all_goals exact⟨rfl,HB.o⟩
theorem QX(F:Nat)(ex:Int)(t:Bool)(mid:Int)(n:Bool)(w:World)  :
 Calls Tryz.prog 146 #[.agg #[.int .u64 (F:Nat),.int .i64 ex,.bool t,.int .i64 mid],.int .i64 3,.bool n] w fun r w'=>r=.returned (.bool n)/\Below w.heap.size w w':=by
 have HB:=aA (show Below w.heap.size w (w.alloc (.cells #[.int .u64 (F:Nat),.int .i64 ex,.bool t,.int .i64 mid] 165)) from af w _);go_enter Tryz.func146,Tryz.ntmps146;go_wp2
 all_goals go_ret
 all_goals exact⟨rfl,HB.o⟩
theorem QY(F:Nat)(ex:Int)(t:Bool)(mid:Int)(n:Bool)(w:World)(b:Bool)(hb:decide (0<=mid)=b) :
 Calls Tryz.prog 146 #[.agg #[.int .u64 (F:Nat),.int .i64 ex,.bool t,.int .i64 mid],.int .i64 4,.bool n] w fun r w'=>r=.returned (.bool b)/\Below w.heap.size w w':=by
 have HB:=aA (show Below w.heap.size w (w.alloc (.cells #[.int .u64 (F:Nat),.int .i64 ex,.bool t,.int .i64 mid] 165)) from af w _);go_enter Tryz.func146,Tryz.ntmps146;go_wp2
 all_goals go_ret
 all_goals exact⟨rfl,HB.o⟩
theorem Fu(F:Nat)(ex:Int)(t:Bool)(mid mode:Int)(n:Bool)(w:World)(hF:F<18446744073709551616)(hm:mid=-1\/mid=0\/mid=1)(h0:0<=mode)(h4:mode<=4) :
 Calls Tryz.prog 146 #[.agg #[.int .u64 (F:Nat),.int .i64 ex,.bool t,.int .i64 mid],.int .i64 mode,.bool n] w fun r w'=>r=.returned (.bool (jU mode F mid n))/\Below w.heap.size w w':=by
 have hc:mode=0\/mode=1\/mode=2\/mode=3\/mode=4:=ae
 rcases hc with rfl|rfl|rfl|rfl|rfl
 · rcases hm with rfl | rfl | rfl
   · exact Nk F ex t n w
   · have e:(bits BinOp.and IntKind.u64 (F:Int) 1==1)=jU 0 F 0 n:=by
      rw[Nh F hF];unfold jU;rcases Ho F with h|h <;> simp[h]
     exact Nj F ex t n w _ e
   · exact Ni F ex t n w
 · exact QW F ex t mid n w
 · exact Zc F ex t mid n w
 · exact QX F ex t mid n w
 · exact QY F ex t mid n w _ rfl
theorem iG(w:World)(n:Bool)(v:Value)(e a b c:Int)(W:World)(hW:W=(w.alloc (.cells #[.bool n,v,.int .i64 e] 25)).alloc (.cells #[.int .i64 a,.int .i64 b,.int .i64 c] 129)) :
 Below w.heap.size w W/\W.heap.size=w.heap.size+2/\Dk W w.heap.size n v e/\Wk W (w.heap.size+1) a b c:=by
 subst hW;refine⟨(af w _).alloc aQ _,aQ,(Dk.new w n v e).alloc _,?_⟩;unfold Wk;have:=gY (w.alloc (.cells #[.bool n,v,.int .i64 e] 25)) (.cells #[.int .i64 a,.int .i64 b,.int .i64 c] 129);simpa using this
theorem Wk.below{w w':World}{g:Nat}{a b c:Int}(h:Wk w g a b c)(hb:Below w.heap.size w w'):Wk w' g a b c:=by
 unfold Wk;rw[hb.block g (gL.1 h).1];exact h
theorem IV(n:Bool)(a:Option Addr)(l c:Nat)(e mode:Int)(w:World)(hm:mode<0\/4<mode) :
 Calls Tryz.prog 105 #[.agg #[.bool n,.slice a l c,.int .i64 e],.int .i64 mode,.agg #[.int .i64 53,.int .i64 (-1074),.int .i64 1024]] w fun r w'=>r=.returned (.tuple #[.float .f64 0,.int .i64 1])/\Below w.heap.size w w':=by
 have HB:=aA (show Below w.heap.size w ((w.alloc (.cells #[.bool n,.slice a l c,.int .i64 e] 25)).alloc (.cells #[.int .i64 53,.int .i64 (-1074),.int .i64 1024] 129)) from(af w _).alloc aQ _);rcases hm with h|h
 · go_enter Tryz.func105,Tryz.ntmps105;go_wp2
   go_ret2
   exact⟨rfl,HB.o⟩
 · have h':decide (mode<0)=false:=decide_eq_false ae;go_enter Tryz.func105,Tryz.ntmps105;go_wp2
   go_ret2
   exact⟨rfl,HB.o⟩
theorem Nl {w:World}{a:Option Addr}{l c:Nat}(n:Bool) (e mode:Int) (n1:Bool) (X:Nat) (e1 er:Int) (lX:(ws X).length<=8192) (hm0:0<=mode) (sU:mode<=4) (her:(er != 0)=true)
 (HF:Hid (∀ u,Below w.heap.size w u->Calls Tryz.prog 125 #[.agg #[.bool n,.slice a l c,.int .i64 e]] u fun r w'=>(∃ v,r=.returned (.tuple #[.agg #[.bool n1,v,.int .i64 e1],.int .i64 er])/\Nt u.heap.size w' v X)/\Below u.heap.size u w')) :
 Calls Tryz.prog 105 #[.agg #[.bool n,.slice a l c,.int .i64 e],.int .i64 mode,.agg #[.int .i64 53,.int .i64 (-1074),.int .i64 1024]] w fun r w'=>r=.returned (.tuple #[.float .f64 0,.int .i64 er])/\Below w.heap.size w w':=by
 obtain⟨W1,hW1⟩:=ah ((w.alloc (.cells #[.bool n,.slice a l c,.int .i64 e] 25)).alloc (.cells #[.int .i64 53,.int .i64 (-1074),.int .i64 1024] 129));obtain⟨hB,hz1,DD,DW⟩:=iG w n (.slice a l c) e 53 (-1074) 1024 W1 hW1;have H1:=hid (HF.o W1 hB);have SB:=(dC hB hz1 DW);clear hB hz1 DD DW HF;go_enter Tryz.func105,Tryz.ntmps105;go_wp2_with fail;rw[<-hW1];clear hW1;refine H1.o.mono ?_;rintro r u1 ⟨⟨v,rfl,hN⟩,hb⟩;obtain⟨a1,c1,rfl,_⟩:=hN.arg ae;obtain⟨hB,hz1,DW⟩:=SB.o;have SF:=aA (hB.trans (hb.mono ae));have hz:w.heap.size<=u1.heap.size:=by have:=hb.size;omega
 clear hN hb H1 hB hz1 DW SB;go_wp2
 go_ret2
 exact⟨rfl,SF.o.alloc hz _⟩
theorem IW {w:World}{a:Option Addr}{l c:Nat}(n:Bool) (e mode:Int) (n1:Bool) (X:Nat) (e1:Int) (lX:(ws X).length=0) (hm0:0<=mode) (sU:mode<=4)
 (HF:Hid (∀ u,Below w.heap.size w u->Calls Tryz.prog 125 #[.agg #[.bool n,.slice a l c,.int .i64 e]] u fun r w'=>(∃ v,r=.returned (.tuple #[.agg #[.bool n1,v,.int .i64 e1],.int .i64 0])/\Nt u.heap.size w' v X)/\Below u.heap.size u w')) :
 Calls Tryz.prog 105 #[.agg #[.bool n,.slice a l c,.int .i64 e],.int .i64 mode,.agg #[.int .i64 53,.int .i64 (-1074),.int .i64 1024]] w fun r w'=>r=.returned (.tuple #[.float .f64 0,.int .i64 0])/\Below w.heap.size w w':=by
 obtain⟨W1,hW1⟩:=ah ((w.alloc (.cells #[.bool n,.slice a l c,.int .i64 e] 25)).alloc (.cells #[.int .i64 53,.int .i64 (-1074),.int .i64 1024] 129));obtain⟨hB,hz1,DD,DW⟩:=iG w n (.slice a l c) e 53 (-1074) 1024 W1 hW1;have H1:=hid (HF.o W1 hB);have SB:=(dC hB hz1 DW);clear hB hz1 DD DW HF;go_enter Tryz.func105,Tryz.ntmps105;go_wp2_with fail;rw[<-hW1];clear hW1;refine H1.o.mono ?_;rintro r u1 ⟨⟨v,rfl,hN⟩,hb⟩;obtain⟨a1,c1,rfl,_⟩:=hN.arg ae;obtain⟨hB,hz1,DW⟩:=SB.o;have SF:=aA (hB.trans (hb.mono ae));have hz:w.heap.size<=u1.heap.size:=by have:=hb.size;omega
 clear hN hb H1 hB hz1 DW SB;rw[lX];go_wp2
 go_ret2
 exact⟨rfl,SF.o.alloc hz _⟩
theorem QZ {w:World}{a:Option Addr}{l c:Nat}(n:Bool) (e mode:Int) (X:Nat) (e1:Int) (lX:(ws X).length<=8192) (hX:((((ws X).length:Nat):Int)==0)=false) (hm0:0<=mode) (sU:mode<=4)
 (F cw K K2:Nat) (ex mid:Int) (hF:F<=9007199254740991) (BX:floatOfInt .f64 (F:Int)=cw)
 (HF:Hid (∀ u,Below w.heap.size w u->Calls Tryz.prog 125 #[.agg #[.bool n,.slice a l c,.int .i64 e]] u fun r w'=>(∃ v,r=.returned (.tuple #[.agg #[.bool false,v,.int .i64 e1],.int .i64 0])/\Nt u.heap.size w' v X)/\Below u.heap.size u w'))
 (HP:Hid (∀ (u:World) (p:Option Addr) (q:Nat),Arg u p (ws X).length q (ws X)->Calls Tryz.prog 145 #[.agg #[.bool false,.slice p (ws X).length q,.int .i64 e1],.agg #[.int .i64 53,.int .i64 (-1074),.int .i64 1024]] u fun r w'=>r=.returned (.agg #[.int .u64 (F:Nat),.int .i64 ex,.bool true,.int .i64 mid])/\Below u.heap.size u w'))
 (HD:Hid (∀ u,Calls Tryz.prog 147 #[.float .f64 cw,.int .i64 ex] u fun r w'=>r=.returned (.float .f64 K)/\w'=u)) :
 Calls Tryz.prog 105 #[.agg #[.bool n,.slice a l c,.int .i64 e],.int .i64 mode,.agg #[.int .i64 53,.int .i64 (-1074),.int .i64 1024]] w fun r w'=>r=.returned (.tuple #[.float .f64 K,.int .i64 0])/\Below w.heap.size w w':=by
 obtain⟨W1,hW1⟩:=ah ((w.alloc (.cells #[.bool n,.slice a l c,.int .i64 e] 25)).alloc (.cells #[.int .i64 53,.int .i64 (-1074),.int .i64 1024] 129));obtain⟨hB,hz1,DD,DW⟩:=iG w n (.slice a l c) e 53 (-1074) 1024 W1 hW1;have H1:=hid (HF.o W1 hB);have SB:=(dC hB hz1 DW);clear hB hz1 DD DW HF;go_enter Tryz.func105,Tryz.ntmps105;go_wp2_with fail;rw[<-hW1];clear hW1;refine H1.o.mono ?_;rintro r u1 ⟨⟨v,rfl,hN⟩,hb⟩;obtain⟨a1,c1,rfl,_⟩:=hN.arg ae;obtain⟨hB,hz1,DW⟩:=SB.o;obtain⟨W2,hW2⟩:=ah (u1.alloc (.cells #[.bool false,.slice a1 (ws X).length c1,.int .i64 e1] 25));have hbW:Below u1.heap.size u1 W2:=by rw[hW2];exact af u1 _
 have D2:Dk W2 u1.heap.size false (.slice a1 (ws X).length c1) e1:=by rw[hW2];exact Dk.new u1 _ _ _
 have V2:Wk W2 (w.heap.size+1) 53 (-1074) 1024:=(DW.below hb).below hbW;have hB2:Below w.heap.size w W2:=(hB.trans (hb.mono ae)).trans (hbW.mono (by have:=hb.size;omega));have H2:=hid (HP.o W2 a1 c1 ((hN.below hbW).aY ae).2);obtain⟨x0,x1,x2,dw,dz,dA⟩:=D2.facts;obtain⟨y0,y1,y2⟩:=V2.facts;obtain⟨t0,t1,t2⟩:=(DW.below hb).facts;have hzu:w.heap.size+1<u1.heap.size:=by have:=hb.size;omega
 have hzz:w.heap.size<=u1.heap.size:=by have:=hb.size;omega
 have MC:u1.heap.size<W2.heap.size:=D2.lt;have S2:=(aP hB2 D2);clear hN hb H1 hB hz1 DW SB hbW D2 V2 hB2 HP;go_wp2_with fail;rw[<-hW2];clear hW2;refine H2.o.mono ?_;rintro r u2 ⟨rfl,hb⟩;obtain⟨W3,hW3⟩:=ah (u2.alloc (.cells #[.int .u64 (F:Nat),.int .i64 ex,.bool true,.int .i64 mid] 165));have hbW:Below u2.heap.size u2 W3:=by rw[hW3];exact af u2 _
 have P3:Pk W3 u2.heap.size (F:Nat) ex true mid:=by rw[hW3];exact gY _ _
 have D3:=(S2.o.2.below hb).below hbW;have hB3:Below w.heap.size w W3:=(S2.o.1.trans (hb.mono ae)).trans (hbW.mono (by have:=hb.size;omega));have Y7:u1.heap.size<u2.heap.size:=by have:=hb.size;omega
 obtain⟨q0,q1,q2,q3,AQ,AU,AV,Vs⟩:=P3.facts;obtain⟨d0,d1,d2,Vt,Vu,df2⟩:=D3.facts;have ME:w.heap.size<=u2.heap.size:=ae
 have hz7:u2.heap.size<W3.heap.size:=P3.lt;have S3:=(dC hB3 P3 D3);clear hb hbW P3 D3 hB3 S2 H2 x0 x1 x2 dw dz dA y0 y1 y2
 go_upto_region 7 with fail
 rw[<-hW3];clear hW3;go_wp2_with fail
 try simp only[BX]
 refine(aF (HD.o _)) ?_;rintro r ww ⟨rfl,hw⟩;rw[hw];clear hw ww HD;go_wp2
 go_ret2
 exact⟨rfl,S3.o.1⟩
theorem Q0 {w:World}{a:Option Addr}{l c:Nat}(n:Bool) (e mode:Int) (X:Nat) (e1:Int) (lX:(ws X).length<=8192) (hX:((((ws X).length:Nat):Int)==0)=false) (hm0:0<=mode) (sU:mode<=4)
 (F cw K K2:Nat) (ex mid:Int) (hF:F<=9007199254740991) (BX:floatOfInt .f64 (F:Int)=cw)
 (HF:Hid (∀ u,Below w.heap.size w u->Calls Tryz.prog 125 #[.agg #[.bool n,.slice a l c,.int .i64 e]] u fun r w'=>(∃ v,r=.returned (.tuple #[.agg #[.bool true,v,.int .i64 e1],.int .i64 0])/\Nt u.heap.size w' v X)/\Below u.heap.size u w'))
 (HP:Hid (∀ (u:World) (p:Option Addr) (q:Nat),Arg u p (ws X).length q (ws X)->Calls Tryz.prog 145 #[.agg #[.bool true,.slice p (ws X).length q,.int .i64 e1],.agg #[.int .i64 53,.int .i64 (-1074),.int .i64 1024]] u fun r w'=>r=.returned (.agg #[.int .u64 (F:Nat),.int .i64 ex,.bool true,.int .i64 mid])/\Below u.heap.size u w'))
 (HD:Hid (∀ u,Calls Tryz.prog 147 #[.float .f64 cw,.int .i64 ex] u fun r w'=>r=.returned (.float .f64 K)/\w'=u))
 (HC:Hid (∀ u,Calls Tryz.prog 148 #[.float .f64 K,.float .f64 13830554455654793216] u fun r w'=>r=.returned (.float .f64 K2)/\w'=u)) :
 Calls Tryz.prog 105 #[.agg #[.bool n,.slice a l c,.int .i64 e],.int .i64 mode,.agg #[.int .i64 53,.int .i64 (-1074),.int .i64 1024]] w fun r w'=>r=.returned (.tuple #[.float .f64 K2,.int .i64 0])/\Below w.heap.size w w':=by
 obtain⟨W1,hW1⟩:=ah ((w.alloc (.cells #[.bool n,.slice a l c,.int .i64 e] 25)).alloc (.cells #[.int .i64 53,.int .i64 (-1074),.int .i64 1024] 129));obtain⟨hB,hz1,DD,DW⟩:=iG w n (.slice a l c) e 53 (-1074) 1024 W1 hW1;have H1:=hid (HF.o W1 hB);have SB:=(dC hB hz1 DW);clear hB hz1 DD DW HF;go_enter Tryz.func105,Tryz.ntmps105;go_wp2_with fail;rw[<-hW1];clear hW1;refine H1.o.mono ?_;rintro r u1 ⟨⟨v,rfl,hN⟩,hb⟩;obtain⟨a1,c1,rfl,_⟩:=hN.arg ae;obtain⟨hB,hz1,DW⟩:=SB.o;obtain⟨W2,hW2⟩:=ah (u1.alloc (.cells #[.bool true,.slice a1 (ws X).length c1,.int .i64 e1] 25));have hbW:Below u1.heap.size u1 W2:=by rw[hW2];exact af u1 _
 have D2:Dk W2 u1.heap.size true (.slice a1 (ws X).length c1) e1:=by rw[hW2];exact Dk.new u1 _ _ _
 have V2:Wk W2 (w.heap.size+1) 53 (-1074) 1024:=(DW.below hb).below hbW;have hB2:Below w.heap.size w W2:=(hB.trans (hb.mono ae)).trans (hbW.mono (by have:=hb.size;omega));have H2:=hid (HP.o W2 a1 c1 ((hN.below hbW).aY ae).2);obtain⟨x0,x1,x2,dw,dz,dA⟩:=D2.facts;obtain⟨y0,y1,y2⟩:=V2.facts;obtain⟨t0,t1,t2⟩:=(DW.below hb).facts;have hzu:w.heap.size+1<u1.heap.size:=by have:=hb.size;omega
 have hzz:w.heap.size<=u1.heap.size:=by have:=hb.size;omega
 have MC:u1.heap.size<W2.heap.size:=D2.lt;have S2:=(aP hB2 D2);clear hN hb H1 hB hz1 DW SB hbW D2 V2 hB2 HP;go_wp2_with fail;rw[<-hW2];clear hW2;refine H2.o.mono ?_;rintro r u2 ⟨rfl,hb⟩;obtain⟨W3,hW3⟩:=ah (u2.alloc (.cells #[.int .u64 (F:Nat),.int .i64 ex,.bool true,.int .i64 mid] 165));have hbW:Below u2.heap.size u2 W3:=by rw[hW3];exact af u2 _
 have P3:Pk W3 u2.heap.size (F:Nat) ex true mid:=by rw[hW3];exact gY _ _
 have D3:=(S2.o.2.below hb).below hbW;have hB3:Below w.heap.size w W3:=(S2.o.1.trans (hb.mono ae)).trans (hbW.mono (by have:=hb.size;omega));have Y7:u1.heap.size<u2.heap.size:=by have:=hb.size;omega
 obtain⟨q0,q1,q2,q3,AQ,AU,AV,Vs⟩:=P3.facts;obtain⟨d0,d1,d2,Vt,Vu,df2⟩:=D3.facts;have ME:w.heap.size<=u2.heap.size:=ae
 have hz7:u2.heap.size<W3.heap.size:=P3.lt;have S3:=(dC hB3 P3 D3);clear hb hbW P3 D3 hB3 S2 H2 x0 x1 x2 dw dz dA y0 y1 y2
 go_upto_region 7 with fail
 rw[<-hW3];clear hW3;go_wp2_with fail
 try simp only[BX]
 refine(aF (HD.o _)) ?_;rintro r ww ⟨rfl,hw⟩;rw[hw];clear hw ww HD;go_wp2_with fail;refine(aF (HC.o _)) ?_;rintro r ww ⟨rfl,hw⟩;rw[hw];clear hw ww HC;go_wp2
 go_ret2
 exact⟨rfl,S3.o.1⟩
theorem Nn {w:World}{a:Option Addr}{l c:Nat}(n:Bool) (e mode:Int) (X:Nat) (e1:Int) (lX:(ws X).length<=8192) (hX:((((ws X).length:Nat):Int)==0)=false) (hm0:0<=mode) (sU:mode<=4)
 (F cw K K2:Nat) (ex mid:Int) (hF:F<=9007199254740991) (BX:floatOfInt .f64 (F:Int)=cw)
 (HF:Hid (∀ u,Below w.heap.size w u->Calls Tryz.prog 125 #[.agg #[.bool n,.slice a l c,.int .i64 e]] u fun r w'=>(∃ v,r=.returned (.tuple #[.agg #[.bool false,v,.int .i64 e1],.int .i64 0])/\Nt u.heap.size w' v X)/\Below u.heap.size u w'))
 (HP:Hid (∀ (u:World) (p:Option Addr) (q:Nat),Arg u p (ws X).length q (ws X)->Calls Tryz.prog 145 #[.agg #[.bool false,.slice p (ws X).length q,.int .i64 e1],.agg #[.int .i64 53,.int .i64 (-1074),.int .i64 1024]] u fun r w'=>r=.returned (.agg #[.int .u64 (F:Nat),.int .i64 ex,.bool false,.int .i64 mid])/\Below u.heap.size u w'))
 (HG:Hid (∀ u,Calls Tryz.prog 146 #[.agg #[.int .u64 (F:Nat),.int .i64 ex,.bool false,.int .i64 mid],.int .i64 mode,.bool false] u fun r w'=>r=.returned (.bool false)/\Below u.heap.size u w'))
 (HD:Hid (∀ u,Calls Tryz.prog 147 #[.float .f64 cw,.int .i64 ex] u fun r w'=>r=.returned (.float .f64 K)/\w'=u)) :
 Calls Tryz.prog 105 #[.agg #[.bool n,.slice a l c,.int .i64 e],.int .i64 mode,.agg #[.int .i64 53,.int .i64 (-1074),.int .i64 1024]] w fun r w'=>r=.returned (.tuple #[.float .f64 K,.int .i64 0])/\Below w.heap.size w w':=by
 obtain⟨W1,hW1⟩:=ah ((w.alloc (.cells #[.bool n,.slice a l c,.int .i64 e] 25)).alloc (.cells #[.int .i64 53,.int .i64 (-1074),.int .i64 1024] 129));obtain⟨hB,hz1,DD,DW⟩:=iG w n (.slice a l c) e 53 (-1074) 1024 W1 hW1;have H1:=hid (HF.o W1 hB);have SB:=(dC hB hz1 DW);clear hB hz1 DD DW HF;go_enter Tryz.func105,Tryz.ntmps105;go_wp2_with fail;rw[<-hW1];clear hW1;refine H1.o.mono ?_;rintro r u1 ⟨⟨v,rfl,hN⟩,hb⟩;obtain⟨a1,c1,rfl,_⟩:=hN.arg ae;obtain⟨hB,hz1,DW⟩:=SB.o;obtain⟨W2,hW2⟩:=ah (u1.alloc (.cells #[.bool false,.slice a1 (ws X).length c1,.int .i64 e1] 25));have hbW:Below u1.heap.size u1 W2:=by rw[hW2];exact af u1 _
 have D2:Dk W2 u1.heap.size false (.slice a1 (ws X).length c1) e1:=by rw[hW2];exact Dk.new u1 _ _ _
 have V2:Wk W2 (w.heap.size+1) 53 (-1074) 1024:=(DW.below hb).below hbW;have hB2:Below w.heap.size w W2:=(hB.trans (hb.mono ae)).trans (hbW.mono (by have:=hb.size;omega));have H2:=hid (HP.o W2 a1 c1 ((hN.below hbW).aY ae).2);obtain⟨x0,x1,x2,dw,dz,dA⟩:=D2.facts;obtain⟨y0,y1,y2⟩:=V2.facts;obtain⟨t0,t1,t2⟩:=(DW.below hb).facts;have hzu:w.heap.size+1<u1.heap.size:=by have:=hb.size;omega
 have hzz:w.heap.size<=u1.heap.size:=by have:=hb.size;omega
 have MC:u1.heap.size<W2.heap.size:=D2.lt;have S2:=(aP hB2 D2);clear hN hb H1 hB hz1 DW SB hbW D2 V2 hB2 HP;go_wp2_with fail;rw[<-hW2];clear hW2;refine H2.o.mono ?_;rintro r u2 ⟨rfl,hb⟩;obtain⟨W3,hW3⟩:=ah (u2.alloc (.cells #[.int .u64 (F:Nat),.int .i64 ex,.bool false,.int .i64 mid] 165));have hbW:Below u2.heap.size u2 W3:=by rw[hW3];exact af u2 _
 have P3:Pk W3 u2.heap.size (F:Nat) ex false mid:=by rw[hW3];exact gY _ _
 have D3:=(S2.o.2.below hb).below hbW;have hB3:Below w.heap.size w W3:=(S2.o.1.trans (hb.mono ae)).trans (hbW.mono (by have:=hb.size;omega));have Y7:u1.heap.size<u2.heap.size:=by have:=hb.size;omega
 obtain⟨q0,q1,q2,q3,AQ,AU,AV,Vs⟩:=P3.facts;obtain⟨d0,d1,d2,Vt,Vu,df2⟩:=D3.facts;have ME:w.heap.size<=u2.heap.size:=ae
 have hz7:u2.heap.size<W3.heap.size:=P3.lt;have S3:=(dC hB3 P3 D3);clear hb hbW P3 D3 hB3 S2 H2 x0 x1 x2 dw dz dA y0 y1 y2
 go_upto_region 7 with fail
 rw[<-hW3];clear hW3;go_wp2_with fail;refine(aF (HG.o _)) ?_;rintro r u3 ⟨rfl,hb⟩;have P4:=S3.o.2.1.below hb;have D4:=S3.o.r2.below hb;have hB4:Below w.heap.size w u3:=S3.o.1.trans (hb.mono ae);have hz8:w.heap.size<=u3.heap.size:=by have:=hb.size;omega
 obtain⟨r0,r1,r2,r3,iH,iI,iJ,rf3⟩:=P4.facts;obtain⟨s0,s1,s2,uZ,ve,vg⟩:=D4.facts;have S4:=aA hB4;clear hb P4 D4 hB4 S3 HG q0 q1 q2 q3 AQ AU AV Vs d0 d1 d2 Vt Vu df2;go_wp2_with fail
 try simp only[BX]
 refine(aF (HD.o _)) ?_;rintro r ww ⟨rfl,hw⟩;rw[hw];clear hw ww HD;go_wp2
 go_ret2
 exact⟨rfl,S4.o⟩
theorem Np {w:World}{a:Option Addr}{l c:Nat}(n:Bool) (e mode:Int) (X:Nat) (e1:Int) (lX:(ws X).length<=8192) (hX:((((ws X).length:Nat):Int)==0)=false) (hm0:0<=mode) (sU:mode<=4)
 (F cw K K2:Nat) (ex mid:Int) (hF:F<=9007199254740991) (BX:floatOfInt .f64 (F:Int)=cw)
 (HF:Hid (∀ u,Below w.heap.size w u->Calls Tryz.prog 125 #[.agg #[.bool n,.slice a l c,.int .i64 e]] u fun r w'=>(∃ v,r=.returned (.tuple #[.agg #[.bool true,v,.int .i64 e1],.int .i64 0])/\Nt u.heap.size w' v X)/\Below u.heap.size u w'))
 (HP:Hid (∀ (u:World) (p:Option Addr) (q:Nat),Arg u p (ws X).length q (ws X)->Calls Tryz.prog 145 #[.agg #[.bool true,.slice p (ws X).length q,.int .i64 e1],.agg #[.int .i64 53,.int .i64 (-1074),.int .i64 1024]] u fun r w'=>r=.returned (.agg #[.int .u64 (F:Nat),.int .i64 ex,.bool false,.int .i64 mid])/\Below u.heap.size u w'))
 (HG:Hid (∀ u,Calls Tryz.prog 146 #[.agg #[.int .u64 (F:Nat),.int .i64 ex,.bool false,.int .i64 mid],.int .i64 mode,.bool true] u fun r w'=>r=.returned (.bool false)/\Below u.heap.size u w'))
 (HD:Hid (∀ u,Calls Tryz.prog 147 #[.float .f64 cw,.int .i64 ex] u fun r w'=>r=.returned (.float .f64 K)/\w'=u))
 (HC:Hid (∀ u,Calls Tryz.prog 148 #[.float .f64 K,.float .f64 13830554455654793216] u fun r w'=>r=.returned (.float .f64 K2)/\w'=u)) :
 Calls Tryz.prog 105 #[.agg #[.bool n,.slice a l c,.int .i64 e],.int .i64 mode,.agg #[.int .i64 53,.int .i64 (-1074),.int .i64 1024]] w fun r w'=>r=.returned (.tuple #[.float .f64 K2,.int .i64 0])/\Below w.heap.size w w':=by
 obtain⟨W1,hW1⟩:=ah ((w.alloc (.cells #[.bool n,.slice a l c,.int .i64 e] 25)).alloc (.cells #[.int .i64 53,.int .i64 (-1074),.int .i64 1024] 129));obtain⟨hB,hz1,DD,DW⟩:=iG w n (.slice a l c) e 53 (-1074) 1024 W1 hW1;have H1:=hid (HF.o W1 hB);have SB:=(dC hB hz1 DW);clear hB hz1 DD DW HF;go_enter Tryz.func105,Tryz.ntmps105;go_wp2_with fail;rw[<-hW1];clear hW1;refine H1.o.mono ?_;rintro r u1 ⟨⟨v,rfl,hN⟩,hb⟩;obtain⟨a1,c1,rfl,_⟩:=hN.arg ae;obtain⟨hB,hz1,DW⟩:=SB.o;obtain⟨W2,hW2⟩:=ah (u1.alloc (.cells #[.bool true,.slice a1 (ws X).length c1,.int .i64 e1] 25));have hbW:Below u1.heap.size u1 W2:=by rw[hW2];exact af u1 _
 have D2:Dk W2 u1.heap.size true (.slice a1 (ws X).length c1) e1:=by rw[hW2];exact Dk.new u1 _ _ _
 have V2:Wk W2 (w.heap.size+1) 53 (-1074) 1024:=(DW.below hb).below hbW;have hB2:Below w.heap.size w W2:=(hB.trans (hb.mono ae)).trans (hbW.mono (by have:=hb.size;omega));have H2:=hid (HP.o W2 a1 c1 ((hN.below hbW).aY ae).2);obtain⟨x0,x1,x2,dw,dz,dA⟩:=D2.facts;obtain⟨y0,y1,y2⟩:=V2.facts;obtain⟨t0,t1,t2⟩:=(DW.below hb).facts;have hzu:w.heap.size+1<u1.heap.size:=by have:=hb.size;omega
 have hzz:w.heap.size<=u1.heap.size:=by have:=hb.size;omega
 have MC:u1.heap.size<W2.heap.size:=D2.lt;have S2:=(aP hB2 D2);clear hN hb H1 hB hz1 DW SB hbW D2 V2 hB2 HP;go_wp2_with fail;rw[<-hW2];clear hW2;refine H2.o.mono ?_;rintro r u2 ⟨rfl,hb⟩;obtain⟨W3,hW3⟩:=ah (u2.alloc (.cells #[.int .u64 (F:Nat),.int .i64 ex,.bool false,.int .i64 mid] 165));have hbW:Below u2.heap.size u2 W3:=by rw[hW3];exact af u2 _
 have P3:Pk W3 u2.heap.size (F:Nat) ex false mid:=by rw[hW3];exact gY _ _
 have D3:=(S2.o.2.below hb).below hbW;have hB3:Below w.heap.size w W3:=(S2.o.1.trans (hb.mono ae)).trans (hbW.mono (by have:=hb.size;omega));have Y7:u1.heap.size<u2.heap.size:=by have:=hb.size;omega
 obtain⟨q0,q1,q2,q3,AQ,AU,AV,Vs⟩:=P3.facts;obtain⟨d0,d1,d2,Vt,Vu,df2⟩:=D3.facts;have ME:w.heap.size<=u2.heap.size:=ae
 have hz7:u2.heap.size<W3.heap.size:=P3.lt;have S3:=(dC hB3 P3 D3);clear hb hbW P3 D3 hB3 S2 H2 x0 x1 x2 dw dz dA y0 y1 y2
 go_upto_region 7 with fail
 rw[<-hW3];clear hW3;go_wp2_with fail;refine(aF (HG.o _)) ?_;rintro r u3 ⟨rfl,hb⟩;have P4:=S3.o.2.1.below hb;have D4:=S3.o.r2.below hb;have hB4:Below w.heap.size w u3:=S3.o.1.trans (hb.mono ae);have hz8:w.heap.size<=u3.heap.size:=by have:=hb.size;omega
 obtain⟨r0,r1,r2,r3,iH,iI,iJ,rf3⟩:=P4.facts;obtain⟨s0,s1,s2,uZ,ve,vg⟩:=D4.facts;have S4:=aA hB4;clear hb P4 D4 hB4 S3 HG q0 q1 q2 q3 AQ AU AV Vs d0 d1 d2 Vt Vu df2;go_wp2_with fail
 try simp only[BX]
 refine(aF (HD.o _)) ?_;rintro r ww ⟨rfl,hw⟩;rw[hw];clear hw ww HD;go_wp2_with fail;refine(aF (HC.o _)) ?_;rintro r ww ⟨rfl,hw⟩;rw[hw];clear hw ww HC;go_wp2
 go_ret2
 exact⟨rfl,S4.o⟩
theorem Nq {w:World}{a:Option Addr}{l c:Nat}(n:Bool) (e mode:Int) (X:Nat) (e1:Int) (lX:(ws X).length<=8192) (hX:((((ws X).length:Nat):Int)==0)=false) (hm0:0<=mode) (sU:mode<=4)
 (F cw K K2:Nat) (ex mid:Int) (hF:F<=9007199254740991) (BX:floatOfInt .f64 ((F:Int)+1)=cw)
 (HF:Hid (∀ u,Below w.heap.size w u->Calls Tryz.prog 125 #[.agg #[.bool n,.slice a l c,.int .i64 e]] u fun r w'=>(∃ v,r=.returned (.tuple #[.agg #[.bool false,v,.int .i64 e1],.int .i64 0])/\Nt u.heap.size w' v X)/\Below u.heap.size u w'))
 (HP:Hid (∀ (u:World) (p:Option Addr) (q:Nat),Arg u p (ws X).length q (ws X)->Calls Tryz.prog 145 #[.agg #[.bool false,.slice p (ws X).length q,.int .i64 e1],.agg #[.int .i64 53,.int .i64 (-1074),.int .i64 1024]] u fun r w'=>r=.returned (.agg #[.int .u64 (F:Nat),.int .i64 ex,.bool false,.int .i64 mid])/\Below u.heap.size u w'))
 (HG:Hid (∀ u,Calls Tryz.prog 146 #[.agg #[.int .u64 (F:Nat),.int .i64 ex,.bool false,.int .i64 mid],.int .i64 mode,.bool false] u fun r w'=>r=.returned (.bool true)/\Below u.heap.size u w'))
 (HD:Hid (∀ u,Calls Tryz.prog 147 #[.float .f64 cw,.int .i64 ex] u fun r w'=>r=.returned (.float .f64 K)/\w'=u)) :
 Calls Tryz.prog 105 #[.agg #[.bool n,.slice a l c,.int .i64 e],.int .i64 mode,.agg #[.int .i64 53,.int .i64 (-1074),.int .i64 1024]] w fun r w'=>r=.returned (.tuple #[.float .f64 K,.int .i64 0])/\Below w.heap.size w w':=by
 obtain⟨W1,hW1⟩:=ah ((w.alloc (.cells #[.bool n,.slice a l c,.int .i64 e] 25)).alloc (.cells #[.int .i64 53,.int .i64 (-1074),.int .i64 1024] 129));obtain⟨hB,hz1,DD,DW⟩:=iG w n (.slice a l c) e 53 (-1074) 1024 W1 hW1;have H1:=hid (HF.o W1 hB);have SB:=(dC hB hz1 DW);clear hB hz1 DD DW HF;go_enter Tryz.func105,Tryz.ntmps105;go_wp2_with fail;rw[<-hW1];clear hW1;refine H1.o.mono ?_;rintro r u1 ⟨⟨v,rfl,hN⟩,hb⟩;obtain⟨a1,c1,rfl,_⟩:=hN.arg ae;obtain⟨hB,hz1,DW⟩:=SB.o;obtain⟨W2,hW2⟩:=ah (u1.alloc (.cells #[.bool false,.slice a1 (ws X).length c1,.int .i64 e1] 25));have hbW:Below u1.heap.size u1 W2:=by rw[hW2];exact af u1 _
 have D2:Dk W2 u1.heap.size false (.slice a1 (ws X).length c1) e1:=by rw[hW2];exact Dk.new u1 _ _ _
 have V2:Wk W2 (w.heap.size+1) 53 (-1074) 1024:=(DW.below hb).below hbW;have hB2:Below w.heap.size w W2:=(hB.trans (hb.mono ae)).trans (hbW.mono (by have:=hb.size;omega));have H2:=hid (HP.o W2 a1 c1 ((hN.below hbW).aY ae).2);obtain⟨x0,x1,x2,dw,dz,dA⟩:=D2.facts;obtain⟨y0,y1,y2⟩:=V2.facts;obtain⟨t0,t1,t2⟩:=(DW.below hb).facts;have hzu:w.heap.size+1<u1.heap.size:=by have:=hb.size;omega
 have hzz:w.heap.size<=u1.heap.size:=by have:=hb.size;omega
 have MC:u1.heap.size<W2.heap.size:=D2.lt;have S2:=(aP hB2 D2);clear hN hb H1 hB hz1 DW SB hbW D2 V2 hB2 HP;go_wp2_with fail;rw[<-hW2];clear hW2;refine H2.o.mono ?_;rintro r u2 ⟨rfl,hb⟩;obtain⟨W3,hW3⟩:=ah (u2.alloc (.cells #[.int .u64 (F:Nat),.int .i64 ex,.bool false,.int .i64 mid] 165));have hbW:Below u2.heap.size u2 W3:=by rw[hW3];exact af u2 _
 have P3:Pk W3 u2.heap.size (F:Nat) ex false mid:=by rw[hW3];exact gY _ _
 have D3:=(S2.o.2.below hb).below hbW;have hB3:Below w.heap.size w W3:=(S2.o.1.trans (hb.mono ae)).trans (hbW.mono (by have:=hb.size;omega));have Y7:u1.heap.size<u2.heap.size:=by have:=hb.size;omega
 obtain⟨q0,q1,q2,q3,AQ,AU,AV,Vs⟩:=P3.facts;obtain⟨d0,d1,d2,Vt,Vu,df2⟩:=D3.facts;have ME:w.heap.size<=u2.heap.size:=ae
 have hz7:u2.heap.size<W3.heap.size:=P3.lt;have S3:=(dC hB3 P3 D3);clear hb hbW P3 D3 hB3 S2 H2 x0 x1 x2 dw dz dA y0 y1 y2
 go_upto_region 7 with fail
 rw[<-hW3];clear hW3;go_wp2_with fail;refine(aF (HG.o _)) ?_;rintro r u3 ⟨rfl,hb⟩;have P4:=S3.o.2.1.below hb;have D4:=S3.o.r2.below hb;have hB4:Below w.heap.size w u3:=S3.o.1.trans (hb.mono ae);have hz8:w.heap.size<=u3.heap.size:=by have:=hb.size;omega
 obtain⟨r0,r1,r2,r3,iH,iI,iJ,rf3⟩:=P4.facts;obtain⟨s0,s1,s2,uZ,ve,vg⟩:=D4.facts;have S4:=aA hB4;clear hb P4 D4 hB4 S3 HG q0 q1 q2 q3 AQ AU AV Vs d0 d1 d2 Vt Vu df2;go_wp2_with fail
 try simp only[BX]
 refine(aF (HD.o _)) ?_;rintro r ww ⟨rfl,hw⟩;rw[hw];clear hw ww HD;go_wp2
 go_ret2
 exact⟨rfl,Below.rA S4.o _ _ _ ME hz8⟩
theorem Nr {w:World}{a:Option Addr}{l c:Nat}(n:Bool) (e mode:Int) (X:Nat) (e1:Int) (lX:(ws X).length<=8192) (hX:((((ws X).length:Nat):Int)==0)=false) (hm0:0<=mode) (sU:mode<=4)
 (F cw K K2:Nat) (ex mid:Int) (hF:F<=9007199254740991) (BX:floatOfInt .f64 ((F:Int)+1)=cw)
 (HF:Hid (∀ u,Below w.heap.size w u->Calls Tryz.prog 125 #[.agg #[.bool n,.slice a l c,.int .i64 e]] u fun r w'=>(∃ v,r=.returned (.tuple #[.agg #[.bool true,v,.int .i64 e1],.int .i64 0])/\Nt u.heap.size w' v X)/\Below u.heap.size u w'))
 (HP:Hid (∀ (u:World) (p:Option Addr) (q:Nat),Arg u p (ws X).length q (ws X)->Calls Tryz.prog 145 #[.agg #[.bool true,.slice p (ws X).length q,.int .i64 e1],.agg #[.int .i64 53,.int .i64 (-1074),.int .i64 1024]] u fun r w'=>r=.returned (.agg #[.int .u64 (F:Nat),.int .i64 ex,.bool false,.int .i64 mid])/\Below u.heap.size u w'))
 (HG:Hid (∀ u,Calls Tryz.prog 146 #[.agg #[.int .u64 (F:Nat),.int .i64 ex,.bool false,.int .i64 mid],.int .i64 mode,.bool true] u fun r w'=>r=.returned (.bool true)/\Below u.heap.size u w'))
 (HD:Hid (∀ u,Calls Tryz.prog 147 #[.float .f64 cw,.int .i64 ex] u fun r w'=>r=.returned (.float .f64 K)/\w'=u))
 (HC:Hid (∀ u,Calls Tryz.prog 148 #[.float .f64 K,.float .f64 13830554455654793216] u fun r w'=>r=.returned (.float .f64 K2)/\w'=u)) :
 Calls Tryz.prog 105 #[.agg #[.bool n,.slice a l c,.int .i64 e],.int .i64 mode,.agg #[.int .i64 53,.int .i64 (-1074),.int .i64 1024]] w fun r w'=>r=.returned (.tuple #[.float .f64 K2,.int .i64 0])/\Below w.heap.size w w':=by
 obtain⟨W1,hW1⟩:=ah ((w.alloc (.cells #[.bool n,.slice a l c,.int .i64 e] 25)).alloc (.cells #[.int .i64 53,.int .i64 (-1074),.int .i64 1024] 129));obtain⟨hB,hz1,DD,DW⟩:=iG w n (.slice a l c) e 53 (-1074) 1024 W1 hW1;have H1:=hid (HF.o W1 hB);have SB:=(dC hB hz1 DW);clear hB hz1 DD DW HF;go_enter Tryz.func105,Tryz.ntmps105;go_wp2_with fail;rw[<-hW1];clear hW1;refine H1.o.mono ?_;rintro r u1 ⟨⟨v,rfl,hN⟩,hb⟩;obtain⟨a1,c1,rfl,_⟩:=hN.arg ae;obtain⟨hB,hz1,DW⟩:=SB.o;obtain⟨W2,hW2⟩:=ah (u1.alloc (.cells #[.bool true,.slice a1 (ws X).length c1,.int .i64 e1] 25));have hbW:Below u1.heap.size u1 W2:=by rw[hW2];exact af u1 _
 have D2:Dk W2 u1.heap.size true (.slice a1 (ws X).length c1) e1:=by rw[hW2];exact Dk.new u1 _ _ _
 have V2:Wk W2 (w.heap.size+1) 53 (-1074) 1024:=(DW.below hb).below hbW;have hB2:Below w.heap.size w W2:=(hB.trans (hb.mono ae)).trans (hbW.mono (by have:=hb.size;omega));have H2:=hid (HP.o W2 a1 c1 ((hN.below hbW).aY ae).2);obtain⟨x0,x1,x2,dw,dz,dA⟩:=D2.facts;obtain⟨y0,y1,y2⟩:=V2.facts;obtain⟨t0,t1,t2⟩:=(DW.below hb).facts;have hzu:w.heap.size+1<u1.heap.size:=by have:=hb.size;omega
 have hzz:w.heap.size<=u1.heap.size:=by have:=hb.size;omega
 have MC:u1.heap.size<W2.heap.size:=D2.lt;have S2:=(aP hB2 D2);clear hN hb H1 hB hz1 DW SB hbW D2 V2 hB2 HP;go_wp2_with fail;rw[<-hW2];clear hW2;refine H2.o.mono ?_;rintro r u2 ⟨rfl,hb⟩;obtain⟨W3,hW3⟩:=ah (u2.alloc (.cells #[.int .u64 (F:Nat),.int .i64 ex,.bool false,.int .i64 mid] 165));have hbW:Below u2.heap.size u2 W3:=by rw[hW3];exact af u2 _
 have P3:Pk W3 u2.heap.size (F:Nat) ex false mid:=by rw[hW3];exact gY _ _
 have D3:=(S2.o.2.below hb).below hbW;have hB3:Below w.heap.size w W3:=(S2.o.1.trans (hb.mono ae)).trans (hbW.mono (by have:=hb.size;omega));have Y7:u1.heap.size<u2.heap.size:=by have:=hb.size;omega
 obtain⟨q0,q1,q2,q3,AQ,AU,AV,Vs⟩:=P3.facts;obtain⟨d0,d1,d2,Vt,Vu,df2⟩:=D3.facts;have ME:w.heap.size<=u2.heap.size:=ae
 have hz7:u2.heap.size<W3.heap.size:=P3.lt;have S3:=(dC hB3 P3 D3);clear hb hbW P3 D3 hB3 S2 H2 x0 x1 x2 dw dz dA y0 y1 y2
 go_upto_region 7 with fail
 rw[<-hW3];clear hW3;go_wp2_with fail;refine(aF (HG.o _)) ?_;rintro r u3 ⟨rfl,hb⟩;have P4:=S3.o.2.1.below hb;have D4:=S3.o.r2.below hb;have hB4:Below w.heap.size w u3:=S3.o.1.trans (hb.mono ae);have hz8:w.heap.size<=u3.heap.size:=by have:=hb.size;omega
 obtain⟨r0,r1,r2,r3,iH,iI,iJ,rf3⟩:=P4.facts;obtain⟨s0,s1,s2,uZ,ve,vg⟩:=D4.facts;have S4:=aA hB4;clear hb P4 D4 hB4 S3 HG q0 q1 q2 q3 AQ AU AV Vs d0 d1 d2 Vt Vu df2;go_wp2_with fail
 try simp only[BX]
 refine(aF (HD.o _)) ?_;rintro r ww ⟨rfl,hw⟩;rw[hw];clear hw ww HD;go_wp2_with fail;refine(aF (HC.o _)) ?_;rintro r ww ⟨rfl,hw⟩;rw[hw];clear hw ww HC;go_wp2
 go_ret2
 exact⟨rfl,Below.rA S4.o _ _ _ ME hz8⟩
def Q3(mode:Int)(n:Bool)(X:Nat)(e:Int):Nat :=
 let p:=jw 53 (-1074) 1024 X e
 (p.2.1+1074).toNat*4503599627370496+(if p.2.2.1 then p.1 else if jU mode p.1 p.2.2.2 n then p.1+1 else p.1)
def iC(o:Option (Bool×Nat×Int))(mode:Int):Nat×Int :=
 if mode<0\/4<mode then(0,1)
 else match o with
  | none=>(0,2)
  | some (n,X,e)=>if X=0 then(0,0) else(Q3 mode n X e+(if n then 9223372036854775808 else 0),0)
theorem Vv(X:Nat)(e:Int):(jw 53 (-1074) 1024 X e).2.2.2=-1\/(jw 53 (-1074) 1024 X e).2.2.2=0\/(jw 53 (-1074) 1024 X e).2.2.2=1:=by
 unfold jw
 split
 · simp
 · simp only
   split
   · simp
   · simp only
     split
     · simp
     · split <;> simp
theorem sD(F:Nat)(ex:Int)(hF:F<=9007199254740992)(h0:-1074<=ex)(h1:ex<=971)(hn:ex=-1074\/4503599627370496<=F) :
 ∃ cw,floatOfInt .f64 (F:Int)=cw/\∀ u,Calls Tryz.prog 147 #[.float .f64 cw,.int .i64 ex] u fun r w'=>r=.returned (.float .f64 ((ex+1074).toNat*4503599627370496+F))/\w'=u:=by
 by_cases hz:F=0
 · subst hz;obtain rfl:ex=-1074:=ae
   exact⟨0,aj,fun u=>B.Dt _ u⟩
 · obtain⟨e,g,hw⟩:=B.QT F ae hF;exact⟨_,B.Fh F e g hw,fun u=>B.Nf F e g ex u hw ae hF h0 h1 hn⟩
theorem vw(K:Nat)(hK:K<=9218868437227405312)(u:World):Calls Tryz.prog 148 #[.float .f64 K,.float .f64 13830554455654793216] u fun r w'=>r=.returned (.float .f64 (K+9223372036854775808))/\w'=u:=by
 have h:=B.Dp (K/4503599627370496) (K%4503599627370496) ae ae u;have e1:B.bw false (K/4503599627370496) (K%4503599627370496)=K:=by unfold B.bw;simp;omega
 have e2:B.bw true (K/4503599627370496) (K%4503599627370496)=K+9223372036854775808:=by unfold B.bw;simp;omega
 rw[e1,e2] at h;exact h
theorem Ns{w:World}{a:Option Addr}{l c:Nat}{xs:List Nat}(hA:Arg w a l c xs)(hT:dU w)(n:Bool)(e mode:Int)(he0:-9223372036854775808<=e)(he1:e<=9223372036854775807) :
 Calls Tryz.prog 105 #[.agg #[.bool n,.slice a l c,.int .i64 e],.int .i64 mode,.agg #[.int .i64 53,.int .i64 (-1074),.int .i64 1024]] w fun r w'=>r=.returned (.tuple #[.float .f64 (iC (mkS n (val xs) e) mode).1,.int .i64 (iC (mkS n (val xs) e) mode).2])/\Below w.heap.size w w':=by
 unfold iC
 by_cases hm:mode<0\/4<mode
 · rw[if_pos hm];exact IV n a l c e mode w hm
 · rw[if_neg hm];have HF:Hid (∀ u,Below w.heap.size w u->Calls Tryz.prog 125 #[.agg #[.bool n,.slice a l c,.int .i64 e]] u fun r w'=>dm u.heap.size w' r (mkS n (val xs) e)/\Below u.heap.size u w'):=fun u hu=>mV (hA.below hu) (hT.belows hu) n e he0 he1
   cases ho:mkS n (val xs) e with
   | none =>
     rw[ho] at HF;exact Nl n e mode false 0 0 2 (by rw[bO];simp) ae ae rfl HF
   | some d =>
     obtain⟨n1,X,e1⟩:=d;rw[ho] at HF;have FX:=cK ho;simp only
     by_cases hX:X=0
     · rw[if_pos hX];exact IW n e mode n1 X e1 ((bU X).2 hX) ae ae HF
     · rw[if_neg hX];have pf:=vo X e1 hX FX.down FX.up;have pm:=Vv X e1;have HP:∀ (u:World) (p:Option Addr) (q:Nat),Arg u p (ws X).length q (ws X)->Calls Tryz.prog 145 #[.agg #[.bool n1,.slice p (ws X).length q,.int .i64 e1],.agg #[.int .i64 53,.int .i64 (-1074),.int .i64 1024]] u fun r w'=>r=.returned (.agg #[.int .u64 ((jw 53 (-1074) 1024 X e1).1:Nat),.int .i64 (jw 53 (-1074) 1024 X e1).2.1,.bool (jw 53 (-1074) 1024 X e1).2.2.1,.int .i64 (jw 53 (-1074) 1024 X e1).2.2.2])/\Below u.heap.size u w':=fun u p q hA=>IU hA n1 e1 FX.down FX.up hX FX.size;unfold Q3;simp only;generalize jw 53 (-1074) 1024 X e1=P at pf pm HP |-;obtain⟨F,ex,t,mid⟩:=P;simp only at pf pm HP |-;obtain⟨p1,p2,p3,p4⟩:=pf;have HG:∀ u,Calls Tryz.prog 146 #[.agg #[.int .u64 (F:Nat),.int .i64 ex,.bool false,.int .i64 mid],.int .i64 mode,.bool n1] u fun r w'=>r=.returned (.bool (jU mode F mid n1))/\Below u.heap.size u w':=fun u=>Fu F ex false mid mode n1 u ae pm ae ae;have lX:=dS FX
       cases t with
       | true =>
         simp only[if_true];obtain⟨cw,BX,HD⟩:=sD F ex ae p2 p3 p4
         cases n1 with
         | false =>
           simp only[fJ,if_false,fT];exact QZ n e mode X e1 lX (dY hX) ae ae F cw _ 0 ex mid p1 BX HF (hid HP) (hid HD)
         | true =>
           simp only[if_true];exact Q0 n e mode X e1 lX (dY hX) ae ae F cw _ _ ex mid p1 BX HF (hid HP) (hid HD) (hid fun u=>vw _ ae u)
       | false =>
         simp only[fJ,if_false]
         cases hob:jU mode F mid n1 with
         | false =>
           rw[hob] at HG;simp only[fJ,if_false];obtain⟨cw,BX,HD⟩:=sD F ex ae p2 p3 p4
           cases n1 with
           | false =>
             simp only[fJ,if_false,fT];exact Nn n e mode X e1 lX (dY hX) ae ae F cw _ 0 ex mid p1 BX HF (hid HP) (hid HG) (hid HD)
           | true =>
             simp only[if_true];exact Np n e mode X e1 lX (dY hX) ae ae F cw _ _ ex mid p1 BX HF (hid HP) (hid HG) (hid HD) (hid fun u=>vw _ ae u)
         | true =>
           rw[hob] at HG;simp only[if_true];obtain⟨cw,BX,HD⟩:=sD (F+1) ex ae p2 p3 ae
           cases n1 with
           | false =>
             simp only[fJ,if_false,fT];exact Nq n e mode X e1 lX (dY hX) ae ae F cw _ 0 ex mid p1 (by simpa using BX) HF (hid HP) (hid HG) (hid HD)
           | true =>
             simp only[if_true];exact Nr n e mode X e1 lX (dY hX) ae ae F cw _ _ ex mid p1 (by simpa using BX) HF (hid HP) (hid HG) (hid HD) (hid fun u=>vw _ ae u)
theorem Ca{w:World}{a:Option Addr}{l c:Nat}{xs:List Nat}(hA:Arg w a l c xs)(hT:dU w)(n:Bool)(e mode:Int)(he0:-9223372036854775808<=e)(he1:e<=9223372036854775807) :
 Calls Tryz.prog 60 #[.agg #[.bool n,.slice a l c,.int .i64 e],.int .i64 mode] w fun r w'=>r=.returned (.tuple #[.float .f64 (iC (mkS n (val xs) e) mode).1,.int .i64 (iC (mkS n (val xs) e) mode).2])/\Below w.heap.size w w':=by
 have hb0:=af w (.cells #[.bool n,.slice a l c,.int .i64 e] 25);have H:=hid (Ns (hA.below hb0) (hT.belows hb0) n e mode he0 he1);have S0:=aA hb0;obtain⟨⟨K,er⟩,hK⟩:∃ K,iC (mkS n (val xs) e) mode=K:=⟨_,rfl⟩;rw[hK] at H |-;simp only at H |-;clear hA hT hb0 hK;go_enter Tryz.func60,Tryz.ntmps60;go_wp2_with fail;refine H.o.mono ?_;rintro r u1 ⟨rfl,hb⟩;have S1:=aA hb;clear hb;go_wp2
 go_ret2
 exact⟨rfl,S0.o.trans (S1.o.mono aQ)⟩
end
end Go.Proofs.YtfmfhehbdfhnbaaGreatDoor
