import Derived.Test.YtfmfhehbdfhnbaaGreatDoorMO7ox
import Derived.Test.YtfmfhehbdfhnbaaGreatDoorD39x
import Derived.Test.YtfmfhehbdfhnbaaGreatDoorZ14x
import Derived.Deep.RegionHeld3
import Derived.Test.YtfmfhehbdfhnbaaGreatDoorBIeeex
import Derived.Test.YtfmfhehbdfhnbaaGreatDoorMO2x
import Derived.Deep.LoopGhost
set_option linter.unusedVariables false
set_option linter.unusedSimpArgs false
set_option maxHeartbeats 16000000
set_option maxRecDepth 20000
namespace Go.Proofs.YtfmfhehbdfhnbaaGreatDoor
namespace J
end J
section
open Go Go.RowKit J
def pI(mode:Int):Bool:=decide (0<=mode)&&decide (mode<=4)
def lsB(less:Int):Bool:=decide (less=0) || decide (less=1)
theorem uz{mode:Int}(h:pI mode=true):0<=mode/\mode<=4:=by unfold pI at h;simpa using h
theorem Gp{less:Int}(h:lsB less=true):less=0\/less=1:=by unfold lsB at h;simpa using h
theorem jA(mode:Int)(w:World):Calls Tryz.prog 24 #[.int .i64 mode] w fun r w'=>r=.returned (.bool (pI mode))/\w'=w:=by
 unfold pI
 by_cases h0:0<=mode
 · have d0:decide (0<=mode)=true:=decide_eq_true h0
   by_cases h4:mode<=4
   · have d4:decide (mode<=4)=true:=decide_eq_true h4;rw[d0,d4];go_enter Tryz.func24,Tryz.ntmps24;exact XS
   · have d4:decide (mode<=4)=false:=decide_eq_false h4;rw[d0,d4];go_enter Tryz.func24,Tryz.ntmps24;exact XS
 · have d0:decide (0<=mode)=false:=decide_eq_false h0;rw[d0,qj];go_enter Tryz.func24,Tryz.ntmps24;exact XS
theorem oH(less:Int)(w:World):Calls Tryz.prog 25 #[.int .i64 less] w fun r w'=>r=.returned (.bool (lsB less))/\w'=w:=by
 unfold lsB
 by_cases h0:less=0
 · subst h0;go_enter Tryz.func25,Tryz.ntmps25;exact XS
 · by_cases h1:less=1
   · subst h1;go_enter Tryz.func25,Tryz.ntmps25;exact XS
   · rw[decide_eq_false h0,decide_eq_false h1];have d0:(less==0)=false:=by simp[h0]
     have d1:(less==1)=false:=by simp[h1]
     go_enter Tryz.func25,Tryz.ntmps25;exact XS
theorem uA(n:Nat)(less:Int)(w:World)(hT:dU w)(hn:n<=1099511627776)(h0:0<=less)(h1:less<=1)(hl:less<n) :
 Calls Tryz.prog 28 #[.int .i64 (n:Nat),.int .i64 less] w fun r w'=>bI 0 w' r (gV 0 ((n:Int)*((n:Int)-less)))/\Below w.heap.size w w':=by
 have b1:Bd 41 (n:Int):=Bd.nat ae;have b2:Bd 41 ((n:Int)-less):=by unfold Bd;omega
 obtain⟨oA,hA⟩:=ah (gV 0 (n:Int));obtain⟨oB,hB⟩:=ah (gV 0 ((n:Int)-less));obtain⟨oC,hC⟩:=ah (gV 0 ((n:Int)*((n:Int)-less)));have FA:Fm oA:=by rw[hA];exact dJ aj aj b1
 have FB:Fm oB:=by rw[hB];exact dJ aj aj b2
 have FC:Fm oC:=by rw[hC];exact dJ aj aj (b1.mul b2)
 have E:fu oA oB=oC:=by rw[hA,hB,hC];exact mY aj aj aj aj b1 b2
 rw[<-hC];have HI1:Hid (∀ u:World,dU u->Calls Tryz.prog 48 #[.int .i64 (n:Nat)] u fun r w'=>bI 0 w' r oA/\Below u.heap.size u w'):=fun u hu=>by rw[hA];exact zN n u hu ae ae
 have HI2:Hid (∀ u:World,dU u->Calls Tryz.prog 48 #[.int .i64 ((n:Int)-less)] u fun r w'=>bI 0 w' r oB/\Below u.heap.size u w'):=fun u hu=>by rw[hB];exact zN _ u hu ae ae
 have HX:=fO FA FB FC E hT;have hwr:IntKind.i64.wrap ((n:Int)-less)=(n:Int)-less:=by rw[Em];omega
 clear hA hB hC FA FB FC E hT b1 b2;obtain⟨W,hW⟩:=ah (w.alloc (Obj.cells zD3 25));have H0:Aside (Lo W w.heap.size iY/\Below w.heap.size w W):=by rw[hW];exact⟨Lo.zero _,af _ _⟩
 have HW:=aA hW;clear hW;go_enter Tryz.func28,Tryz.ntmps28
 go_upto_region 1 with fail
 rw[<-HW.o];clear HW;have C:=hid (HI1.o W (HX.o.r4.belows H0.o.2));go_wp2_with fail;refine C.o.mono ?_;rintro r u1 ⟨hd,hb⟩;obtain⟨a1,c1,rfl,hN1⟩:=hd.aL;have H1:=(dC (H0.o.1.below hb) (H0.o.2.trans (hb.mono H0.o.2.size)) hN1);clear hb hd hN1 H0 C;have C:=hid (HI2.o u1 (HX.o.r4.belows H1.o.2.1));go_wp2_with fail;refine C.o.mono ?_;rintro r u2 ⟨hd,hb⟩;obtain⟨a2,c2,rfl,kQ⟩:=hd.aL;have H2:=(ic (H1.o.1.below hb) (H1.o.2.1.trans (hb.mono H1.o.2.1.size)) (H1.o.r2.below hb) kQ);clear hb hd kQ H1 C;have C:=hid (iL HX.o.1 HX.o.2.1 HX.o.r2.1 H2.o.r2.1 H2.o.r3 (HX.o.r4.belows H2.o.2.1) HX.o.r3.1);go_wp2_with fail;refine C.o.mono ?_;rintro r u3 ⟨hd,hb⟩;obtain⟨a3,c3,rfl,fV⟩:=hd.aL;have H3:=(dC (H2.o.1.below hb) (H2.o.2.1.trans (hb.mono H2.o.2.1.size)) fV);clear hb hd fV H2 C;obtain⟨p2,q2,D2,M2⟩:=H3.o.1;obtain⟨y0,y1,y2,dF,dG,dH⟩:=D2.facts;clear D2 M2;go_wp2;exact jT Tryz.results28 rfl H3.o.1 H3.o.2.1 (aC _) H3.o.r2
noncomputable def jk (V D:Option (Bool×Nat×Int)) (mode:Int):Nat×Int:=Gb iC ⟨dN V,.bool false,dX V,dE V,dN D,.bool false,dX D,dE D⟩ mode
noncomputable def jI (V D:Option (Bool×Nat×Int)) (mode:Int):Nat×Int:=xq iC ⟨dN V,.bool false,dX V,dE V,dN D,.bool false,dX D,dE D⟩ mode
theorem Jv{u:World}{a b:Option Addr}{ca cb:Nat}{V D:Option (Bool×Nat×Int)}(mode:Int)(FV:Fm V)(FD:Fm D)(n1:Nt 0 u (.slice a (ws (dX V)).length ca) (dX V))(n2:Nt 0 u (.slice b (ws (dX D)).length cb) (dX D))(hT:dU u) :
 Calls Tryz.prog 27 #[.agg #[.bool (dN V),.slice a (ws (dX V)).length ca,.int .i64 (dE V),.bool (dN D),.slice b (ws (dX D)).length cb,.int .i64 (dE D)],.int .i64 mode] u fun r w'=>r=.returned (.tuple #[.float .f64 (jk V D mode).1,.int .i64 (jk V D mode).2])/\Below u.heap.size u w' :=
 R8 (w:=u) (n:=dN V) (m:=dN D) (X:=dX V) (Y:=dX D) (e:=dE V) (f:=dE D) mode ⟨n1.av (dW FV.len aj),n2.av (dW FD.len aj),FV.qI,FD.qI⟩ hT
theorem Jw{u:World}{a b:Option Addr}{ca cb:Nat}{V D:Option (Bool×Nat×Int)}(mode:Int)(FV:Fm V)(FD:Fm D)(n1:Nt 0 u (.slice a (ws (dX V)).length ca) (dX V))(n2:Nt 0 u (.slice b (ws (dX D)).length cb) (dX D))(hT:dU u) :
 Calls Tryz.prog 44 #[.agg #[.bool (dN V),.slice a (ws (dX V)).length ca,.int .i64 (dE V),.bool (dN D),.slice b (ws (dX D)).length cb,.int .i64 (dE D)],.int .i64 mode] u fun r w'=>r=.returned (.tuple #[.float .f64 (jI V D mode).1,.int .i64 (jI V D mode).2])/\Below u.heap.size u w' :=
 Zz (w:=u) (n:=dN V) (m:=dN D) (X:=dX V) (Y:=dX D) (e:=dE V) (f:=dE D) mode ⟨n1.av (dW FV.len aj),n2.av (dW FD.len aj),FV.qI,FD.qI⟩ hT
theorem WL{B:Nat}{w:World}{a:Option Addr}{xs:List Nat}(h:Fs B w a xs):Ps.Rd B w a xs:=h
theorem K4{lo:Nat}{w:World}{v:Value}{xs:List Nat}(h:Ps.Lt lo w v xs):∃ a c,v=.slice a xs.length c/\Fs w.heap.size w a xs:=by
 have h2:=h.2;unfold Ps.Lt at h;rcases h2 with ⟨rfl,h0⟩|⟨g,cap,cur,rfl,hlo,hg,rest⟩
 · exact⟨none,0,by rw[h0],fun hne=>absurd (l7 h0) hne⟩
 · refine⟨_,cap,rfl,fun _=>⟨g,0,(gL.1 hg).1,rfl,fun i hi=>?_⟩⟩;have h1:=h.cells (g:=g) (by simp[Value.ownBlock]) i (.float .f64 (xs.getD i 0)) (by simp[Ps.U,hi]);have e:(⟨g,0,none⟩:Addr).add i=⟨g,0+i,none⟩:=by unfold Addr.add;split <;> simp_all
   rw[e] at h1;exact h1
theorem SL(xs:List Nat)(a:Option Addr)(n c:Nat)(pa pb:Int)(w:World)(hn:n=xs.length)(hm:n<=35184372088832)(hF:Fs w.heap.size w a xs)(hW:mE xs) :
 Calls Tryz.prog 79 #[.slice a n c,.agg #[.int .i64 pa,.int .i64 pb]] w fun r w' =>
  ((Ps.gG pa pb xs≠0/\∃ a' c',r=.returned (.tuple #[.slice a' 0 c',.agg #[.int .i64 0,.int .i64 0,.int .i64 0,.int .i64 0,.int .i64 0,.int .i64 0],.int .i64 (Ps.gG pa pb xs)])) \/
   (Ps.gG pa pb xs=0/\∃ a' c',r=.returned (.tuple #[.slice a' (Ps.fin xs).length c',.agg #[.int .i64 (Ps.cn 5 xs:Nat),.int .i64 (Ps.cn 3 xs:Nat),.int .i64 (Ps.cn 4 xs:Nat),.int .i64 (Ps.cn 1 xs:Nat),.int .i64 (Ps.cn 2 xs:Nat),.int .i64 (xs.length:Nat)],.int .i64 0])/\Fs w'.heap.size w' a' (Ps.fin xs)))/\Below w.heap.size w w':=by
 refine(Ps.SH xs a n c w.heap.size pa pb w hn hm hW (WL hF) (aC _)).mono ?_;rintro r w' ⟨v,rfl,hL,hb⟩;refine⟨?_,hb⟩;unfold Ps.KZ;unfold Ps.KW at hL
 by_cases h0:Ps.gG pa pb xs=0
 · rw[if_pos h0] at hL |-;obtain⟨a',c',rfl,hF'⟩:=K4 hL;exact .inr ⟨h0,a',c',by rw[h0],hF'⟩
 · rw[if_neg h0] at hL |-;obtain⟨a',c',rfl,_⟩:=K4 hL;exact .inl ⟨h0,a',c',rfl⟩
def Pg(pa pb:Int)(xs:List Nat):Bool:=(decide (0<Ps.cn 5 xs)&&decide (pa=0)) || (decide (0<Ps.cn 3 xs+Ps.cn 4 xs)&&decide (pb=0))
theorem zV{pa pb:Int}{xs:List Nat}(h:Ps.gG pa pb xs=0):may pa pb=true/\xs.length<=65536:=by
 unfold Ps.gG at h
 cases hm:may pa pb with
 | false=>rw[hm] at h;simp at h
 | true =>
   rw[hm,if_neg aj] at h
   by_cases hl:65536<xs.length
   · rw[if_pos hl] at h;exact absurd h aj
   · exact⟨rfl,ae⟩
theorem Gq:∀ xs:List Nat,Ps.cn 5 xs+Ps.cn 3 xs+Ps.cn 4 xs+Ps.cn 1 xs+Ps.cn 2 xs<=xs.length
 | []=>by simp[Ps.cn]
 | x::xs=>by
   have ih:=Gq xs;unfold Ps.cn at ih |-;simp only[List.countP_cons,sW];have hk:=Ps.Sy x;obtain q|q|q|q|q|q:kd x=0\/kd x=1\/kd x=2\/kd x=3\/kd x=4\/kd x=5:=ae
   all_goals (rw[q];simp;omega)
theorem vd14{pa pb:Int}{xs:List Nat}(h:Ps.gG pa pb xs=0):(vd (snd (Ps.cn 5 xs:Nat) (Ps.cn 3 xs:Nat) (Ps.cn 4 xs:Nat) (Ps.cn 1 xs:Nat) (Ps.cn 2 xs:Nat) (xs.length:Nat)&&may pa pb) (Ps.cn 5 xs:Nat) (Ps.cn 3 xs:Nat) (Ps.cn 4 xs:Nat) pa pb).2=Pg pa pb xs:=by
 obtain⟨hm,hl⟩:=zV h;have hs:=Gq xs
 have e:snd (Ps.cn 5 xs:Nat) (Ps.cn 3 xs:Nat) (Ps.cn 4 xs:Nat) (Ps.cn 1 xs:Nat) (Ps.cn 2 xs:Nat) (xs.length:Nat)=true:=by
  unfold snd ct;simp;omega
 rw[e,hm];unfold vd Pg
 by_cases h5:0<Ps.cn 5 xs/\pa=0
 · have h5':0<((Ps.cn 5 xs:Nat):Int)/\pa=0:=⟨ae,h5.2⟩;rw[if_neg aj,if_pos h5'];simp[h5.1,h5.2]
 · have h5':¬ (0<((Ps.cn 5 xs:Nat):Int)/\pa=0):=fun q=>h5 ⟨ae,q.2⟩
   have e5:(decide (0<Ps.cn 5 xs)&&decide (pa=0))=false:=by
    rcases jK 0 (Ps.cn 5 xs) with q|q
    · have:¬ pa=0:=fun r=>h5 ⟨q,r⟩;simp[this]
    · have:¬ 0<Ps.cn 5 xs:=ae
      simp[this]
   rw[if_neg aj,if_neg h5',e5,Bool.false_or]
   by_cases hb:pb=0
   · subst hb;rw[if_neg aQ]
     by_cases h3:0<Ps.cn 3 xs
     · have:0<Ps.cn 3 xs+Ps.cn 4 xs:=ae
       by_cases h4:0<Ps.cn 4 xs
       · rw[if_pos ⟨ae,ae⟩];simp[this]
       · rw[if_neg ae,if_pos ae];simp[this]
     · by_cases h4:0<Ps.cn 4 xs
       · have:0<Ps.cn 3 xs+Ps.cn 4 xs:=ae
         rw[if_neg ae,if_neg ae,if_pos ae];simp[this]
       · have:¬ 0<Ps.cn 3 xs+Ps.cn 4 xs:=ae
         rw[if_neg ae,if_neg ae,if_neg ae];simp[this]
   · rw[if_pos hb];simp[hb]
theorem Ck{pa pb:Int}{xs:List Nat}(h:Ps.gG pa pb xs=0)(w:World):Calls Tryz.prog 80 #[.agg #[.int .i64 (Ps.cn 5 xs:Nat),.int .i64 (Ps.cn 3 xs:Nat),.int .i64 (Ps.cn 4 xs:Nat),.int .i64 (Ps.cn 1 xs:Nat),.int .i64 (Ps.cn 2 xs:Nat),.int .i64 (xs.length:Nat)],.agg #[.int .i64 pa,.int .i64 pb]] w fun r w'=>(∃ x,r=.returned (.tuple #[.float .f64 x,.bool (Pg pa pb xs)]))/\Below w.heap.size w w':=by
 refine(FH _ _ _ _ _ _ pa pb w).mono ?_;rintro r w' ⟨rfl,hb⟩;exact⟨⟨_,by rw[vd14 h]⟩,hb⟩
theorem K5{xs:List Nat}(h:mE xs):mE (Ps.fin xs):=fun x hx=>h x (List.mem_filter.1 hx).1
theorem vO{xs:List Nat}(h:mE xs):∀ x ∈ Ps.fin xs,dR x:=fun x hx=>by
 have hk:kd x<=2:=by simpa using (List.mem_filter.1 hx).2
 have hl:=h x (List.mem_filter.1 hx).1;show aK x<9218868437227405312;have em:aK x=x%9223372036854775808:=rfl;unfold kd at hk;rcases jK (aK x) 9218868437227405312 with q|q
 · exact q
 · rcases Nat.eq_or_lt_of_le q with r | r
   · rw[if_neg ae,if_pos ae] at hk;split at hk <;> omega
   · rw[if_pos ae] at hk;omega
theorem vP{pa pb:Int}{xs:List Nat}(h:Ps.gG pa pb xs=0):(Ps.fin xs).length<=65536:=dW (Ps.Sz xs) (zV h).2
theorem Gr{pa pb:Int}{xs:List Nat}(hW:mE xs)(h:Ps.gG pa pb xs=0):rR (Ps.fin xs)=0:=by
 unfold rR;rw[if_neg (by have:=vP h;omega),if_pos ((ji _).2 (vO hW))]
end
section
open Go Go.RowKit J
open Go.Proofs.YtfmfhehbdfhnbaaGreatDoor.B (bF aH)
attribute [local go_sem] bF aH
def cS(xs ys:List Nat):Int:=(xs.length:Int)*tS (fun i=>fX xs i*fX ys i) xs.length-sX xs*sX ys
noncomputable def kr (rd:Option (Bool×Nat×Int)->Option (Bool×Nat×Int)->Int->Nat×Int) (xs:List Nat) (less mode pa pb:Int):Nat×Int :=
 if pI mode&&lsB less then
  if Ps.gG pa pb xs=0 then
   if Pg pa pb xs then(9221120237041090560,0)
   else if ((Ps.fin xs).length:Int)<=less then(0,3)
   else rd (gV 2148 (cS (Ps.fin xs) (Ps.fin xs))) (gV 0 (((Ps.fin xs).length:Int)*(((Ps.fin xs).length:Int)-less))) mode
  else(0,Ps.gG pa pb xs)
 else(0,1)
theorem lD{xs ys:List Nat}(hx:mE xs)(fx:∀ x ∈ xs,dR x)(hy:mE ys)(fy:∀ x ∈ ys,dR x)(hl:xs.length<=65536)(he:xs.length=ys.length):Bd 4229 (cS xs ys):=by
 have bP:=vN (f:=fX xs) (g:=fX ys) (n:=xs.length) (fun i hi=>iD hx fx i hi) (fun i hi=>iD hy fy i ae) hl xs.length (aC _);have b1:=jf hx fx hl xs.length (aC _);have b2:=jf hy fy ae ys.length (aC _);exact Bd.sub (m:=4228) (((Bd.nat (k:=16) (n:=xs.length) ae).mul bP).mono aj) ((b1.mul b2).mono aj)
theorem zW{n:Nat}{less:Int}(hn:n<=1099511627776)(h0:0<=less)(h1:less<=1):Bd 82 ((n:Int)*((n:Int)-less)) :=
 (Bd.mul (a:=41) (b:=41) (Bd.nat ae) (by unfold Bd;omega))
theorem Qbb{P:Prop}(h:P:=by
 rw[<-hfl];exact⟨K5 HX.o.r2.1,vO HX.o.r2.1,vP sV.o,Gr HX.o.r2.1 sV.o⟩):P:=h
theorem Qag{P:Prop}(h:P:=by
 have:=Jv mode FV FD n1 n2 su;rw[hz] at this;exact this):P:=h
theorem Qac{P:Prop}(h:P:=by
 go_wp2;exact aG (v:=.tuple #[.float .f64 X,.int .i64 E]) (by simp[results,Tryz.results43,go_sem]) rfl ⟨rfl,BF.o⟩):P:=h
theorem xr{P:Prop}(h:P:=by
 rw[nQ];exact⟨Bl.new _ 44 [_,_],aN _ _⟩):P:=h
theorem xj{P:Prop}(h:P:=by
 rw[hU,hgs];exact⟨Bl.new _ 106 [_,_,_,_,_,_],B1.o.1.alloc _,B1.o.2.trans ((aN _ _).mono B1.o.2.size),(hF'.below (aN _ _)).mono aQ⟩):P:=h
theorem ju{P:Prop}(h:P:=by
 rw[hV,sN];have b3:=B3.o.1.trans (hb.mono B3.o.1.size);exact⟨Bl.new _ 74 [_,_,_,_],b3.trans ((aN _ _).mono b3.size),hD.below (aN _ _),hN.below (aN _ _)⟩):P:=h
theorem qT{P:Prop}(h:P:=by
 have hz:=HZ.o;rw[if_neg (by rw[sV.o];exact he),sV.o] at hz;obtain⟨rfl,rfl⟩:=eO hz;have BE:Aside (Below w.heap.size w (v.alloc (Obj.cells #[.int .i64 0,.int .i64 0,.int .i64 0,.int .i64 0,.int .i64 0,.int .i64 0] 106))):=B1.o.2.trans ((aN _ _).mono B1.o.2.size);clear hz HZ sV B1 he;go_wp2;exact aG (v:=.tuple #[.float .f64 0,.int .i64 es]) (by simp[results,Tryz.results43,go_sem]) rfl ⟨rfl,BE.o⟩):P:=h
theorem Ks{P:Prop}(h:P:=by
 have hR:Rr u (.agg #[.slice (some ⟨gA,0,none⟩) m m,.bool (dN oS),.slice p1 (ws (dX oS)).length q1,.int .i64 (dE oS)]) m (fun i=>gV 1074 (fX fl i)) (gV 1074 (sX fl)):=by
  rw[Ej.o];exact⟨gA,p1,q1,rfl,B4.o.r2.1.below hu,by have:=B4.o.r3.below hu;rw[Ej.o] at this;exact this⟩
 have:=oG (f:=fX fl) (g:=fX fl) (S:=sX fl) (T:=sX fl) m6 (HX.o.r3.1.belows (B4.o.2.1.trans (hu.mono B4.o.2.1.size))) (fun i hi=>iD PF.o.1 PF.o.2.1 i (by rw[Gs.o];exact hi)) (fun i hi=>iD PF.o.1 PF.o.2.1 i (by rw[Gs.o];exact hi)) (jf PF.o.1 PF.o.2.1 PF.o.r2.1 _ (aC _)) (jf PF.o.1 PF.o.2.1 PF.o.r2.1 _ (aC _)) hR hR;rw[K6];unfold cS;rw[Gs.o];exact this):P:=h
theorem Jy(xs:List Nat)(a:Option Addr)(n c:Nat)(less mode pa pb:Int)(w:World)(hn:n=xs.length)(hF:Fs w.heap.size w a xs)(hW:mE xs)(hT:dU w)(hl:n<=35184372088832)(z:Nat×Int)(hz:kr jk xs less mode pa pb=z) :
 Calls Tryz.prog 43 #[.slice a n c,.int .i64 less,.int .i64 mode,.agg #[.int .i64 pa,.int .i64 pb],.func (.func 27) #[] #[]] w fun r w'=>r=.returned (.tuple #[.float .f64 z.1,.int .i64 z.2])/\Below w.heap.size w w':=by
 obtain⟨X,E⟩:=z;simp only;obtain⟨W,nQ⟩:=ah (w.alloc (Obj.cells #[.int .i64 pa,.int .i64 pb] 44))
 have B0:Aside (Bl W w.heap.size 44 [.int .i64 pa,.int .i64 pb]/\Below w.heap.size w W):=by
  exact xr
 have lG:=aA nQ;clear nQ;unfold kr at hz
 cases hm:pI mode with
 | false =>
   rw[hm,qj,if_neg aj] at hz;obtain⟨rfl,rfl⟩:=eO hz;clear hz hn hF hW hT;go_enter Tryz.func43,Tryz.ntmps43
   go_upto_region 1 with fail
   rw[<-lG.o];clear lG;have C:=hid (jA mode W);rw[hm] at C;go_wp2_with fail;refine C.o.mono ?_;rintro r v ⟨rfl,hv⟩;rw[hv];clear hv v C;go_wp2;exact aG (v:=.tuple #[.float .f64 0,.int .i64 1]) (by simp[results,Tryz.results43,go_sem]) rfl ⟨rfl,B0.o.2⟩
 | true =>
 cases hs:lsB less with
 | false =>
   rw[hm,hs,tC,if_neg aj] at hz;obtain⟨rfl,rfl⟩:=eO hz;clear hz hn hF hW hT;go_enter Tryz.func43,Tryz.ntmps43
   go_upto_region 1 with fail
   rw[<-lG.o];clear lG;have C:=hid (jA mode W);rw[hm] at C;go_wp2_with fail;refine C.o.mono ?_;rintro r v ⟨rfl,hv⟩;rw[hv];clear hv v C;have C:=hid (oH less W);rw[hs] at C;go_wp2_with fail;refine C.o.mono ?_;rintro r v ⟨rfl,hv⟩;rw[hv];clear hv v C;go_wp2;exact aG (v:=.tuple #[.float .f64 0,.int .i64 1]) (by simp[results,Tryz.results43,go_sem]) rfl ⟨rfl,B0.o.2⟩
 | true =>
   rw[hm,hs,tC,if_pos rfl] at hz;have HS:=hid (SL xs a n c pa pb W hn hl ((hF.below B0.o.2).mono B0.o.2.size) hW);have HX:=jJ hn hF hW hT (uz hm) (Gp hs);have HZ:=aA hz;obtain⟨es,hes⟩:∃ e,Ps.gG pa pb xs=e:=⟨_,rfl⟩;rw[hes] at HS;have sV:=aA hes;have p0:=B0.o.1.cell 0 _ rfl;have p1:=B0.o.1.cell 1 _ rfl;clear hz hn hF hW hT hl hes;go_enter Tryz.func43,Tryz.ntmps43
   go_upto_region 1 with fail
   rw[<-lG.o];clear lG;have C:=hid (jA mode W);rw[hm] at C;go_wp2_with fail;refine C.o.mono ?_;rintro r v ⟨rfl,hv⟩;rw[hv];clear hv v C;have C:=hid (oH less W);rw[hs] at C;go_wp2_with fail;refine C.o.mono ?_;rintro r v ⟨rfl,hv⟩;rw[hv];clear hv v C;go_wp2_with fail;refine HS.o.mono ?_;rintro r v ⟨hr,hb⟩;have B1:=(aP (B0.o.1.below hb B0.o.1.lt) (B0.o.2.trans (hb.mono B0.o.2.size)));clear hb HS p0 p1 B0;rcases hr with ⟨he,a',c',rfl⟩|⟨he,a',c',rfl,hF'⟩
   · have h1:(es==0)=false:=by simp[he]
     exact qT
   · subst he;have HV:=hid (fun u:World=>Ck sV.o u);have hz:=HZ.o;rw[if_pos sV.o] at hz;obtain⟨s5,hs5⟩:∃ s:Int,(Ps.cn 5 xs:Nat)=s:=⟨_,rfl⟩;obtain⟨s3,hs3⟩:∃ s:Int,(Ps.cn 3 xs:Nat)=s:=⟨_,rfl⟩;obtain⟨s4,hs4⟩:∃ s:Int,(Ps.cn 4 xs:Nat)=s:=⟨_,rfl⟩;obtain⟨s1,hs1⟩:∃ s:Int,(Ps.cn 1 xs:Nat)=s:=⟨_,rfl⟩;obtain⟨s2,hs2⟩:∃ s:Int,(Ps.cn 2 xs:Nat)=s:=⟨_,rfl⟩;obtain⟨sl,hsl⟩:∃ s:Int,(xs.length:Nat)=s:=⟨_,rfl⟩;rw[hs5,hs3,hs4,hs1,hs2,hsl] at HV |-;clear hs5 hs3 hs4 hs1 hs2 hsl;obtain⟨fl,hfl⟩:∃ f,Ps.fin xs=f:=⟨_,rfl⟩;rw[hfl] at hF' hz |-
     have PF:Aside (mE fl/\(∀ x ∈ fl,dR x)/\fl.length<=65536/\rR fl=0):=by
      exact Qbb
     obtain⟨m,yM⟩:∃ m,fl.length=m:=⟨_,rfl⟩;obtain⟨U,hU⟩:=ah (v.alloc (Obj.cells #[.int .i64 s5,.int .i64 s3,.int .i64 s4,.int .i64 s1,.int .i64 s2,.int .i64 sl] 106));obtain⟨gs,hgs⟩:=ah (v.heap.size)
     have B2:Aside (Bl U gs 106 [.int .i64 s5,.int .i64 s3,.int .i64 s4,.int .i64 s1,.int .i64 s2,.int .i64 sl]/\Bl U w.heap.size 44 [.int .i64 pa,.int .i64 pb]/\Below w.heap.size w U/\Fs U.heap.size U a' fl):=by
      exact xj
     rw[yM] at hz |-;have Gs:=aA yM;have HU:=(aP hU hgs);obtain⟨cr,hcr⟩:∃ b,Pg pa pb xs=b:=⟨_,rfl⟩;rw[hcr] at HV hz;clear hU hgs hF' B1 hfl sV HZ yM hcr
     go_upto_region 6 with fail
     rw[<-HU.o.1,<-HU.o.2];clear HU;have q0:=B2.o.1.cell 0 _ rfl;have q1:=B2.o.1.cell 1 _ rfl;have q2:=B2.o.1.cell 2 _ rfl;have q3:=B2.o.1.cell 3 _ rfl;have q4:=B2.o.1.cell 4 _ rfl;have q5:=B2.o.1.cell 5 _ rfl;have p0:=B2.o.2.1.cell 0 _ rfl;have p1:=B2.o.2.1.cell 1 _ rfl;go_wp2_with fail;refine(HV.o _).mono ?_;rintro r u ⟨⟨x,rfl⟩,hb⟩;have B3:=(aP (B2.o.r2.1.trans (hb.mono B2.o.r2.1.size)) ((B2.o.r3.below hb).mono hb.size));clear hb HV q0 q1 q2 q3 q4 q5 p0 p1 B2
     cases cr with
     | true =>
       rw[if_pos rfl] at hz;obtain⟨rfl,rfl⟩:=eO hz;clear hz PF Gs;go_wp2;exact aG (v:=.tuple #[.float .f64 9221120237041090560,.int .i64 0]) (by simp[results,Tryz.results43,go_sem]) rfl ⟨rfl,B3.o.1⟩
     | false =>
       rw[if_neg aj] at hz;have HZ:=aA hz;have HE:=hid (um fl a' m c' u Gs.o.symm B3.o.2 PF.o.1 (HX.o.r3.1.belows B3.o.1) (by have:=PF.o.r2.1;have:=Gs.o;omega));rw[PF.o.r3] at HE;clear hz;go_wp2_with fail;refine HE.o.mono ?_;rintro r u2 ⟨hr,hb⟩;rcases hr with ⟨hr,_⟩|⟨_,v2,rfl,hR⟩
       · exact absurd rfl hr
       obtain⟨gA,p1,q1,rfl,hD,hN⟩:=hR;obtain⟨oS,uH⟩:=ah (gV 1074 (sX fl));rw[<-uH] at hN |-;obtain⟨V,hV⟩:=ah (u2.alloc (Obj.cells #[.slice (some ⟨gA,0,none⟩) m m,.bool (dN oS),.slice p1 (ws (dX oS)).length q1,.int .i64 (dE oS)] 74));obtain⟨g7,sN⟩:=ah (u2.heap.size)
       have B4:Aside (Bl V g7 74 [.slice (some ⟨gA,0,none⟩) m m,.bool (dN oS),.slice p1 (ws (dX oS)).length q1,.int .i64 (dE oS)]/\Below w.heap.size w V/\Dr V gA m m (fun i=>gV 1074 (fX fl i))/\Nt 0 V (.slice p1 (ws (dX oS)).length q1) (dX oS)):=by
        exact ju
       have HV:=(aP hV sN);have Ej:=aA uH;clear hV sN hb hD hN HE B3 uH
       go_upto_region 10 with fail
       rw[<-HV.o.1,<-HV.o.2];clear HV;have s0:=B4.o.1.cell 0 _ rfl
       by_cases hle:(m:Int)<=less
       · have ZV:decide ((m:Int)<=less)=true:=decide_eq_true hle;have hz:=HZ.o;rw[if_pos hle] at hz;obtain⟨rfl,rfl⟩:=eO hz;clear hz HZ;go_wp2;exact aG (v:=.tuple #[.float .f64 0,.int .i64 3]) (by simp[results,Tryz.results43,go_sem]) rfl ⟨rfl,B4.o.2.1⟩
       · have ZV:decide ((m:Int)<=less)=false:=decide_eq_false hle;have hz:=HZ.o;rw[if_neg hle] at hz;have m6:m<=65536:=by have:=PF.o.r2.1;have:=Gs.o;omega
         have Cm:0<=less/\less<=1:=by have:=HX.o.r5;omega
         obtain⟨oV,K6⟩:=ah (gV 2148 (cS fl fl));obtain⟨oD,xX⟩:=ah (gV 0 ((m:Int)*((m:Int)-less)));rw[<-K6,<-xX] at hz;have FV:Fm oV:=by rw[K6];exact dJ aj aj (lD PF.o.1 PF.o.2.1 PF.o.1 PF.o.2.1 PF.o.r2.1 rfl)
         have FD:Fm oD:=by rw[xX];exact dJ aj aj (zW ae Cm.1 Cm.2)
         have Yj:Hid (∀ u:World,Below V.heap.size V u->Calls Tryz.prog 50 #[.agg #[.slice (some ⟨gA,0,none⟩) m m,.bool (dN oS),.slice p1 (ws (dX oS)).length q1,.int .i64 (dE oS)],.agg #[.slice (some ⟨gA,0,none⟩) m m,.bool (dN oS),.slice p1 (ws (dX oS)).length q1,.int .i64 (dE oS)]] u fun r w'=>bI 0 w' r oV/\Below u.heap.size u w'):=fun u hu=>by
          exact Ks
         have sw:Hid (∀ u:World,dU u->Calls Tryz.prog 28 #[.int .i64 (m:Nat),.int .i64 less] u fun r w'=>bI 0 w' r oD/\Below u.heap.size u w'):=fun u hu=>by
          rw[xX];exact uA m less u hu ae Cm.1 Cm.2 ae
         have HR:Hid (∀ (u:World) (a b:Option Addr) (ca cb:Nat),dU u->Nt 0 u (.slice a (ws (dX oV)).length ca) (dX oV)->Nt 0 u (.slice b (ws (dX oD)).length cb) (dX oD)->Calls Tryz.prog 27 #[.agg #[.bool (dN oV),.slice a (ws (dX oV)).length ca,.int .i64 (dE oV),.bool (dN oD),.slice b (ws (dX oD)).length cb,.int .i64 (dE oD)],.int .i64 mode] u fun r w'=>r=.returned (.tuple #[.float .f64 X,.int .i64 E])/\Below u.heap.size u w'):=fun u a b ca cb su n1 n2=>by
          exact Qag
         have FF:=(aP FV FD);have HT:=aA HX.o.r3.1;have hdr:=(aD V.heap.size V).drew;have BD:=(aP (B4.o.1.below hdr B4.o.1.lt) (B4.o.2.1.trans (hdr.mono B4.o.2.1.size)));have C1:=hid (Yj.o V.drew hdr);clear hz HZ K6 xX FV FD hdr Gs m6 Cm PF HX Yj;have kS:Aside (V.drew.cell? ⟨g7,0,none⟩=some (.slice (some ⟨gA,0,none⟩) m m)/\V.drew.cell? ⟨g7,1,none⟩=some (.bool (dN oS))/\V.drew.cell? ⟨g7,2,none⟩=some (.slice p1 (ws (dX oS)).length q1)/\V.drew.cell? ⟨g7,3,none⟩=some (.int .i64 (dE oS))):=⟨BD.o.1.cell 0 _ rfl,BD.o.1.cell 1 _ rfl,BD.o.1.cell 2 _ rfl,BD.o.1.cell 3 _ rfl⟩;go_wp2_with fail;clear s0 B4
         go_region_held3 (fun w'=>w'.cell? ⟨g7,0,none⟩=some (.slice (some ⟨gA,0,none⟩) m m)/\w'.cell? ⟨g7,1,none⟩=some (.bool (dN oS))/\w'.cell? ⟨g7,2,none⟩=some (.slice p1 (ws (dX oS)).length q1)/\w'.cell? ⟨g7,3,none⟩=some (.int .i64 (dE oS))) (with_reducible exact kS.o) (first
          | (go_at_call 50
             with_reducible refine C1.o.mono ?_
             rintro r u3 ⟨hd,hb⟩;obtain⟨a3,c3,rfl,fV⟩:=hd.aL;have BD:=dC (BD.o.1.below hb BD.o.1.lt) (BD.o.2.trans (hb.mono BD.o.2.size)) fV;have kS:=aA (jX hb kS.o);have C2:=hid (sw.o u3 (HT.o.belows BD.o.2.1))
             clear hb hd fV C1)
          | (go_at_call 28
             with_reducible refine C2.o.mono ?_
             rintro r u4 ⟨hd,hb⟩;obtain⟨a4,c4,rfl,iX⟩:=hd.aL;have BE:=dC (BD.o.2.1.trans (hb.mono BD.o.2.1.size)) (BD.o.r2.below hb) iX;have kS:=aA (jX hb kS.o);have C3:=hid (HR.o u4 a3 a4 c3 c4 (HT.o.belows BE.o.1) BE.o.2.1 BE.o.r2)
             clear hb hd iX C2)
          | (go_at_call 27
             with_reducible refine C3.o.mono ?_
             rintro r u5 ⟨rfl,hb⟩;have BF:=aA (BE.o.1.trans (hb.mono BE.o.1.size));have kS:=aA (jX hb kS.o)
             clear hb C3))
         exact Qac
theorem uB(xs:List Nat)(a:Option Addr)(n c:Nat)(less mode pa pb:Int)(w:World)(hn:n=xs.length)(hF:Fs w.heap.size w a xs)(hW:mE xs)(hT:dU w)(hl:n<=35184372088832)(z:Nat×Int)(hz:kr jk xs less mode pa pb=z) :
 Calls Tryz.prog 16 #[.slice a n c,.int .i64 less,.int .i64 mode,.agg #[.int .i64 pa,.int .i64 pb]] w fun r w'=>r=.returned (.tuple #[.float .f64 z.1,.int .i64 z.2])/\Below w.heap.size w w':=by
 obtain⟨W,nQ⟩:=ah (w.alloc (Obj.cells #[.int .i64 pa,.int .i64 pb] 44))
 have B0:Aside (Bl W w.heap.size 44 [.int .i64 pa,.int .i64 pb]/\Below w.heap.size w W):=by
  exact xr
 have C:=hid (Jy xs a n c less mode pa pb W hn ((hF.below B0.o.2).mono B0.o.2.size) hW (hT.belows B0.o.2) hl z hz);have lG:=aA nQ;obtain⟨X,E⟩:=z;clear nQ hn hF hW hT hl hz;simp only at C |-;go_enter Tryz.func16,Tryz.ntmps16
 go_upto_region 1 with fail
 rw[<-lG.o];clear lG;have p0:=B0.o.1.cell 0 _ rfl;have p1:=B0.o.1.cell 1 _ rfl;go_wp2_with fail;refine C.o.mono ?_;rintro r v ⟨rfl,hb⟩;have B1:=aA (B0.o.2.trans (hb.mono B0.o.2.size));clear hb C p0 p1;go_wp2;exact aG (v:=.tuple #[.float .f64 X,.int .i64 E]) (by simp[results,Tryz.results16,go_sem]) rfl ⟨rfl,B1.o⟩
end
section
open Go Go.RowKit J
open Go.Proofs.YtfmfhehbdfhnbaaGreatDoor.B (bF aH)
attribute [local go_sem] bF aH
theorem Jz(xs:List Nat)(a:Option Addr)(n c:Nat)(less mode pa pb:Int)(w:World)(hn:n=xs.length)(hF:Fs w.heap.size w a xs)(hW:mE xs)(hT:dU w)(hl:n<=35184372088832)(z:Nat×Int)(hz:kr jI xs less mode pa pb=z) :
 Calls Tryz.prog 43 #[.slice a n c,.int .i64 less,.int .i64 mode,.agg #[.int .i64 pa,.int .i64 pb],.func (.func 44) #[] #[]] w fun r w'=>r=.returned (.tuple #[.float .f64 z.1,.int .i64 z.2])/\Below w.heap.size w w':=by
 obtain⟨X,E⟩:=z;simp only;obtain⟨W,nQ⟩:=ah (w.alloc (Obj.cells #[.int .i64 pa,.int .i64 pb] 44))
 have B0:Aside (Bl W w.heap.size 44 [.int .i64 pa,.int .i64 pb]/\Below w.heap.size w W):=by
  exact xr
 have lG:=aA nQ;clear nQ;unfold kr at hz
 cases hm:pI mode with
 | false =>
   rw[hm,qj,if_neg aj] at hz;obtain⟨rfl,rfl⟩:=eO hz;clear hz hn hF hW hT;go_enter Tryz.func43,Tryz.ntmps43
   go_upto_region 1 with fail
   rw[<-lG.o];clear lG;have C:=hid (jA mode W);rw[hm] at C;go_wp2_with fail;refine C.o.mono ?_;rintro r v ⟨rfl,hv⟩;rw[hv];clear hv v C;go_wp2;exact aG (v:=.tuple #[.float .f64 0,.int .i64 1]) (by simp[results,Tryz.results43,go_sem]) rfl ⟨rfl,B0.o.2⟩
 | true =>
 cases hs:lsB less with
 | false =>
   rw[hm,hs,tC,if_neg aj] at hz;obtain⟨rfl,rfl⟩:=eO hz;clear hz hn hF hW hT;go_enter Tryz.func43,Tryz.ntmps43
   go_upto_region 1 with fail
   rw[<-lG.o];clear lG;have C:=hid (jA mode W);rw[hm] at C;go_wp2_with fail;refine C.o.mono ?_;rintro r v ⟨rfl,hv⟩;rw[hv];clear hv v C;have C:=hid (oH less W);rw[hs] at C;go_wp2_with fail;refine C.o.mono ?_;rintro r v ⟨rfl,hv⟩;rw[hv];clear hv v C;go_wp2;exact aG (v:=.tuple #[.float .f64 0,.int .i64 1]) (by simp[results,Tryz.results43,go_sem]) rfl ⟨rfl,B0.o.2⟩
 | true =>
   rw[hm,hs,tC,if_pos rfl] at hz;have HS:=hid (SL xs a n c pa pb W hn hl ((hF.below B0.o.2).mono B0.o.2.size) hW);have HX:=jJ hn hF hW hT (uz hm) (Gp hs);have HZ:=aA hz;obtain⟨es,hes⟩:∃ e,Ps.gG pa pb xs=e:=⟨_,rfl⟩;rw[hes] at HS;have sV:=aA hes;have p0:=B0.o.1.cell 0 _ rfl;have p1:=B0.o.1.cell 1 _ rfl;clear hz hn hF hW hT hl hes;go_enter Tryz.func43,Tryz.ntmps43
   go_upto_region 1 with fail
   rw[<-lG.o];clear lG;have C:=hid (jA mode W);rw[hm] at C;go_wp2_with fail;refine C.o.mono ?_;rintro r v ⟨rfl,hv⟩;rw[hv];clear hv v C;have C:=hid (oH less W);rw[hs] at C;go_wp2_with fail;refine C.o.mono ?_;rintro r v ⟨rfl,hv⟩;rw[hv];clear hv v C;go_wp2_with fail;refine HS.o.mono ?_;rintro r v ⟨hr,hb⟩;have B1:=(aP (B0.o.1.below hb B0.o.1.lt) (B0.o.2.trans (hb.mono B0.o.2.size)));clear hb HS p0 p1 B0;rcases hr with ⟨he,a',c',rfl⟩|⟨he,a',c',rfl,hF'⟩
   · have h1:(es==0)=false:=by simp[he]
     exact qT
   · subst he;have HV:=hid (fun u:World=>Ck sV.o u);have hz:=HZ.o;rw[if_pos sV.o] at hz;obtain⟨s5,hs5⟩:∃ s:Int,(Ps.cn 5 xs:Nat)=s:=⟨_,rfl⟩;obtain⟨s3,hs3⟩:∃ s:Int,(Ps.cn 3 xs:Nat)=s:=⟨_,rfl⟩;obtain⟨s4,hs4⟩:∃ s:Int,(Ps.cn 4 xs:Nat)=s:=⟨_,rfl⟩;obtain⟨s1,hs1⟩:∃ s:Int,(Ps.cn 1 xs:Nat)=s:=⟨_,rfl⟩;obtain⟨s2,hs2⟩:∃ s:Int,(Ps.cn 2 xs:Nat)=s:=⟨_,rfl⟩;obtain⟨sl,hsl⟩:∃ s:Int,(xs.length:Nat)=s:=⟨_,rfl⟩;rw[hs5,hs3,hs4,hs1,hs2,hsl] at HV |-;clear hs5 hs3 hs4 hs1 hs2 hsl;obtain⟨fl,hfl⟩:∃ f,Ps.fin xs=f:=⟨_,rfl⟩;rw[hfl] at hF' hz |-
     have PF:Aside (mE fl/\(∀ x ∈ fl,dR x)/\fl.length<=65536/\rR fl=0):=by
      exact Qbb
     obtain⟨m,yM⟩:∃ m,fl.length=m:=⟨_,rfl⟩;obtain⟨U,hU⟩:=ah (v.alloc (Obj.cells #[.int .i64 s5,.int .i64 s3,.int .i64 s4,.int .i64 s1,.int .i64 s2,.int .i64 sl] 106));obtain⟨gs,hgs⟩:=ah (v.heap.size)
     have B2:Aside (Bl U gs 106 [.int .i64 s5,.int .i64 s3,.int .i64 s4,.int .i64 s1,.int .i64 s2,.int .i64 sl]/\Bl U w.heap.size 44 [.int .i64 pa,.int .i64 pb]/\Below w.heap.size w U/\Fs U.heap.size U a' fl):=by
      exact xj
     rw[yM] at hz |-;have Gs:=aA yM;have HU:=(aP hU hgs);obtain⟨cr,hcr⟩:∃ b,Pg pa pb xs=b:=⟨_,rfl⟩;rw[hcr] at HV hz;clear hU hgs hF' B1 hfl sV HZ yM hcr
     go_upto_region 6 with fail
     rw[<-HU.o.1,<-HU.o.2];clear HU;have q0:=B2.o.1.cell 0 _ rfl;have q1:=B2.o.1.cell 1 _ rfl;have q2:=B2.o.1.cell 2 _ rfl;have q3:=B2.o.1.cell 3 _ rfl;have q4:=B2.o.1.cell 4 _ rfl;have q5:=B2.o.1.cell 5 _ rfl;have p0:=B2.o.2.1.cell 0 _ rfl;have p1:=B2.o.2.1.cell 1 _ rfl;go_wp2_with fail;refine(HV.o _).mono ?_;rintro r u ⟨⟨x,rfl⟩,hb⟩;have B3:=(aP (B2.o.r2.1.trans (hb.mono B2.o.r2.1.size)) ((B2.o.r3.below hb).mono hb.size));clear hb HV q0 q1 q2 q3 q4 q5 p0 p1 B2
     cases cr with
     | true =>
       rw[if_pos rfl] at hz;obtain⟨rfl,rfl⟩:=eO hz;clear hz PF Gs;go_wp2;exact aG (v:=.tuple #[.float .f64 9221120237041090560,.int .i64 0]) (by simp[results,Tryz.results43,go_sem]) rfl ⟨rfl,B3.o.1⟩
     | false =>
       rw[if_neg aj] at hz;have HZ:=aA hz;have HE:=hid (um fl a' m c' u Gs.o.symm B3.o.2 PF.o.1 (HX.o.r3.1.belows B3.o.1) (by have:=PF.o.r2.1;have:=Gs.o;omega));rw[PF.o.r3] at HE;clear hz;go_wp2_with fail;refine HE.o.mono ?_;rintro r u2 ⟨hr,hb⟩;rcases hr with ⟨hr,_⟩|⟨_,v2,rfl,hR⟩
       · exact absurd rfl hr
       obtain⟨gA,p1,q1,rfl,hD,hN⟩:=hR;obtain⟨oS,uH⟩:=ah (gV 1074 (sX fl));rw[<-uH] at hN |-;obtain⟨V,hV⟩:=ah (u2.alloc (Obj.cells #[.slice (some ⟨gA,0,none⟩) m m,.bool (dN oS),.slice p1 (ws (dX oS)).length q1,.int .i64 (dE oS)] 74));obtain⟨g7,sN⟩:=ah (u2.heap.size)
       have B4:Aside (Bl V g7 74 [.slice (some ⟨gA,0,none⟩) m m,.bool (dN oS),.slice p1 (ws (dX oS)).length q1,.int .i64 (dE oS)]/\Below w.heap.size w V/\Dr V gA m m (fun i=>gV 1074 (fX fl i))/\Nt 0 V (.slice p1 (ws (dX oS)).length q1) (dX oS)):=by
        exact ju
       have HV:=(aP hV sN);have Ej:=aA uH;clear hV sN hb hD hN HE B3 uH
       go_upto_region 10 with fail
       rw[<-HV.o.1,<-HV.o.2];clear HV;have s0:=B4.o.1.cell 0 _ rfl
       by_cases hle:(m:Int)<=less
       · have ZV:decide ((m:Int)<=less)=true:=decide_eq_true hle;have hz:=HZ.o;rw[if_pos hle] at hz;obtain⟨rfl,rfl⟩:=eO hz;clear hz HZ;go_wp2;exact aG (v:=.tuple #[.float .f64 0,.int .i64 3]) (by simp[results,Tryz.results43,go_sem]) rfl ⟨rfl,B4.o.2.1⟩
       · have ZV:decide ((m:Int)<=less)=false:=decide_eq_false hle;have hz:=HZ.o;rw[if_neg hle] at hz;have m6:m<=65536:=by have:=PF.o.r2.1;have:=Gs.o;omega
         have Cm:0<=less/\less<=1:=by have:=HX.o.r5;omega
         obtain⟨oV,K6⟩:=ah (gV 2148 (cS fl fl));obtain⟨oD,xX⟩:=ah (gV 0 ((m:Int)*((m:Int)-less)));rw[<-K6,<-xX] at hz;have FV:Fm oV:=by rw[K6];exact dJ aj aj (lD PF.o.1 PF.o.2.1 PF.o.1 PF.o.2.1 PF.o.r2.1 rfl)
         have FD:Fm oD:=by rw[xX];exact dJ aj aj (zW ae Cm.1 Cm.2)
         have Yj:Hid (∀ u:World,Below V.heap.size V u->Calls Tryz.prog 50 #[.agg #[.slice (some ⟨gA,0,none⟩) m m,.bool (dN oS),.slice p1 (ws (dX oS)).length q1,.int .i64 (dE oS)],.agg #[.slice (some ⟨gA,0,none⟩) m m,.bool (dN oS),.slice p1 (ws (dX oS)).length q1,.int .i64 (dE oS)]] u fun r w'=>bI 0 w' r oV/\Below u.heap.size u w'):=fun u hu=>by
          exact Ks
         have sw:Hid (∀ u:World,dU u->Calls Tryz.prog 28 #[.int .i64 (m:Nat),.int .i64 less] u fun r w'=>bI 0 w' r oD/\Below u.heap.size u w'):=fun u hu=>by
          rw[xX];exact uA m less u hu ae Cm.1 Cm.2 ae
         have HR:Hid (∀ (u:World) (a b:Option Addr) (ca cb:Nat),dU u->Nt 0 u (.slice a (ws (dX oV)).length ca) (dX oV)->Nt 0 u (.slice b (ws (dX oD)).length cb) (dX oD)->Calls Tryz.prog 44 #[.agg #[.bool (dN oV),.slice a (ws (dX oV)).length ca,.int .i64 (dE oV),.bool (dN oD),.slice b (ws (dX oD)).length cb,.int .i64 (dE oD)],.int .i64 mode] u fun r w'=>r=.returned (.tuple #[.float .f64 X,.int .i64 E])/\Below u.heap.size u w'):=fun u a b ca cb su n1 n2=>by
          have:=Jw mode FV FD n1 n2 su;rw[hz] at this;exact this
         have FF:=(aP FV FD);have HT:=aA HX.o.r3.1;have hdr:=(aD V.heap.size V).drew;have BD:=(aP (B4.o.1.below hdr B4.o.1.lt) (B4.o.2.1.trans (hdr.mono B4.o.2.1.size)));have C1:=hid (Yj.o V.drew hdr);clear hz HZ K6 xX FV FD hdr Gs m6 Cm PF HX Yj;have kS:Aside (V.drew.cell? ⟨g7,0,none⟩=some (.slice (some ⟨gA,0,none⟩) m m)/\V.drew.cell? ⟨g7,1,none⟩=some (.bool (dN oS))/\V.drew.cell? ⟨g7,2,none⟩=some (.slice p1 (ws (dX oS)).length q1)/\V.drew.cell? ⟨g7,3,none⟩=some (.int .i64 (dE oS))):=⟨BD.o.1.cell 0 _ rfl,BD.o.1.cell 1 _ rfl,BD.o.1.cell 2 _ rfl,BD.o.1.cell 3 _ rfl⟩;go_wp2_with fail;clear s0 B4
         go_region_held3 (fun w'=>w'.cell? ⟨g7,0,none⟩=some (.slice (some ⟨gA,0,none⟩) m m)/\w'.cell? ⟨g7,1,none⟩=some (.bool (dN oS))/\w'.cell? ⟨g7,2,none⟩=some (.slice p1 (ws (dX oS)).length q1)/\w'.cell? ⟨g7,3,none⟩=some (.int .i64 (dE oS))) (with_reducible exact kS.o) (first
          | (go_at_call 50
             with_reducible refine C1.o.mono ?_
             rintro r u3 ⟨hd,hb⟩;obtain⟨a3,c3,rfl,fV⟩:=hd.aL;have BD:=dC (BD.o.1.below hb BD.o.1.lt) (BD.o.2.trans (hb.mono BD.o.2.size)) fV;have kS:=aA (jX hb kS.o);have C2:=hid (sw.o u3 (HT.o.belows BD.o.2.1))
             clear hb hd fV C1)
          | (go_at_call 28
             with_reducible refine C2.o.mono ?_
             rintro r u4 ⟨hd,hb⟩;obtain⟨a4,c4,rfl,iX⟩:=hd.aL;have BE:=dC (BD.o.2.1.trans (hb.mono BD.o.2.1.size)) (BD.o.r2.below hb) iX;have kS:=aA (jX hb kS.o);have C3:=hid (HR.o u4 a3 a4 c3 c4 (HT.o.belows BE.o.1) BE.o.2.1 BE.o.r2)
             clear hb hd iX C2)
          | (go_at_call 44
             with_reducible refine C3.o.mono ?_
             rintro r u5 ⟨rfl,hb⟩;have BF:=aA (BE.o.1.trans (hb.mono BE.o.1.size));have kS:=aA (jX hb kS.o)
             clear hb C3))
         exact Qac
theorem Gt(xs:List Nat)(a:Option Addr)(n c:Nat)(less mode pa pb:Int)(w:World)(hn:n=xs.length)(hF:Fs w.heap.size w a xs)(hW:mE xs)(hT:dU w)(hl:n<=35184372088832)(z:Nat×Int)(hz:kr jI xs less mode pa pb=z) :
 Calls Tryz.prog 18 #[.slice a n c,.int .i64 less,.int .i64 mode,.agg #[.int .i64 pa,.int .i64 pb]] w fun r w'=>r=.returned (.tuple #[.float .f64 z.1,.int .i64 z.2])/\Below w.heap.size w w':=by
 obtain⟨W,nQ⟩:=ah (w.alloc (Obj.cells #[.int .i64 pa,.int .i64 pb] 44))
 have B0:Aside (Bl W w.heap.size 44 [.int .i64 pa,.int .i64 pb]/\Below w.heap.size w W):=by
  exact xr
 have C:=hid (Jz xs a n c less mode pa pb W hn ((hF.below B0.o.2).mono B0.o.2.size) hW (hT.belows B0.o.2) hl z hz);have lG:=aA nQ;obtain⟨X,E⟩:=z;clear nQ hn hF hW hT hl hz;simp only at C |-;go_enter Tryz.func18,Tryz.ntmps18
 go_upto_region 1 with fail
 rw[<-lG.o];clear lG;have p0:=B0.o.1.cell 0 _ rfl;have p1:=B0.o.1.cell 1 _ rfl;go_wp2_with fail;refine C.o.mono ?_;rintro r v ⟨rfl,hb⟩;have B1:=aA (B0.o.2.trans (hb.mono B0.o.2.size));clear hb C p0 p1;go_wp2;exact aG (v:=.tuple #[.float .f64 X,.int .i64 E]) (by simp[results,Tryz.results18,go_sem]) rfl ⟨rfl,B1.o⟩
end
section
open Go Go.RowKit J
theorem dK {P:Program}{ops:Array Oper}{Q:Exit->Act->World->Prop}{md:Region.Mode}{S:World->Prop}{stop i j:Nat}{oi oj:Oper}{fuel:Nat}{listed:Array Bool}{a:Act}{w:World}(hr:Region.ready md ops listed=[i,j]) (ei:ops[i]?=some oi) (ej:ops[j]?=some oj)
 (hi:∀ K':Act->World->Prop,Shut (∀ b u,(i<stop->S u)->gz P md ops Q S stop fuel (listed.setIfInBounds i true) b u->K' b u)->if Region.wanted oi (yielded ops a.tmps)=true then Oper.wp P oi a w K' Q else K' (a.put oi.dst undef) w)
 (hj:∀ K':Act->World->Prop,Shut (∀ b u,(j<stop->S u)->gz P md ops Q S stop fuel (listed.setIfInBounds j true) b u->K' b u)->if Region.wanted oj (yielded ops a.tmps)=true then Oper.wp P oj a w K' Q else K' (a.put oj.dst undef) w) :
 gz P md ops Q S stop (fuel+1) listed a w :=
 ⟨fun h0=>(by rw[hr] at h0;cases h0),fun q hq=>by
  rw[hr] at hq;simp only[List.mem_cons,List.not_mem_nil,or_false] at hq;rcases hq with rfl|rfl
  · exact wpOp_step ei (fun K' hK=>hi K' (fun b u h1 h2=>hK b u ⟨h1,h2⟩))
  · exact wpOp_step ej (fun K' hK=>hj K' (fun b u h1 h2=>hK b u ⟨h1,h2⟩))⟩
theorem rT {P:Program}{ops:Array Oper}{Q:Exit->Act->World->Prop}{md:Region.Mode}{S:World->Prop}{stop i j k:Nat}{oi oj ok:Oper}{fuel:Nat}{listed:Array Bool}{a:Act}{w:World}(hr:Region.ready md ops listed=[i,j,k]) (ei:ops[i]?=some oi) (ej:ops[j]?=some oj) (ek:ops[k]?=some ok)
 (hi:∀ K':Act->World->Prop,Shut (∀ b u,(i<stop->S u)->gz P md ops Q S stop fuel (listed.setIfInBounds i true) b u->K' b u)->if Region.wanted oi (yielded ops a.tmps)=true then Oper.wp P oi a w K' Q else K' (a.put oi.dst undef) w)
 (hj:∀ K':Act->World->Prop,Shut (∀ b u,(j<stop->S u)->gz P md ops Q S stop fuel (listed.setIfInBounds j true) b u->K' b u)->if Region.wanted oj (yielded ops a.tmps)=true then Oper.wp P oj a w K' Q else K' (a.put oj.dst undef) w)
 (hk:∀ K':Act->World->Prop,Shut (∀ b u,(k<stop->S u)->gz P md ops Q S stop fuel (listed.setIfInBounds k true) b u->K' b u)->if Region.wanted ok (yielded ops a.tmps)=true then Oper.wp P ok a w K' Q else K' (a.put ok.dst undef) w) :
 gz P md ops Q S stop (fuel+1) listed a w :=
 ⟨fun h0=>(by rw[hr] at h0;cases h0),fun q hq=>by
  rw[hr] at hq;simp only[List.mem_cons,List.not_mem_nil,or_false] at hq;rcases hq with rfl|rfl|rfl
  · exact wpOp_step ei (fun K' hK=>hi K' (fun b u h1 h2=>hK b u ⟨h1,h2⟩))
  · exact wpOp_step ej (fun K' hK=>hj K' (fun b u h1 h2=>hK b u ⟨h1,h2⟩))
  · exact wpOp_step ek (fun K' hK=>hk K' (fun b u h1 h2=>hK b u ⟨h1,h2⟩))⟩
theorem OY (w:World) (n h0 h1:Nat) (A T:Nat->Option (Bool×Nat×Int)) (hn:n<=65536) (hT:dU w) (FA:∀ i,i<n->Fm (A i)) (FT:∀ i,i<=n->Fm (T i)) (ET:∀ i,i<n->jv (T i) (A i)=T (i+1)) (E0:iY=T 0)
 (HC:Hid (∀ (i:Nat) (u:World),i<n->Below w.heap.size w u->Calls Tryz.prog 126 #[.int .i64 (i:Nat),.pointer (some ⟨h0,0,none⟩),.pointer (some ⟨h1,0,none⟩)] u fun r w'=>bI 0 w' r (A i)/\Below u.heap.size u w')) :
 Calls Tryz.prog 84 #[.int .i64 (n:Nat),.func (.func 126) #[] #[.pointer (some ⟨h0,0,none⟩),.pointer (some ⟨h1,0,none⟩)]] w fun r w'=>bI 0 w' r (T n)/\Below w.heap.size w w':=by
 obtain⟨W,hW⟩:=ah ((w.alloc (Obj.cells zD3 25)).alloc (Obj.cells zD3 25))
 have H0:Aside (Lo W (w.heap.size+1) (T 0)/\Lo W w.heap.size iY/\Below w.heap.size w W):=by
  subst hW;exact Kf
 have HP:Hid (∀ (i:Nat) (u:World) (p q:Option Addr) (cp cq:Nat),i<n->dU u->Nt 0 u (.slice p (ws (dX (T i))).length cp) (dX (T i))->Nt 0 u (.slice q (ws (dX (A i))).length cq) (dX (A i))->Calls Tryz.prog 124 #[.agg #[.bool (dN (T i)),.slice p (ws (dX (T i))).length cp,.int .i64 (dE (T i))],.agg #[.bool (dN (A i)),.slice q (ws (dX (A i))).length cq,.int .i64 (dE (A i))]] u fun r w'=>bI 0 w' r (T (i+1))/\Below u.heap.size u w') :=
  fun i u p q cp cq hi hT n1 n2=>D5 (FT i ae) (FA i hi) (FT (i+1) ae) n1 n2 hT (ET i hi)
 have HW:=aA hW;have PF:=aP FT FA;have HT:=aA hT;clear hW FT FA ET E0 hT;go_enter Tryz.func84,Tryz.ntmps84
 go_upto_region 2 with fail
 rw[<-HW.o];clear HW;go_wp2
 go_loopg [8] n (fun gk i wr=>∃ j:Nat,gk+j=n/\i=.int .i64 (j:Nat)/\Aside (Lo wr (w.heap.size+1) (T j)/\Lo wr w.heap.size iY/\Below w.heap.size w wr))
 case atStart=>exact⟨0,ae,aQ,H0.o⟩
 case round =>
  exact Zs
theorem OZ (w:World) (n h0 h1 h2 h3:Nat) (A T:Nat->Option (Bool×Nat×Int)) (hn:n<=65536) (hT:dU w) (FA:∀ i,i<n->Fm (A i)) (FT:∀ i,i<=n->Fm (T i)) (ET:∀ i,i<n->jv (T i) (A i)=T (i+1)) (E0:iY=T 0)
 (HC:Hid (∀ (i:Nat) (u:World),i<n->Below w.heap.size w u->Calls Tryz.prog 87 #[.int .i64 (i:Nat),.pointer (some ⟨h0,0,none⟩),.pointer (some ⟨h1,0,none⟩),.pointer (some ⟨h2,0,none⟩),.pointer (some ⟨h3,0,none⟩)] u fun r w'=>bI 0 w' r (A i)/\Below u.heap.size u w')) :
 Calls Tryz.prog 84 #[.int .i64 (n:Nat),.func (.func 87) #[] #[.pointer (some ⟨h0,0,none⟩),.pointer (some ⟨h1,0,none⟩),.pointer (some ⟨h2,0,none⟩),.pointer (some ⟨h3,0,none⟩)]] w fun r w'=>bI 0 w' r (T n)/\Below w.heap.size w w':=by
 obtain⟨W,hW⟩:=ah ((w.alloc (Obj.cells zD3 25)).alloc (Obj.cells zD3 25))
 have H0:Aside (Lo W (w.heap.size+1) (T 0)/\Lo W w.heap.size iY/\Below w.heap.size w W):=by
  subst hW;exact Kf
 have HP:Hid (∀ (i:Nat) (u:World) (p q:Option Addr) (cp cq:Nat),i<n->dU u->Nt 0 u (.slice p (ws (dX (T i))).length cp) (dX (T i))->Nt 0 u (.slice q (ws (dX (A i))).length cq) (dX (A i))->Calls Tryz.prog 124 #[.agg #[.bool (dN (T i)),.slice p (ws (dX (T i))).length cp,.int .i64 (dE (T i))],.agg #[.bool (dN (A i)),.slice q (ws (dX (A i))).length cq,.int .i64 (dE (A i))]] u fun r w'=>bI 0 w' r (T (i+1))/\Below u.heap.size u w') :=
  fun i u p q cp cq hi hT n1 n2=>D5 (FT i ae) (FA i hi) (FT (i+1) ae) n1 n2 hT (ET i hi)
 have HW:=aA hW;have PF:=aP FT FA;have HT:=aA hT;clear hW FT FA ET E0 hT;go_enter Tryz.func84,Tryz.ntmps84
 go_upto_region 2 with fail
 rw[<-HW.o];clear HW;go_wp2
 go_loopg [8] n (fun gk i wr=>∃ j:Nat,gk+j=n/\i=.int .i64 (j:Nat)/\Aside (Lo wr (w.heap.size+1) (T j)/\Lo wr w.heap.size iY/\Below w.heap.size w wr))
 case atStart=>exact⟨0,ae,aQ,H0.o⟩
 case round =>
  exact Zs
def Ph:Nat->Nat->Int
 | _,0=>1
 | 1,1=>1
 | 2,1=>2
 | 2,2=>1
 | 3,1=>3
 | 3,2=>3
 | 3,3=>1
 | 4,1=>4
 | 4,2=>6
 | 4,3=>4
 | 4,4=>1
 | _,_=>0
theorem qe{P:Prop}(h:P:=by
 exact⟨rfl,aQ⟩):P:=h
theorem SN(w:World):Calls Tryz.prog 89 #[.int .i64 1,.int .i64 0] w fun r w'=>r=.returned (.int .i64 1)/\w'=w:=by
 go_enter Tryz.func89,Tryz.ntmps89;go_wp2
 go_loopg [5,8] 0 (fun gk v i wr=>wr=w/\((gk=0/\i=.int .i64 0/\v=.int .i64 1)))
 case atStart=>exact qe
 case round =>
  obtain⟨rfl,hrel⟩:=hrel;rcases hrel with ⟨rfl,rfl,rfl⟩
  · exact XS
theorem KK{P:Prop}(h:P:=by
 go_wp2;go_roundg 0
 case measure=>omega
 case rel=>exact⟨rfl,aQ⟩):P:=h
theorem SQ(w:World):Calls Tryz.prog 89 #[.int .i64 1,.int .i64 1] w fun r w'=>r=.returned (.int .i64 1)/\w'=w:=by
 go_enter Tryz.func89,Tryz.ntmps89;go_wp2
 go_loopg [5,8] 1 (fun gk v i wr=>wr=w/\((gk=1/\i=.int .i64 0/\v=.int .i64 1)\/(gk=0/\i=.int .i64 1/\v=.int .i64 1)))
 case atStart=>exact qe
 case round =>
  obtain⟨rfl,hrel⟩:=hrel;rcases hrel with ⟨rfl,rfl,rfl⟩|⟨rfl,rfl,rfl⟩
  · exact KK
  · exact XS
theorem SV(w:World):Calls Tryz.prog 89 #[.int .i64 2,.int .i64 0] w fun r w'=>r=.returned (.int .i64 1)/\w'=w:=by
 go_enter Tryz.func89,Tryz.ntmps89;go_wp2
 go_loopg [5,8] 0 (fun gk v i wr=>wr=w/\((gk=0/\i=.int .i64 0/\v=.int .i64 1)))
 case atStart=>exact qe
 case round =>
  obtain⟨rfl,hrel⟩:=hrel;rcases hrel with ⟨rfl,rfl,rfl⟩
  · exact XS
theorem SX(w:World):Calls Tryz.prog 89 #[.int .i64 2,.int .i64 1] w fun r w'=>r=.returned (.int .i64 2)/\w'=w:=by
 go_enter Tryz.func89,Tryz.ntmps89;go_wp2
 go_loopg [5,8] 1 (fun gk v i wr=>wr=w/\((gk=1/\i=.int .i64 0/\v=.int .i64 1)\/(gk=0/\i=.int .i64 1/\v=.int .i64 2)))
 case atStart=>exact qe
 case round =>
  obtain⟨rfl,hrel⟩:=hrel;rcases hrel with ⟨rfl,rfl,rfl⟩|⟨rfl,rfl,rfl⟩
  · exact KK
  · exact XS
theorem SY(w:World):Calls Tryz.prog 89 #[.int .i64 2,.int .i64 2] w fun r w'=>r=.returned (.int .i64 1)/\w'=w:=by
 go_enter Tryz.func89,Tryz.ntmps89;go_wp2
 go_loopg [5,8] 2 (fun gk v i wr=>wr=w/\((gk=2/\i=.int .i64 0/\v=.int .i64 1)\/(gk=1/\i=.int .i64 1/\v=.int .i64 2)\/(gk=0/\i=.int .i64 2/\v=.int .i64 1)))
 case atStart=>exact qe
 case round =>
  obtain⟨rfl,hrel⟩:=hrel;rcases hrel with ⟨rfl,rfl,rfl⟩|⟨rfl,rfl,rfl⟩|⟨rfl,rfl,rfl⟩
  · go_wp2;go_roundg 1
    case measure=>omega
    case rel=>exact qe
  · exact KK
  · exact XS
theorem Ta(w:World):Calls Tryz.prog 89 #[.int .i64 3,.int .i64 0] w fun r w'=>r=.returned (.int .i64 1)/\w'=w:=by
 go_enter Tryz.func89,Tryz.ntmps89;go_wp2
 go_loopg [5,8] 0 (fun gk v i wr=>wr=w/\((gk=0/\i=.int .i64 0/\v=.int .i64 1)))
 case atStart=>exact qe
 case round =>
  obtain⟨rfl,hrel⟩:=hrel;rcases hrel with ⟨rfl,rfl,rfl⟩
  · exact XS
theorem Tc(w:World):Calls Tryz.prog 89 #[.int .i64 3,.int .i64 1] w fun r w'=>r=.returned (.int .i64 3)/\w'=w:=by
 go_enter Tryz.func89,Tryz.ntmps89;go_wp2
 go_loopg [5,8] 1 (fun gk v i wr=>wr=w/\((gk=1/\i=.int .i64 0/\v=.int .i64 1)\/(gk=0/\i=.int .i64 1/\v=.int .i64 3)))
 case atStart=>exact qe
 case round =>
  obtain⟨rfl,hrel⟩:=hrel;rcases hrel with ⟨rfl,rfl,rfl⟩|⟨rfl,rfl,rfl⟩
  · exact KK
  · exact XS
theorem Td(w:World):Calls Tryz.prog 89 #[.int .i64 3,.int .i64 2] w fun r w'=>r=.returned (.int .i64 3)/\w'=w:=by
 go_enter Tryz.func89,Tryz.ntmps89;go_wp2
 go_loopg [5,8] 2 (fun gk v i wr=>wr=w/\((gk=2/\i=.int .i64 0/\v=.int .i64 1)\/(gk=1/\i=.int .i64 1/\v=.int .i64 3)\/(gk=0/\i=.int .i64 2/\v=.int .i64 3)))
 case atStart=>exact qe
 case round =>
  obtain⟨rfl,hrel⟩:=hrel;rcases hrel with ⟨rfl,rfl,rfl⟩|⟨rfl,rfl,rfl⟩|⟨rfl,rfl,rfl⟩
  · go_wp2;go_roundg 1
    case measure=>omega
    case rel=>exact qe
  · exact KK
  · exact XS
theorem Te(w:World):Calls Tryz.prog 89 #[.int .i64 3,.int .i64 3] w fun r w'=>r=.returned (.int .i64 1)/\w'=w:=by
 go_enter Tryz.func89,Tryz.ntmps89;go_wp2
 go_loopg [5,8] 3 (fun gk v i wr=>wr=w/\((gk=3/\i=.int .i64 0/\v=.int .i64 1)\/(gk=2/\i=.int .i64 1/\v=.int .i64 3)\/(gk=1/\i=.int .i64 2/\v=.int .i64 3)\/(gk=0/\i=.int .i64 3/\v=.int .i64 1)))
 case atStart=>exact qe
 case round =>
  obtain⟨rfl,hrel⟩:=hrel;rcases hrel with ⟨rfl,rfl,rfl⟩|⟨rfl,rfl,rfl⟩|⟨rfl,rfl,rfl⟩|⟨rfl,rfl,rfl⟩
  · go_wp2;go_roundg 2
    case measure=>omega
    case rel=>exact qe
  · go_wp2;go_roundg 1
    case measure=>omega
    case rel=>exact qe
  · exact KK
  · exact XS
theorem Tf(w:World):Calls Tryz.prog 89 #[.int .i64 4,.int .i64 0] w fun r w'=>r=.returned (.int .i64 1)/\w'=w:=by
 go_enter Tryz.func89,Tryz.ntmps89;go_wp2
 go_loopg [5,8] 0 (fun gk v i wr=>wr=w/\((gk=0/\i=.int .i64 0/\v=.int .i64 1)))
 case atStart=>exact qe
 case round =>
  obtain⟨rfl,hrel⟩:=hrel;rcases hrel with ⟨rfl,rfl,rfl⟩
  · exact XS
theorem Tg(w:World):Calls Tryz.prog 89 #[.int .i64 4,.int .i64 1] w fun r w'=>r=.returned (.int .i64 4)/\w'=w:=by
 go_enter Tryz.func89,Tryz.ntmps89;go_wp2
 go_loopg [5,8] 1 (fun gk v i wr=>wr=w/\((gk=1/\i=.int .i64 0/\v=.int .i64 1)\/(gk=0/\i=.int .i64 1/\v=.int .i64 4)))
 case atStart=>exact qe
 case round =>
  obtain⟨rfl,hrel⟩:=hrel;rcases hrel with ⟨rfl,rfl,rfl⟩|⟨rfl,rfl,rfl⟩
  · exact KK
  · exact XS
theorem Ti(w:World):Calls Tryz.prog 89 #[.int .i64 4,.int .i64 2] w fun r w'=>r=.returned (.int .i64 6)/\w'=w:=by
 go_enter Tryz.func89,Tryz.ntmps89;go_wp2
 go_loopg [5,8] 2 (fun gk v i wr=>wr=w/\((gk=2/\i=.int .i64 0/\v=.int .i64 1)\/(gk=1/\i=.int .i64 1/\v=.int .i64 4)\/(gk=0/\i=.int .i64 2/\v=.int .i64 6)))
 case atStart=>exact qe
 case round =>
  obtain⟨rfl,hrel⟩:=hrel;rcases hrel with ⟨rfl,rfl,rfl⟩|⟨rfl,rfl,rfl⟩|⟨rfl,rfl,rfl⟩
  · go_wp2;go_roundg 1
    case measure=>omega
    case rel=>exact qe
  · exact KK
  · exact XS
theorem Tj(w:World):Calls Tryz.prog 89 #[.int .i64 4,.int .i64 3] w fun r w'=>r=.returned (.int .i64 4)/\w'=w:=by
 go_enter Tryz.func89,Tryz.ntmps89;go_wp2
 go_loopg [5,8] 3 (fun gk v i wr=>wr=w/\((gk=3/\i=.int .i64 0/\v=.int .i64 1)\/(gk=2/\i=.int .i64 1/\v=.int .i64 4)\/(gk=1/\i=.int .i64 2/\v=.int .i64 6)\/(gk=0/\i=.int .i64 3/\v=.int .i64 4)))
 case atStart=>exact qe
 case round =>
  obtain⟨rfl,hrel⟩:=hrel;rcases hrel with ⟨rfl,rfl,rfl⟩|⟨rfl,rfl,rfl⟩|⟨rfl,rfl,rfl⟩|⟨rfl,rfl,rfl⟩
  · go_wp2;go_roundg 2
    case measure=>omega
    case rel=>exact qe
  · go_wp2;go_roundg 1
    case measure=>omega
    case rel=>exact qe
  · exact KK
  · exact XS
theorem Tm(w:World):Calls Tryz.prog 89 #[.int .i64 4,.int .i64 4] w fun r w'=>r=.returned (.int .i64 1)/\w'=w:=by
 go_enter Tryz.func89,Tryz.ntmps89;go_wp2
 go_loopg [5,8] 4 (fun gk v i wr=>wr=w/\((gk=4/\i=.int .i64 0/\v=.int .i64 1)\/(gk=3/\i=.int .i64 1/\v=.int .i64 4)\/(gk=2/\i=.int .i64 2/\v=.int .i64 6)\/(gk=1/\i=.int .i64 3/\v=.int .i64 4)\/(gk=0/\i=.int .i64 4/\v=.int .i64 1)))
 case atStart=>exact qe
 case round =>
  obtain⟨rfl,hrel⟩:=hrel;rcases hrel with ⟨rfl,rfl,rfl⟩|⟨rfl,rfl,rfl⟩|⟨rfl,rfl,rfl⟩|⟨rfl,rfl,rfl⟩|⟨rfl,rfl,rfl⟩
  · go_wp2;go_roundg 3
    case measure=>omega
    case rel=>exact qe
  · go_wp2;go_roundg 2
    case measure=>omega
    case rel=>exact qe
  · go_wp2;go_roundg 1
    case measure=>omega
    case rel=>exact qe
  · exact KK
  · exact XS
theorem ZW(k j:Nat)(hk:1<=k)(hk4:k<=4)(hj:j<=k)(w:World):Calls Tryz.prog 89 #[.int .i64 (k:Nat),.int .i64 (j:Nat)] w fun r w'=>r=.returned (.int .i64 (Ph k j))/\w'=w:=by
 obtain rfl|rfl|rfl|rfl:k=1\/k=2\/k=3\/k=4:=ae
 · obtain rfl | rfl:j=0\/j=1:=ae
   · exact SN w
   · exact SQ w
 · obtain rfl | rfl | rfl:j=0\/j=1\/j=2:=ae
   · exact SV w
   · exact SX w
   · exact SY w
 · obtain rfl | rfl | rfl | rfl:j=0\/j=1\/j=2\/j=3:=ae
   · exact Ta w
   · exact Tc w
   · exact Td w
   · exact Te w
 · obtain rfl | rfl | rfl | rfl | rfl:j=0\/j=1\/j=2\/j=3\/j=4:=ae
   · exact Tf w
   · exact Tg w
   · exact Ti w
   · exact Tj w
   · exact Tm w
theorem K7(k j:Nat)(hk:1<=k)(hk4:k<=4)(hj:j<=k):0<=Ph k j/\Ph k j<=6:=by
 obtain rfl|rfl|rfl|rfl:k=1\/k=2\/k=3\/k=4:=ae
 · obtain rfl | rfl:j=0\/j=1:=ae
   · decide
   · decide
 · obtain rfl | rfl | rfl:j=0\/j=1\/j=2:=ae
   · decide
   · decide
   · decide
 · obtain rfl | rfl | rfl | rfl:j=0\/j=1\/j=2\/j=3:=ae
   · decide
   · decide
   · decide
   · decide
 · obtain rfl | rfl | rfl | rfl | rfl:j=0\/j=1\/j=2\/j=3\/j=4:=ae
   · decide
   · decide
   · decide
   · decide
   · decide
theorem ru{w:World}{a:Option Addr}{ca k u m:Nat}{V:Int}(hk:k<=5)(hu:u<=1100)(hm:m<=2200)(bV:Bd m V)(hT:dU w)(N1:Nt 0 w (.slice a (ws (dX (gV u V))).length ca) (dX (gV u V))) :
 Calls Tryz.prog 47 #[.agg #[.bool (dN (gV u V)),.slice a (ws (dX (gV u V))).length ca,.int .i64 (dE (gV u V))],.int .i64 (k:Nat)] w fun r w'=>bI 0 w' r (gV (u*k) (V^k))/\Below w.heap.size w w':=by
 have hq:∀ i,i<=k->u*i<=5500/\m*i<=11000:=fun i hi=>⟨dW (kC hu (by omega:i<=5)) aj,dW (kC hm (by omega:i<=5)) aj⟩;refine Sq w a ca k (gV u V) (fun i=>gV (u*i) (V^i)) ae hT (dJ ae ae bV) (fun i hi=>dJ (by have:=hq i hi;omega) (by have:=hq i hi;omega) (bV.pow i)) (fun i hi=>?_) ?_ N1
 · have:=hq i ae;rw[mY ae ae ae ae (bV.pow i) bV,<-yn,<-Int.pow_succ]
 · show gV 0 1=gV (u*0) (V^0);rw[jY,Int.pow_zero]
theorem O0 (i n k h0 h1 gx:Nat) (A:Nat->Option (Bool×Nat×Int)) (c:Option (Bool×Nat×Int)) (u:World) (hi:i<n) (hn:n<=65536)
 (HR:Hid (∀ (v:World) (a:Option Addr) (d:Nat),Below u.heap.size u v->Nt 0 v (.slice a (ws (dX (A i))).length d) (dX (A i))->Calls Tryz.prog 47 #[.agg #[.bool (dN (A i)),.slice a (ws (dX (A i))).length d,.int .i64 (dE (A i))],.int .i64 (k:Nat)] v fun r w'=>bI 0 w' r c/\Below v.heap.size v w'))
 (k0:u.cell? ⟨h0,0,none⟩=some (.slice (some ⟨gx,0,none⟩) n n)) (k1:u.cell? ⟨h1,0,none⟩=some (.int .i64 (k:Nat))) (hx:Dr u gx n n A) :
 Calls Tryz.prog 126 #[.int .i64 (i:Nat),.pointer (some ⟨h0,0,none⟩),.pointer (some ⟨h1,0,none⟩)] u fun r w'=>bI 0 w' r c/\Below u.heap.size u w':=by
 obtain⟨W,hW⟩:=ah (u.alloc (Obj.cells zD3 25));have LT:Aside (h0<u.heap.size/\h1<u.heap.size/\gx<u.heap.size):=⟨mO u _ k0,mO u _ k1,hx.lt⟩;have hb:Below u.heap.size u W.drew:=by rw[hW];exact zP u
 have L0:Lo W.drew u.heap.size iY:=by rw[hW];exact zQ u
 obtain⟨p1,q1,x0,x1,x2,M1⟩:=(hx.below hb).facts i hi;have kS:Aside (W.drew.cell? ⟨h0,0,none⟩=some (.slice (some ⟨gx,0,none⟩) n n)/\W.drew.cell? ⟨h1,0,none⟩=some (.int .i64 (k:Nat))/\W.drew.cell? ⟨gx,i*3,none⟩=some (.bool (dN (A i)))/\W.drew.cell? ⟨gx,i*3+1,none⟩=some (.slice p1 (ws (dX (A i))).length q1)/\W.drew.cell? ⟨gx,i*3+2,none⟩=some (.int .i64 (dE (A i)))):=⟨ni k0 hb,ni k1 hb,x0,x1,x2⟩;have C:=hid (HR.o W.drew p1 q1 hb M1);have BD:=(aP hb L0);have HW:=aA hW;have HI:=aA hi;clear hW hb L0 x0 x1 x2 M1 k0 k1 hx HR;go_enter Tryz.func126,Tryz.ntmps126
 go_upto_region 1 with fail
 rw[<-HW.o];clear HW
 go_region_held3 (fun w'=>w'.cell? ⟨h0,0,none⟩=some (.slice (some ⟨gx,0,none⟩) n n)/\w'.cell? ⟨h1,0,none⟩=some (.int .i64 (k:Nat))/\w'.cell? ⟨gx,i*3,none⟩=some (.bool (dN (A i)))/\w'.cell? ⟨gx,i*3+1,none⟩=some (.slice p1 (ws (dX (A i))).length q1)/\w'.cell? ⟨gx,i*3+2,none⟩=some (.int .i64 (dE (A i)))) (first | with_reducible exact kS.o | with_reducible exact kT.o) (first
  | (go_at_call 47
     with_reducible refine C.o.mono ?_
     rintro r u3 ⟨hd,hb⟩;obtain⟨a3,c3,rfl,fV⟩:=hd.aL;have BD:=dC (BD.o.1.trans (hb.mono BD.o.1.size)) (BD.o.2.below hb) fV;have kS:=aA (ck hb kS.o fun h=>ck1 hb h);have kT:=fO (oF (g:=u.heap.size) (x:=.bool (dN c)) (y:=.slice a3 (ws (dX c)).length c3) (z:=.int .i64 (dE c)) kS.o.1 (fo LT.o.1)) (oF (g:=u.heap.size) (x:=.bool (dN c)) (y:=.slice a3 (ws (dX c)).length c3) (z:=.int .i64 (dE c)) kS.o.2.1 (fo LT.o.2.1)) (oF (g:=u.heap.size) (x:=.bool (dN c)) (y:=.slice a3 (ws (dX c)).length c3) (z:=.int .i64 (dE c)) kS.o.r2.1 (fo LT.o.r2)) (oF (g:=u.heap.size) (x:=.bool (dN c)) (y:=.slice a3 (ws (dX c)).length c3) (z:=.int .i64 (dE c)) kS.o.r3.1 (fo LT.o.r2)) (oF (g:=u.heap.size) (x:=.bool (dN c)) (y:=.slice a3 (ws (dX c)).length c3) (z:=.int .i64 (dE c)) kS.o.r4 (fo LT.o.r2));obtain⟨zp,zq,DZ,MZ⟩:=BD.o.2.1;obtain⟨z0,z1,z2,gQ,gT,gU⟩:=DZ.facts
     clear hb hd fV DZ MZ C))
 go_wp2;exact jT Tryz.results126 rfl BD.o.2.1 BD.o.1 (aC _) BD.o.r2
theorem yi{P:Prop}(h:P:=by
 have z1:=Bl.new (w.alloc (Obj.cells #[.slice (some ⟨gx,0,none⟩) n n,.bool (dN oS),.slice ax (ws (dX oS)).length cx,.int .i64 (dE oS)] 74)) 3 [.int .i64 (k:Nat)];rw[dD] at z1;rw[hW];exact z1.alloc _):P:=h
theorem ye{P:Prop}(h:P:=by
 have z2:=Lo.zero ((w.alloc (Obj.cells #[.slice (some ⟨gx,0,none⟩) n n,.bool (dN oS),.slice ax (ws (dX oS)).length cx,.int .i64 (dE oS)] 74)).alloc (Obj.cells #[.int .i64 (k:Nat)] 3));rw[dD,dD] at z2;rw[hW];exact z2):P:=h
theorem Gu (w:World) (n k gx:Nat) (ax:Option Addr) (cx:Nat) (oS oP:Option (Bool×Nat×Int))
 (HC:Hid (∀ u:World,Below w.heap.size w u->u.cell? ⟨w.heap.size,0,none⟩=some (.slice (some ⟨gx,0,none⟩) n n)->u.cell? ⟨w.heap.size+1,0,none⟩=some (.int .i64 (k:Nat))->Calls Tryz.prog 84 #[.int .i64 (n:Nat),.func (.func 126) #[] #[.pointer (some ⟨w.heap.size,0,none⟩),.pointer (some ⟨w.heap.size+1,0,none⟩)]] u fun r w'=>bI 0 w' r oP/\Below u.heap.size u w')) :
 Calls Tryz.prog 88 #[.agg #[.slice (some ⟨gx,0,none⟩) n n,.bool (dN oS),.slice ax (ws (dX oS)).length cx,.int .i64 (dE oS)],.int .i64 (k:Nat)] w fun r w'=>bI 0 w' r oP/\Below w.heap.size w w':=by
 obtain⟨W,hW⟩:=ah (((w.alloc (Obj.cells #[.slice (some ⟨gx,0,none⟩) n n,.bool (dN oS),.slice ax (ws (dX oS)).length cx,.int .i64 (dE oS)] 74)).alloc (Obj.cells #[.int .i64 (k:Nat)] 3)).alloc (Obj.cells zD3 25))
 have H0:Aside (Bl W w.heap.size 74 [.slice (some ⟨gx,0,none⟩) n n,.bool (dN oS),.slice ax (ws (dX oS)).length cx,.int .i64 (dE oS)]/\Bl W (w.heap.size+1) 3 [.int .i64 (k:Nat)]/\Lo W (w.heap.size+2) iY/\Below w.heap.size w W):=by
  have hbW:Below w.heap.size w W:=by rw[hW];exact((af _ _).trans ((af _ _).mono aQ)).trans ((af _ _).mono (by simp;omega))
  refine⟨?_,?_,?_,hbW⟩
  · exact zE
  · exact yi
  · exact ye
 have HW:=aA hW;clear hW;go_enter Tryz.func88,Tryz.ntmps88
 go_upto_region 1 with fail
 rw[<-HW.o];clear HW;have s0:=H0.o.1.cell 0 _ rfl;have hmf:∀ (fn:Fn) (first cap:Array Value) (w:World),(Instr.makeFunc fn first cap).run Tryz.prog w=.ok (.func fn first cap) w:=fun _ _ _ _=>rfl;have C:=hid (HC.o W H0.o.r3 (H0.o.1.cell 0 _ rfl) (H0.o.2.1.cell 0 _ rfl));go_wp2_with fail;refine C.o.mono ?_;rintro r u1 ⟨hd,hb⟩;obtain⟨a1,c1,rfl,hN1⟩:=hd.aL;have H1:=(dC (H0.o.r2.1.below hb) (H0.o.r3.trans (hb.mono H0.o.r3.size)) hN1);clear hb hd hN1 C s0 H0;obtain⟨p2,q2,D2,M2⟩:=H1.o.1;obtain⟨y0,y1,y2,dF,dG,dH⟩:=D2.facts;clear D2 M2;go_wp2;exact jT Tryz.results88 rfl H1.o.1 H1.o.2.1 ae H1.o.r2
theorem xY{f:Nat->Int}{n k:Nat}(bf:∀ i,i<n->Bd 2098 (f i))(hn:n<=65536)(hk:k<=4)(j:Nat)(hj:j<=n):Bd (2098*k+16) (tS (fun i=>f i^k) j) :=
 uk (fun i hi=>(bf i hi).pow k) hn j hj
theorem Tn{w:World}{v:Value}{n k:Nat}{f:Nat->Int}{oS:Option (Bool×Nat×Int)}(hn:n<=65536)(hk:k<=4)(hT:dU w)(bf:∀ i,i<n->Bd 2098 (f i))(h1:Rr w v n (fun i=>gV 1074 (f i)) oS) :
 Calls Tryz.prog 88 #[v,.int .i64 (k:Nat)] w fun r w'=>bI 0 w' r (gV (1074*k) (tS (fun i=>f i^k) n))/\Below w.heap.size w w':=by
 obtain⟨gx,ax,cx,rfl,hx,n1⟩:=h1;have hq:1074*k<=4296/\2098*k<=8392:=ae
 refine Gu w n k gx ax cx oS _ (hid fun u hu k0 k1=>?_);refine OY u n w.heap.size (w.heap.size+1) (fun i=>gV (1074*k) (f i^k)) (fun i=>gV (1074*k) (tS (fun i=>f i^k) i)) hn (hT.belows hu) (fun i hi=>dJ ae ae ((bf i hi).pow k)) (fun i hi=>dJ ae ae (xY bf hn hk i hi)) (fun i hi=>zK ae ae (xY bf hn hk i ae) (((bf i hi).pow k).mono ae)) (nP _).symm (hid fun i v hi hv=>?_);have hv2:Below w.heap.size w v:=hu.trans (hv.mono hu.size);exact O0 i n k w.heap.size (w.heap.size+1) gx (fun i=>gV 1074 (f i)) (gV (1074*k) (f i^k)) v hi hn (hid fun y a d hy hN=>ru ae aj aj (bf i hi) (hT.belows (hv2.trans (hy.mono hv2.size))) hN) (ni k0 hv) (ni k1 hv) (hx.below hv2)
end
end Go.Proofs.YtfmfhehbdfhnbaaGreatDoor
