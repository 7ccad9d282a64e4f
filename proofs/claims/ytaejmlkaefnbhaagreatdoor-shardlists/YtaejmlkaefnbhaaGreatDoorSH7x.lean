import Derived.Test.YtaejmlkaefnbhaaGreatDoorF9x
import Derived.Test.YtaejmlkaefnbhaaGreatDoorSN4x
import Derived.Test.YtaejmlkaefnbhaaGreatDoorBIeeex
import Derived.Deep.RegionHeld3
import Derived.Test.YtaejmlkaefnbhaaGreatDoorF3x
import Derived.Test.YtaejmlkaefnbhaaGreatDoorZ7x
import Derived.Test.YtaejmlkaefnbhaaGreatDoorD30x
set_option linter.unusedVariables false
set_option linter.unusedSimpArgs false
set_option maxHeartbeats 16000000
set_option maxRecDepth 20000
namespace Go.Proofs.YtaejmlkaefnbhaaGreatDoor
namespace J
end J
section
open Go Go.RowKit J
noncomputable def Er (s:Sp) (o q:Option (Bool×Nat×Int)) (less mode a b:Int):Nat×Int :=
 if lsB less=true then(if gN s mode a b=0 then(if (rA s a b).2=true then(9221120237041090560,0) else if iZ s<=less then(0,3) else vV (iZ s) (uF (dM (gV 0 (iZ s)) q) (dM o o)) less mode) else(0,gN s mode a b)) else(0,1)
theorem Qaj{P:Prop}(h:P:=by
 clear hz hf;go_wp2;refine aJ (v:=.tuple #[.float .f64 0,.int .i64 3]) (by simp[results,Tryz.results16,go_sem]) rfl ?_;exact⟨rfl,E2.o⟩):P:=h
theorem qS{P:Prop}(h:P:=by
 rw[if_pos rfl] at hz;obtain⟨rfl,rfl⟩:=fB hz;clear hz;go_enter Tryz.func16,Tryz.ntmps16
 go_upto_region 1 with fail
 rw[<-HW.o];go_wp2_with fail;refine(HA.o _ E0.o).mono ?_;rintro r v ⟨rfl,hb⟩;have E1:=au (E0.o.trans (hb.mono E0.o.size));clear hb p0 p1 HA HP HW E0;have y0:=(HC.o v E1.o).cell 0 _ rfl;have y1:=(HC.o v E1.o).cell 1 _ rfl;have y2:=(HC.o v E1.o).cell 2 _ rfl;have y3:=(HC.o v E1.o).cell 3 _ rfl;have y4:=(HC.o v E1.o).cell 4 _ rfl;have y5:=(HC.o v E1.o).cell 5 _ rfl;go_wp2_with fail;refine(jG.o _).mono ?_;rintro r v2 ⟨rfl,hb⟩;have E2:=au (E1.o.trans (hb.mono E1.o.size));clear hb jG y0 y1 y2 y3 y4 y5
 go_wp2_with (go_at_call 57;refine(HN.o _).mono ?_;rintro r v ⟨rfl,rfl⟩)
 refine aJ (v:=.tuple #[.float .f64 9221120237041090560,.int .i64 0]) (by simp[results,Tryz.results16,go_sem]) rfl ?_;exact⟨rfl,E2.o⟩):P:=h
theorem qv{P:Prop}(h:P:=by
 rw[if_neg h0] at hz;rw[if_neg h0,if_neg h0] at HA;obtain⟨rfl,rfl⟩:=fB hz;have t0:(e==0)=false:=by simp[h0]
 have t1:(e != 0)=true:=by simp[h0]
 have t2:decide (e=0)=false:=by simp[h0]
 clear hz;go_enter Tryz.func16,Tryz.ntmps16
 go_upto_region 1 with fail
 rw[<-HW.o];go_wp2_with fail;refine(HA.o _ E0.o).mono ?_;rintro r v ⟨rfl,hb⟩;have E1:=au (E0.o.trans (hb.mono E0.o.size));clear hb p0 p1 HA HP HW E0;have y0:=(HC.o v E1.o).cell 0 _ rfl;have y1:=(HC.o v E1.o).cell 1 _ rfl;have y2:=(HC.o v E1.o).cell 2 _ rfl;have y3:=(HC.o v E1.o).cell 3 _ rfl;have y4:=(HC.o v E1.o).cell 4 _ rfl;have y5:=(HC.o v E1.o).cell 5 _ rfl;go_wp2_with fail;refine(jG.o _).mono ?_;rintro r v2 ⟨rfl,hb⟩;have E2:=au (E1.o.trans (hb.mono E1.o.size));clear hb jG y0 y1 y2 y3 y4 y5;go_wp2;refine aJ (v:=.tuple #[.float .f64 0,.int .i64 e]) (by simp[results,Tryz.results16,go_sem]) rfl ?_;exact⟨rfl,E2.o⟩):P:=h
theorem V0{P:Prop}(h:P:=by
 clear hf hz;have pq:=HC.o v2.drew E2.o.drew;have kS:Aside (v2.drew.cell? ⟨g,6,none⟩=some (.bool (dN o))/\v2.drew.cell? ⟨g,7,none⟩=some (.slice a1 (ws (dX o)).length c1)/\v2.drew.cell? ⟨g,8,none⟩=some (.int .i64 (dE o))/\v2.drew.cell? ⟨g,9,none⟩=some (.bool (dN q))/\v2.drew.cell? ⟨g,10,none⟩=some (.slice a2 (ws (dX q)).length c2)/\v2.drew.cell? ⟨g,11,none⟩=some (.int .i64 (dE q))):=au ⟨pq.cell 6 _ rfl,pq.cell 7 _ rfl,pq.cell 8 _ rfl,pq.cell 9 _ rfl,pq.cell 10 _ rfl,pq.cell 11 _ rfl⟩;have CL:=hid (jf.o v2.drew E2.o.drew);clear pq jf;go_wp2_with fail
 go_region_held3 (fun w'=>w'.cell? ⟨g,6,none⟩=some (.bool (dN o))/\w'.cell? ⟨g,7,none⟩=some (.slice a1 (ws (dX o)).length c1)/\w'.cell? ⟨g,8,none⟩=some (.int .i64 (dE o))/\w'.cell? ⟨g,9,none⟩=some (.bool (dN q))/\w'.cell? ⟨g,10,none⟩=some (.slice a2 (ws (dX q)).length c2)/\w'.cell? ⟨g,11,none⟩=some (.int .i64 (dE q))) (with_reducible exact kS.o) (first
  | (go_at_call 58
     with_reducible refine CL.o.mono ?_
     rintro r v3 ⟨rfl,hb⟩;have E3:=au (E2.o.drew.trans (hb.mono E2.o.drew.size));have pq:=HC.o v3 E3.o;have kS:Aside (v3.cell? ⟨g,6,none⟩=some (.bool (dN o))/\v3.cell? ⟨g,7,none⟩=some (.slice a1 (ws (dX o)).length c1)/\v3.cell? ⟨g,8,none⟩=some (.int .i64 (dE o))/\v3.cell? ⟨g,9,none⟩=some (.bool (dN q))/\v3.cell? ⟨g,10,none⟩=some (.slice a2 (ws (dX q)).length c2)/\v3.cell? ⟨g,11,none⟩=some (.int .i64 (dE q))):=au ⟨pq.cell 6 _ rfl,pq.cell 7 _ rfl,pq.cell 8 _ rfl,pq.cell 9 _ rfl,pq.cell 10 _ rfl,pq.cell 11 _ rfl⟩
     clear hb pq CL))
 go_wp2;refine aJ (v:=.tuple #[.float .f64 X,.int .i64 E]) (by simp[results,Tryz.results16,go_sem]) rfl ?_;exact⟨rfl,E3.o⟩):P:=h
theorem Var21{w:World}{g:Nat}{s:Sp}{o q:Option (Bool×Nat×Int)}{lo hi:Nat}(H:fe w g s o q lo hi)(hs:s.sm)(F:Fm o)(G:Fm q)(hT:bO w)(less mode a b:Int)(z:Nat×Int)(hz:Er s o q less mode a b=z) :
 Calls Tryz.prog 16 #[.pointer (some ⟨g,0,none⟩),.int .i64 less,.int .i64 mode,.agg #[.int .i64 a,.int .i64 b]] w fun r w'=>r=.returned (.tuple #[.float .f64 z.1,.int .i64 z.2])/\Below w.heap.size w w':=by
 obtain⟨X,E⟩:=z;simp only;have HA:=hid (fun(u:World) (hu:Below w.heap.size w u)=>Em (H.aD hu) hs mode a b);have jG:=hid (fun u:World=>mQ s hs u);have HN:=hid (fun u:World=>B.wM u);have hbf:-9223372036854775808<=iZ s/\iZ s<=9223372036854775807:=by have:=hs.n0;have:=hs.u0;have:=hs.d0;have:=hs.m0;have:=hs.p0;have:=hs.al;have:=hs.le;unfold iZ;omega
 obtain⟨a1,c1,a2,c2,k,n1,n2⟩:=H;have HC:Aside (∀ u:World,Below w.heap.size w u->Bl u g 79 (uE s o q a1 c1 a2 c2 lo hi)):=au fun u hu=>k.below hu k.lt
 have jf:Hid (∀ u:World,Below w.heap.size w u->Calls Tryz.prog 58 #[.int .i64 (iZ s),.agg #[.bool (dN o),.slice a1 (ws (dX o)).length c1,.int .i64 (dE o)],.agg #[.bool (dN q),.slice a2 (ws (dX q)).length c2,.int .i64 (dE q)],.int .i64 less,.int .i64 mode] u fun r w'=>r=.returned (.tuple #[.float .f64 (vV (iZ s) (uF (dM (gV 0 (iZ s)) q) (dM o o)) less mode).1,.int .i64 (vV (iZ s) (uF (dM (gV 0 (iZ s)) q) (dM o o)) less mode).2])/\Below u.heap.size u w'):=by
  intro u hu;exact Of14 (iZ s) (dN o) (dN q) (dE o) (dE q) less mode (F.a12 (n1.below hu)) (G.a12 (n2.below hu)) (hT.belows hu) hbf F.o7 G.o7 _ (by rw[aC,aC,F.re,G.re])
 unfold Er at hz;obtain⟨e,he⟩:=ah (gN s mode a b);rw[<-he] at HA hz;obtain⟨⟨vx,vc⟩,hv⟩:∃ v,v=rA s a b:=⟨_,rfl⟩;rw[<-hv] at HA hz;simp only at HA hz;obtain⟨fl,hfl⟩:=ah (iZ s);rw[show s.a-s.n-s.u-s.d=fl from hfl.symm] at jG;rw[<-hfl] at hz jf;obtain⟨W,hW⟩:=ah (w.alloc (Obj.cells #[.int .i64 a,.int .i64 b] 34));have E0:Aside (Below w.heap.size w W):=by rw[hW];exact ak _ _
 have HP:Aside (Bl W w.heap.size 34 [.int .i64 a,.int .i64 b]):=by rw[hW];exact Bl.new _ _ [_,_]
 have p0:=HP.o.cell 0 _ rfl;have p1:=HP.o.cell 1 _ rfl;have HW:=au hW;obtain⟨n,u,d,m,p,l⟩:=s;unfold Sp.agg at jG;simp only at HC jG;clear hW k n1 n2 hs he hv hfl hT F G hbf
 cases hls:lsB less
 case false =>
  rw[hls,if_neg aA] at hz;obtain⟨rfl,rfl⟩:=fB hz;unfold lsB at hls;simp only[Bool.or_eq_false_iff,decide_eq_false_iff_not] at hls;have t0:(less != 0)=true:=by simp[hls.1]
  have t1:(less != 1)=true:=by simp[hls.2]
  have t2:(less==0)=false:=by simp[hls.1]
  have t3:(less==1)=false:=by simp[hls.2]
  clear hz hls jf HA jG HN p0 p1;go_enter Tryz.func16,Tryz.ntmps16
  go_upto_region 1 with fail
  rw[<-HW.o];go_wp2;refine aJ (v:=.tuple #[.float .f64 0,.int .i64 1]) (by simp[results,Tryz.results16,go_sem]) rfl ?_;exact⟨rfl,E0.o⟩
 case true =>
 rw[hls,if_pos rfl] at hz;have hls2:=M5 hls;clear hls;rcases hls2 with rfl|rfl
 · skip
   by_cases h0:e=0
   case neg =>
    exact qv
   case pos =>
   rw[if_pos h0] at hz;rw[if_pos h0,if_pos h0] at HA;subst h0
   cases vc
   case true =>
    exact qS
   case false =>
   rw[if_neg aA] at hz;go_enter Tryz.func16,Tryz.ntmps16
   go_upto_region 1 with fail
   rw[<-HW.o];go_wp2_with fail;refine(HA.o _ E0.o).mono ?_;rintro r v ⟨rfl,hb⟩;have E1:=au (E0.o.trans (hb.mono E0.o.size));clear hb p0 p1 HA HP HW E0;have y0:=(HC.o v E1.o).cell 0 _ rfl;have y1:=(HC.o v E1.o).cell 1 _ rfl;have y2:=(HC.o v E1.o).cell 2 _ rfl;have y3:=(HC.o v E1.o).cell 3 _ rfl;have y4:=(HC.o v E1.o).cell 4 _ rfl;have y5:=(HC.o v E1.o).cell 5 _ rfl;go_wp2_with fail;refine(jG.o _).mono ?_;rintro r v2 ⟨rfl,hb⟩;have E2:=au (E1.o.trans (hb.mono E1.o.size));clear hb jG y0 y1 y2 y3 y4 y5
   by_cases hf:fl<=0
   case pos =>
    rw[if_pos hf] at hz;obtain⟨rfl,rfl⟩:=fB hz;have t0:decide (fl<=0)=true:=decide_eq_true hf;exact Qaj
   case neg =>
   rw[if_neg hf] at hz;rw[hz] at jf;simp only at jf;have t0:decide (fl<=0)=false:=decide_eq_false hf;exact V0
 · skip
   by_cases h0:e=0
   case neg =>
    exact qv
   case pos =>
   rw[if_pos h0] at hz;rw[if_pos h0,if_pos h0] at HA;subst h0
   cases vc
   case true =>
    exact qS
   case false =>
   rw[if_neg aA] at hz;go_enter Tryz.func16,Tryz.ntmps16
   go_upto_region 1 with fail
   rw[<-HW.o];go_wp2_with fail;refine(HA.o _ E0.o).mono ?_;rintro r v ⟨rfl,hb⟩;have E1:=au (E0.o.trans (hb.mono E0.o.size));clear hb p0 p1 HA HP HW E0;have y0:=(HC.o v E1.o).cell 0 _ rfl;have y1:=(HC.o v E1.o).cell 1 _ rfl;have y2:=(HC.o v E1.o).cell 2 _ rfl;have y3:=(HC.o v E1.o).cell 3 _ rfl;have y4:=(HC.o v E1.o).cell 4 _ rfl;have y5:=(HC.o v E1.o).cell 5 _ rfl;go_wp2_with fail;refine(jG.o _).mono ?_;rintro r v2 ⟨rfl,hb⟩;have E2:=au (E1.o.trans (hb.mono E1.o.size));clear hb jG y0 y1 y2 y3 y4 y5
   by_cases hf:fl<=1
   case pos =>
    rw[if_pos hf] at hz;obtain⟨rfl,rfl⟩:=fB hz;have t0:decide (fl<=1)=true:=decide_eq_true hf;exact Qaj
   case neg =>
   rw[if_neg hf] at hz;rw[hz] at jf;simp only at jf;have t0:decide (fl<=1)=false:=decide_eq_false hf;exact V0
def BM(s:Sp)(x:Nat):Nat×Int:=if s.a=0 then(0,3) else if s.n<s.a then(x,0) else(9221120237041090560,0)
theorem YY{w:World}{g:Nat}{s:Sp}{o q:Option (Bool×Nat×Int)}{lo hi:Nat}(H:fe w g s o q lo hi)(x:Nat)(z:Nat×Int)(hz:BM s x=z) :
 Calls Tryz.prog 71 #[.pointer (some ⟨g,0,none⟩),.float .f64 x] w fun r w'=>r=.returned (.tuple #[.float .f64 z.1,.int .i64 z.2])/\Below w.heap.size w w':=by
 obtain⟨X,E⟩:=z;simp only;have HR:=hid (ll H);have HN:=hid (fun u:World=>B.wM u);obtain⟨a1,c1,a2,c2,k,n1,n2⟩:=H;have y5:w.cell? ⟨g,5,none⟩=some (.int .i64 s.a):=k.cell 5 _ rfl;unfold BM at hz;obtain⟨al,hal⟩:=ah (s.a);obtain⟨nn,hnn⟩:=ah (s.n);rw[<-hal] at y5;rw[<-hal,<-hnn] at hz HR;clear k n1 n2 hal hnn
 by_cases h0:al=0
 · rw[if_pos h0] at hz;obtain⟨rfl,rfl⟩:=fB hz;have t0:(al==0)=true:=by simp[h0]
   clear hz h0 HR;go_enter Tryz.func71,Tryz.ntmps71;go_wp2;refine aJ (v:=.tuple #[.float .f64 0,.int .i64 3]) (by simp[results,Tryz.results71,go_sem]) rfl ?_;exact⟨rfl,aG _ _⟩
 · rw[if_neg h0] at hz;have t0:(al==0)=false:=by simp[h0]
   by_cases h1:nn<al
   · rw[if_pos h1] at hz;rw[decide_eq_true h1] at HR;obtain⟨rfl,rfl⟩:=fB hz;clear hz h0 h1;go_enter Tryz.func71,Tryz.ntmps71;go_wp2_with fail;refine HR.o.mono ?_;rintro r v ⟨rfl,hb⟩;have E1:=au hb;clear hb;go_wp2;refine aJ (v:=.tuple #[.float .f64 x,.int .i64 0]) (by simp[results,Tryz.results71,go_sem]) rfl ?_;exact⟨rfl,E1.o⟩
   · rw[if_neg h1] at hz;rw[decide_eq_false h1] at HR;obtain⟨rfl,rfl⟩:=fB hz;clear hz h0 h1;go_enter Tryz.func71,Tryz.ntmps71;go_wp2_with fail;refine HR.o.mono ?_;rintro r v ⟨rfl,hb⟩;have E1:=au hb;clear hb
     go_wp2_with (go_at_call 57;refine(HN.o _).mono ?_;rintro r v ⟨rfl,rfl⟩)
     refine aJ (v:=.tuple #[.float .f64 9221120237041090560,.int .i64 0]) (by simp[results,Tryz.results71,go_sem]) rfl ?_;exact⟨rfl,E1.o⟩
theorem XO{w:World}{g:Nat}{s:Sp}{o q:Option (Bool×Nat×Int)}{lo hi:Nat}(H:fe w g s o q lo hi)(z:Nat×Int)(hz:BM s lo=z) :
 Calls Tryz.prog 22 #[.pointer (some ⟨g,0,none⟩)] w fun r w'=>r=.returned (.tuple #[.float .f64 z.1,.int .i64 z.2])/\Below w.heap.size w w':=by
 have HE:=hid (YY H lo z hz);obtain⟨X,E⟩:=z;simp only at HE |-;obtain⟨a1,c1,a2,c2,k,n1,n2⟩:=H;have y:w.cell? ⟨g,12,none⟩=some (.float .f64 lo):=k.cell 12 _ rfl;clear k n1 n2 hz;go_enter Tryz.func22,Tryz.ntmps22;go_wp2_with fail;refine HE.o.mono ?_;rintro r v ⟨rfl,hb⟩;have E1:=au hb;clear hb;go_wp2;refine aJ (v:=.tuple #[.float .f64 X,.int .i64 E]) (by simp[results,Tryz.results22,go_sem]) rfl ?_;exact⟨rfl,E1.o⟩
theorem Most21{w:World}{g:Nat}{s:Sp}{o q:Option (Bool×Nat×Int)}{lo hi:Nat}(H:fe w g s o q lo hi)(z:Nat×Int)(hz:BM s hi=z) :
 Calls Tryz.prog 23 #[.pointer (some ⟨g,0,none⟩)] w fun r w'=>r=.returned (.tuple #[.float .f64 z.1,.int .i64 z.2])/\Below w.heap.size w w':=by
 have HE:=hid (YY H hi z hz);obtain⟨X,E⟩:=z;simp only at HE |-;obtain⟨a1,c1,a2,c2,k,n1,n2⟩:=H;have y:w.cell? ⟨g,13,none⟩=some (.float .f64 hi):=k.cell 13 _ rfl;clear k n1 n2 hz;go_enter Tryz.func23,Tryz.ntmps23;go_wp2_with fail;refine HE.o.mono ?_;rintro r v ⟨rfl,hb⟩;have E1:=au hb;clear hb;go_wp2;refine aJ (v:=.tuple #[.float .f64 X,.int .i64 E]) (by simp[results,Tryz.results23,go_sem]) rfl ?_;exact⟨rfl,E1.o⟩
end
section
open Go Go.RowKit J
open Go.Proofs.YtaejmlkaefnbhaaGreatDoor.B (bu aM)
attribute [local go_sem] bu aM
def cS(xs ys:List Nat):Int:=(xs.length:Int)*tS (fun i=>fX xs i*fX ys i) xs.length-sX xs*sX ys
noncomputable def Es (rd:Option (Bool×Nat×Int)->Option (Bool×Nat×Int)->Int->Nat×Int) (xs:List Nat) (less mode pa pb:Int):Nat×Int :=
 if QJ mode&&lsB less then
  if Ps.dZ pa pb xs=0 then
   if crB pa pb xs then(9221120237041090560,0)
   else if ((Ps.fin xs).length:Int)<=less then(0,3)
   else rd (gV 2148 (cS (Ps.fin xs) (Ps.fin xs))) (gV 0 (((Ps.fin xs).length:Int)*(((Ps.fin xs).length:Int)-less))) mode
  else(0,Ps.dZ pa pb xs)
 else(0,1)
theorem cS_bd{xs ys:List Nat}(hx:eD xs)(fx:∀ x ∈ xs,iY x)(hy:eD ys)(fy:∀ x ∈ ys,iY x)(hl:xs.length<=65536)(he:xs.length=ys.length):Bd 4229 (cS xs ys):=by
 have bP:=uI (f:=fX xs) (g:=fX ys) (n:=xs.length) (fun i hi=>sO hx fx i hi) (fun i hi=>sO hy fy i af) hl xs.length (aB _);have b1:=vR hx fx hl xs.length (aB _);have b2:=vR hy fy af ys.length (aB _);exact Bd.sub (m:=4228) (((Bd.nat (k:=16) (n:=xs.length) af).mul bP).mono aA) ((b1.mul b2).mono aA)
theorem sh_bd{n:Nat}{less:Int}(hn:n<=1099511627776)(h0:0<=less)(h1:less<=1):Bd 82 ((n:Int)*((n:Int)-less)) :=
 (Bd.mul (a:=41) (b:=41) (Bd.nat af) (by unfold Bd;omega))
theorem Km(xs:List Nat)(a:Option Addr)(n c:Nat)(less mode pa pb:Int)(w:World)(hn:n=xs.length)(hF:Fs w.heap.size w a xs)(hW:eD xs)(hT:bO w)(hl:n<=35184372088832)(z:Nat×Int)(hz:Es wE xs less mode pa pb=z) :
 Calls Tryz.prog 69 #[.slice a n c,.int .i64 less,.int .i64 mode,.agg #[.int .i64 pa,.int .i64 pb],.func (.func 70) #[] #[]] w fun r w'=>r=.returned (.tuple #[.float .f64 z.1,.int .i64 z.2])/\Below w.heap.size w w':=by
 obtain⟨X,E⟩:=z;simp only;obtain⟨W,nS⟩:=ah (w.alloc (Obj.cells #[.int .i64 pa,.int .i64 pb] 34))
 have B0:Aside (Bl W w.heap.size 34 [.int .i64 pa,.int .i64 pb]/\Below w.heap.size w W):=by
  rw[nS];exact⟨Bl.new _ 34 [_,_],ak _ _⟩
 have pg:=au nS;clear nS;unfold Es at hz
 cases hm:QJ mode with
 | false =>
   rw[hm,vg,if_neg aA] at hz;obtain⟨rfl,rfl⟩:=fB hz;clear hz hn hF hW hT;go_enter Tryz.func69,Tryz.ntmps69
   go_upto_region 1 with fail
   rw[<-pg.o];clear pg;have C:=hid (tC mode W);rw[hm] at C;go_wp2_with fail;refine C.o.mono ?_;rintro r v ⟨rfl,hv⟩;rw[hv];clear hv v C;go_wp2;exact aJ (v:=.tuple #[.float .f64 0,.int .i64 1]) (by simp[results,Tryz.results69,go_sem]) rfl ⟨rfl,B0.o.2⟩
 | true =>
 cases hs:lsB less with
 | false =>
   rw[hm,hs,vk,if_neg aA] at hz;obtain⟨rfl,rfl⟩:=fB hz;clear hz hn hF hW hT;go_enter Tryz.func69,Tryz.ntmps69
   go_upto_region 1 with fail
   rw[<-pg.o];clear pg;have C:=hid (tC mode W);rw[hm] at C;go_wp2_with fail;refine C.o.mono ?_;rintro r v ⟨rfl,hv⟩;rw[hv];clear hv v C;have C:=hid (zk less W);rw[hs] at C;go_wp2_with fail;refine C.o.mono ?_;rintro r v ⟨rfl,hv⟩;rw[hv];clear hv v C;go_wp2;exact aJ (v:=.tuple #[.float .f64 0,.int .i64 1]) (by simp[results,Tryz.results69,go_sem]) rfl ⟨rfl,B0.o.2⟩
 | true =>
   rw[hm,hs,vk,if_pos rfl] at hz;have HS:=hid (Sift14 xs a n c pa pb W hn hl ((hF.below B0.o.2).mono B0.o.2.size) hW);have HX:=rG hn hF hW hT (md_ok hm) (M5 hs);have HZ:=au hz;obtain⟨es,hes⟩:∃ e,Ps.dZ pa pb xs=e:=⟨_,rfl⟩;rw[hes] at HS;have Vg:=au hes;have p0:=B0.o.1.cell 0 _ rfl;have p1:=B0.o.1.cell 1 _ rfl;clear hz hn hF hW hT hl hes;go_enter Tryz.func69,Tryz.ntmps69
   go_upto_region 1 with fail
   rw[<-pg.o];clear pg;have C:=hid (tC mode W);rw[hm] at C;go_wp2_with fail;refine C.o.mono ?_;rintro r v ⟨rfl,hv⟩;rw[hv];clear hv v C;have C:=hid (zk less W);rw[hs] at C;go_wp2_with fail;refine C.o.mono ?_;rintro r v ⟨rfl,hv⟩;rw[hv];clear hv v C;go_wp2_with fail;refine HS.o.mono ?_;rintro r v ⟨hr,hb⟩;have B1:=(aT (B0.o.1.below hb B0.o.1.lt) (B0.o.2.trans (hb.mono B0.o.2.size)));clear hb HS p0 p1 B0;rcases hr with ⟨he,a',c',rfl⟩|⟨he,a',c',rfl,hF'⟩
   · have h1:(es==0)=false:=by simp[he]
     have hz:=HZ.o;rw[if_neg (by rw[Vg.o];exact he),Vg.o] at hz;obtain⟨rfl,rfl⟩:=fB hz;have BE:Aside (Below w.heap.size w (v.alloc (Obj.cells #[.int .i64 0,.int .i64 0,.int .i64 0,.int .i64 0,.int .i64 0,.int .i64 0] 73))):=B1.o.2.trans ((ak _ _).mono B1.o.2.size);clear hz HZ Vg B1 he;go_wp2;exact aJ (v:=.tuple #[.float .f64 0,.int .i64 es]) (by simp[results,Tryz.results69,go_sem]) rfl ⟨rfl,BE.o⟩
   · subst he;have HV:=hid (fun u:World=>P7 Vg.o u);have hz:=HZ.o;rw[if_pos Vg.o] at hz;obtain⟨s5,hs5⟩:∃ s:Int,(Ps.cn 5 xs:Nat)=s:=⟨_,rfl⟩;obtain⟨s3,hs3⟩:∃ s:Int,(Ps.cn 3 xs:Nat)=s:=⟨_,rfl⟩;obtain⟨s4,hs4⟩:∃ s:Int,(Ps.cn 4 xs:Nat)=s:=⟨_,rfl⟩;obtain⟨s1,hs1⟩:∃ s:Int,(Ps.cn 1 xs:Nat)=s:=⟨_,rfl⟩;obtain⟨s2,hs2⟩:∃ s:Int,(Ps.cn 2 xs:Nat)=s:=⟨_,rfl⟩;obtain⟨sl,hsl⟩:∃ s:Int,(xs.length:Nat)=s:=⟨_,rfl⟩;rw[hs5,hs3,hs4,hs1,hs2,hsl] at HV |-;clear hs5 hs3 hs4 hs1 hs2 hsl;obtain⟨fl,hfl⟩:∃ f,Ps.fin xs=f:=⟨_,rfl⟩;rw[hfl] at hF' hz |-
     have PF:Aside (eD fl/\(∀ x ∈ fl,iY x)/\fl.length<=65536/\PL fl=0):=by
      rw[<-hfl];exact⟨XI HX.o.r2.1,BK HX.o.r2.1,BL Vg.o,Uu HX.o.r2.1 Vg.o⟩
     obtain⟨m,U8⟩:∃ m,fl.length=m:=⟨_,rfl⟩;obtain⟨U,hU⟩:=ah (v.alloc (Obj.cells #[.int .i64 s5,.int .i64 s3,.int .i64 s4,.int .i64 s1,.int .i64 s2,.int .i64 sl] 73));obtain⟨gs,hgs⟩:=ah (v.heap.size)
     have B2:Aside (Bl U gs 73 [.int .i64 s5,.int .i64 s3,.int .i64 s4,.int .i64 s1,.int .i64 s2,.int .i64 sl]/\Bl U w.heap.size 34 [.int .i64 pa,.int .i64 pb]/\Below w.heap.size w U/\Fs U.heap.size U a' fl):=by
      rw[hU,hgs];exact⟨Bl.new _ 73 [_,_,_,_,_,_],B1.o.1.alloc _,B1.o.2.trans ((ak _ _).mono B1.o.2.size),(hF'.below (ak _ _)).mono aL⟩
     rw[U8] at hz |-;have YZ:=au U8;have HU:=(aT hU hgs);obtain⟨cr,hcr⟩:∃ b,crB pa pb xs=b:=⟨_,rfl⟩;rw[hcr] at HV hz;clear hU hgs hF' B1 hfl Vg HZ U8 hcr
     go_upto_region 6 with fail
     rw[<-HU.o.1,<-HU.o.2];clear HU;have q0:=B2.o.1.cell 0 _ rfl;have q1:=B2.o.1.cell 1 _ rfl;have q2:=B2.o.1.cell 2 _ rfl;have q3:=B2.o.1.cell 3 _ rfl;have q4:=B2.o.1.cell 4 _ rfl;have q5:=B2.o.1.cell 5 _ rfl;have p0:=B2.o.2.1.cell 0 _ rfl;have p1:=B2.o.2.1.cell 1 _ rfl;go_wp2_with fail;refine(HV.o _).mono ?_;rintro r u ⟨⟨x,rfl⟩,hb⟩;have B3:=(aT (B2.o.r2.1.trans (hb.mono B2.o.r2.1.size)) ((B2.o.r3.below hb).mono hb.size));clear hb HV q0 q1 q2 q3 q4 q5 p0 p1 B2
     cases cr with
     | true =>
       rw[if_pos rfl] at hz;obtain⟨rfl,rfl⟩:=fB hz;clear hz PF YZ;go_wp2;exact aJ (v:=.tuple #[.float .f64 9221120237041090560,.int .i64 0]) (by simp[results,Tryz.results69,go_sem]) rfl ⟨rfl,B3.o.1⟩
     | false =>
       rw[if_neg aA] at hz;have HZ:=au hz;have HE:=hid (Xe fl a' m c' u YZ.o.symm B3.o.2 PF.o.1 (HX.o.r3.1.belows B3.o.1) (by have:=PF.o.r2.1;have:=YZ.o;omega));rw[PF.o.r3] at HE;clear hz;go_wp2_with fail;refine HE.o.mono ?_;rintro r u2 ⟨hr,hb⟩;rcases hr with ⟨hr,_⟩|⟨_,v2,rfl,hR⟩
       · exact absurd rfl hr
       obtain⟨gA,p1,q1,rfl,hD,hN⟩:=hR;obtain⟨oS,hoS⟩:=ah (gV 1074 (sX fl));rw[<-hoS] at hN |-;obtain⟨V,hV⟩:=ah (u2.alloc (Obj.cells #[.slice (some ⟨gA,0,none⟩) m m,.bool (dN oS),.slice p1 (ws (dX oS)).length q1,.int .i64 (dE oS)] 165));obtain⟨g7,hg7⟩:=ah (u2.heap.size)
       have B4:Aside (Bl V g7 165 [.slice (some ⟨gA,0,none⟩) m m,.bool (dN oS),.slice p1 (ws (dX oS)).length q1,.int .i64 (dE oS)]/\Below w.heap.size w V/\Dr V gA m m (fun i=>gV 1074 (fX fl i))/\Nt 0 V (.slice p1 (ws (dX oS)).length q1) (dX oS)):=by
        rw[hV,hg7];have b3:=B3.o.1.trans (hb.mono B3.o.1.size);exact⟨Bl.new _ 165 [_,_,_,_],b3.trans ((ak _ _).mono b3.size),hD.below (ak _ _),hN.below (ak _ _)⟩
       have HV:=(aT hV hg7);have HOS:=au hoS;clear hV hg7 hb hD hN HE B3 hoS
       go_upto_region 10 with fail
       rw[<-HV.o.1,<-HV.o.2];clear HV;have s0:=B4.o.1.cell 0 _ rfl
       by_cases hle:(m:Int)<=less
       · have dle:decide ((m:Int)<=less)=true:=decide_eq_true hle;have hz:=HZ.o;rw[if_pos hle] at hz;obtain⟨rfl,rfl⟩:=fB hz;clear hz HZ;go_wp2;exact aJ (v:=.tuple #[.float .f64 0,.int .i64 3]) (by simp[results,Tryz.results69,go_sem]) rfl ⟨rfl,B4.o.2.1⟩
       · have dle:decide ((m:Int)<=less)=false:=decide_eq_false hle;have hz:=HZ.o;rw[if_neg hle] at hz;have m6:m<=65536:=by have:=PF.o.r2.1;have:=YZ.o;omega
         have YX:0<=less/\less<=1:=by have:=HX.o.r5;omega
         obtain⟨oV,hoV⟩:=ah (gV 2148 (cS fl fl));obtain⟨oD,XN⟩:=ah (gV 0 ((m:Int)*((m:Int)-less)));rw[<-hoV,<-XN] at hz;have FV:Fm oV:=by rw[hoV];exact cu aA aA (cS_bd PF.o.1 PF.o.2.1 PF.o.1 PF.o.2.1 PF.o.r2.1 rfl)
         have FD:Fm oD:=by rw[XN];exact cu aA aA (sh_bd af YX.1 YX.2)
         have Xb:Hid (∀ u:World,Below V.heap.size V u->Calls Tryz.prog 130 #[.agg #[.slice (some ⟨gA,0,none⟩) m m,.bool (dN oS),.slice p1 (ws (dX oS)).length q1,.int .i64 (dE oS)],.agg #[.slice (some ⟨gA,0,none⟩) m m,.bool (dN oS),.slice p1 (ws (dX oS)).length q1,.int .i64 (dE oS)]] u fun r w'=>fD 0 w' r oV/\Below u.heap.size u w'):=fun u hu=>by
          have hR:Rr u (.agg #[.slice (some ⟨gA,0,none⟩) m m,.bool (dN oS),.slice p1 (ws (dX oS)).length q1,.int .i64 (dE oS)]) m (fun i=>gV 1074 (fX fl i)) (gV 1074 (sX fl)):=by
           rw[HOS.o];exact⟨gA,p1,q1,rfl,B4.o.r2.1.below hu,by have:=B4.o.r3.below hu;rw[HOS.o] at this;exact this⟩
          have:=Us (f:=fX fl) (g:=fX fl) (S:=sX fl) (T:=sX fl) m6 (HX.o.r3.1.belows (B4.o.2.1.trans (hu.mono B4.o.2.1.size))) (fun i hi=>sO PF.o.1 PF.o.2.1 i (by rw[YZ.o];exact hi)) (fun i hi=>sO PF.o.1 PF.o.2.1 i (by rw[YZ.o];exact hi)) (vR PF.o.1 PF.o.2.1 PF.o.r2.1 _ (aB _)) (vR PF.o.1 PF.o.2.1 PF.o.r2.1 _ (aB _)) hR hR;rw[hoV];unfold cS;rw[YZ.o];exact this
         have uj:Hid (∀ u:World,bO u->Calls Tryz.prog 118 #[.int .i64 (m:Nat),.int .i64 less] u fun r w'=>fD 0 w' r oD/\Below u.heap.size u w'):=fun u hu=>by
          rw[XN];exact Hu m less u hu af YX.1 YX.2 af
         have HR:Hid (∀ (u:World) (a b:Option Addr) (ca cb:Nat),bO u->Nt 0 u (.slice a (ws (dX oV)).length ca) (dX oV)->Nt 0 u (.slice b (ws (dX oD)).length cb) (dX oD)->Calls Tryz.prog 70 #[.agg #[.bool (dN oV),.slice a (ws (dX oV)).length ca,.int .i64 (dE oV),.bool (dN oD),.slice b (ws (dX oD)).length cb,.int .i64 (dE oD)],.int .i64 mode] u fun r w'=>r=.returned (.tuple #[.float .f64 X,.int .i64 E])/\Below u.heap.size u w'):=fun u a b ca cb LZ n1 n2=>by
          have:=Quot14 mode FV FD n1 n2 LZ;rw[hz] at this;exact this
         have FF:=(aT FV FD);have HT:=au HX.o.r3.1;have hdr:=(aG V.heap.size V).drew;have BD:=(aT (B4.o.1.below hdr B4.o.1.lt) (B4.o.2.1.trans (hdr.mono B4.o.2.1.size)));have C1:=hid (Xb.o V.drew hdr);clear hz HZ hoV XN FV FD hdr YZ m6 YX PF HX Xb;have kS:Aside (V.drew.cell? ⟨g7,0,none⟩=some (.slice (some ⟨gA,0,none⟩) m m)/\V.drew.cell? ⟨g7,1,none⟩=some (.bool (dN oS))/\V.drew.cell? ⟨g7,2,none⟩=some (.slice p1 (ws (dX oS)).length q1)/\V.drew.cell? ⟨g7,3,none⟩=some (.int .i64 (dE oS))):=⟨BD.o.1.cell 0 _ rfl,BD.o.1.cell 1 _ rfl,BD.o.1.cell 2 _ rfl,BD.o.1.cell 3 _ rfl⟩;go_wp2_with fail;clear s0 B4
         go_region_held3 (fun w'=>w'.cell? ⟨g7,0,none⟩=some (.slice (some ⟨gA,0,none⟩) m m)/\w'.cell? ⟨g7,1,none⟩=some (.bool (dN oS))/\w'.cell? ⟨g7,2,none⟩=some (.slice p1 (ws (dX oS)).length q1)/\w'.cell? ⟨g7,3,none⟩=some (.int .i64 (dE oS))) (with_reducible exact kS.o) (first
          | (go_at_call 130
             with_reducible refine C1.o.mono ?_
             rintro r u3 ⟨hd,hb⟩;obtain⟨a3,c3,rfl,nO⟩:=hd.dR;have BD:=bM (BD.o.1.below hb BD.o.1.lt) (BD.o.2.trans (hb.mono BD.o.2.size)) nO;have kS:=au (ck4 hb kS.o);have C2:=hid (uj.o u3 (HT.o.belows BD.o.2.1))
             clear hb hd nO C1)
          | (go_at_call 118
             with_reducible refine C2.o.mono ?_
             rintro r u4 ⟨hd,hb⟩;obtain⟨a4,c4,rfl,oz⟩:=hd.dR;have BE:=bM (BD.o.2.1.trans (hb.mono BD.o.2.1.size)) (BD.o.r2.below hb) oz;have kS:=au (ck4 hb kS.o);have C3:=hid (HR.o u4 a3 a4 c3 c4 (HT.o.belows BE.o.1) BE.o.2.1 BE.o.r2)
             clear hb hd oz C2)
          | (go_at_call 70
             with_reducible refine C3.o.mono ?_
             rintro r u5 ⟨rfl,hb⟩;have BF:=au (BE.o.1.trans (hb.mono BE.o.1.size));have kS:=au (ck4 hb kS.o)
             clear hb C3))
         go_wp2;exact aJ (v:=.tuple #[.float .f64 X,.int .i64 E]) (by simp[results,Tryz.results69,go_sem]) rfl ⟨rfl,BF.o⟩
theorem Var14(xs:List Nat)(a:Option Addr)(n c:Nat)(less mode pa pb:Int)(w:World)(hn:n=xs.length)(hF:Fs w.heap.size w a xs)(hW:eD xs)(hT:bO w)(hl:n<=35184372088832)(z:Nat×Int)(hz:Es wE xs less mode pa pb=z) :
 Calls Tryz.prog 19 #[.slice a n c,.int .i64 less,.int .i64 mode,.agg #[.int .i64 pa,.int .i64 pb]] w fun r w'=>r=.returned (.tuple #[.float .f64 z.1,.int .i64 z.2])/\Below w.heap.size w w':=by
 obtain⟨W,nS⟩:=ah (w.alloc (Obj.cells #[.int .i64 pa,.int .i64 pb] 34))
 have B0:Aside (Bl W w.heap.size 34 [.int .i64 pa,.int .i64 pb]/\Below w.heap.size w W):=by
  rw[nS];exact⟨Bl.new _ 34 [_,_],ak _ _⟩
 have C:=hid (Km xs a n c less mode pa pb W hn ((hF.below B0.o.2).mono B0.o.2.size) hW (hT.belows B0.o.2) hl z hz);have pg:=au nS;obtain⟨X,E⟩:=z;clear nS hn hF hW hT hl hz;simp only at C |-;go_enter Tryz.func19,Tryz.ntmps19
 go_upto_region 1 with fail
 rw[<-pg.o];clear pg;have p0:=B0.o.1.cell 0 _ rfl;have p1:=B0.o.1.cell 1 _ rfl;go_wp2_with fail;refine C.o.mono ?_;rintro r v ⟨rfl,hb⟩;have B1:=au (B0.o.2.trans (hb.mono B0.o.2.size));clear hb C p0 p1;go_wp2;exact aJ (v:=.tuple #[.float .f64 X,.int .i64 E]) (by simp[results,Tryz.results19,go_sem]) rfl ⟨rfl,B1.o⟩
end
section
open Go Go.RowKit J
def zS{α:Type}(f:α->Int):List α->Int
 | []=>0
 | a::l=>f a+zS f l
theorem qj{α:Type}(f:α->Int):∀ (l:List α) (v:Int),l.foldl (fun v x=>v+f x) v=v+zS f l
 | [],v=>by simp[zS]
 | x::l,v=>by rw[Af,qj f l];show _=v+(f x+zS f l);omega
theorem jZ{α:Type}{f g:α->Int}:∀ {l:List α},(∀ x ∈ l,f x=g x)->zS f l=zS g l
 | [],_=>rfl
 | x::l,h=>by show f x+zS f l=g x+zS g l;rw[h x qD,jZ fun y hy=>h y (nY _ hy)]
theorem Uv{α:Type}(f:α->Int)(c:Int):∀ l:List α,zS (fun x=>f x*c) l=zS f l*c
 | []=>by simp[zS]
 | x::l=>by show f x*c+zS _ l=(f x+zS f l)*c;rw[Uv f c l,Int.add_mul]
theorem M7{α:Type}(f:α->Int){l m:List α}(h:l.Perm m):zS f l=zS f m:=by
 have h1:=qj f l 0;have h2:=qj f m 0;rw[h.foldl_eq' (fun x _ y _ z=>by omega) 0] at h1;omega
theorem Y0{α:Type}{f:α->Int}{m:Nat}:∀ {l:List α},(∀ x ∈ l,Bd m (f x))->(zS f l).natAbs<=l.length*2^m
 | [],_=>by simp[zS]
 | x::l,h=>by
   have h1:=Y0 (l:=l) fun y hy=>h y (nY _ hy);have h2:=h x qD;unfold Bd at h2;show(f x+zS f l).natAbs<=(l.length+1)*2^m;rw[xB];omega
theorem Uw{α:Type}{f:α->Int}{m:Nat}{l:List α}(h:∀ x ∈ l,Bd m (f x))(hn:l.length<=65536):Bd (m+16) (zS f l):=by
 have h1:=Y0 h;have h2:l.length*2^m<=65536*2^m:=dF _ hn;unfold Bd;rw[aW,bR (2^m)];exact aV h1 h2
theorem fv_one(k:Nat)(hk:k=1074):qW 4607182418800017408=((2^k:Nat):Int):=by subst hk;decide +kernel
theorem Y2(k:Nat)(hk:k=1074){xs:List Nat}(hW:eD xs)(hf:∀ x ∈ xs,iY x):vS xs=zS qW xs*((2^k:Nat):Int):=by
 unfold vS;rw[qj,Int.zero_add,<-Uv];refine jZ fun x hx=>?_;rw[(ZV (hW x hx) aA (hf x hx) aA).1,fv_one k hk]
theorem XP{u k m:Nat}{V:Int}(hu:u+k<=100000)(hm:m+k<=90000)(hV:Bd m V):gV (u+k) (V*((2^k:Nat):Int))=gV u V:=by
 have F:=cu (u:=u+k) hu (m:=m+k) af (hV.mul (Bd.nat (aB (2^k))));have G:=cu (u:=u) af (m:=m) af hV;obtain⟨j1,e1⟩:=YH (u+k) af;obtain⟨j2,e2⟩:=YH u af;refine yH F G ?_;rw[qH F af j1 e1,qH G af j2 e2,kC,<-dU,<-aW,show k+j1=j2 by omega]
theorem XQ{xs:List Nat}(hW:eD xs)(hf:∀ x ∈ xs,iY x)(hl:xs.length<=65536):Bd 2114 (zS qW xs):=Uw (m:=2098) (fun x hx=>Mq (hW x hx) (hf x hx)) hl
theorem ex_g(V:Int):mi V=gV 2148 V:=rfl
theorem exS19{xs:List Nat}(hW:eD xs)(hf:∀ x ∈ xs,iY x)(hl:xs.length<=65536):mi (vS xs)=gV 1074 (zS qW xs):=by
 obtain⟨k,hk⟩:∃ k:Nat,k=1074:=⟨_,rfl⟩;rw[Y2 k hk hW hf,ex_g];have:=XP (u:=1074) (k:=k) (m:=2114) af af (XQ hW hf hl);rw[show 1074+k=2148 by omega] at this;exact this
theorem XR{α:Type}(f:α->Int)(l:List α)(x:α):zS f (l++[x])=zS f l+f x:=by
 have h1:=qj f (l++[x]) 0;have h2:=qj f l 0;rw[List.foldl_append] at h1;simp only[Af,List.foldl_nil] at h1;omega
theorem Ux(f:Nat->Int)(xs:List Nat):∀ n,n<=xs.length->tS (fun i=>f (xs.getD i 0)) n=zS f (xs.take n)
 | 0,_=>by rw[List.take_zero];rfl
 | n+1,h=>by
   rw[oO xs n af,XR,<-Ux f xs n af];rfl
theorem zm{f:Nat->Int}:∀ {xs:List Nat},(∀ x ∈ xs,¬ kd x<=2->f x=0)->zS f (Ps.fin xs)=zS f xs
 | [],_=>rfl
 | x::xs,h=>by
   have ih:=zm (f:=f) (xs:=xs) fun y hy=>h y (nY _ hy);unfold Ps.fin at ih |-;rw[List.filter_cons]
   by_cases hk:kd x<=2
   · rw[if_pos (by simpa using hk)];show f x+zS f _=f x+zS f xs;rw[ih]
   · rw[if_neg (by simpa using hk),ih];show _=f x+zS f xs;rw[h x qD hk];omega
theorem Hy{s:Sp}{mode a b:Int}(h:mode<0\/4<mode):gN s mode a b=1/\tq mode=1:=by
 unfold gN tq;exact⟨if_pos (by rcases h with h | h;exact .inl h;exact .inr (.inl h)),if_pos h⟩
theorem BN{xs:List Nat}{mode a b:Int}(h:¬ (mode<0\/4<mode))(hl:xs.length<=4096):gN (sS xs) mode a b=G6 a b xs/\tq mode=0:=by
 refine⟨?_,by unfold tq;rw[if_neg h]⟩;unfold gN G6 Ps.rf;have hl2:¬ 65536<xs.length:=af
 by_cases hm:may a b=false
 · rw[if_pos (show mode<0\/4<mode\/may a b=false from .inr (.inr hm)),if_pos hm]
 · rw[if_neg (show ¬ (mode<0\/4<mode\/may a b=false) from by rintro (q | q | q);exact h (.inl q);exact h (.inr q);exact hm q),if_neg hm,if_neg hl2]
theorem Kn{xs:List Nat}(mode a b:Int)(hW:eD xs)(hl:xs.length<=4096) :
 vU xs mode a b=(if gN (sS xs) mode a b=0 then
  (if (vd (snd (sS xs).n (sS xs).u (sS xs).d (sS xs).m (sS xs).p (sS xs).a&&may a b) (sS xs).n (sS xs).u (sS xs).d a b).2=true then((vd (snd (sS xs).n (sS xs).u (sS xs).d (sS xs).m (sS xs).p (sS xs).a&&may a b) (sS xs).n (sS xs).u (sS xs).d a b).1,0)
   else if ((Ps.fin xs).length:Int)=0 then(0,3) else if vS xs=0 then(nt (snd (sS xs).n (sS xs).u (sS xs).d (sS xs).m (sS xs).p (sS xs).a) (sS xs).n (sS xs).u (sS xs).d (sS xs).m (sS xs).p (sS xs).a mode,0)
   else zf (dN (mi (vS xs))) (dX (mi (vS xs))) (dE (mi (vS xs))) (Ps.fin xs).length mode)
  else(0,gN (sS xs) mode a b)):=by
 by_cases h0:mode<0\/4<mode
 · obtain⟨e1,e2⟩:=Hy (s:=sS xs) (a:=a) (b:=b) h0;unfold vU;rw[e1,e2,if_neg (show ¬ (1:Int)=0 by decide),if_neg (show ¬ (1:Int)=0 by decide)]
 · obtain⟨e1,e2⟩:=BN (xs:=xs) (a:=a) (b:=b) h0 hl;unfold vU;rw[e1,e2,if_pos rfl]
   by_cases he:G6 a b xs=0
   · rw[if_pos he,if_pos he]
     split
     · rfl
     · unfold Hf
       by_cases e0:Ps.fin xs=[]
       · rw[if_pos e0,if_pos (by rw[e0];rfl)];rfl
       · have hp:0<(Ps.fin xs).length:=List.length_pos_iff.2 e0;rw[if_neg e0,Ej hW,if_neg (show ¬ ((Ps.fin xs).length:Int)=0 by omega)]
         by_cases v0:vS xs=0
         · rw[if_pos v0,if_pos v0];rfl
         · rw[if_neg v0,if_neg v0];unfold zf;rw[if_pos e2];have hle:(Ps.fin xs).length<=xs.length:=xk _ _;rw[if_neg (show ¬ (((Ps.fin xs).length:Int)<1\/1099511627776<((Ps.fin xs).length:Int)) by omega),kV];rfl
   · rw[if_neg he,if_neg he]
abbrev iG(xs:List Nat):Int:=zS f21 xs
abbrev jT(xs:List Nat):Int:=zS (fun x=>f21 x*f21 x) xs
theorem dP{xs:List Nat}(hW:eD xs)(hl:xs.length<=4096):Bd 2114 (iG xs):=Uw (m:=2098) (fun x hx=>lD (hW x hx)) af
theorem ig{xs:List Nat}(hW:eD xs)(hl:xs.length<=4096):Bd 4212 (jT xs):=Uw (m:=4196) (fun x hx=>(lD (hW x hx)).mul (lD (hW x hx))) af
theorem zn{x:Nat}(hx:x<18446744073709551616)(h:¬ kd x<=2):f21 x=0:=by
 unfold f21;rw[if_neg];intro q;exact h ((mR hx).2.2 q)
theorem wV{xs:List Nat}(hW:eD xs):∀ x ∈ Ps.fin xs,f21 x=qW x:=fun x hx=>by
 unfold f21;exact if_pos (wQ hW x hx)
theorem Uy{xs:List Nat}(hW:eD xs)(hl:xs.length<=4096):mi (vS xs)=gV 1074 (iG xs):=by
 have hle:(Ps.fin xs).length<=xs.length:=xk _ _;rw[<-Ej hW,exS19 (wP hW) (wQ hW) af,<-jZ (wV hW),zm (f:=f21) fun x hx hk=>zn (hW x hx) hk]
theorem Et{xs:List Nat}(hW:eD xs)(hl:xs.length<=4096):vS xs=0↔iG xs=0:=by
 obtain⟨k,hk⟩:∃ k:Nat,k=1074:=⟨_,rfl⟩;have hle:(Ps.fin xs).length<=xs.length:=xk _ _;rw[<-Ej hW,Y2 k hk (wP hW) (wQ hW),<-jZ (wV hW),zm (f:=f21) fun x hx hk=>zn (hW x hx) hk];have hp:=bK k;constructor
 · intro h;rcases Int.mul_eq_zero.1 h with h|h
   · exact h
   · omega
 · intro h;rw[show zS f21 xs=0 from h,Int.zero_mul]
theorem P8{xs:List Nat}(mode a b:Int)(hW:eD xs)(hl:xs.length<=4096):exR xs mode a b=En (sS xs) (gV 1074 (iG xs)) mode a b:=by
 have F:=cu (u:=1074) (m:=2114) aA aA (dP hW hl);unfold exR En gN rA JN
 by_cases h0:mode<0\/4<mode\/may a b=false
 · rw[if_pos h0,if_pos h0,if_neg (show ¬ (1:Int)=0 by decide)]
 · rw[if_neg h0,if_neg h0,if_neg (show ¬ 65536<xs.length by omega)]
   by_cases h1:0<(sS xs).n/\a=2
   · rw[if_pos h1,if_pos h1,if_neg (show ¬ (60:Int)=0 by decide)]
   · rw[if_neg h1,if_neg h1]
     by_cases h2:0<(sS xs).u+(sS xs).d/\b=2
     · rw[if_pos h2,if_pos h2,if_neg (show ¬ (61:Int)=0 by decide)]
     · rw[if_neg h2,if_neg h2,if_pos rfl];unfold rd7 RU
       by_cases h3:(vd (snd (sS xs).n (sS xs).u (sS xs).d (sS xs).m (sS xs).p (sS xs).a&&may a b) (sS xs).n (sS xs).u (sS xs).d a b).2=true
       · rw[if_pos h3,if_pos h3];rfl
       · rw[if_neg h3,if_neg h3]
         by_cases h4:vS xs=0
         · rw[if_pos h4,if_pos ((q9 aA aA (dP hW hl)).1.2 ((Et hW hl).1 h4))];rfl
         · rw[if_neg h4,if_neg fun q=>h4 ((Et hW hl).2 ((q9 aA aA (dP hW hl)).1.1 q)),Uy hW hl,F.re];rfl
theorem Eu{xs:List Nat}(mode a b:Int)(hW:eD xs)(hl:xs.length<=4096):vU xs mode a b=wT (sS xs) (gV 1074 (iG xs)) mode a b:=by
 have hc:=qi (xs:=xs);have hf:iZ (sS xs)=((Ps.fin xs).length:Int):=by rw[eu hW];show((xs.length:Nat):Int)-(Ps.cn 5 xs:Nat)-(Ps.cn 3 xs:Nat)-(Ps.cn 4 xs:Nat)=_;omega
 rw[Kn mode a b hW hl];unfold wT rA Um;rw[hf,Uy hW hl]
 by_cases e:vS xs=0
 · rw[if_pos e,if_pos ((q9 aA aA (dP hW hl)).1.2 ((Et hW hl).1 e))]
 · rw[if_neg e,if_neg fun q=>e ((Et hW hl).2 ((q9 aA aA (dP hW hl)).1.1 q))]
theorem Hz{xs:List Nat}(hW:eD xs)(hl:xs.length<=4096):uF (dM (gV 0 ((Ps.fin xs).length:Int)) (gV 2148 (jT xs))) (dM (gV 1074 (iG xs)) (gV 1074 (iG xs)))=gV 2148 (cS (Ps.fin xs) (Ps.fin xs))/\(gV 2148 (cS (Ps.fin xs) (Ps.fin xs))).isSome=true:=by
 have hW':=wP hW;have hf:=wQ hW;have hle:(Ps.fin xs).length<=xs.length:=xk _ _;have hl':(Ps.fin xs).length<=65536:=af
 have bn:Bd 16 ((Ps.fin xs).length:Int):=Bd.nat af;have bP0:=uI (f:=fX (Ps.fin xs)) (g:=fX (Ps.fin xs)) (n:=(Ps.fin xs).length) (fun i hi=>sO hW' hf i hi) (fun i hi=>sO hW' hf i hi) hl' _ (aB _);have hz:=zm (f:=fun x=>f21 x*f21 x) (xs:=xs) fun x hx hk=>by rw[zn (hW x hx) hk];rfl
 have hz1:=zm (f:=f21) (xs:=xs) fun x hx hk=>zn (hW x hx) hk
 have eP:tS (fun i=>fX (Ps.fin xs) i*fX (Ps.fin xs) i) (Ps.fin xs).length=jT xs:=by
  rw[jT,<-hz,jZ (g:=fun x=>qW x*qW x) fun x hx=>by rw[wV hW x hx]];have:=Ux (fun x=>qW x*qW x) (Ps.fin xs) _ (aB _);rw[Ab] at this;exact this
 have eS:sX (Ps.fin xs)=iG xs:=by
  rw[iG,<-hz1,jZ (wV hW)];have:=Ux qW (Ps.fin xs) _ (aB _);rw[Ab] at this;exact this
 have bS:=vR hW' hf hl' _ (aB _);have bP:Bd 4212 (jT xs):=by rw[<-eP];exact bP0
 have bS':Bd 2114 (sX (Ps.fin xs)):=bS;have b1:Bd 4228 (((Ps.fin xs).length:Int)*jT xs):=(bn.mul bP).mono aA;have b2:Bd 4228 (sX (Ps.fin xs)*sX (Ps.fin xs)):=(bS'.mul bS').mono aA
 have m1:dM (gV 0 ((Ps.fin xs).length:Int)) (gV 2148 (jT xs))=gV 2148 (((Ps.fin xs).length:Int)*jT xs):=by
  exact sI (u:=0) (v:=2148) aA aA aA aA bn bP
 have m2:dM (gV 1074 (iG xs)) (gV 1074 (iG xs))=gV 2148 (sX (Ps.fin xs)*sX (Ps.fin xs)):=by
  rw[<-eS];exact sI (u:=1074) (v:=1074) aA aA aA aA bS' bS'
 have F4:Fm (gV 2148 (((Ps.fin xs).length:Int)*jT xs)):=cu aA aA b1;have F5:Fm (gV 2148 (sX (Ps.fin xs)*sX (Ps.fin xs))):=cu aA aA b2;have ec:cS (Ps.fin xs) (Ps.fin xs)=((Ps.fin xs).length:Int)*jT xs-sX (Ps.fin xs)*sX (Ps.fin xs):=by unfold cS;rw[eP]
 refine⟨?_,by rw[ec];exact(cu aA aA (b1.sub b2)).sm⟩;rw[m1,m2,ec];unfold uF;rw[F4.sm,F5.sm,if_pos (show(true&&true)=true from rfl)];exact YI aA aA b1 b2
theorem P9{xs:List Nat}{mode a b:Int}(hW:eD xs)(h:¬ (mode<0\/4<mode))(hl:xs.length<=4096):gN (sS xs) mode a b=Ps.dZ a b xs:=by
 rw[(BN h hl).1];unfold G6 Ps.dZ;rw[eu hW]
theorem H7{xs:List Nat}(less mode a b:Int)(hW:eD xs)(hl:xs.length<=4096) :
 Es wE xs less mode a b=(if lsB less=true then(if gN (sS xs) mode a b=0 then
  (if (vd (snd (sS xs).n (sS xs).u (sS xs).d (sS xs).m (sS xs).p (sS xs).a&&may a b) (sS xs).n (sS xs).u (sS xs).d a b).2=true then(9221120237041090560,0)
   else if ((Ps.fin xs).length:Int)<=less then(0,3)
   else vV ((Ps.fin xs).length:Int) (uF (dM (gV 0 ((Ps.fin xs).length:Int)) (gV 2148 (jT xs))) (dM (gV 1074 (iG xs)) (gV 1074 (iG xs)))) less mode)
  else(0,gN (sS xs) mode a b)) else(0,1)):=by
 unfold Es
 cases hs:lsB less with
 | false=>rw[Bool.and_false,if_neg aA,if_neg aA]
 | true =>
   rw[Bool.and_true,if_pos rfl]
   by_cases h0:mode<0\/4<mode
   · have e:QJ mode=false:=by unfold QJ;rcases h0 with h | h <;> simp <;> omega
     obtain⟨e1,_⟩:=Hy (s:=sS xs) (a:=a) (b:=b) h0;rw[e,e1,if_neg aA,if_neg aA]
   · have e:QJ mode=true:=by unfold QJ;simp;omega
     rw[e,if_pos rfl,P9 hW h0 hl]
     by_cases he:Ps.dZ a b xs=0
     · rw[if_pos he,if_pos he];have hv:=vd14 he;have hc:=eu hW;rw[hc];simp only;rw[hv]
       cases crB a b xs with
       | true=>rfl
       | false =>
         rw[if_neg (show ¬ false=true by decide),if_neg (show ¬ false=true by decide)]
         by_cases hn:((Ps.fin xs).length:Int)<=less
         · rw[if_pos hn,if_pos hn]
         · rw[if_neg hn,if_neg hn,(Hz hW hl).1];unfold vV;have hls:=M5 hs;have hle:(Ps.fin xs).length<=xs.length:=xk _ _;rw[e,hs,decide_eq_true (show(1:Int)<=((Ps.fin xs).length:Int) by omega),decide_eq_true (show((Ps.fin xs).length:Int)<=1099511627776 by omega),if_pos (by rfl),if_pos (Hz hW hl).2,if_neg hn]
     · rw[if_neg he,if_neg he]
theorem H8{xs:List Nat}(less mode a b:Int)(hW:eD xs)(hl:xs.length<=4096):Es wE xs less mode a b=Er (sS xs) (gV 1074 (iG xs)) (gV 2148 (jT xs)) less mode a b:=by
 have hc:=qi (xs:=xs);have hf:iZ (sS xs)=((Ps.fin xs).length:Int):=by rw[eu hW];show((xs.length:Nat):Int)-(Ps.cn 5 xs:Nat)-(Ps.cn 3 xs:Nat)-(Ps.cn 4 xs:Nat)=_;omega
 rw[H7 less mode a b hW hl];unfold Er rA;rw[hf]
theorem ql{u m:Nat}{V:Int}(hu:u<=100000)(hm:m<=90000)(hV:Bd m V) :
 (dX (gV u V)=0/\dN (gV u V)=false/\dE (gV u V)=0)\/(dX (gV u V)%2=1/\-(u:Int)<=dE (gV u V)/\dE (gV u V)<=((m+1:Nat):Int)-(u:Int)):=by
 obtain⟨n,X,e,ho,Fr,hx⟩:=PH hu af hV;rw[ho];show(X=0/\n=false/\e=0)\/(X%2=1/\-(u:Int)<=e/\e<=((m+1:Nat):Int)-(u:Int));rcases Fr.odd with h|h
 · refine .inr ⟨h,?_⟩;rcases hx with q|q
   · rw[q] at h;simp at h
   · omega
 · exact .inl h
theorem rC{u m:Nat}{V:Int}(hu:u<=100000)(hm:m<=90000)(hV:Bd m V) :
 -(u:Int)<=dE (gV u V)/\nQ (dN (gV u V))*((dX (gV u V)*2^(dE (gV u V) - -(u:Int)).toNat:Nat):Int)=V:=by
 have F:=cu (u:=u) hu af hV;obtain⟨k,e1⟩:=YH u af;have hv:=qH F af k e1;have hE:-(u:Int)<=dE (gV u V):=by rcases ql hu hm hV with h | h <;> omega
 refine⟨hE,?_⟩;unfold uC zv at hv;simp only at hv;have e2:(dE (gV u V) - -1048576).toNat=(dE (gV u V) - -(u:Int)).toNat+k:=by unfold EK at e1;omega
 rw[e2,aW,<-dH,dU,<-kC] at hv;exact Int.eq_of_mul_eq_mul_right (by have:=bK k;omega) hv
theorem M8(u:Nat)(V:Int):dN (gV u (V.natAbs:Int))=false/\dX (gV u (V.natAbs:Int))=dX (gV u V)/\dE (gV u (V.natAbs:Int))=dE (gV u V):=by
 unfold gV;rw[xc,show decide (((V.natAbs:Nat):Int)<0)=false by simp];unfold mkS
 (repeat' split) <;> first | exact⟨rfl,rfl,rfl⟩ | simp_all
theorem Qa(k s q x:Int)(hk:0<=k)(hq:0<=q)(h:s*s<=k*q):(s+x)*(s+x)<=(k+1)*(q+x*x):=by
 have key:2*(s*x)<=q+k*(x*x):=by
  rcases Int.lt_or_eq_of_le hk with c|c
  · rcases Int.lt_or_le (q+k*(x*x)) (2*(s*x)) with g | g
    · exfalso;have h1:=Int.mul_lt_mul_of_pos_left g c;have h2:0<=(s-k*x)*(s-k*x):=by rw[<-Cn];exact Co _
      have e1:(s-k*x)*(s-k*x)=s*s-k*(2*(s*x))+k*(k*(x*x)):=by grind
      have e2:k*(q+k*(x*x))=k*q+k*(k*(x*x)):=by grind
      omega
    · exact g
  · subst c;have:s*s<=0:=by simpa using h
    have s0:s=0:=by
     rcases Cg s 0 with a|a|a
     · have:=Int.mul_pos_of_neg_of_neg a a;omega
     · exact a
     · have:=Int.mul_pos a a;omega
    subst s0;simp;exact hq
 have e:(s+x)*(s+x)=s*s+2*(s*x)+x*x:=by grind
 have e':(k+1)*(q+x*x)=k*q+q+k*(x*x)+x*x:=by grind
 omega
abbrev c21(xs:List Nat):Nat:=xs.countP (fun x=>decide (kd x=0))
theorem Uz{x:Nat}(hx:x<18446744073709551616)(h:kd x≠0):f21 x=0:=by
 by_cases h2:kd x<=2
 · unfold f21;rw[if_pos ((mR hx).2.1 h2)];refine fv_no ?_;have hm:aP x=x%9223372036854775808:=rfl
   have:aP x=0:=by
    rw[hm];unfold kd at h h2
    (repeat' split at h) <;> (repeat' split at h2) <;> first | omega | simp_all
   simp[noW,this]
 · exact zn hx h2
theorem f21_nz{x:Nat}(hx:x<18446744073709551616)(h:kd x=0):f21 x≠0:=by
 unfold f21;rw[if_pos ((mR hx).2.1 af)];have hm:aP x=x%9223372036854775808:=rfl
 have h0:aP x≠0:=by
  rw[hm];intro q;unfold kd at h
  (repeat' split at h) <;> first | omega | simp_all
 have hv:=Ta.2 (Nat.pos_of_ne_zero h0);rw[DT] at hv;intro q;have:=congrArg Int.natAbs q;unfold qW at this;rw[Td] at this;simp at this;omega
theorem f21_lt{x:Nat}(hx:x<18446744073709551616)(m:Nat)(hm:m=2098):(f21 x).natAbs<2^m:=by
 unfold f21
 by_cases h:aP x<9218868437227405312
 · rw[if_pos h];exact JZ hx h m hm
 · rw[if_neg h];exact bK m
theorem UA:∀ {xs:List Nat},eD xs->0<=jT xs/\iG xs*iG xs<=(c21 xs:Int)*jT xs
 | [],_=>by simp[jT,iG,zS]
 | x::xs,h=>by
   obtain⟨h1,h2⟩:=UA (xs:=xs) fun y hy=>h y (nY _ hy);have hx:=h x qD;have hsq:0<=f21 x*f21 x:=by rw[<-Cn];exact Co _
   refine⟨by show 0<=f21 x*f21 x+zS _ xs;exact Int.add_nonneg hsq h1,?_⟩;show(f21 x+iG xs)*(f21 x+iG xs)<=_*(f21 x*f21 x+jT xs)
   by_cases k:kd x=0
   · have e:c21 (x::xs)=c21 xs+1:=by simp[c21,nZ,k]
     rw[e,Int.add_comm (f21 x) (iG xs),Int.add_comm (f21 x*f21 x) (jT xs),xx];exact Qa (c21 xs) (iG xs) (jT xs) (f21 x) (Co _) h1 h2
   · have e:c21 (x::xs)=c21 xs:=by simp[c21,nZ,k]
     rw[e,Uz hx k];simpa using h2
theorem UB(m:Nat)(hm:m=2098):∀ {xs:List Nat},eD xs->(iG xs).natAbs+c21 xs<=c21 xs*2^m/\(jT xs).natAbs+c21 xs<=c21 xs*(2^m*2^m)
 | [],_=>by simp[jT,iG,zS]
 | x::xs,h=>by
   obtain⟨h1,h2⟩:=UB m hm (xs:=xs) fun y hy=>h y (nY _ hy);have hx:=h x qD;have es:iG (x::xs)=f21 x+iG xs:=rfl;have eq:jT (x::xs)=f21 x*f21 x+jT xs:=rfl;rw[es,eq]
   by_cases k:kd x=0
   · have e:c21 (x::xs)=c21 xs+1:=by simp[c21,nZ,k]
     have l1:=f21_lt hx m hm;have l2:(f21 x*f21 x).natAbs<2^m*2^m:=by rw[Int.natAbs_mul];exact Ch l1 l1
     rw[e,xB,xB];omega
   · have e:c21 (x::xs)=c21 xs:=by simp[c21,nZ,k]
     rw[e,Uz hx k];simp only[Int.mul_zero,Int.zero_add];exact⟨h1,h2⟩
theorem M9:∀ {xs:List Nat},eD xs->0<c21 xs->0<jT xs
 | [],_,hc=>by simp[c21] at hc
 | x::xs,h,hc=>by
   have hx:=h x qD;have hr:=(UA (xs:=xs) fun y hy=>h y (nY _ hy)).1;have hsq:0<=f21 x*f21 x:=by rw[<-Cn];exact Co _
   show 0<f21 x*f21 x+jT xs
   by_cases k:kd x=0
   · have l:=f21_nz hx k
     have:0<f21 x*f21 x:=by
      rcases Cg (f21 x) 0 with a|a|a
      · exact Int.mul_pos_of_neg_of_neg a a
      · exact absurd a l
      · exact Int.mul_pos a a
     omega
   · have e:c21 (x::xs)=c21 xs:=by simp[c21,nZ,k]
     have:=M9 (xs:=xs) (fun y hy=>h y (nY _ hy)) af;omega
theorem none21{xs:List Nat}(hW:eD xs)(h:c21 xs=0):iG xs=0/\jT xs=0:=by
 have e:∀ x ∈ xs,f21 x=0:=fun x hx=>Uz (hW x hx) fun k=>by
  have:=List.countP_eq_zero.1 h x hx;simp[k] at this
 have z0:∀ l:List Nat,zS (fun _=>(0:Int)) l=0:=fun l=>by
  induction l with
  | nil=>rfl
  | cons a l ih=>show 0+zS _ l=0;rw[ih];rfl
 exact⟨(jZ (g:=fun _=>0) e).trans (z0 xs),(jZ (g:=fun _=>0) fun x hx=>by rw[e x hx];rfl).trans (z0 xs)⟩
theorem pE:∀ (xs:List Nat),xs.length=Ps.cn 5 xs+Ps.cn 3 xs+Ps.cn 4 xs+Ps.cn 1 xs+Ps.cn 2 xs+c21 xs
 | []=>rfl
 | x::xs=>by
   have ih:=pE xs;have e:∀ j,Ps.cn j (x::xs)=Ps.cn j xs+(if kd x=j then 1 else 0):=fun j=>by simp[Ps.cn,nZ]
   have e0:c21 (x::xs)=c21 xs+(if kd x=0 then 1 else 0):=by simp[c21,nZ]
   rw[e,e,e,e,e,e0,kU,ih];have hk:kd x=0\/kd x=1\/kd x=2\/kd x=3\/kd x=4\/kd x=5:=by unfold kd;(repeat' split) <;> simp
   rcases hk with k|k|k|k|k|k <;> simp[k] <;> omega
theorem Ko{xs:List Nat}(hW:eD xs):nT (sS xs)=(c21 xs:Int):=by
 have:=pE xs;rw[eu hW];show((xs.length:Nat):Int)-(Ps.cn 5 xs:Nat)-(Ps.cn 3 xs:Nat)-(Ps.cn 4 xs:Nat)-(Ps.cn 1 xs:Nat)-(Ps.cn 2 xs:Nat)=_;omega
theorem nH{xs:List Nat}(hW:eD xs)(hl:xs.length<=4096):(sS xs).sm:=by
 have:=pE xs;rw[eu hW];constructor
 · show(0:Int)<=(Ps.cn 5 xs:Nat);omega
 · show(0:Int)<=(Ps.cn 3 xs:Nat);omega
 · show(0:Int)<=(Ps.cn 4 xs:Nat);omega
 · show(0:Int)<=(Ps.cn 1 xs:Nat);omega
 · show(0:Int)<=(Ps.cn 2 xs:Nat);omega
 · show((Ps.cn 5 xs:Nat):Int)+(Ps.cn 3 xs:Nat)+(Ps.cn 4 xs:Nat)+(Ps.cn 1 xs:Nat)+(Ps.cn 2 xs:Nat)<=(xs.length:Nat);omega
 · show((xs.length:Nat):Int)<=1099511627776;omega
def eB(K:Nat->Int)(xs:List Nat)(x:Nat):Prop:=((∀ y ∈ xs,bN y=true)/\x=0)\/(x ∈ xs/\bN x=false/\∀ y ∈ xs,bN y=false->K x<=K y)
def nI(x:Nat):Int:=-bG x
theorem nn21(x:Nat):bN x=false↔¬ 9218868437227405312<aP x:=by
 show decide (9218868437227405312<aP x)=false↔_;rw[decide_eq_false_iff_not]
theorem zo{x:Nat}(hx:x<18446744073709551616)(h:bN x=false):bG x=(if x<9223372036854775808 then(x:Int) else 9223372036854775807-(x:Int))/\x%9223372036854775808<=9218868437227405312:=by
 have hm:aP x=x%9223372036854775808:=rfl;have hn:fM x=decide (9223372036854775808<=x):=rfl;have h2:=(nn21 x).1 h;unfold bG;rw[if_neg h2,hn,hm];rw[hm] at h2
 by_cases c:x<9223372036854775808
 · rw[if_pos c,decide_eq_false af,if_neg aA];omega
 · rw[if_neg c,decide_eq_true af,if_pos rfl];omega
theorem pF{x y:Nat}(hx:x<18446744073709551616)(hy:y<18446744073709551616)(fx:bN x=false)(fy:bN y=false)(h:bG x=bG y):x=y:=by
 rw[(zo hx fx).1,(zo hy fy).1] at h
 split at h <;> split at h <;> omega
theorem H9{x y:Nat}(hx:x<18446744073709551616)(hy:y<18446744073709551616)(fx:bN x=false)(fy:bN y=false)(h:nI x=nI y):x=y:=pF hx hy fx fy (by unfold nI at h;omega)
theorem eB.perm{K:Nat->Int}{xs ys:List Nat}{x:Nat}(h:eB K xs x)(p:xs.Perm ys):eB K ys x:=by
 rcases h with ⟨h1,h2⟩|⟨h1,h2,h3⟩
 · exact .inl ⟨fun y hy=>h1 y (p.mem_iff.2 hy),h2⟩
 · exact .inr ⟨p.mem_iff.1 h1,h2,fun y hy=>h3 y (p.mem_iff.2 hy)⟩
theorem eB.uniq{K:Nat->Int}{xs:List Nat}{x y:Nat}(hW:eD xs)(hK:∀ a b:Nat,a<18446744073709551616->b<18446744073709551616->bN a=false->bN b=false->K a=K b->a=b)(h:eB K xs x)(k:eB K xs y):x=y:=by
 rcases h with ⟨h1,h2⟩|⟨h1,h2,h3⟩ <;> rcases k with ⟨k1,k2⟩|⟨k1,k2,k3⟩
 · rw[h2,k2]
 · rw[h1 y k1] at k2;cases k2
 · rw[k1 x h1] at h2;cases h2
 · exact hK x y (hW x h1) (hW y k1) h2 k2 (Int.le_antisymm (h3 y k1 k2) (k3 x h1 h2))
theorem eB.lt{K:Nat->Int}{xs:List Nat}{x:Nat}(hW:eD xs)(h:eB K xs x):x<18446744073709551616:=by
 rcases h with ⟨_,rfl⟩|⟨h1,_,_⟩
 · decide
 · exact hW x h1
theorem XT{xs:List Nat}(hW:eD xs):decide ((sS xs).n<(sS xs).a)=true↔∃ y ∈ xs,bN y=false:=by
 rw[eu hW,decide_eq_true_eq];show((Ps.cn 5 xs:Nat):Int)<(xs.length:Nat)↔_;constructor
 · intro h;refine I5 fun q=>?_
   have:Ps.cn 5 xs=xs.length:=by
    refine List.countP_eq_length.2 fun y hy=>?_
    have:bN y=true:=by
     cases c:bN y with
     | true=>rfl
     | false=>exact absurd ⟨y,hy,c⟩ q
    simpa using (yY (hW y hy)).2 this
   omega
 · rintro ⟨y,hy,hn⟩;have h1:Ps.cn 5 xs<=xs.length:=xh
   have h2:Ps.cn 5 xs≠xs.length:=fun q=>by
    have:=List.countP_eq_length.1 q y hy;have:kd y=5:=by simpa using this
    rw[(yY (hW y hy)).1 this] at hn;cases hn
   omega
theorem Ia{xs:List Nat}(hW:eD xs):decide ((sS xs).n<(sS xs).a)=false↔∀ y ∈ xs,bN y=true:=by
 constructor
 · intro h y hy
   cases c:bN y with
   | true=>rfl
   | false=>rw[(XT hW).2 ⟨y,hy,c⟩] at h;cases h
 · intro h
   cases c:decide ((sS xs).n<(sS xs).a) with
   | false=>rfl
   | true=>obtain⟨y,hy,q⟩:=(XT hW).1 c;rw[h y hy] at q;cases q
def UC(K:Nat->Int)(ra rb:Bool)(x y:Nat):Nat:=if rb=false then x else if ra=false then y else if K y<K x then y else x
theorem Y3(ra rb:Bool)(x y:Nat):loM ra rb x y=UC bG ra rb x y:=rfl
theorem Y4(ra rb:Bool)(x y:Nat):hiM ra rb x y=UC nI ra rb x y:=by
 unfold hiM UC nI;have e:(if bG x<bG y then y else x)=(if -bG y < -bG x then y else x):=by split <;> split <;> first | rfl | omega
 rw[e]
theorem eB.app{K:Nat->Int}{xs ys:List Nat}{x y:Nat}(hW:eD xs)(hV:eD ys)(h:eB K xs x)(k:eB K ys y):eB K (xs++ys) (UC K (decide ((sS xs).n<(sS xs).a)) (decide ((sS ys).n<(sS ys).a)) x y):=by
 unfold UC
 by_cases rb:decide ((sS ys).n<(sS ys).a)=false
 · rw[if_pos rb];have nb:=(Ia hV).1 rb;rcases h with ⟨h1,h2⟩|⟨h1,h2,h3⟩
   · refine .inl ⟨fun z hz=>?_,h2⟩;rcases fA.1 hz with q|q
     · exact h1 z q
     · exact nb z q
   · refine .inr ⟨fA.2 (.inl h1),h2,fun z hz hn=>?_⟩;rcases fA.1 hz with q|q
     · exact h3 z q hn
     · rw[nb z q] at hn;cases hn
 · rw[if_neg rb]
   have k':y ∈ ys/\bN y=false/\∀ z ∈ ys,bN z=false->K y<=K z:=by
    rcases k with ⟨k1,k2⟩|k
    · exact absurd ((Ia hV).2 k1) rb
    · exact k
   obtain⟨k1,k2,k3⟩:=k'
   by_cases ra:decide ((sS xs).n<(sS xs).a)=false
   · rw[if_pos ra];have na:=(Ia hW).1 ra;refine .inr ⟨fA.2 (.inr k1),k2,fun z hz hn=>?_⟩;rcases fA.1 hz with q|q
     · rw[na z q] at hn;cases hn
     · exact k3 z q hn
   · rw[if_neg ra]
     have h':x ∈ xs/\bN x=false/\∀ z ∈ xs,bN z=false->K x<=K z:=by
      rcases h with ⟨h1,h2⟩|h
      · exact absurd ((Ia hW).2 h1) ra
      · exact h
     obtain⟨h1,h2,h3⟩:=h'
     by_cases c:K y<K x
     · rw[if_pos c];refine .inr ⟨fA.2 (.inr k1),k2,fun z hz hn=>?_⟩;rcases fA.1 hz with q|q
       · have:=h3 z q hn;omega
       · exact k3 z q hn
     · rw[if_neg c];refine .inr ⟨fA.2 (.inl h1),h2,fun z hz hn=>?_⟩;rcases fA.1 hz with q|q
       · exact h3 z q hn
       · have:=k3 z q hn;omega
theorem eB.one(K:Nat->Int){x:Nat}:eB K [x] (e21 x):=by
 unfold e21
 cases c:bN x with
 | true=>rw[if_pos rfl];exact .inl ⟨fun y hy=>by simp at hy;subst hy;exact c,rfl⟩
 | false=>rw[if_neg aA];exact .inr ⟨aL,c,fun y hy _=>by simp at hy;subst hy;exact Int.le_refl _⟩
theorem eB.nil(K:Nat->Int):eB K [] 0:=.inl ⟨fun y hy=>by simp at hy,rfl⟩
theorem fo(j:Nat)(xs:List Nat):0<Ps.cn j xs↔∃ x ∈ xs,kd x=j:=by
 unfold Ps.cn;rw[List.countP_pos_iff];simp
theorem qm(xs:List Nat):0<c21 xs↔∃ x ∈ xs,kd x=0:=by
 unfold c21;rw[List.countP_pos_iff];simp
theorem zW{x:Nat}(hx:x<18446744073709551616):(kd x=4↔x=18442240474082181120)/\(kd x=3↔x=9218868437227405312)/\(kd x=1↔x=9223372036854775808)/\(kd x=2↔x=0)/\(kd x=5↔9218868437227405312<x%9223372036854775808)/\kd x<=5:=by
 unfold kd;refine⟨?_,?_,?_,?_,?_,?_⟩ <;> (repeat' split) <;> omega
theorem Qbn{P:Prop}(h:P:=by
 cases c:bN y with
 | false=>rfl
 | true=>exact absurd ((yY (hW y hy)).2 c) q):P:=h
theorem Qa0{P:Prop}(h:P:=by
 have:=pE xs;rw[eu hW];show((xs.length:Nat):Int)-(Ps.cn 5 xs:Nat)-(Ps.cn 3 xs:Nat)-(Ps.cn 4 xs:Nat)=_;omega):P:=h
theorem Qar{P:Prop}(h:P:=by
 have:=(Ia hW).2 h1;rw[decide_eq_true hr] at this;cases this):P:=h
theorem Kq{xs:List Nat}{lo:Nat}(hW:eD xs)(h:eB bG xs lo)(hr:(sS xs).n<(sS xs).a) :
 if 0<(sS xs).d then lo=18442240474082181120 else if iZ (sS xs)=0 then lo=9218868437227405312 else if nT (sS xs)=0 then lo=(if 0<(sS xs).m then 9223372036854775808 else 0) else aP lo<9218868437227405312:=by
 have h':lo ∈ xs/\bN lo=false/\∀ y ∈ xs,bN y=false->bG lo<=bG y:=by
  rcases h with ⟨h1,_⟩|h
  · exact Qar
  · exact h
 obtain⟨h1,h2,h3⟩:=h';have hl:=hW lo h1;obtain⟨t1,t2⟩:=zo hl h2;obtain⟨k4,k3,k1,k2,k5,kk⟩:=zW hl
 have nn:∀ y ∈ xs,kd y≠5->bN y=false:=fun y hy q=>by
  exact Qbn
 have hle:∀ y ∈ xs,kd y≠5->bG lo<=(if y<9223372036854775808 then(y:Int) else 9223372036854775807-(y:Int)):=fun y hy q=>by
  rw[<-(zo (hW y hy) (nn y hy q)).1];exact h3 y hy (nn y hy q)
 rw[t1] at hle;have ed:(sS xs).d=(Ps.cn 4 xs:Nat):=by rw[eu hW]
 have em:(sS xs).m=(Ps.cn 1 xs:Nat):=by rw[eu hW]
 have ef:iZ (sS xs)=(Ps.cn 1 xs:Nat)+(Ps.cn 2 xs:Nat)+(c21 xs:Nat):=by
  exact Qa0
 rw[ed,em,ef,Ko hW]
 by_cases hd:0<Ps.cn 4 xs
 · rw[if_pos af];obtain⟨y,hy,q⟩:=(fo 4 xs).1 hd;have a:=hle y hy af;have b:=(zW (hW y hy)).1.1 q;subst b;simp only[show ¬ ((18442240474082181120:Nat)<9223372036854775808) by decide,if_false] at a
   split at a <;> omega
 rw[if_neg af];have n4:kd lo≠4:=fun q=>hd ((fo 4 xs).2 ⟨lo,h1,q⟩)
 by_cases hf:Ps.cn 1 xs+Ps.cn 2 xs+c21 xs=0
 · rw[if_pos af];have a1:kd lo≠1:=fun q=>by have:=(fo 1 xs).2 ⟨lo,h1,q⟩;omega
   have a2:kd lo≠2:=fun q=>by have:=(fo 2 xs).2 ⟨lo,h1,q⟩;omega
   have a0:kd lo≠0:=fun q=>by have:=(qm xs).2 ⟨lo,h1,q⟩;omega
   exact k3.1 af
 rw[if_neg af]
 by_cases hp:c21 xs=0
 · rw[if_pos af];have a0:kd lo≠0:=fun q=>by have:=(qm xs).2 ⟨lo,h1,q⟩;omega
   by_cases hm:0<Ps.cn 1 xs
   · rw[if_pos af];obtain⟨y,hy,q⟩:=(fo 1 xs).1 hm;have a:=hle y hy af;have b:=(zW (hW y hy)).2.2.1.1 q;subst b;simp only[show ¬ ((9223372036854775808:Nat)<9223372036854775808) by decide,if_false] at a
     split at a <;> omega
   · rw[if_neg af];have n1:kd lo≠1:=fun q=>hm ((fo 1 xs).2 ⟨lo,h1,q⟩);obtain⟨y,hy,q⟩:=(fo 2 xs).1 af;have a:=hle y hy af;have b:=(zW (hW y hy)).2.2.2.1.1 q;subst b;simp only[show((0:Nat)<9223372036854775808) by decide,if_true] at a
     split at a <;> omega
 · rw[if_neg af];obtain⟨y,hy,q⟩:=(qm xs).1 af;have a:=hle y hy af;have b:=(zW (hW y hy));have hm:aP lo=lo%9223372036854775808:=rfl;rw[hm]
   split at a <;> split at a <;> omega
theorem Qb{xs:List Nat}{hi:Nat}(hW:eD xs)(h:eB nI xs hi)(hr:(sS xs).n<(sS xs).a) :
 if 0<(sS xs).u then hi=9218868437227405312 else if iZ (sS xs)=0 then hi=18442240474082181120 else if nT (sS xs)=0 then hi=(if (sS xs).p=0 then 9223372036854775808 else 0) else aP hi<9218868437227405312:=by
 have h':hi ∈ xs/\bN hi=false/\∀ y ∈ xs,bN y=false->bG y<=bG hi:=by
  rcases h with ⟨h1,_⟩|⟨h1,h2,h3⟩
  · exact Qar
  · exact⟨h1,h2,fun y hy hn=>by have:=h3 y hy hn;unfold nI at this;omega⟩
 obtain⟨h1,h2,h3⟩:=h';have hl:=hW hi h1;obtain⟨t1,t2⟩:=zo hl h2;obtain⟨k4,k3,k1,k2,k5,kk⟩:=zW hl
 have nn:∀ y ∈ xs,kd y≠5->bN y=false:=fun y hy q=>by
  exact Qbn
 have hle:∀ y ∈ xs,kd y≠5->(if y<9223372036854775808 then(y:Int) else 9223372036854775807-(y:Int))<=bG hi:=fun y hy q=>by
  rw[<-(zo (hW y hy) (nn y hy q)).1];exact h3 y hy (nn y hy q)
 rw[t1] at hle;have ed:(sS xs).u=(Ps.cn 3 xs:Nat):=by rw[eu hW]
 have em:(sS xs).p=(Ps.cn 2 xs:Nat):=by rw[eu hW]
 have ef:iZ (sS xs)=(Ps.cn 1 xs:Nat)+(Ps.cn 2 xs:Nat)+(c21 xs:Nat):=by
  exact Qa0
 rw[ed,em,ef,Ko hW]
 by_cases hd:0<Ps.cn 3 xs
 · rw[if_pos af];obtain⟨y,hy,q⟩:=(fo 3 xs).1 hd;have a:=hle y hy af;have b:=(zW (hW y hy)).2.1.1 q;subst b;simp only[show((9218868437227405312:Nat)<9223372036854775808) by decide,if_true] at a
   split at a <;> omega
 rw[if_neg af];have n4:kd hi≠3:=fun q=>hd ((fo 3 xs).2 ⟨hi,h1,q⟩)
 by_cases hf:Ps.cn 1 xs+Ps.cn 2 xs+c21 xs=0
 · rw[if_pos af];have a1:kd hi≠1:=fun q=>by have:=(fo 1 xs).2 ⟨hi,h1,q⟩;omega
   have a2:kd hi≠2:=fun q=>by have:=(fo 2 xs).2 ⟨hi,h1,q⟩;omega
   have a0:kd hi≠0:=fun q=>by have:=(qm xs).2 ⟨hi,h1,q⟩;omega
   exact k4.1 af
 rw[if_neg af]
 by_cases hp:c21 xs=0
 · rw[if_pos af];have a0:kd hi≠0:=fun q=>by have:=(qm xs).2 ⟨hi,h1,q⟩;omega
   by_cases hm:0<Ps.cn 2 xs
   · rw[if_neg af];obtain⟨y,hy,q⟩:=(fo 2 xs).1 hm;have a:=hle y hy af;have b:=(zW (hW y hy)).2.2.2.1.1 q;subst b;simp only[show((0:Nat)<9223372036854775808) by decide,if_true] at a
     split at a <;> omega
   · rw[if_pos af];have n1:kd hi≠2:=fun q=>hm ((fo 2 xs).2 ⟨hi,h1,q⟩);obtain⟨y,hy,q⟩:=(fo 1 xs).1 af;have a:=hle y hy af;have b:=(zW (hW y hy)).2.2.1.1 q;subst b;simp only[show ¬ ((9223372036854775808:Nat)<9223372036854775808) by decide,if_false] at a
     split at a <;> omega
 · rw[if_neg af];obtain⟨y,hy,q⟩:=(qm xs).1 af;have a:=hle y hy af;have b:=(zW (hW y hy));have hy2:=hW y hy;have hm:aP hi=hi%9223372036854775808:=rfl;rw[hm]
   split at a <;> split at a <;> omega
theorem Qc{xs:List Nat}{lo hi:Nat}(hW:eD xs)(h:eB bG xs lo)(k:eB nI xs hi)(hr:(sS xs).n<(sS xs).a):bG lo<=bG hi:=by
 rcases h with ⟨h1,_⟩|⟨h1,h2,h3⟩
 · exact Qar
 · rcases k with ⟨k1,_⟩ | ⟨k1,k2,k3⟩
   · rw[k1 lo h1] at h2;cases h2
   · exact h3 hi k1 k2
theorem lG{k:Nat}(h:k<=4096):Bd 12 (k:Int):=Bd.nat af
theorem Ib{m:Nat}{V:Int}(h:Bd m V):Bd m (V.natAbs:Int):=by unfold Bd at *;rw[xc];exact h
theorem Ic(k a b:Nat)(hk:k<=4096):nQ (dN (gV 0 (k:Int)))*((dX (gV 0 (k:Int))*2^(dE (gV 0 (k:Int))+(a:Int) - -(b:Int)).toNat:Nat):Int)=(k:Int)*((2^(a+b):Nat):Int):=by
 obtain⟨h1,h2⟩:=rC (u:=0) (m:=12) aA aA (lG hk);rw[show(dE (gV 0 (k:Int))+(a:Int) - -(b:Int)).toNat=(dE (gV 0 (k:Int)) - -((0:Nat):Int)).toNat+(a+b) by omega,aW,<-dH,dU,<-kC,h2]
theorem Na{x y:Int}(h:x<y):jW x y<0:=by unfold jW;rw[if_pos h];decide
theorem XU{x y:Int}(h:x<=y):jW x y<=0:=by unfold jW;split;decide;rw[if_neg af];decide
theorem XV{xs:List Nat}(hW:eD xs)(hl:xs.length<=4096)(h0:0<c21 xs) :
 0<iP (dN (gV 2148 (jT xs))) (dX (gV 2148 (jT xs)))/\l9 (dN (gV 2148 (jT xs))) (dX (gV 2148 (jT xs))) (dE (gV 2148 (jT xs))) (dN (gV 0 (c21 xs:Int))) (dX (gV 0 (c21 xs:Int))) (dE (gV 0 (c21 xs:Int))+2048)<0/\-2148<=dE (gV 2148 (jT xs)):=by
 have hc:c21 xs<=4096:=aV xh hl;have hb:=ig hW hl;obtain⟨g1,g2⟩:=q9 (u:=2148) aA aA hb;have hq:=M9 hW h0;obtain⟨v1,v2⟩:=rC (u:=2148) aA aA hb;obtain⟨f1,_⟩:=rC (u:=0) (m:=12) aA aA (lG hc);obtain⟨m,hm⟩:∃ m:Nat,m=2098:=⟨_,rfl⟩;obtain⟨a,ha⟩:∃ a:Nat,a=2048:=⟨_,rfl⟩;obtain⟨b,hb'⟩:∃ b:Nat,b=2148:=⟨_,rfl⟩;have ht:=(UB m hm hW).2;refine⟨?_,?_,af⟩
 · unfold iP;rw[if_neg (fun q=>by have:=g1.1 q;omega)]
   cases c:dN (gV 2148 (jT xs)) with
   | true=>have:=g2.1 c;omega
   | false=>decide
 · have hs:=Ic (c21 xs) a b hc;rw[show(a:Int)=2048 by omega] at hs;rw[hb'] at hs;rw[JM _ _ _ _ _ _ (-((2148:Nat):Int)) v1 af,v2,hs];refine Na ?_;rw[<-hb',show a+b=m+m by omega,aW,<-dU];omega
theorem UD{xs:List Nat}(hW:eD xs)(hl:xs.length<=4096)(h0:0<c21 xs) :
 -1074<=dE (gV 1074 (iG xs))/\l9 false (dX (gV 1074 (iG xs))) (dE (gV 1074 (iG xs))) (dN (gV 0 (c21 xs:Int))) (dX (gV 0 (c21 xs:Int))) (dE (gV 0 (c21 xs:Int))+1024)<0:=by
 have hc:c21 xs<=4096:=aV xh hl;have hb:=dP hW hl;have hb2:Bd 2114 ((iG xs).natAbs:Int):=Ib hb;obtain⟨v1,v2⟩:=rC (u:=1074) aA aA hb2;obtain⟨e1,e2,e3⟩:=M8 1074 (iG xs);rw[e1,e2,e3] at v2;rw[e3] at v1;obtain⟨f1,_⟩:=rC (u:=0) (m:=12) aA aA (lG hc);obtain⟨m,hm⟩:∃ m:Nat,m=2098:=⟨_,rfl⟩;obtain⟨a,ha⟩:∃ a:Nat,a=1024:=⟨_,rfl⟩;obtain⟨b,hb'⟩:∃ b:Nat,b=1074:=⟨_,rfl⟩;have ht:=(UB m hm hW).1;refine⟨af,?_⟩;have hs:=Ic (c21 xs) a b hc;rw[show(a:Int)=1024 by omega] at hs;rw[hb'] at hs;rw[JM _ _ _ _ _ _ (-((1074:Nat):Int)) v1 af,v2,hs];refine Na ?_;rw[<-hb',show a+b=m by omega,<-dU];omega
theorem XW{xs:List Nat}(hW:eD xs)(hl:xs.length<=4096) :
 dM (gV 1074 ((iG xs).natAbs:Int)) (gV 1074 ((iG xs).natAbs:Int))=gV 2148 (iG xs*iG xs)/\dM (gV 0 (c21 xs:Int)) (gV 2148 (jT xs))=gV 2148 ((c21 xs:Int)*jT xs)/\Fm (gV 2148 (iG xs*iG xs))/\Fm (gV 2148 ((c21 xs:Int)*jT xs))/\Fm (gV 1074 ((iG xs).natAbs:Int)) /\
 l9 (dN (gV 2148 (iG xs*iG xs))) (dX (gV 2148 (iG xs*iG xs))) (dE (gV 2148 (iG xs*iG xs))) (dN (gV 2148 ((c21 xs:Int)*jT xs))) (dX (gV 2148 ((c21 xs:Int)*jT xs))) (dE (gV 2148 ((c21 xs:Int)*jT xs)))<=0:=by
 have hc:c21 xs<=4096:=aV xh hl;have hb:=dP hW hl;have hb2:Bd 2114 ((iG xs).natAbs:Int):=Ib hb;have hq:=ig hW hl;have hS:Bd 4228 (iG xs*iG xs):=hb.mul hb;have hK:Bd 4224 ((c21 xs:Int)*jT xs):=(lG hc).mul hq;have eS:((iG xs).natAbs:Int)*((iG xs).natAbs:Int)=iG xs*iG xs:=by rw[<-dU,Cn]
 have m1:=sI (u:=1074) (v:=1074) aA aA aA aA hb2 hb2;rw[eS] at m1;have m2:=sI (u:=0) (v:=2148) aA aA aA aA (lG hc) hq;refine⟨m1,m2,cu aA aA hS,cu aA aA hK,cu aA aA hb2,?_⟩;obtain⟨v1,v2⟩:=rC (u:=2148) aA aA hS;obtain⟨w1,w2⟩:=rC (u:=2148) aA aA hK;rw[JM _ _ _ _ _ _ (-((2148:Nat):Int)) v1 w1,v2,w2];exact XU (UA hW).2
def cK(w:World)(g:Nat)(xs:List Nat):Prop:=eD xs/\xs.length<=4096/\∃ lo hi,eB bG xs lo/\eB nI xs hi/\fe w g (sS xs) (gV 1074 (iG xs)) (gV 2148 (jT xs)) lo hi
theorem Kr{w:World}{g:Nat}{xs:List Nat}{lo hi:Nat}(hW:eD xs)(hl:xs.length<=4096)(hlo:eB bG xs lo)(hhi:eB nI xs hi)(H:fe w g (sS xs) (gV 1074 (iG xs)) (gV 2148 (jT xs)) lo hi)(hT:bO w) :
 Calls Tryz.prog 50 #[.pointer (some ⟨g,0,none⟩)] w fun r w'=>r=.returned (.bool true)/\Below w.heap.size w w':=by
 have hs:=nH hW hl;have hc:c21 xs<=4096:=aV xh hl;have Fo:=cu (u:=1074) (m:=2114) aA aA (dP hW hl);have Fq:=cu (u:=2148) (m:=4212) aA aA (ig hW hl);have Ff:=cu (u:=0) (m:=12) aA aA (lG hc)
 have hE:0<=dE (gV 0 (c21 xs:Int))/\dE (gV 0 (c21 xs:Int))<=100000:=by
  rcases ql (u:=0) (m:=12) aA aA (lG hc) with q|q <;> omega
 have z1:=(q9 (u:=1074) aA aA (dP hW hl)).1;have z2:=(q9 (u:=2148) aA aA (ig hW hl)).1;refine XE (fun u hu=>zV (H.aD hu) hs) (fun u hu=>?_) (fun u hu=>?_)
 · refine Hl (H.aD hu) hs Fo Fq ?_;rw[Ko hW]
   by_cases h0:c21 xs=0
   · obtain⟨n1,n2⟩:=none21 hW h0;exact .inl ⟨af,z1.2 n1,z2.2 n2⟩
   · refine .inr ⟨af,fun v hv=>?_,fun v hv=>?_⟩
     · obtain⟨a1,a2,a3⟩:=XV hW hl af;exact zi ((H.aD hu).aD hv) (c21 xs) rfl Ff Fq af hE ((hT.belows hu).belows hv) a1 a2 a3
     · by_cases d0:dX (gV 1074 (iG xs))=0
       · exact Eo ((H.aD hu).aD hv) _ Fo d0
       · obtain⟨b1,b2⟩:=UD hW hl af;obtain⟨m1,m2,F1,F2,F3,c⟩:=XW hW hl;obtain⟨e1,e2,e3⟩:=M8 1074 (iG xs);exact Kk ((H.aD hu).aD hv) (c21 xs) rfl Ff Fo Fq F3 F1 F2 af hE ((hT.belows hu).belows hv) e1 e2 e3 m1 m2 d0 b1 b2 c
 · refine Hq (H.aD hu) (hlo.lt hW) (hhi.lt hW) fun hr=>⟨Qc hW hlo hhi hr,fun v hv=>Ep ((H.aD hu).aD hv) hs (hlo.lt hW) (Kq hW hlo hr),fun v hv=>Ho ((H.aD hu).aD hv) hs (hhi.lt hW) (Qb hW hhi hr)⟩
end
end Go.Proofs.YtaejmlkaefnbhaaGreatDoor
