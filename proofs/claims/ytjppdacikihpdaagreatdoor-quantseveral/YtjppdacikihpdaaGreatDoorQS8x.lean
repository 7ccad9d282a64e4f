import Derived.Test.YtjppdacikihpdaaGreatDoorDA1x
import Derived.Test.YtjppdacikihpdaaGreatDoorS10x
import Derived.Test.YtjppdacikihpdaaGreatDoorRQ7x
import Derived.Test.YtjppdacikihpdaaGreatDoorF2x
import Derived.Test.YtjppdacikihpdaaGreatDoorH5x
set_option linter.unusedVariables false
set_option linter.unusedSimpArgs false
set_option maxHeartbeats 16000000
set_option maxRecDepth 20000
namespace Go.Proofs.YtjppdacikihpdaaGreatDoor
namespace J
end J
section
open Go Go.RowKit J
theorem aO {P:Program}{ops:Array Oper}{Q:Exit->Act->World->Prop}{md:Region.Mode}{S:World->Prop}{stop:Nat}(i:Nat) (d:Tmp) {oi:Oper}{v:Value}{fuel:Nat}{listed:Array Bool}{a:Act}{w:World}(hi:ops[i]?=some oi) (hd:oi.dst=some d) (hS:S w)
 (h:iy P md ops Q S stop fuel (listed.setIfInBounds i true) (a.put (some d) v) w)
 (hy:∀w,S w->(execOp a.eval oi).run P w=.ok (.value v) w:=by intro u hSu;(try dsimp only at hSu);first | (go_simp;done) | (go_simp;with_reducible rfl))
 (hs:Region.noSelect ops=true:=by kernel_rfl) (hf:Region.free md ops listed i=true:=by kernel_rfl) (hr:(Region.ready md ops listed).contains i=true:=by kernel_rfl) (hw:waits md ops i stop []=true:=by kernel_rfl)
 (hQ:∀c a w,Q (.panic c) (a.put oi.dst v) w->Q (.panic c) a w:=by exactλ_ _ _ h=>h) (h1:Region.wanted oi (yielded ops a.tmps)=true:=by rfl):iy P md ops Q S stop (fuel+1) listed a w :=
 rY [] hi hs hf hr hw rfl hQ (Or.inl ⟨h1,hy⟩) hS (by rw[hd];exact h)
theorem eZ {w:World}{ops:Array Oper}{rest:List Oper}{o:Oper}{a:Act}{Q:Exit->Act->World->Prop}(hgd:o.guard=none) (s x:Operand) (t:TypeId)
 (ho:o.op=.call { callee:=.builtin .append,args:=#[s,x],argTypes:=#[t,t] }) (v u:Value) (hs:a.eval s=v) (hx:a.eval x=u) (v':Value) (w':World)
 (hrun:(Builtin.append_ #[t,t] o.type #[v,u]).run Tryz.prog w=.ok v' w') (h:wpList Tryz.prog ops Q rest (a.put o.dst v') w'):wpList Tryz.prog ops Q (o::rest) a w:=by
 refine wpList_plain hgd λK hK=>?_;unfold Oper.wp;simp[execOp,ho,resolve,invoke,builtin,hs,hx,hrun,Result.andThen];exact hK _ _ h
theorem rT {w:World}{o:Oper}{a:Act}{K:Act->World->Prop}{Q:Exit->Act->World->Prop}(s x:Operand) (t:TypeId)
 (ho:o.op=.call { callee:=.builtin .append,args:=#[s,x],argTypes:=#[t,t] }) (v u:Value) (hs:a.eval s=v) (hx:a.eval x=u) (v':Value) (w':World)
 (hrun:(Builtin.append_ #[t,t] o.type #[v,u]).run Tryz.prog w=.ok v' w') (h:K (a.put o.dst v') w'):Oper.wp Tryz.prog o a w K Q:=by
 unfold Oper.wp;simp[execOp,ho,resolve,invoke,builtin,hs,hx,hrun,Result.andThen];exact h
theorem xe{α:Type}(A B:List α)(a b:α):(b::a::(A++B)).Perm ((A++[a])++(B++[b])):=by
 have h1:((A++[a])++(B++[b])).Perm (a::(A++(B++[b]))):=by rw[rG];exact List.perm_middle
 have h2:(A++(B++[b])).Perm (b::(A++B)):=by rw[<-rG];exact List.perm_append_singleton b (A++B)
 exact((h1.trans (h2.cons a)).trans (List.Perm.swap b a _)).symm
theorem MI(w:World){lo:Nat}{x:Value}{L:List Nat}(hx:Rf lo w x L)(hnb:L.length<=70000) :
 ∃y W,(Builtin.append_ #[22,22] 22 #[.slice (some ⟨w.heap.size,0,none⟩) 0 0,x]).run Tryz.prog (w.alloc (Obj.cells #[] 27))=.ok y W/\Rf w.heap.size W y L/\An w W:=by
 have ha:An w (w.alloc (Obj.cells #[] 27)):=af _ _;have hz:w.heap.size<(w.alloc (Obj.cells #[] 27)).heap.size:=by simp
 have hx1:Rf lo (w.alloc (Obj.cells #[] 27)) x L:=hx.alloc _;have hv:Rf w.heap.size (w.alloc (Obj.cells #[] 27)) (.slice (some ⟨w.heap.size,0,none⟩) 0 0) []:=World.ownsRow_lit w #[] 0 (aA _) (by unfold maxLen;omega) rfl;obtain⟨i0,hi,hz0,hz1,hz2⟩:=info_parts Tryz.nK;rcases hx1.2 with ⟨rfl,h0⟩|⟨g,cap,cur,rfl,hlo,hg,hn,hm,hs,ht⟩
 . obtain rfl:L=[]:=rF h0;exact⟨_,_,run_append_owned_none (P:=Tryz.prog) _ w.heap.size 22 22 27 i0 1 Tryz.iL hi _ 0 [] hv,hv,ha⟩
 . obtain⟨y,W,r1,r2,r3,_⟩:=mO (w.alloc (Obj.cells #[] 27)) w.heap.size (.slice (some ⟨w.heap.size,0,none⟩) 0 0) [] L (some ⟨g,0,none⟩) L.length cap 22 hv rfl (λhne=>⟨g,0,rfl,λi hi=>by
    obtain⟨g',c',e',_,_,_,_,k⟩:=hx1.shape (sU.2 hne)
    cases e'
    rw[dA]
    exact k i hi⟩) aN (by simp;omega) ae
   refine⟨y,W,r1,r2,ha.trans ?_⟩
   exact gm r3 ae λb e=>by
    have e':some w.heap.size=some b:=e
    cases e'
    exact aA _
structure jw (lo:Nat) (w:World) (h:Nat) (PV PU:List (Value×List Nat)):Prop where
 hlo:lo<=w.heap.size
 hh:lo<=h
 ex:∃ov wv,Bl w h 39 [ov,wv]/\Vw lo w ov (PV.map (·.1))/\Vw lo w wv (PU.map (·.1))/\∀b,ov.ownBlock=some b->wv.ownBlock≠some b
 VA:dw lo w (PV++PU)
 len:PV.length=PU.length
set_option maxRecDepth 100000 in
theorem Vm{lo:Nat}{w:World}{h:Nat}{PV PU:List (Value×List Nat)}{ax:Option Addr}{n c:Nat}{L:List Nat}(H:jw lo w h PV PU)(hx:Rf lo w (.slice ax n c) L)(hnew:∀b,(Value.slice ax n c).ownBlock=some b->∀p ∈ PV++PU,p.1.ownBlock≠some b)(hl:PV.length<=100)(hnb:L.length<=70000) :
 As 13 #[.pointer (some ⟨h,0,none⟩),.slice ax n c] w λr w'=>r=.returned (.tuple #[])/\(∃y,jw lo w' h (PV++[(.slice ax n c,L)]) (PU++[(y,L)])/\∀b,y.ownBlock=some b->w.heap.size<=b)/\Below lo w w'/\jG w w':=by
 obtain⟨hlo,hh,⟨ov,wv,hB,hO,hU,hne⟩,hF,hlen⟩:=H;have hFx:=hF.cons hx hnew;obtain⟨v',w2,r1,b2,s1,s2,s3,s4,s5,s6,s7,s8⟩:=Ip hB hO hU hne hFx hlo hh (by simp;omega) (x:=.slice ax n c) rfl;obtain⟨ao,ca,e1,_⟩:=hO.iM;obtain⟨au,cu,e2,_⟩:=hU.iM;obtain⟨a3,c3,e3,_⟩:=s2.iM;rw[gU,mZ,uJ] at e3;subst e3;obtain⟨W3,hW3⟩:=ah (w2.setCell ⟨h,0,none⟩ (.slice a3 (PV.length+1) c3));have HW3:=ak hW3;rw[<-hW3] at s1 s2 s3 s5 s6 s7 s8;rw[mZ] at e1 e2;subst e1 e2;have k0:w.cell? ⟨h,0,none⟩=some (.slice ao PV.length ca):=hB.cell 0 _ rfl;have z0:w2.cell? ⟨h,0,none⟩=some (.slice ao PV.length ca):=b2.cell 0 _ rfl;have zf0:w2.frozen? ⟨h,0,none⟩=false:=b2.frozen 0;have HR1:=ak r1;have A:=(qs14 s1 s2 s3 s4 s5 s6 s7 s8 hlen hl hlo hh hnb (hx.fst s8));clear r1 b2 s1 s2 s3 s4 s5 s6 s7 s8 hlen hl hlo hh hB hO hU hne hF hFx hx hnew hW3 hnb;go_enter Tryz.func13,Tryz.ntmps13
 go_wp2_with (at_builtin;refine eZ rfl (.tmp 8) (.tmp 10) 37 rfl _ _ rfl rfl _ _ HR1.o ?_)
 go_upto_region 1 with fail
 rw[<-HW3.o];clear HW3 HR1 k0 z0 zf0;obtain⟨Wd,hWd⟩:=ah (W3.drew);have Zx:An W3 Wd:=by rw[hWd];exact(aD _ _).drew
 refine kR (λw'=>w'.cell? ⟨h,1,none⟩=some (.slice au PU.length cu)) 12 mW ?_;rw[<-hWd];clear hWd;have kS:Wd.cell? ⟨h,1,none⟩=some (.slice au PU.length cu):=(A.o.1.below Zx A.o.1.lt).cell 1 _ rfl;refine aO 0 14 rfl rfl kS ?_;refine aO 1 15 rfl rfl kS ?_;refine aO 2 16 rfl rfl kS ?_;refine aO 3 17 rfl rfl kS ?_;refine aO 4 18 rfl rfl kS ?_;refine aO 6 20 rfl rfl kS ?_
 try simp only[Act.put,sa,sb,sc]
 refine dG (i:=5) mW rfl (λK' hK=>?_);go_simp;obtain⟨s1,s2,s3,s4,s5,s6,s7,s8,hlen,hl,hlo,hh,hnb,hx3⟩:=A.o;have hxd:Rf lo Wd (.slice ax n c) L:=hx3.fst (jG.aF Zx);obtain⟨y,W5,r1,r2,r3⟩:=MI Wd hxd hnb;have hz3:=Zx.size;have hd5:An W3 W5:=Zx.trans (r3.mono Zx.size);have hd4:An W3 (Wd.alloc (Obj.cells #[] 27)):=Zx.trans ((af _ _).mono Zx.size);obtain⟨W4,hW4⟩:=ah (Wd.alloc (Obj.cells #[] 27));obtain⟨b4,hb4⟩:=ah (Wd.heap.size);obtain⟨ay,cy,ey,_⟩:=r2.iM;subst ey
 have hFam:=(s5.aF hd5).cons (r2.mono ae) (λb e p hp e2=>by
  have h1:=((s5.row p hp).lt b e2).2;have h2:=(r2.lt b e).1
  omega)
 rw[<-hW4,<-hb4] at r1 |-;rw[<-hW4] at hd4;have k4:W4.cell? ⟨h,1,none⟩=some (.slice au PU.length cu):=(s1.below hd4 s1.lt).cell 1 _ rfl;refine hK.out _ _ (λ_=>k4) ?_;clear hK K' kS hW4 hb4 Zx
 try simp only[Act.put,sa,sb,sc]
 obtain⟨v5,W7,q1,q2,t1,t2,t3,t4,t5,t6,t7,t8⟩:=Ci (s1.below hd5 s1.lt) (s3.aF hd5) (s2.aF hd5) (λb e1 e2=>s4 b e2 e1) hFam (by have:=hd5.size;omega) hh (by simp;omega) (x:=.slice ay L.length cy) rfl;have k5:W5.cell? ⟨h,1,none⟩=some (.slice au PU.length cu):=(s1.below hd5 s1.lt).cell 1 _ rfl;have k6:(W5.alloc (Obj.cells #[.slice ay L.length cy] 22)).cell? ⟨h,1,none⟩=some (.slice au PU.length cu):=((s1.below hd5 s1.lt).alloc _).cell 1 _ rfl;have k7:W7.cell? ⟨h,1,none⟩=some (.slice au PU.length cu):=q2.cell 1 _ rfl;have kf7:W7.frozen? ⟨h,1,none⟩=false:=q2.frozen 1;obtain⟨a5,c5,e5,_⟩:=t2.iM;rw[gU,mZ,uJ] at e5;subst e5;have HQ:=ak q1;have HR:=ak r1
 have hy:∀b,(Value.slice ay L.length cy).ownBlock=some b->w.heap.size<=b:=λb e=>by
  have:=(r2.lt b e).1;omega
 have B:=(ak (ai t1 (ai t2 (ai t3 (ai t4 (ai t5 (ai t6 (ai t7 (ai t8 (ai s6 (ai s7 (ai s8 (ai hd5 (ai hlen (ai hlo (ai hh hy))))))))))))))));clear s1 s2 s3 s4 s5 s6 s7 s8 hlen hl hlo hh hnb hx3 hxd r1 r2 r3 hz3 hFam hy q1 q2 t1 t2 t3 t4 t5 t6 t7 t8 hd4 hd5 A k4;refine dG (i:=7) mW rfl (λK' hK=>?_);rw[if_pos (by rfl)];refine rT (.tmp 19) (.tmp 20) 22 rfl _ _ rfl rfl _ _ HR.o ?_;refine hK.out _ _ (λ_=>k5) ?_;clear hK K' k5
 try simp only[Act.put,sa,sb,sc]
 refine dG (i:=8) mW rfl (λK' hK=>?_);go_simp;refine hK.out _ _ (λ_=>k6) ?_;clear hK K' k6
 try simp only[Act.put,sa,sb,sc]
 refine dG (i:=9) mW rfl (λK' hK=>?_);rw[if_pos (by rfl)];refine rT (.tmp 18) (.tmp 22) 37 rfl _ _ rfl rfl _ _ HQ.o ?_;refine hK.out _ _ (λ_=>k7) ?_;clear hK K'
 try simp only[Act.put,sa,sb,sc]
 refine dG (i:=10) mW rfl (λK' hK=>?_);go_simp;refine hK.out _ _ (λ_=>k7) ?_;clear hK K'
 try simp only[Act.put,sa,sb,sc]
 refine dG (i:=11) mW rfl (λK' hK=>?_);go_simp;refine hK.out _ _ (λ_=>k7) ?_;clear hK K'
 try simp only[Act.put,sa,sb,sc]
 refine dG (i:=12) mW rfl (λK' hK=>?_);go_simp;refine hK.out _ _ (λh=>absurd h aM) ?_;clear hK K' k7 kf7
 try simp only[Act.put,sa,sb,sc]
 refine nV mW ?_ _;obtain⟨t1,t2,t3,t4,t5,t6,t7,t8,s6,s7,s8,hd5,hlen,hlo,hh,hy⟩:=B.o;obtain⟨W8,hW8⟩:=ah (W7.setCell ⟨h,1,none⟩ (.slice a5 (PU.length+1) c5));rw[<-hW8] at t1 t2 t3 t5 t6 t7 t8 |-;go_wp2;refine bodyPost_end (v:=.tuple #[]) (by simp[results,Tryz.results13,go_sem]) rfl ?_;refine⟨rfl,⟨_,⟨by have:=hd5.size;omega,hh,⟨_,_,t1,?_,?_,λb e1 e2=>t4 b e2 e1⟩,t5.perm (xe _ _ _ _),by simp[hlen]⟩,hy⟩,(s6.trans (hd5.mono (dB hlo s7))).trans t6,(s8.trans (jG.aF hd5)).trans t8⟩
 . rw[jy];exact t3
 . rw[jy];exact t2
noncomputable def oM (xs:List Nat) (parts rule mode:Int):List Nat:=if nM xs parts rule mode=0 then sI xs parts.toNat rule mode (parts.toNat+1) else[]
theorem Vn{lo:Nat}{w:World}{g N:Nat}{L:List Nat}(h:eO w g L)(hN:N=L.length)(hlo:lo<=g)(hm:N<=70000):Rf lo w (.slice (some ⟨g,0,none⟩) N N) L:=by
 subst hN;exact⟨aN,.inr ⟨g,L.length,_,rfl,hlo,h,aA _,by unfold maxLen;omega,aN,by simp[eF]⟩⟩
theorem Iq(xs:List Nat)(parts rule mode:Int):(oM xs parts rule mode).length<=65537:=by
 unfold oM
 split
 . next h =>
   rw[qo];unfold nM at h
   split at h
   . cases h
   . next q=>omega
 . simp
theorem KL(xs:List Nat)(ao:Option Addr)(n cap:Nat)(parts rule mode:Int)(w:World)(hT:gP w)(hF:Fs w.heap.size w ao xs)(hn:n=xs.length)(hb:n<=17592186044416)(hW:jH xs){N:Nat}(hN:N=(oM xs parts rule mode).length) :
 As 11 #[.slice ao n cap,.int .i64 parts,.int .i64 rule,.int .i64 mode] w λr w'=>(∃aa,r=.returned (.tuple #[.slice aa N N,.int .i64 (nM xs parts rule mode)])/\Rf w.heap.size w' (.slice aa N N) (oM xs parts rule mode))/\An w w':=by
 have hl:=Iq xs parts rule mode;refine(Qf xs ao n cap parts rule mode w hT hF hn hb hW).mono ?_;rintro r w' ⟨⟨he,rfl⟩|⟨he,g,p,rfl,h1,h2,rfl,ho,hg⟩,hbl⟩
 . have e:oM xs parts rule mode=[]:=by unfold oM;rw[if_neg he]
   rw[e] at hN |-;subst hN;exact⟨⟨none,rfl,Rf.nil _ _⟩,hbl⟩
 . have e:oM xs p rule mode=sI xs p rule mode (p+1):=by unfold oM;rw[if_pos he,lC]
   have hNp:N=p+1:=by rw[hN,e,qo]
   subst hNp;rw[e,he];exact⟨⟨_,rfl,Vn ho (by rw[qo]) hg ae⟩,hbl⟩
theorem Ir(xs:List Nat)(ao:Option Addr)(n cap:Nat)(parts rule mode:Int)(w:World)(hF:Fs w.heap.size w ao xs)(hn:n=xs.length)(hc:n<=cap)(hb:n<=17592186044416)(hW:jH xs){N:Nat}(hN:N=(oM xs parts rule mode).length) :
 As 12 #[.slice ao n cap,.int .i64 parts,.int .i64 rule,.int .i64 mode] w λr w'=>(∃aa c,r=.returned (.tuple #[.slice aa N c,.int .i64 (nM xs parts rule mode)])/\Rf w.heap.size w' (.slice aa N c) (oM xs parts rule mode))/\An w w':=by
 refine(KH xs ao n cap parts rule mode w hF hn hc hb hW).mono ?_;rintro r w' ⟨⟨he,rfl⟩|⟨he,v,p,rfl,h1,h2,rfl,ho⟩,hbl⟩
 . have e:oM xs parts rule mode=[]:=by unfold oM;rw[if_neg he]
   rw[e] at hN |-;subst hN;exact⟨⟨none,0,rfl,Rf.nil _ _⟩,hbl⟩
 . have e:oM xs p rule mode=sI xs p rule mode (p+1):=by unfold oM;rw[if_pos he,lC]
   obtain⟨aa,c,ev,_⟩:=ho.iM;have hNp:N=(sI xs p rule mode (p+1)).length:=by rw[hN,e]
   subst hNp ev;rw[e,he];exact⟨⟨aa,c,rfl,ho⟩,hbl⟩
theorem MJ{lo:Nat}{w:World}{v:Value}{L:List Nat}(h:Rf lo w v L)(hb:L.length<=100000):Lv16 w v L:=by
 obtain⟨ao,cap,rfl,_⟩:=h.iM;exact⟨ao,L.length,cap,rfl,rfl,hb,Rf.fs h⟩
theorem Qbp{P:Prop}(h:P:=by
 simp[aY hi1,aY hi2] at this;exact this.symm):P:=h
theorem jw.reads{lo:Nat}{w:World}{h:Nat}{PV PU:List (Value×List Nat)}(H:jw lo w h PV PU)(he:PV.map (·.2)=PU.map (·.2))(hb:∀p ∈ PV,p.2.length<=100000):Br16 lo w h (PV.map (·.1)) (PU.map (·.1)) (PV.map (·.2)):=by
 obtain⟨ov,wv,h1,h2,h3,h4⟩:=H.ex;refine⟨⟨ov,wv,h1,h2,h3⟩,aN,by simp[H.len],λi hi=>?_⟩;have hi1:i<PV.length:=by simpa using hi
 have hi2:i<PU.length:=by rw[<-H.len];exact hi1
 have e1:(PV.map (·.2)).getD i []=PV[i].2:=by simp[bF,aY hi1]
 have e2:PU[i].2=PV[i].2:=by
  have:=congrArg (λl=>l[i]?) he;exact Qbp
 have r1:=H.VA.row PV[i] (yz _ (gQ hi1));have r2:=H.VA.row PU[i] (uK _ (gQ hi2));have b1:=hb PV[i] (gQ hi1);refine⟨PV[i].1,PU[i].1,by simp[aY hi1],by simp[aY hi2],?_,?_⟩
 . rw[e1];exact MJ r1 b1
 . rw[e1,<-e2];exact MJ r2 (by rw[e2];exact b1)
theorem Qu{α:Type}(P:List α)(i:Nat)(hi:i<P.length):P.Perm (P[i]::(P.take i++P.drop (i+1))):=by
 have e:P.take i++P[i]::P.drop (i+1)=P:=by rw[<-Cq hi,IC]
 have h:(P.take i++P[i]::P.drop (i+1)).Perm (P[i]::(P.take i++P.drop (i+1))):=List.perm_middle;rw[e] at h;exact h
theorem KM{α:Type}(P:List α)(i:Nat)(x:α)(hi:i<P.length):(P.set i x).Perm (x::(P.take i++P.drop (i+1))):=by
 rw[List.set_eq_take_append_cons_drop,if_pos hi];exact List.perm_middle
theorem dw.setAt{lo:Nat}{w:World}{P:List (Value×List Nat)}(h:dw lo w P){i g n c:Nat}{L:List Nat}(k y:Nat)(hi:P[i]?=some (.slice (some ⟨g,0,none⟩) n c,L))(hn:n=L.length):dw lo (w.setCell ⟨g,k,none⟩ (.float .f64 y)) (P.set i (.slice (some ⟨g,0,none⟩) n c,L.set k y)):=by
 obtain⟨hil,e⟩:=iD.1 hi;have p1:=Qu P i hil;have p2:(P.set i (.slice (some ⟨g,0,none⟩) n c,L.set k y)).Perm ((.slice (some ⟨g,0,none⟩) n c,L.set k y)::(P.take i++P.drop (i+1))):=KM P i _ hil;rw[e] at p1;exact((h.perm p1).set hn).perm p2.symm
theorem jW(w:World)(g k:Nat)(u:Value)(b:Nat)(hb:b≠g):(w.setCell ⟨g,k,none⟩ u).heap[b]?=w.heap[b]?:=by
 exact Qaw
theorem qY{P:List (Value×List Nat)}{i:Nat}{v:Value}{L L':List Nat}(hi:P[i]?=some (v,L)):(P.set i (v,L')).map (·.1)=P.map (·.1):=by
 refine List.ext_getElem? λj=>?_;rw[mY,mY,xV]
 split
 . next e =>
   subst e;obtain⟨hil,e⟩:=iD.1 hi;rw[if_pos hil,hi];rfl
 . rfl
theorem jw.setOut{lo:Nat}{w:World}{h:Nat}{PV PU:List (Value×List Nat)}(H:jw lo w h PV PU){i g n c:Nat}{L:List Nat}(k y:Nat)(hi:PV[i]?=some (.slice (some ⟨g,0,none⟩) n c,L))(hn:n=L.length) :
 jw lo (w.setCell ⟨g,k,none⟩ (.float .f64 y)) h (PV.set i (.slice (some ⟨g,0,none⟩) n c,L.set k y)) PU/\Below lo w (w.setCell ⟨g,k,none⟩ (.float .f64 y)):=by
 obtain⟨hlo,hh,⟨ov,wv,h1,h2,h3,h4⟩,hF,hl⟩:=H;obtain⟨hil,e⟩:=iD.1 hi;have hr:=hF.row _ (yz PU (gQ hil));rw[e] at hr;have hg:(Value.slice (some ⟨g,0,none⟩) n c).ownBlock=some g:=rfl;have n1:h≠g:=λq=>Ev h1 hr (q ▸ hg);refine⟨⟨by simpa [World.setCell] using hlo,hh,⟨ov,wv,?_,?_,?_,h4⟩,?_,by simpa using hl⟩,?_⟩
 . unfold Bl;rw[jW _ _ _ _ _ n1];exact h1
 . rw[qY hi];exact h2.same λb q=>jW _ _ _ _ _ (λe'=>qW h2 hr b q (e' ▸ hg))
 . exact h3.same λb q=>jW _ _ _ _ _ (λe'=>qW h3 hr b q (e' ▸ hg))
 . have:=hF.setAt (i:=i) k y (by rw[sQ hil];exact hi) hn;rw[List.set_append_left _ _ hil] at this;exact this
 . exact(aD _ _:Below lo w w).setCell (hr.lt g hg).1 _
theorem jw.YO{lo:Nat}{w:World}{h:Nat}{PV PU:List (Value×List Nat)}(H:jw lo w h PV PU){i g n c:Nat}{L:List Nat}(k y:Nat)(hi:PU[i]?=some (.slice (some ⟨g,0,none⟩) n c,L))(hn:n=L.length) :
 jw lo (w.setCell ⟨g,k,none⟩ (.float .f64 y)) h PV (PU.set i (.slice (some ⟨g,0,none⟩) n c,L.set k y))/\Below lo w (w.setCell ⟨g,k,none⟩ (.float .f64 y)):=by
 obtain⟨hlo,hh,⟨ov,wv,h1,h2,h3,h4⟩,hF,hl⟩:=H;obtain⟨hil,e⟩:=iD.1 hi;have hr:=hF.row _ (uK PV (gQ hil));rw[e] at hr;have hg:(Value.slice (some ⟨g,0,none⟩) n c).ownBlock=some g:=rfl;have n1:h≠g:=λq=>Ev h1 hr (q ▸ hg);refine⟨⟨by simpa [World.setCell] using hlo,hh,⟨ov,wv,?_,?_,?_,h4⟩,?_,by simpa using hl⟩,?_⟩
 . unfold Bl;rw[jW _ _ _ _ _ n1];exact h1
 . exact h2.same λb q=>jW _ _ _ _ _ (λe'=>qW h2 hr b q (e' ▸ hg))
 . rw[qY hi];exact h3.same λb q=>jW _ _ _ _ _ (λe'=>qW h3 hr b q (e' ▸ hg))
 . have:=hF.setAt (i:=PV.length+i) k y (by rw[pq ae];simpa using hi) hn;rw[yw _ _ ae] at this;simpa using this
 . exact(aD _ _:Below lo w w).setCell (hr.lt g hg).1 _
def iY(lo:Nat)(w:World)(h:Nat)(V U:List Value)(NS:List Nat):Prop :=
 ∃PV PU,jw lo w h PV PU/\PV.map (·.1)=V/\PU.map (·.1)=U/\PV.map (·.2)=PU.map (·.2)/\PV.map (λp=>p.2.length)=NS
def uH(lo:Nat)(w:World)(h:Nat)(V U:List Value)(NS:List Nat)(i k y:Nat):Prop :=
 ∃PV PU,jw lo w h PV PU/\PV.map (·.1)=V/\PU.map (·.1)=U/\(∃L,PU[i]?.map (·.2)=some L/\PV.map (·.2)=(PU.map (·.2)).set i (L.set k y))/\PV.map (λp=>p.2.length)=NS
theorem jw.aF{lo:Nat}{w w':World}{h:Nat}{PV PU:List (Value×List Nat)}(H:jw lo w h PV PU)(hb:An w w'):jw lo w' h PV PU:=by
 obtain⟨hlo,hh,⟨ov,wv,h1,h2,h3,h4⟩,hF,hl⟩:=H;exact⟨dB hlo hb.size,hh,⟨ov,wv,h1.below hb h1.lt,h2.aF hb,h3.aF hb,h4⟩,hF.aF hb,hl⟩
theorem iY.aF{lo:Nat}{w w':World}{h:Nat}{V U:List Value}{NS:List Nat}(H:iY lo w h V U NS)(hb:An w w'):iY lo w' h V U NS:=by
 obtain⟨PV,PU,h1,h2⟩:=H;exact⟨PV,PU,h1.aF hb,h2⟩
theorem uH.aF{lo:Nat}{w w':World}{h:Nat}{V U:List Value}{NS:List Nat}{i k y:Nat}(H:uH lo w h V U NS i k y)(hb:An w w'):uH lo w' h V U NS i k y:=by
 obtain⟨PV,PU,h1,h2⟩:=H;exact⟨PV,PU,h1.aF hb,h2⟩
theorem iY.lens{lo:Nat}{w:World}{h:Nat}{V U:List Value}{NS:List Nat}(H:iY lo w h V U NS):V.length=NS.length/\U.length=NS.length:=by
 obtain⟨PV,PU,h1,h2,h3,h4,h5⟩:=H;rw[<-h2,<-h3,<-h5];simp[h1.len]
theorem iY.reads{lo:Nat}{w:World}{h:Nat}{V U:List Value}{NS:List Nat}(H:iY lo w h V U NS)(hp:0<NS.length)(hl:NS.length<=1000)(hb:∀n ∈ NS,n<=100000) :
 At 26 #[.pointer (some ⟨h,0,none⟩)] w (.bool true):=by
 obtain⟨PV,PU,h1,h2,h3,h4,h5⟩:=H;have hlen:NS.length=PV.length:=by rw[<-h5];simp
 exact YN (h1.reads h4 λp hp=>hb _ (by rw[<-h5];exact List.mem_map_of_mem hp)) (by simp;omega) (by simp;omega)
theorem iY.rows{lo:Nat}{w:World}{h:Nat}{V U:List Value}{NS:List Nat}(H:iY lo w h V U NS):lo<=w.heap.size/\lo<=h/\(∃ov wv,Bl w h 39 [ov,wv]/\Vw lo w ov V/\Vw lo w wv U) /\
 ∀i,i<NS.length->(∃a c,V[i]?=some (.slice a (NS.getD i 0) c)/\(0<NS.getD i 0->∃g,a=some ⟨g,0,none⟩))/\∃a c,U[i]?=some (.slice a (NS.getD i 0) c)/\(0<NS.getD i 0->∃g,a=some ⟨g,0,none⟩):=by
 obtain⟨PV,PU,H1,h2,h3,h4,h5⟩:=H;obtain⟨ov,wv,k1,k2,k3,k4⟩:=H1.ex;rw[h2] at k2;rw[h3] at k3;refine⟨H1.hlo,H1.hh,⟨ov,wv,k1,k2,k3⟩,λi hi=>?_⟩;have hi1:i<PV.length:=by rw[<-h5] at hi;simpa using hi
 have hi2:i<PU.length:=by rw[<-H1.len];exact hi1
 have e1:NS.getD i 0=PV[i].2.length:=by rw[<-h5];simp[bF,aY hi1]
 have e2:PU[i].2=PV[i].2:=by
  have:=congrArg (λl=>l[i]?) h4;exact Qbp
 have r1:=H1.VA.row PV[i] (yz _ (gQ hi1));have r2:=H1.VA.row PU[i] (uK _ (gQ hi2))
 have one:∀(p:Value×List Nat),Rf lo w p.1 p.2->∃a c,p.1=.slice a p.2.length c/\(0<p.2.length->∃g,a=some ⟨g,0,none⟩):=λp hp=>by
  obtain⟨a,c,q,_⟩:=hp.iM;refine⟨a,c,q,λh0=>?_⟩;obtain⟨g,c',q',_⟩:=hp.shape h0;rw[q] at q'
  cases q'
  exact⟨g,rfl⟩
 obtain⟨a,c,q1,q2⟩:=one _ r1;obtain⟨a',c',q1',q2'⟩:=one _ r2;refine⟨⟨a,c,?_,by rw[e1];exact q2⟩,a',c',?_,by rw[e1,<-e2];exact q2'⟩
 . rw[<-h2,e1,<-q1];simp[aY hi1]
 . rw[<-h3,e1,<-e2,<-q1'];simp[aY hi2]
theorem iY.stepA{lo:Nat}{w:World}{h:Nat}{V U:List Value}{NS:List Nat}(H:iY lo w h V U NS){i g c:Nat}(k y:Nat)(hi:V[i]?=some (.slice (some ⟨g,0,none⟩) (NS.getD i 0) c)) :
 uH lo (w.setCell ⟨g,k,none⟩ (.float .f64 y)) h V U NS i k y/\Below lo w (w.setCell ⟨g,k,none⟩ (.float .f64 y)):=by
 obtain⟨PV,PU,H1,h2,h3,h4,h5⟩:=H;have hi1:i<PV.length:=by rw[<-h2] at hi;have:=(iD.1 hi).1;simpa using this
 have hi2:i<PU.length:=by rw[<-H1.len];exact hi1
 have e1:NS.getD i 0=PV[i].2.length:=by rw[<-h5];simp[bF,aY hi1]
 have e2:PU[i].2=PV[i].2:=by
  have:=congrArg (λl=>l[i]?) h4;exact Qbp
 have e3:PV[i].1=.slice (some ⟨g,0,none⟩) (NS.getD i 0) c:=by
  rw[<-h2] at hi;simpa [aY hi1] using hi
 have e4:PV[i]?=some (.slice (some ⟨g,0,none⟩) (NS.getD i 0) c,PV[i].2):=by rw[aY hi1,<-e3]
 obtain⟨s1,s2⟩:=H1.setOut k y e4 e1;refine⟨⟨_,PU,s1,by rw[qY e4];exact h2,h3,⟨PV[i].2,by rw[aY hi2];simp[e2],?_⟩,?_⟩,s2⟩
 . rw[sO,h4]
 . rw[sO,<-h5];refine List.ext_getElem? λj=>?_;rw[xV]
   split
   . next e=>subst e;simp[hi1]
   . rfl
theorem Qb4{P:Prop}(h:P:=by
 have:=congrArg (λl=>l[i]?) h4';simp[aY hi1,hi2] at this;exact this):P:=h
theorem uH.stepB{lo:Nat}{w:World}{h:Nat}{V U:List Value}{NS:List Nat}{i k y:Nat}(H:uH lo w h V U NS i k y){g c:Nat}(hi:U[i]?=some (.slice (some ⟨g,0,none⟩) (NS.getD i 0) c)) :
 iY lo (w.setCell ⟨g,k,none⟩ (.float .f64 y)) h V U NS/\Below lo w (w.setCell ⟨g,k,none⟩ (.float .f64 y)):=by
 obtain⟨PV,PU,H1,h2,h3,⟨L,h4,h4'⟩,h5⟩:=H;have hi2:i<PU.length:=by rw[<-h3] at hi;have:=(iD.1 hi).1;simpa using this
 have hi1:i<PV.length:=by rw[H1.len];exact hi2
 have e1:NS.getD i 0=PV[i].2.length:=by rw[<-h5];simp[bF,aY hi1]
 have e2:PU[i].2=L:=by simpa [aY hi2] using h4
 have e5:PV[i].2=L.set k y:=by
  exact Qb4
 have e3:PU[i].1=.slice (some ⟨g,0,none⟩) (NS.getD i 0) c:=by
  rw[<-h3] at hi;simpa [aY hi2] using hi
 have e4:PU[i]?=some (.slice (some ⟨g,0,none⟩) (NS.getD i 0) c,L):=by rw[aY hi2,<-e3,<-e2]
 obtain⟨s1,s2⟩:=H1.YO k y e4 (by rw[e1,e5,CF]);refine⟨⟨PV,_,s1,h2,by rw[qY e4];exact h3,?_,h5⟩,s2⟩;rw[sO,h4']
theorem jw.other{lo:Nat}{w w':World}{h:Nat}{PV PU:List (Value×List Nat)}(H:jw lo w h PV PU){x:Value}{R:List Nat}(hx:Rf lo w x R)(hg:w.grownBy w' x.ownBlock)(hn:∀b,x.ownBlock=some b->∀p ∈ PV++PU,p.1.ownBlock≠some b):jw lo w' h PV PU:=by
 obtain⟨hlo,hh,⟨ov,wv,h1,h2,h3,h4⟩,hF,hl⟩:=H;have hz:=hg.size;refine⟨dB hlo hz,hh,⟨ov,wv,?_,?_,?_,h4⟩,?_,hl⟩
 . unfold Bl;rw[hg.block h h1.lt (λe=>Ev h1 hx e.symm)];exact h1
 . exact h2.same λb e=>hg.block b (h2.lt b e).2 (λq=>qW h2 hx b e q.symm)
 . exact h3.same λb e=>hg.block b (h3.lt b e).2 (λq=>qW h3 hx b e q.symm)
 . exact hF.same λp hp b e=>hg.block b ((hF.row p hp).lt b e).2 (λq=>hn b q.symm p hp e)
theorem Vo{lo:Nat}{w:World}{h:Nat}{PV PU E:List (Value×List Nat)}{x:Value}{R:List Nat}(y:Nat)(H:jw lo w h PV PU)(F:dw lo w ((x,R)::(E++(PV++PU))))(hR:R.length<=90000) :
 ∃x' W',(Builtin.append_ #[22,22] 22 #[x,.slice (some ⟨w.heap.size,0,none⟩) 1 1]).run Tryz.prog (w.alloc (Obj.cells #[.float .f64 y] 27))=.ok x' W'/\jw lo W' h PV PU/\dw lo W' ((x',R++[y])::(E++(PV++PU)))/\Below lo w W':=by
 have ha:An w (w.alloc (Obj.cells #[.float .f64 y] 27)):=af _ _;have hN:=Bl.new w 27 [.float .f64 y];have hz:w.heap.size<(w.alloc (Obj.cells #[.float .f64 y] 27)).heap.size:=by simp
 have hlo:=H.hlo;have F1:=F.aF ha;have H1:=H.aF ha;have hx:Rf lo _ x R:=F1.row (x,R) kK
 obtain⟨x',W',r1,r2,r3,r5⟩:=mO _ lo x R [y] (some ⟨w.heap.size,0,none⟩) 1 1 22 hx rfl (λ_=>⟨w.heap.size,0,rfl,λi hi=>by
  obtain rfl:i=0:=by simpa using hi
  exact hN.cell 0 _ rfl⟩) aN ae ae
 obtain⟨nd1,nd2⟩:=CS.1 F1.nd;have others:∀p ∈ E++(PV++PU),∀c,p.1.ownBlock=some c->W'.heap[c]?=(w.alloc (Obj.cells #[.float .f64 y] 27)).heap[c]?:=λp hp c e=>r3.block c ((F1.row p (kJ _ hp)).lt c e).2 (λq=>nd1 p hp c q.symm e);have F2:dw lo W' (E++(PV++PU)):=(⟨λp hp=>F1.row p (kJ _ hp),nd2⟩:dw lo _ (E++(PV++PU))).same others;refine⟨x',W',r1,H1.other hx r3 (λb e p hp=>nd1 p (uK _ hp) b e),?_,(ha.mono hlo).trans (gm r3 ae λc e=>(hx.lt c e).1)⟩;refine F2.cons r2 λb' e' p hp=>?_;rcases r5 with r5|r5
 . exact nd1 p hp b' (r5 ▸ e')
 . rw[r5] at e'
   cases e'
   intro e;have:=((F1.row p (kJ _ hp)).lt _ e).2;omega
theorem YP{lo:Nat}{w:World}{h:Nat}{PV PU E:List (Value×List Nat)}{ax:Option Addr}{n i:Nat}{R:List Nat}(y:Nat)(H:jw lo w h PV PU)(F:dw lo w (E++(PV++PU)))(hi:PV[i]?=some (.slice ax n n,R))(hn:n=R.length)(hR:R.length<=90000) :
 ∃x' W',(Builtin.append_ #[22,22] 22 #[.slice ax n n,.slice (some ⟨w.heap.size,0,none⟩) 1 1]).run Tryz.prog (w.alloc (Obj.cells #[.float .f64 y] 27))=.ok x' W'/\jw lo W' h PV PU/\dw lo W' ((x',R++[y])::(E++(PV++PU)))/\Below lo w W':=by
 have ha:An w (w.alloc (Obj.cells #[.float .f64 y] 27)):=af _ _;have hN:=Bl.new w 27 [.float .f64 y];have hz:w.heap.size<(w.alloc (Obj.cells #[.float .f64 y] 27)).heap.size:=by simp
 have hlo:=H.hlo;have F1:=F.aF ha;have H1:=H.aF ha;obtain⟨hil,e⟩:=iD.1 hi;have hx:=H1.VA.row _ (yz PU (gQ hil));rw[e] at hx;obtain⟨W1,hW1⟩:=ah (w.alloc (Obj.cells #[.float .f64 y] 27))
 have main:∃x' W',(Builtin.append_ #[22,22] 22 #[.slice ax n n,.slice (some ⟨w.heap.size,0,none⟩) 1 1]).run Tryz.prog W1=.ok x' W'/\Rf W1.heap.size W' x' (R++[y])/\An W1 W':=by
  rw[hW1];rcases hx.2 with ⟨q,h0⟩|⟨g,cap,cur,q,hglo,hg,hgn,hm,hs,ht⟩
  . obtain rfl:R=[]:=rF h0;have q':Value.slice ax n n=.slice none 0 0:=q;rw[q']
    obtain⟨x',W',r1,r2,r3,_⟩:=mO (w.alloc (Obj.cells #[.float .f64 y] 27)) (w.alloc (Obj.cells #[.float .f64 y] 27)).heap.size (.slice none 0 0) [] [y] (some ⟨w.heap.size,0,none⟩) 1 1 22 (Rf.nil _ _) rfl (λ_=>⟨w.heap.size,0,rfl,λi hi=>by
     obtain rfl:i=0:=by simpa using hi
     exact hN.cell 0 _ rfl⟩) aN aN (aA _)
    exact⟨x',W',r1,r2,gm r3 (aA _) (λb e=>by simp[Value.ownBlock] at e)⟩
  . have q':Value.slice ax n n=.slice (some ⟨g,0,none⟩) R.length cap:=q;simp only[Value.slice.injEq] at q';obtain⟨rfl,_,_⟩:=q';have hx':(w.alloc (Obj.cells #[.float .f64 y] 27)).ownsRow lo 27 1 (.slice (some ⟨g,0,none⟩) n n) n (R.map jD):=by have h:=hx;unfold Rf at h;rw[<-hn] at h;exact h
    obtain⟨i0,hi0,hz0,hz1,hz2⟩:=info_parts Tryz.nK
    obtain⟨x',W',r1,r2,r3⟩:=run_append_arg_grows (P:=Tryz.prog) (w.alloc (Obj.cells #[.float .f64 y] 27)) 22 22 27 i0 (.float .f64 0) 1 8 Tryz.iL hi0 hz0 hz1 hz2 rfl aM ⟨g,0,none⟩ n n (R.map jD) (by simp[hn]) (by
     intro j u hj;have hadd:(⟨g,0,none⟩:Addr).add j=⟨g,j,none⟩:=by unfold Addr.add;split <;> simp_all
     have hj2:j<n:=by have:=(iD.1 hj).1;simp at this;omega
     rw[hadd,World.ownsRow.cellAt hx' j ae]
     exact hj) ⟨w.heap.size,0,none⟩ 1 1 [.float .f64 y] aN (by
     intro j u hj;obtain rfl:j=0:=by have:=(iD.1 hj).1;simpa using this
     simp at hj;subst hj
     exact hN.cell 0 _ rfl) ae (by unfold maxLen;omega) ae
    refine⟨x',W',r1,?_,gm r3 (aA _) (λb e=>by cases e)⟩;unfold Rf;rw[gU,uJ,<-hn,jy];exact r2
 rw[<-hW1] at ha hz F1 H1 |-;obtain⟨x',W',r1,r2,hb2⟩:=main;refine⟨x',W',r1,H1.aF hb2,(F1.aF hb2).cons (r2.mono ae) (λb e1 p hp e'=>?_),(ha.mono hlo).trans (hb2.mono ae)⟩;have:=((F1.row p hp).lt b e').2;have:=(r2.lt b e1).1;omega
theorem dw.swap{lo:Nat}{w:World}{P:List (Value×List Nat)}{a b:Value×List Nat}(h:dw lo w (a::b::P)):dw lo w (b::a::P):=h.perm (List.Perm.swap _ _ _)
def KN(lo:Nat)(w:World)(h:Nat)(PV PU:List (Value×List Nat))(ax:Option Addr)(n i j:Nat)(L:List Nat)(lv wv:Value):Prop :=
 jw lo w h PV PU/\PV[i]?=some (.slice ax n n,L)/\n=L.length/\∃R,R.length=n+j/\((j=0/\lv=.slice ax n n/\R=L/\dw lo w ((wv,R)::(PV++PU)))\/(0<j/\dw lo w ((lv,R)::(wv,R)::(PV++PU))))
def Gh16(lo:Nat)(w:World)(h:Nat)(PV PU:List (Value×List Nat))(ax:Option Addr)(n i j y:Nat)(L:List Nat)(lv wv:Value):Prop :=
 jw lo w h PV PU/\PV[i]?=some (.slice ax n n,L)/\n=L.length/\∃R,R.length=n+j/\dw lo w ((lv,R++[y])::(wv,R)::(PV++PU))
theorem KN.stepL{lo:Nat}{w:World}{h:Nat}{PV PU:List (Value×List Nat)}{ax:Option Addr}{n i j:Nat}{L:List Nat}{lv wv:Value}(y:Nat)(H:KN lo w h PV PU ax n i j L lv wv)(hn:n+j<=90000) :
 ∃a8 n8 c8 W',(Builtin.append_ #[22,22] 22 #[lv,.slice (some ⟨w.heap.size,0,none⟩) 1 1]).run Tryz.prog (w.alloc (Obj.cells #[.float .f64 y] 27))=.ok (.slice a8 n8 c8) W'/\Gh16 lo W' h PV PU ax n i j y L (.slice a8 n8 c8) wv/\Below lo w W':=by
 obtain⟨h1,h2,h3,R,h4,h5⟩:=H
 have main:∃x' W',(Builtin.append_ #[22,22] 22 #[lv,.slice (some ⟨w.heap.size,0,none⟩) 1 1]).run Tryz.prog (w.alloc (Obj.cells #[.float .f64 y] 27))=.ok x' W'/\jw lo W' h PV PU/\dw lo W' ((x',R++[y])::([(wv,R)]++(PV++PU)))/\Below lo w W':=by
  rcases h5 with ⟨a,b,c,d⟩|⟨a,d⟩
  . subst b c;exact YP (E:=[(wv,R)]) y h1 d h2 h3 ae
  . exact Vo (E:=[(wv,R)]) y h1 d ae
 obtain⟨x',W',r1,r2,r3,r4⟩:=main;obtain⟨a8,c8,e,_⟩:=(r3.row _ kK).iM;simp only at e;subst e;exact⟨a8,_,c8,W',r1,⟨r2,h2,h3,R,h4,r3⟩,r4⟩
theorem Gh16.stepW{lo:Nat}{w:World}{h:Nat}{PV PU:List (Value×List Nat)}{ax:Option Addr}{n i j y:Nat}{L:List Nat}{lv wv:Value}(H:Gh16 lo w h PV PU ax n i j y L lv wv)(hn:n+j<=90000) :
 ∃a9 n9 c9 W',(Builtin.append_ #[22,22] 22 #[wv,.slice (some ⟨w.heap.size,0,none⟩) 1 1]).run Tryz.prog (w.alloc (Obj.cells #[.float .f64 y] 27))=.ok (.slice a9 n9 c9) W'/\KN lo W' h PV PU ax n i (j+1) L lv (.slice a9 n9 c9)/\Below lo w W':=by
 obtain⟨h1,h2,h3,R,h4,h5⟩:=H;obtain⟨x',W',r1,r2,r3,r4⟩:=Vo (E:=[(lv,R++[y])]) y h1 h5.swap ae;obtain⟨a9,c9,e,_⟩:=(r3.row _ kK).iM;simp only at e;subst e;exact⟨a9,_,c9,W',r1,⟨r2,h2,h3,R++[y],by rw[gU,uJ];omega,.inr ⟨ae,r3.swap⟩⟩,r4⟩
theorem Qaz{P:Prop}(h:P:=by
 obtain⟨gu,cu,rfl,_,_⟩:=h3.shape ae;rw[l2] at h1 h3;exact⟨gu,cu,h1.cell 1 _ rfl,λi x hx=>h3.cellAt i hx⟩):P:=h
theorem iY.adrU{lo:Nat}{w:World}{h:Nat}{V U:List Value}{NS:List Nat}(H:iY lo w h V U NS)(hp:0<NS.length):∃gu cu,w.cell? ⟨h,1,none⟩=some (.slice (some ⟨gu,0,none⟩) NS.length cu)/\∀i x,U[i]?=some x->w.cell? ⟨gu,i,none⟩=some x:=by
 obtain⟨_,_,⟨ov,wv,h1,h2,h3⟩,_⟩:=H.rows;obtain⟨l1,l2⟩:=H.lens;exact Qaz
theorem jw.copy{lo:Nat}{w:World}{h:Nat}{PV PU:List (Value×List Nat)}{ax:Option Addr}{n i:Nat}{u:Value}{L:List Nat}(H:jw lo w h PV PU)(h1:PV[i]?=some (.slice ax n n,L))(h2:PU[i]?=some (u,L))(hn:n=L.length)(hnb:n<=70000) :
 ∃a9 n9 c9 W',(Builtin.append_ #[22,22] 22 #[.slice (some ⟨w.heap.size,0,none⟩) 0 0,u]).run Tryz.prog (w.alloc (Obj.cells #[] 27))=.ok (.slice a9 n9 c9) W'/\KN lo W' h PV PU ax n i 0 L (.slice ax n n) (.slice a9 n9 c9)/\Below lo w W':=by
 have hlo:=H.hlo;obtain⟨hil,e⟩:=iD.1 h2;have hr:=H.VA.row _ (uK PV (gQ hil));rw[e] at hr;obtain⟨y,W,r1,r2,r3⟩:=MI w (show Rf lo w u L from hr) ae;obtain⟨ay,cy,ey,_⟩:=r2.iM
 have hF:dw lo W ((y,L)::(PV++PU)):=(H.VA.aF r3).cons (r2.mono ae) (λb e1 p hp e'=>by
  have:=((H.VA.row p hp).lt b e').2;have:=(r2.lt b e1).1
  omega)
 subst ey;exact⟨_,_,_,W,r1,⟨H.aF r3,h1,hn,L,ae,.inl ⟨rfl,rfl,rfl,hF⟩⟩,r3.mono ae⟩
attribute [local go_sem] cZ
theorem Cj{lo:Nat}{w:World}{g n c j:Nat}{L:List Nat}(h:Rf lo w (.slice (some ⟨g,0,none⟩) n c) L)(hn:n=L.length)(hj:j<n):(∃z,w.cell? ⟨g,j,none⟩=some (.float .f64 z))/\w.frozen? ⟨g,j,none⟩=false:=by
 subst hn;have h':w.ownsRow lo 27 1 (.slice (some ⟨g,0,none⟩) L.length c) L.length (L.map jD):=h;refine⟨⟨L[j],?_⟩,World.ownsRow.frozenAt h' j⟩;rw[World.ownsRow.cellAt h' j ae,mY,aY hj];rfl
theorem iY.cellV{lo:Nat}{w:World}{h:Nat}{V U:List Value}{NS:List Nat}(H:iY lo w h V U NS){i g c j:Nat}(hi:V[i]?=some (.slice (some ⟨g,0,none⟩) (NS.getD i 0) c))(hj:j<NS.getD i 0):(∃z,w.cell? ⟨g,j,none⟩=some (.float .f64 z))/\w.frozen? ⟨g,j,none⟩=false:=by
 obtain⟨PV,PU,H1,h2,h3,h4,h5⟩:=H;have hi1:i<PV.length:=by rw[<-h2] at hi;have:=(iD.1 hi).1;simpa using this
 have e1:NS.getD i 0=PV[i].2.length:=by rw[<-h5];simp[bF,aY hi1]
 have e3:PV[i].1=.slice (some ⟨g,0,none⟩) (NS.getD i 0) c:=by
  rw[<-h2] at hi;simpa [aY hi1] using hi
 have r1:=H1.VA.row PV[i] (yz _ (gQ hi1));rw[e3] at r1;exact Cj r1 e1 hj
theorem uH.cellU{lo:Nat}{w:World}{h:Nat}{V U:List Value}{NS:List Nat}{i k y:Nat}(H:uH lo w h V U NS i k y){g c j:Nat}(hi:U[i]?=some (.slice (some ⟨g,0,none⟩) (NS.getD i 0) c))(hj:j<NS.getD i 0):(∃z,w.cell? ⟨g,j,none⟩=some (.float .f64 z))/\w.frozen? ⟨g,j,none⟩=false:=by
 obtain⟨PV,PU,H1,h2,h3,⟨L,h4,h4'⟩,h5⟩:=H;have hi2:i<PU.length:=by rw[<-h3] at hi;have:=(iD.1 hi).1;simpa using this
 have hi1:i<PV.length:=by rw[H1.len];exact hi2
 have e1:NS.getD i 0=PV[i].2.length:=by rw[<-h5];simp[bF,aY hi1]
 have e2:PU[i].2=L:=by simpa [aY hi2] using h4
 have e5:PV[i].2=L.set k y:=by
  exact Qb4
 have e3:PU[i].1=.slice (some ⟨g,0,none⟩) (NS.getD i 0) c:=by
  rw[<-h3] at hi;simpa [aY hi2] using hi
 have r1:=H1.VA.row PU[i] (uK _ (gQ hi2));rw[e3] at r1;exact Cj r1 (by rw[e1,e5,CF,e2]) hj
theorem uH.rowU{lo:Nat}{w:World}{h:Nat}{V U:List Value}{NS:List Nat}{i k y:Nat}(H:uH lo w h V U NS i k y):∃ov wv,Bl w h 39 [ov,wv]/\Vw lo w wv U/\U.length=NS.length:=by
 obtain⟨PV,PU,H1,h2,h3,h4,h5⟩:=H;obtain⟨ov,wv,k1,k2,k3,k4⟩:=H1.ex;rw[h3] at k3;exact⟨ov,wv,k1,k3,by rw[<-h3,<-h5];simp[H1.len]⟩
theorem iY.adr{lo:Nat}{w:World}{h:Nat}{V U:List Value}{NS:List Nat}(H:iY lo w h V U NS)(hp:0<NS.length):∃gv cv,w.cell? ⟨h,0,none⟩=some (.slice (some ⟨gv,0,none⟩) NS.length cv)/\∀i x,V[i]?=some x->w.cell? ⟨gv,i,none⟩=some x:=by
 obtain⟨_,_,⟨ov,wv,h1,h2,h3⟩,_⟩:=H.rows;obtain⟨l1,l2⟩:=H.lens;obtain⟨gv,cv,rfl,_,_⟩:=h2.shape ae;rw[l1] at h1 h2;exact⟨gv,cv,h1.cell 0 _ rfl,λi x hx=>h2.cellAt i hx⟩
theorem uH.adr{lo:Nat}{w:World}{h:Nat}{V U:List Value}{NS:List Nat}{i k y:Nat}(H:uH lo w h V U NS i k y)(hp:0<NS.length):∃gu cu,w.cell? ⟨h,1,none⟩=some (.slice (some ⟨gu,0,none⟩) NS.length cu)/\∀i x,U[i]?=some x->w.cell? ⟨gu,i,none⟩=some x:=by
 obtain⟨ov,wv,h1,h3,l2⟩:=H.rowU;exact Qaz
set_option maxRecDepth 100000 in
theorem YQ{lo:Nat}{w:World}{h:Nat}{V U:List Value}{NS:List Nat}(H:iY lo w h V U NS)(hp:0<NS.length)(hl:NS.length<=100)(hb:∀i,i<NS.length->NS.getD i 0<=70000)(hfu:∀i,i<NS.length->∃a,V[i]?=some (.slice a (NS.getD i 0) (NS.getD i 0))) :
 As 14 #[.pointer (some ⟨h,0,none⟩)] w λr w'=>r=.returned (.bool true)/\Below lo w w':=by
 obtain⟨m,hm⟩:=ah (NS.length)
 have hbm:∀n ∈ NS,n<=100000:=λn hn=>by
  obtain⟨i,hi,e⟩:=CG.1 hn;have:=hb i hi;rw[bF,aY hi] at this;simp at this;omega
 have HRD:=hid (fun(u:World) (hu:iY lo u h V U NS)=>hu.reads hp ae hbm);have HA:Hid (∀u:World,iY lo u h V U NS->∃gv cv,u.cell? ⟨h,0,none⟩=some (.slice (some ⟨gv,0,none⟩) m cv)/\∀i x,V[i]?=some x->u.cell? ⟨gv,i,none⟩=some x):=λu hu=>by rw[hm];exact hu.adr hp
 have HA2:Hid (∀(u:World) (i k y:Nat),uH lo u h V U NS i k y->∃gu cu,u.cell? ⟨h,1,none⟩=some (.slice (some ⟨gu,0,none⟩) m cu)/\∀i x,U[i]?=some x->u.cell? ⟨gu,i,none⟩=some x):=λu i k y hu=>by rw[hm];exact hu.adr hp
 rw[<-hm] at hp;have HR:=H.rows;have wU:=ak HR.2.2.2;have HB:=(gy hb hm hl hp hbm);have HFU:=ak hfu;have HLN:=ak H.lens;have H0:=(bA H HR.1);clear HR H hb hbm hl hm hp hfu;go_enter Tryz.func14,Tryz.ntmps14;have C:=hid (HRD.o w H0.o.1);go_wp2_with fail;refine C.o.mono ?_;rintro r u1 ⟨rfl,hb1⟩;have H1:Aside (iY lo u1 h V U NS/\Below lo w u1):=ak ⟨H0.o.1.aF hb1,hb1.mono H0.o.2⟩;clear hb1 C;obtain⟨gv,cv,k0,_⟩:=HA.o u1 H1.o.1;go_wp2;clear k0
 go_loopg [5] m (λgk iv wr=>∃i:Nat,gk+i=m/\iv=.int .i64 (i:Nat)/\Aside (iY lo wr h V U NS/\Below lo w wr))
 case atStart=>exact⟨0,ae,by first | rfl | simp,H1⟩
 case round =>
  clear H1;obtain⟨i,jo,rfl,H2⟩:=hrel
  by_cases hk:i<m
  . have hd:decide ((i:Int)<m)=true:=by simp;omega
    have bi:(i:Int)<m:=ae
    have wi:IntKind.i64.wrap ((i:Int)+1)=((i+1:Nat):Int):=aL ae (by have:=HB.o;omega);have wu:IntKind.u64.wrap (i:Int)=(i:Int):=by have:=HB.o.r2.1;have:=HB.o.2.1;simp[IntKind.wrap,IntKind.bits,IntKind.signed];omega
    obtain⟨Y,hY⟩:∃Y:Nat,Y=4841369599423283200+i:=⟨_,rfl⟩;have wa:IntKind.u64.wrap (4841369599423283200+(i:Int))=(Y:Int):=by have:=HB.o.r2.1;have:=HB.o.2.1;simp[IntKind.wrap,IntKind.bits,IntKind.signed];omega
    have hbi:=HB.o.1 i (by rw[<-HB.o.2.1];exact hk);obtain⟨⟨aV,c,hgi,hglo⟩,aU,c',hgi',Zy⟩:=wU.o i (by rw[<-HB.o.2.1];exact hk);obtain⟨n,hn⟩:=ah (NS.getD i 0);have Sb:=(gy hgi hgi' hn hglo Zy);rw[<-hn] at hgi hgi' hbi;have HG0:=bA hgi hgi';have HK:=bA jo hk;have nb:=hbi;clear jo hk hgi hgi' hbi hn hY hglo Zy;go_wp2
    go_loopg [6] n (λgk2 jv wr2=>∃j:Nat,gk2+j=n/\jv=.int .i64 (j:Nat)/\Aside (iY lo wr2 h V U NS/\Below lo w wr2))
    case atStart=>exact⟨0,ae,by first | rfl | simp,H2⟩
    case round =>
     clear H2;obtain⟨j,Df,rfl,H3⟩:=hrel;obtain⟨gv,cv,k0,kv⟩:=HA.o _ H3.o.1;have k1:=kv i _ HG0.o.1
     by_cases hj:j<n
     . have hdj:decide ((j:Int)<n)=true:=by simp;omega
       have bj:(j:Int)<n:=ae
       have wj:IntKind.i64.wrap ((j:Int)+1)=((j+1:Nat):Int):=aL ae ae;have HJ:=bA Df hj;obtain⟨g,rfl⟩:=Sb.o.r3.1 (by rw[<-Sb.o.r2.1];omega);obtain⟨g',rfl⟩:=Sb.o.r4 (by rw[<-Sb.o.r2.1];omega);have HN:Aside (V[i]?=some (.slice (some ⟨g,0,none⟩) (NS.getD i 0) c)/\U[i]?=some (.slice (some ⟨g',0,none⟩) (NS.getD i 0) c')/\n=NS.getD i 0):=ak ⟨Sb.o.1,Sb.o.2.1,Sb.o.r2.1⟩;have HG:=HG0;clear Df hj kv Sb HG0;go_wp2_with fail;obtain⟨Wda,hWd⟩:=ah (World.drew wr);have hMa:iY lo Wda h V U NS:=by rw[hWd];exact(H3.o.1).aF ((aD _ _).drew)
       have hLa:Below lo w Wda:=by rw[hWd];exact(H3.o.2).drew
       obtain⟨gxa,cxa,y0,yv⟩:=HA.o Wda hMa;refine kR (λw'=>w'.cell? ⟨h,0,none⟩=some (.slice (some ⟨gxa,0,none⟩) m cxa)/\w'.cell? ⟨gxa,i,none⟩=some (.slice (some ⟨g,0,none⟩) n c)) 13 mW ?_;rw[<-hWd];have kS:=ai y0 (yv i _ HG.o.1);clear hWd y0 yv;refine aO 0 35 rfl rfl kS ?_;refine aO 1 36 rfl rfl kS ?_;refine aO 2 37 rfl rfl kS ?_;refine aO 3 38 rfl rfl kS ?_;refine aO 4 39 rfl rfl kS ?_;refine aO 5 40 rfl rfl kS ?_
       try simp only[Act.put,sa,sb,sc]
       refine aO 6 41 rfl rfl kS ?_;refine aO 7 42 rfl rfl kS ?_;refine aO 8 43 rfl rfl kS ?_;refine aO 9 44 rfl rfl kS ?_;refine aO 10 45 rfl rfl kS ?_
       try simp only[Act.put,sa,sb,sc]
       refine dG (i:=11) mW rfl (λK' hK=>?_);go_simp;refine(BR Y Wda).mono ?_;rintro r u ⟨rfl,hu⟩;rw[hu];clear hu u
       try dsimp only
       refine hK.out _ _ (λ_=>kS) ?_;clear hK K'
       try simp only[Act.put,sa,sb,sc]
       refine dG (i:=12) mW rfl (λK' hK=>?_);go_simp;refine hK.out _ _ (λ_=>kS) ?_;clear hK K' kS
       try simp only[Act.put,sa,sb,sc]
       obtain⟨⟨z,z0⟩,zf⟩:=hMa.cellV (i:=i) (j:=j) HN.o.1 (by rw[<-HN.o.r2];exact HJ.o.2);refine dG (i:=13) mW rfl (λK' hK=>?_);go_simp;refine hK.out _ _ (λh=>absurd h aM) ?_;clear hK K' z0 zf
       try simp only[Act.put,sa,sb,sc]
       refine nV mW ?_ _;obtain⟨s1,s2⟩:=hMa.stepA (i:=i) j Y HN.o.1;obtain⟨W2,hW2⟩:=ah (Wda.setCell ⟨g,j,none⟩ (.float .f64 Y));rw[<-hW2] at s1 s2 |-;have hL2:Below lo w W2:=hLa.trans s2;clear hW2 s2 hMa hLa H3;go_wp2_with fail;obtain⟨Wdb,hWd⟩:=ah (World.drew W2);have hMb:uH lo Wdb h V U NS i j Y:=by rw[hWd];exact(s1).aF ((aD _ _).drew)
       have hLb:Below lo w Wdb:=by rw[hWd];exact(hL2).drew
       obtain⟨gxb,cxb,y0,yv⟩:=HA2.o Wdb i j Y hMb;refine kR (λw'=>w'.cell? ⟨h,1,none⟩=some (.slice (some ⟨gxb,0,none⟩) m cxb)/\w'.cell? ⟨gxb,i,none⟩=some (.slice (some ⟨g',0,none⟩) n c')) 13 mW ?_;rw[<-hWd];have kS:=ai y0 (yv i _ HG.o.2);clear hWd y0 yv;refine aO 0 48 rfl rfl kS ?_;refine aO 1 49 rfl rfl kS ?_;refine aO 2 50 rfl rfl kS ?_;refine aO 3 51 rfl rfl kS ?_;refine aO 4 52 rfl rfl kS ?_;refine aO 5 53 rfl rfl kS ?_
       try simp only[Act.put,sa,sb,sc]
       refine aO 6 54 rfl rfl kS ?_;refine aO 7 55 rfl rfl kS ?_;refine aO 8 56 rfl rfl kS ?_;refine aO 9 57 rfl rfl kS ?_;refine aO 10 58 rfl rfl kS ?_
       try simp only[Act.put,sa,sb,sc]
       refine dG (i:=11) mW rfl (λK' hK=>?_);go_simp;refine(BR Y Wdb).mono ?_;rintro r u ⟨rfl,hu⟩;rw[hu];clear hu u
       try dsimp only
       refine hK.out _ _ (λ_=>kS) ?_;clear hK K'
       try simp only[Act.put,sa,sb,sc]
       refine dG (i:=12) mW rfl (λK' hK=>?_);go_simp;refine hK.out _ _ (λ_=>kS) ?_;clear hK K' kS
       try simp only[Act.put,sa,sb,sc]
       obtain⟨⟨z,z0⟩,zf⟩:=hMb.cellU (i:=i) (j:=j) HN.o.2.1 (by rw[<-HN.o.r2];exact HJ.o.2);refine dG (i:=13) mW rfl (λK' hK=>?_);go_simp;refine hK.out _ _ (λh=>absurd h aM) ?_;clear hK K' z0 zf
       try simp only[Act.put,sa,sb,sc]
       refine nV mW ?_ _;obtain⟨s3,s4⟩:=hMb.stepB HN.o.2.1;obtain⟨W3,hW3⟩:=ah (Wdb.setCell ⟨g',j,none⟩ (.float .f64 Y));rw[<-hW3] at s3 s4 |-;have H4:Aside (iY lo W3 h V U NS/\Below lo w W3):=ak ⟨s3,hLb.trans s4⟩;clear hW3 s3 s4 hMb hLb s1 hL2;go_wp2;go_roundg (n-(j+1))
       case measure=>have:=HJ.o;omega
       case rel=>exact⟨j+1,by have:=HJ.o;omega,by first | rfl | simp,H4⟩
     . have hdj:decide ((j:Int)<n)=false:=by simp;omega
       clear kv;go_wp2;go_roundg (m-(i+1))
       case measure=>exact x6
       case rel=>exact⟨i+1,by have:=HK.o;omega,by first | rfl | simp,H3⟩
  . have hd:decide ((i:Int)<m)=false:=by simp;omega
    have hd':decide (i<m)=false:=by simp;omega
    have C:=hid (HRD.o _ H2.o.1);go_wp2_with fail;refine C.o.mono ?_;rintro r u2 ⟨rfl,hb2⟩;have H5:Aside (iY lo u2 h V U NS/\Below lo w u2):=ak ⟨H2.o.1.aF hb2,H2.o.2.trans (hb2.mono H2.o.1.rows.1)⟩;clear hb2 C H2 hd hd' hk jo HA HA2 HRD wU H0;go_wp2
    go_loopg [7] m (λgk iv wr=>∃i:Nat,gk+i=m/\iv=.int .i64 (i:Nat)/\Aside ((∃EV EU EN,EN.length=i/\iY lo wr h (V++EV) (U++EU) (NS++EN)/\∀n ∈ EN,n<=100000)/\Below lo w wr))
    case atStart=>exact⟨0,ae,by first | rfl | simp,ak ⟨⟨[],[],[],rfl,by simpa using H5.o.1,aN⟩,H5.o.2⟩⟩
    case round =>
     clear H5;obtain⟨i,jo,rfl,H6⟩:=hrel
     by_cases hk:i<m
     . have hd:decide ((i:Int)<m)=true:=by simp;omega
       have bi:(i:Int)<m:=ae
       have wi:IntKind.i64.wrap ((i:Int)+1)=((i+1:Nat):Int):=aL ae (by have:=HB.o;omega);have wu:IntKind.u64.wrap (i:Int)=(i:Int):=by have:=HB.o.r2.1;have:=HB.o.2.1;simp[IntKind.wrap,IntKind.bits,IntKind.signed];omega
       obtain⟨Y,hY⟩:∃Y:Nat,Y=4845873199050653696+i:=⟨_,rfl⟩;have wa:IntKind.u64.wrap (4845873199050653696+(i:Int))=(Y:Int):=by have:=HB.o.r2.1;have:=HB.o.2.1;simp[IntKind.wrap,IntKind.bits,IntKind.signed];omega
       obtain⟨⟨EV,EU,EN,hEN,HM,hEb⟩,hL6⟩:=H6.o;have Vp:i<NS.length:=by rw[<-HB.o.2.1];exact hk
       have hbi:=HB.o.1 i Vp;obtain⟨ax,hgi⟩:=HFU.o i Vp;obtain⟨n,hn⟩:=ah (NS.getD i 0);rw[<-hn] at hgi hbi;have hnA:(NS++EN).getD i 0=n:=by rw[hn,bF,bF,sQ Vp]
       have hgA:(V++EV)[i]?=some (.slice ax n n):=by rw[sQ (by rw[HLN.o.1];exact Vp)];exact hgi
       obtain⟨_,aU,c',hgi',_⟩:=HM.rows.2.2.2 i (by rw[gU];omega);rw[hnA] at hgi';obtain⟨M,hM⟩:=ah ((NS++EN).length);have hML:M=m+i:=by rw[hM,gU,hEN,<-HB.o.2.1]
       have bM:(i:Int)<M:=ae
       obtain⟨gv,cv,k0,kv⟩:=HM.adr (by rw[gU];omega);rw[<-hM] at k0;have k1:=kv i _ hgA;obtain⟨PV,PU,Q1,Q2,Q3,Q4,Q5⟩:=HM;have hiP:i<PV.length:=by have:=congrArg List.length Q5;simp at this;omega
       have hiU:i<PU.length:=by rw[<-Q1.len];exact hiP
       have e1:PV[i]?=some (.slice ax n n,PV[i].2):=by
        rw[<-Q2] at hgA;simp[aY hiP] at hgA;rw[aY hiP,<-hgA]
       have e2:PU[i]?=some (.slice aU n c',PV[i].2):=by
        rw[<-Q3] at hgi';simp[aY hiU] at hgi';have e3:=congrArg (λl=>l[i]?) Q4;simp[aY hiP,aY hiU] at e3;rw[aY hiU,<-hgi',e3]
       have e4:n=PV[i].2.length:=by
        rw[<-hnA,<-Q5];simp[bF,aY hiP]
       obtain⟨L,hLL⟩:=ah (PV[i].2);rw[<-hLL] at e1 e2 e4;obtain⟨a9,n9,c9,W5,r1,hG,hb5⟩:=Q1.copy e1 e2 e4 hbi;have HM2:iY lo _ h (V++EV) (U++EU) (NS++EN):=⟨PV,PU,Q1,Q2,Q3,Q4,Q5⟩;have HMA:=HM2.aF (af _ (Obj.cells #[] 27));obtain⟨gu,cu,j0,jv⟩:=HMA.adrU (by rw[gU];omega);rw[<-hM] at j0;have j1:=jv i (.slice aU n c') (by rw[<-Q3,mY,e2];rfl);have YL:=ak r1;have HG0:Aside (KN lo W5 h PV PU ax n i 0 L (.slice ax n n) (.slice a9 n9 c9)/\Below lo w W5):=ak ⟨hG,hL6.trans hb5⟩;have HK:=(Ck jo hk hbi hEN hEb hML e4 Q1.len);have HP:=(iN Q2 Q3 Q4 Q5);have hnb:=hbi;clear jo hk hbi hEN hEb hML e4 Q1 Q2 Q3 Q4 Q5 kv jv HM2 HMA r1 hG hb5 e1 e2 hgi hgi' hgA hnA hn hiP hiU hLL hM Vp hL6 hY H6
       go_wp2_with (at_builtin;refine eZ rfl (.tmp 78) (.tmp 85) 22 rfl _ _ rfl rfl _ _ YL.o ?_)
       clear YL k0 k1 j0 j1;go_wp2
       go_loopg [8,9,10] 12 (λgk2 lv sv jv wr2=>∃(j:Nat) (a8:Option Addr) (n8 c8:Nat) (a9:Option Addr) (n9 c9:Nat),gk2+j=12/\lv=.slice a8 n8 c8/\sv=.slice a9 n9 c9/\jv=.int .i64 (j:Nat)/\Aside (KN lo wr2 h PV PU ax n i j L (.slice a8 n8 c8) (.slice a9 n9 c9)/\Below lo w wr2))
       case atStart=>exact⟨0,ax,n,n,a9,n9,c9,ae,rfl,rfl,by first | rfl | simp,HG0⟩
       case round =>
        clear HG0;obtain⟨j,a8,n8,c8,a9,n9,c9,Df,rfl,rfl,rfl,H7⟩:=hrel
        by_cases hj:j<12
        . have hdj:decide ((j:Int)<12)=true:=by simp;omega
          have wj:IntKind.i64.wrap ((j:Int)+1)=((j+1:Nat):Int):=aL ae ae;obtain⟨a8',n8',c8',W6,r1,hH,hb6⟩:=H7.o.1.stepL Y ae;obtain⟨a9',n9',c9',W7,r2,hG,hb7⟩:=hH.stepW ae;have HR1:=ak r1;have HR2:=ak r2;have H8:Aside (KN lo W7 h PV PU ax n i (j+1) L (.slice a8' n8' c8') (.slice a9' n9' c9')/\Below lo w W7):=ak ⟨hG,(H7.o.2.trans hb6).trans hb7⟩;have HJ:=bA Df hj;clear Df hj r1 r2 hG hH hb6 hb7 H7;go_wp2_with fail;refine(BR Y _).mono ?_;rintro r u ⟨rfl,hu⟩;rw[hu];clear hu u
          go_wp2_with (at_builtin;refine eZ rfl (.tmp 91) (.tmp 96) 22 rfl _ _ rfl rfl _ _ HR1.o ?_)
          refine(BR Y _).mono ?_;rintro r u ⟨rfl,hu⟩;rw[hu];clear hu u
          go_wp2_with (at_builtin;refine eZ rfl (.tmp 98) (.tmp 103) 22 rfl _ _ rfl rfl _ _ HR2.o ?_)
          go_wp2;go_roundg (12-(j+1))
          case measure=>have:=HJ.o;omega
          case rel=>exact⟨j+1,a8',n8',c8',a9',n9',c9',by have:=HJ.o;omega,rfl,rfl,by first | rfl | simp,H8⟩
        . have hdj:decide ((j:Int)<12)=false:=by simp;omega
          have hdj':decide (j<12)=false:=by simp;omega
          obtain⟨⟨hlo,hh,⟨ov,wv,hB,hO,hU,hne⟩,hF0,hlen⟩,_,_,R,hR,hcase⟩:=H7.o.1;have hF:=(hcase.resolve_left (λq=>by have:=q.1;omega)).2
          have hPl:PV.length<=1000:=by
           have q:=congrArg List.length HP.o.1;have q2:=congrArg List.length HP.o.r3;simp at q q2;have:=HK.o;have:=HB.o;omega
          obtain⟨v',w2,r1,b2,s1,s2,s3,s4,s5,s6,s7,s8⟩:=Ip hB hO hU hne hF hlo hh (by simp;omega) (x:=.slice a8 n8 c8) rfl;obtain⟨ao,ca,x1,_⟩:=hO.iM;obtain⟨au,cu,x2,_⟩:=hU.iM;obtain⟨a3,c3,x3,_⟩:=s2.iM;rw[gU,mZ,uJ] at x3;rw[mZ] at x1 x2;subst x1 x2 x3;obtain⟨W3,hW3⟩:=ah (w2.setCell ⟨h,0,none⟩ (.slice a3 (PV.length+1) c3));have HW3:=ak hW3;rw[<-hW3] at s1 s2 s3 s5 s6 s7 s8;have hlo3:lo<=W3.heap.size:=dB hlo s7;obtain⟨v5,W7,q1,q2,t1,t2,t3,t4,t5,t6,t7,t8⟩:=Ci s1 s3 s2 (λb e1 e2=>s4 b e2 e1) s5 hlo3 hh (by simp;omega) (x:=.slice a9 n9 c9) rfl;obtain⟨a5,c5,x5,_⟩:=t2.iM;rw[gU,mZ,uJ] at x5;subst x5;obtain⟨W8,hW8⟩:=ah (W7.setCell ⟨h,1,none⟩ (.slice a5 (PU.length+1) c5));have HW8:=ak hW8;rw[<-hW8] at t1 t2 t3 t5 t6 t7 t8;have k0:World.cell? _ ⟨h,0,none⟩=some (.slice ao PV.length ca):=hB.cell 0 _ rfl;have z0:w2.cell? ⟨h,0,none⟩=some (.slice ao PV.length ca):=b2.cell 0 _ rfl;have zf0:w2.frozen? ⟨h,0,none⟩=false:=b2.frozen 0;have k1:W3.cell? ⟨h,1,none⟩=some (.slice au PU.length cu):=s1.cell 1 _ rfl;have z1:W7.cell? ⟨h,1,none⟩=some (.slice au PU.length cu):=q2.cell 1 _ rfl;have zf1:W7.frozen? ⟨h,1,none⟩=false:=q2.frozen 1;have hBN:jw lo W8 h (PV++[(.slice a8 n8 c8,R)]) (PU++[(.slice a9 n9 c9,R)]):=⟨dB hlo3 t7,hh,⟨_,_,t1,by rw[jy];exact t3,by rw[jy];exact t2,λb e1 e2=>t4 b e2 e1⟩,t5.swap.perm (xe _ _ _ _),by simp[hlen]⟩;have hMN:iY lo W8 h (V++(EV++[.slice a8 n8 c8])) (U++(EU++[.slice a9 n9 c9])) (NS++(EN++[R.length])):=⟨_,_,hBN,by rw[jy,HP.o.1];simp,by rw[jy,HP.o.2.1];simp,by rw[jy,jy,HP.o.r2.1];simp,by rw[jy,HP.o.r3];simp⟩
          have HN1:Aside ((∃EV EU EN,EN.length=i+1/\iY lo W8 h (V++EV) (U++EU) (NS++EN)/\∀n ∈ EN,n<=100000)/\Below lo w W8):=ak ⟨⟨_,_,_,by have:=HK.o.r3.1;simp[this],hMN,λq hq=>by
           rcases Cn.1 hq with hq|hq
           . exact HK.o.r4.1 q hq
           . simp at hq;omega⟩,(H7.o.2.trans s6).trans t6⟩
          have HR1:=ak r1;have HR2:=ak q1;clear hlo hh hB hO hU hne hF0 hlen hR hcase hF hPl r1 b2 s1 s2 s3 s4 s5 s6 s7 s8 hlo3 q1 q2 t1 t2 t3 t4 t5 t6 t7 t8 hBN hMN hW3 hW8 H7
          go_upto_region 22 with fail
          go_upto_region 23 with (at_builtin;refine eZ rfl (.tmp 109) (.tmp 111) 37 rfl _ _ rfl rfl _ _ HR1.o ?_)
          rw[<-HW3.o];clear HW3 HR1 k0 z0 zf0
          go_wp2_with (at_builtin;refine eZ rfl (.tmp 119) (.tmp 121) 37 rfl _ _ rfl rfl _ _ HR2.o ?_)
          rw[<-HW8.o];clear HW8 HR2 k1 z1 zf1;go_wp2;go_roundg (m-(i+1))
          case measure=>exact x6
          case rel=>exact⟨i+1,by have:=HK.o;omega,by first | rfl | simp,HN1⟩
     . have hd:decide ((i:Int)<m)=false:=by simp;omega
       have hd':decide (i<m)=false:=by simp;omega
       obtain⟨⟨EV,EU,EN,hEN,HM,hEb⟩,hL6⟩:=H6.o
       have C:=hid (HM.reads (by rw[gU];have:=HB.o;omega) (by rw[gU];have:=HB.o;omega) (λn hn=>by
        rcases Cn.1 hn with hn|hn
        . exact HB.o.r4 n hn
        . exact hEb n hn))
       have HL:=(bA HM.rows.1 hL6);clear hEN HM hEb hL6 H6 jo;go_wp2_with fail;refine C.o.mono ?_;rintro r u3 ⟨rfl,hb3⟩;have H9:=ak (HL.o.2.trans (hb3.mono HL.o.1));clear hb3 C HL;go_wp2;go_ret;exact⟨rfl,H9.o⟩
end
section
open Go Go.RowKit J
theorem Vq{w:World}{g:Nat}{xs:List Nat}(h:eO w g (xs++List.replicate 8 jE)):Fs w.heap.size w (some ⟨g,0,none⟩) xs:=by
 have:=h.fs h.lt xs.length;rw[show(xs++List.replicate 8 jE).take xs.length=xs by simp] at this;exact this
structure YR (w u2 u3 u:World) (g N:Nat) (xs L:List Nat) (aa ab:Option Addr):Prop where
 b:An w u
 o:eO u g (xs++List.replicate 8 jE)
 d:An u2 u
 ra:Rf u2.heap.size u (.slice aa N N) L
 rb:Rf u3.heap.size u (.slice ab N N) L
 na:∀b,(Value.slice aa N N).ownBlock=some b->b<u3.heap.size
theorem YR.aF{w u2 u3 u u':World}{g N:Nat}{xs L:List Nat}{aa ab:Option Addr}(h:YR w u2 u3 u g N xs L aa ab)(hb:An u u'):YR w u2 u3 u' g N xs L aa ab :=
 ⟨h.b.trans (hb.mono h.b.size),h.o.below hb h.o.lt,h.d.trans (hb.mono h.d.size),h.ra.aF hb,h.rb.aF hb,h.na⟩
set_option maxRecDepth 100000 in
theorem sM(a:Option Addr)(n c:Nat)(xs:List Nat)(parts rule mode:Int)(w:World)(hT:gP w)(hC:Zm w a n c xs)(hm:n<=17592186043904) :
 At 4 #[.slice a n c,.int .i64 parts,.int .i64 rule,.int .i64 mode] w (.bool true):=by
 obtain⟨hl1,hnc,hW1,hF1,_⟩:=hC;have up:∀u:World,An w u->Fs u.heap.size u a xs/\gP u/\Fs w.heap.size u a xs:=λu hb=>⟨(hF1.below hb).mono hb.size,hT.belows hb,hF1.below hb⟩;have hNb:=Iq xs parts rule mode;obtain⟨N,hN⟩:=ah ((oM xs parts rule mode).length);have HS:Hid (∀(u:World) (g:Nat),An w u->eO u g (xs++List.replicate 8 jE)->As 11 #[.slice (some ⟨g,0,none⟩) n (n+8),.int .i64 parts,.int .i64 rule,.int .i64 mode] u λr w'=>(∃aa,r=.returned (.tuple #[.slice aa N N,.int .i64 (nM xs parts rule mode)])/\Rf u.heap.size w' (.slice aa N N) (oM xs parts rule mode))/\An u w'):=λu g hb ho=>KL xs (some ⟨g,0,none⟩) n (n+8) parts rule mode u (up u hb).2.1 (Vq ho) hl1 ae hW1 hN;have HQ:Hid (∀u:World,An w u->As 12 #[.slice a n c,.int .i64 parts,.int .i64 rule,.int .i64 mode] u λr w'=>(∃aa c,r=.returned (.tuple #[.slice aa N c,.int .i64 (nM xs parts rule mode)])/\Rf u.heap.size w' (.slice aa N c) (oM xs parts rule mode))/\An u w'):=λu hb=>Ir xs a n c parts rule mode u (up u hb).1 hl1 ae ae hW1 hN;have HA:=hid (fun(u:World) (hb:An w u)=>live16 u (up u hb).2.1);have HL:=hid (fun(u:World) (hb:An w u)=>X9 xs a n c u.heap.size u hl1 hm (up u hb).1 (aA _));have HK:=hid (fun(u:World) (g:Nat) (hb:An w u) (ho:eO u g (xs++List.replicate 8 jE))=>PW xs a n c u.heap.size g u hl1 hm (up u hb).1 (aA _) ho);obtain⟨e,he⟩:=ah (nM xs parts rule mode);obtain⟨L,hLL⟩:=ah (oM xs parts rule mode);rw[<-he,<-hLL] at HS HQ;rw[<-hLL] at hN hNb;have HN:=(bA hN hNb);have nb:N<=65537:=ae
 clear hl1 hW1 hF1 up hT hm hnc he hLL hN hNb;go_enter Tryz.func4,Tryz.ntmps4;have C:=hid (HA.o w (aD _ _));go_wp2_with fail;refine C.o.mono ?_;rintro r u1 ⟨rfl,hb⟩;have B1:=ak hb;clear hb HA C;have C:=hid (HL.o u1 B1.o);go_wp2_with fail;refine C.o.mono ?_;rintro r u2 ⟨rfl,ho,hb⟩;obtain⟨g,hg⟩:=ah (u1.heap.size);rw[<-hg] at ho |-;have B2:Aside (An w u2/\eO u2 g (xs++List.replicate 8 jE)):=⟨B1.o.trans (hb.mono B1.o.size),ho⟩;clear hb ho hg B1 HL C;have C:=hid (HS.o u2 g B2.o.1 B2.o.2);go_wp2_with fail;refine C.o.mono ?_;rintro r u3 ⟨⟨aa,rfl,ra⟩,hb3⟩;have B3:Aside (An w u3/\eO u3 g (xs++List.replicate 8 jE)/\An u2 u3/\Rf u2.heap.size u3 (.slice aa N N) L):=⟨B2.o.1.trans (hb3.mono B2.o.1.size),B2.o.2.below hb3 B2.o.2.lt,hb3,ra⟩;clear hb3 ra C;have C:=hid (HS.o u3 g B3.o.1 B3.o.2.1);go_wp2_with fail;refine C.o.mono ?_;rintro r u4 ⟨⟨ab,rfl,rb⟩,hb4⟩;have B4:Aside (YR w u2 u3 u4 g N xs L aa ab):=⟨B3.o.1.trans (hb4.mono B3.o.1.size),B3.o.2.1.below hb4 B3.o.2.1.lt,B3.o.r2.1.trans (hb4.mono B3.o.r2.1.size),B3.o.r3.aF hb4,rb,λb q=>(B3.o.r3.lt b q).2⟩;have hz:=B3.o.r2.1.size;have HZ:=(bA hz B2.o.2.lt);have HLO:=ak B2.o.1.size;clear hb4 rb C B3 HS hz B2;have C:=hid (HK.o u4 g B4.o.b B4.o.o);go_wp2_with fail;refine C.o.mono ?_;rintro r u5 ⟨rfl,hb5⟩;have B5:=ak (B4.o.aF hb5);clear hb5 C B4;have C:=hid (HQ.o u5 B5.o.b);go_wp2_with fail;refine C.o.mono ?_;rintro r u6 ⟨⟨aw,cw,rfl,rw6⟩,hb6⟩;have B6:=bA (B5.o.aF hb6) rw6;clear hb6 rw6 C B5 HQ;have k3:(e != e)=false:=by simp
 have k4:((N:Int) != N)=false:=by simp
 go_wp2;clear k3 k4
 go_loopg [18] N (λgk iv wr=>∃i:Nat,gk+i=N/\iv=.int .i64 (i:Nat)/\Aside (An u6 wr))
 case atStart=>exact⟨0,ae,by first | rfl | simp,aD _ _⟩
 case round =>
  obtain⟨i,jo,rfl,H2⟩:=hrel
  by_cases hk:i<N
  . have hd:decide ((i:Int)<N)=true:=by simp;omega
    have bi:(i:Int)<N:=ae
    have wi:IntKind.i64.wrap ((i:Int)+1)=((i+1:Nat):Int):=aL ae ae;have hLp:0<L.length:=by rw[<-HN.o.1];omega
    obtain⟨ga,ca,q1,_,_,_,_,kA⟩:=(B6.o.1.ra.aF H2.o).shape hLp;obtain⟨gb,cb,q2,_,_,_,_,kB⟩:=(B6.o.1.rb.aF H2.o).shape hLp;obtain⟨gw,cw',q3,_,_,_,_,kW⟩:=(B6.o.2.aF H2.o).shape hLp;have c1:=kA i (by rw[<-HN.o.1];exact hk);have c2:=kB i (by rw[<-HN.o.1];exact hk);have c3:=kW i (by rw[<-HN.o.1];exact hk);simp only[Value.slice.injEq] at q1 q2 q3;obtain⟨q1,_,_⟩:=q1;obtain⟨q2,_,_⟩:=q2;obtain⟨q3,_,_⟩:=q3;obtain⟨x,hx⟩:=ah (L.getD i 0);rw[<-hx] at c1 c2 c3;have CA:Hid (∀v:World,Ax 10 #[.float .f64 x,.float .f64 x] v (.bool true)):=λv=>by have:=Yr x x v;simpa using this
    have HD:Aside (∀m,An u6 (World.drewN _ m)):=λm=>by have h:=H2.o;exact⟨h.os,h.tape,h.output,h.size,h.block⟩
    have HKK:=bA jo hk;clear jo hk H2 hLp kA kB kW hx;subst q1 q2 q3;go_wp2_with fail
    go_quiet (first | (go_at_call 10;exact Calls.quiet_of_same (CA.o _)))
    go_wp2;go_roundg (N-(i+1))
    case measure=>have:=HKK.o;omega
    case rel=>exact⟨i+1,by have:=HKK.o;omega,by first | rfl | simp,HD.o _⟩
  . have hd:decide ((i:Int)<N)=false:=by simp;omega
    have hd':decide (i<N)=false:=by simp;omega
    have hh2:=H2.o;have HB1:=Bl.new wr 39 [.slice none 0 0,.slice none 0 0];obtain⟨W7,hW7⟩:=ah (wr.alloc (Obj.cells #[.slice none 0 0,.slice none 0 0] 39));obtain⟨h,hh⟩:=ah (wr.heap.size);have hb7:An wr W7:=by rw[hW7];exact af _ _
    have HB1:Bl W7 h 39 [.slice none 0 0,.slice none 0 0]:=by rw[hW7,hh];exact HB1
    have hz7:wr.heap.size<W7.heap.size:=by rw[hW7];simp
    obtain⟨⟨b1,b2,b3,b4,b5,b6⟩,_⟩:=B6.o;obtain⟨z1,z2⟩:=HZ.o;obtain⟨hN,hNb⟩:=HN.o;have e6:=b3.size;have e7:=hh2.size;have Vr:An u6 W7:=hh2.trans (hb7.mono e7);have ra:Rf u2.heap.size W7 (.slice aa N N) L:=b4.aF Vr;have rb:Rf u3.heap.size W7 (.slice ab N N) L:=b5.aF Vr;have hw7:An w W7:=b1.trans (Vr.mono b1.size);have Vs:eO W7 g (xs++List.replicate 8 jE):=b2.below Vr b2.lt;have H0:jw u2.heap.size W7 h [] []:=⟨ae,ae,⟨_,_,HB1,Vw.nil _ _,Vw.nil _ _,λb q=>by simp[Value.ownBlock] at q⟩,dw.nil _ _,rfl⟩;have T1:=hid (Vm H0 ra (λb _ p hp=>by simp at hp) aN ae);have HX:=(QC ra rb hw7 Vs z1 z2 b6 hN hNb);have HW:=(bA hW7 hh);have HD7:=ak (show ∀b,(Value.slice ab N N).ownBlock=some b->b<W7.heap.size from λb q=>(rb.lt b q).2);clear hh2 HB1 hb7 hz7 b1 b2 b3 b4 b5 b6 z1 z2 hN hNb e6 e7 Vr ra rb hw7 Vs H0 H2 B6 hW7 hh HZ HN hk jo
    go_upto_region 15 with fail
    rw[<-HW.o.1,<-HW.o.2];clear HW;go_wp2_with fail;refine T1.o.mono ?_;rintro r u8 ⟨rfl,⟨y1,H8,hy1⟩,Qw,hf8⟩;obtain⟨ra,rb,hw7,Vs,z1,z2,b6,hN,hNb⟩:=HX.o;have rb8:Rf u3.heap.size u8 (.slice ab N N) L:=rb.fst hf8;have H8':jw u2.heap.size u8 h [(.slice aa N N,L)] [(y1,L)]:=H8
    have T2:=hid (Vm H8' (rb8.mono z1) (λb q p hp=>by
     have q1:=(rb8.lt b q).1;rcases pg.1 hp with rfl|hp
     . intro q2;have:=b6 b q2;omega
     . obtain rfl:p=(y1,L):=by simpa using hp
       intro q2;have:=hy1 b q2;have:=HD7.o b q
       omega) aN ae)
    have HY:=(Ew Qw hw7 Vs z1 z2 hN hNb);clear ra rb hw7 Vs z1 z2 b6 hN hNb rb8 H8 H8' hy1 Qw hf8 T1 HX HD7;go_wp2_with fail;refine T2.o.mono ?_;rintro r u9 ⟨rfl,⟨y2,H9,_⟩,hb9,_⟩;obtain⟨Qw,hw7,Vs,z1,z2,hN,hNb⟩:=HY.o;have HM9:iY u2.heap.size u9 h [.slice aa N N,.slice ab N N] [y1,y2] [N,N]:=⟨_,_,H9,rfl,rfl,rfl,by simp[hN]⟩
    have O:=hid (YQ HM9 aN aN (λi hi=>by
     match i,hi with
     | 0,_=>show N<=70000;omega
     | 1,_=>show N<=70000;omega) (λi hi=>by
     match i,hi with
     | 0,_=>exact⟨aa,rfl⟩
     | 1,_=>exact⟨ab,rfl⟩))
    have HV:=(iN (Qw.trans hb9) hw7 Vs z2);clear Qw hw7 Vs z1 z2 hN hNb H9 HM9 hb9 T2 HY;go_wp2_with fail;refine O.o.mono ?_;rintro r u10 ⟨rfl,hb10⟩;obtain⟨hb9,hw7,Vs,z2⟩:=HV.o;have hbl:=hb9.trans hb10;have hg10:eO u10 g (xs++List.replicate 8 jE):=Vs.below hbl z2;have hw10:An w u10:=hw7.trans (hbl.mono HLO.o);have C:=hid (HK.o u10 g hw10 hg10);have HW10:=ak hw10;clear hb9 hw7 Vs z2 hbl hg10 hw10 hb10 O HV;go_wp2_with fail;refine C.o.mono ?_;rintro r u11 ⟨rfl,hb11⟩;have HE:=ak (HW10.o.trans (hb11.mono HW10.o.size));clear hb11 C;go_wp2;go_ret;exact⟨by first | rfl | simp,HE.o⟩
end
end Go.Proofs.YtjppdacikihpdaaGreatDoor
