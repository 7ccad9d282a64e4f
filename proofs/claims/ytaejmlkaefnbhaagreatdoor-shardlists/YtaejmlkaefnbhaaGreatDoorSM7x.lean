import Derived.Test.YtaejmlkaefnbhaaGreatDoorSH7x
import Derived.Test.YtaejmlkaefnbhaaGreatDoorF3x
import Derived.Test.YtaejmlkaefnbhaaGreatDoorSN4x
import Derived.Test.YtaejmlkaefnbhaaGreatDoorM1x
import Derived.ProofKit
import Derived.OpenShut
import Derived.ChangeOld
import Derived.ChangeArms
import Derived.SizedLaws
import Derived.Laws.Cover2
import Derived.Test.YtaejmlkaefnbhaaGreatDoorPR1x
import Derived.ArgAppend
import Derived.WalkMore
import Derived.Test.YtaejmlkaefnbhaaGreatDoorD21x
import Derived.OwnWalk
import Derived.Deep.CutRange
import Derived.Deep.RegionHeld3
set_option linter.unusedVariables false
set_option linter.unusedSimpArgs false
set_option maxHeartbeats 16000000
set_option maxRecDepth 20000
namespace Go.Proofs.YtaejmlkaefnbhaaGreatDoor
namespace J
end J
section
open Go Go.RowKit J
theorem cK.lt{w:World}{g:Nat}{xs:List Nat}(h:cK w g xs):g<w.heap.size:=by obtain⟨_,_,lo,hi,_,_,h⟩:=h;exact h.lt
theorem cK.aD{w w':World}{g:Nat}{xs:List Nat}(h:cK w g xs)(hb:Below w.heap.size w w'):cK w' g xs:=by
 obtain⟨h1,h2,lo,hi,h3,h4,h⟩:=h;exact⟨h1,h2,lo,hi,h3,h4,h.aD hb⟩
theorem cK.but{w w':World}{g g' T:Nat}{C:List Value}{xs:List Nat}(h:cK w g xs)(hB:Bl w g' T C)(hT:T≠138)(hb:But g' w w')(hg:g≠g'):cK w' g xs:=by
 obtain⟨h1,h2,lo,hi,h3,h4,h⟩:=h;exact⟨h1,h2,lo,hi,h3,h4,h.but hB hT hb hg⟩
theorem zt{α:Type}(f:α->Int):∀ (l m:List α),zS f (l++m)=zS f l+zS f m
 | [],m=>by show zS f m=0+zS f m;omega
 | a::l,m=>by show f a+zS f (l++m)=f a+zS f l+zS f m;rw[zt f l m];omega
theorem Ev{xs ys:List Nat}(h:eD xs)(k:eD ys):eD (xs++ys):=fun x hx=>by
 rcases fA.1 hx with q|q
 · exact h x q
 · exact k x q
theorem Ie{xs ys:List Nat}(h:eD xs)(k:eD ys):sS (xs++ys)=(sS xs).pl (sS ys):=by
 rw[eu (Ev h k),eu h,eu k];have e:∀ j,Ps.cn j (xs++ys)=Ps.cn j xs+Ps.cn j ys:=fun j=>by unfold Ps.cn;rw[List.countP_append]
 unfold Sp.pl;simp[e]
theorem Qd{xs ys:List Nat}(p:xs.Perm ys)(j:Nat):Ps.cn j xs=Ps.cn j ys:=by unfold Ps.cn;exact p.countP_eq _
theorem cK.perm{w:World}{g:Nat}{xs ys:List Nat}(h:cK w g xs)(p:xs.Perm ys):cK w g ys:=by
 obtain⟨h1,h2,lo,hi,h3,h4,h⟩:=h;have hW:eD ys:=fun y hy=>h1 y (p.mem_iff.2 hy);refine⟨hW,by rw[<-p.length_eq];exact h2,lo,hi,h3.perm p,h4.perm p,?_⟩;have e:sS xs=sS ys:=by rw[eu h1,eu hW,p.length_eq];simp[Qd p]
 rw[<-e,iG,jT,<-M7 _ p,<-M7 _ p];exact h
theorem Ig(w:World):Calls Tryz.prog 26 #[] w fun r w'=>r=.returned (.pointer (some ⟨w.heap.size,0,none⟩))/\cK w' w.heap.size []/\Below w.heap.size w w':=by
 refine(Ty w).mono ?_;rintro r w' ⟨rfl,h,hb⟩;refine⟨rfl,⟨fun x hx=>by simp at hx,aL,0,0,eB.nil _,eB.nil _,?_⟩,hb⟩;rw[show iG []=0 from rfl,show jT []=0 from rfl,yJ,yJ];exact h
theorem zu{w:World}{g:Nat}{xs:List Nat}(x:Nat)(hx:x<18446744073709551616)(h:cK w g xs)(hl:xs.length<4096)(hT:bO w) :
 Calls Tryz.prog 27 #[.pointer (some ⟨g,0,none⟩),.float .f64 x] w fun r w'=>r=.returned (.int .i64 0)/\cK w' g (xs++[x])/\But g w w':=by
 obtain⟨h1,h2,lo,hi,h3,h4,h⟩:=h;have hX:eD [x]:=fun y hy=>by simp at hy;subst hy;exact hx
 have hA:=Ev h1 hX;have hl2:(xs++[x]).length<=4096:=by simp;omega
 have Fo:=cu (u:=1074) (m:=2114) aA aA (dP h1 h2);have Fq:=cu (u:=2148) (m:=4212) aA aA (ig h1 h2);have Fo':=cu (u:=1074) (m:=2114) aA aA (dP hA hl2);have Fq':=cu (u:=2148) (m:=4212) aA aA (ig hA hl2);have es:iG (xs++[x])=iG xs+f21 x:=by unfold iG;rw[zt];show _+(f21 x+0)=_;omega
 have eq:jT (xs++[x])=jT xs+f21 x*f21 x:=by unfold jT;rw[zt];show _+(f21 x*f21 x+0)=_;omega
 have ha:=yI (u:=1074) (m:=2114) aA aA (dP h1 h2) ((lD hx).mono aA);have hq:=yI (u:=2148) (m:=4212) aA aA (ig h1 h2) (((lD hx).mul (lD hx)).mono aA);rw[<-es] at ha;rw[<-eq] at hq;have hs:=nH h1 h2;have hla:(sS xs).a=(xs.length:Nat):=by rw[eu h1]
 refine(Add21 x hx h hs (by rw[hla];omega) Fo Fo' Fq Fq' ha hq hT (h3.lt h1) (h4.lt h1)).mono ?_;rintro r w' ⟨rfl,k,hb⟩;refine⟨rfl,⟨hA,hl2,_,_,?_,?_,by rw[Ie h1 hX];exact k⟩,hb⟩
 · have:=h3.app h1 hX (eB.one bG (x:=x));rw[(El hx).2.1] at this;rw[Y3];exact this
 · have:=h4.app h1 hX (eB.one nI (x:=x));rw[(El hx).2.1] at this;rw[Y4];exact this
theorem Kt{w:World}{g h:Nat}{xs ys:List Nat}(H:cK w g xs)(K:cK w h ys)(hl:xs.length+ys.length<=4096)(hT:bO w) :
 Calls Tryz.prog 12 #[.pointer (some ⟨g,0,none⟩),.pointer (some ⟨h,0,none⟩)] w fun r w'=>r=.returned (.int .i64 0)/\cK w' g (xs++ys)/\But g w w':=by
 obtain⟨h1,h2,lo,hi,h3,h4,H⟩:=H;obtain⟨k1,k2,lo',hi',k3,k4,K⟩:=K;have hA:=Ev h1 k1;have hl2:(xs++ys).length<=4096:=by simp;omega
 have F1:=cu (u:=1074) (m:=2114) aA aA (dP h1 h2);have G1:=cu (u:=2148) (m:=4212) aA aA (ig h1 h2);have F2:=cu (u:=1074) (m:=2114) aA aA (dP k1 k2);have G2:=cu (u:=2148) (m:=4212) aA aA (ig k1 k2);have F3:=cu (u:=1074) (m:=2114) aA aA (dP hA hl2);have G3:=cu (u:=2148) (m:=4212) aA aA (ig hA hl2);have es:iG (xs++ys)=iG xs+iG ys:=zt _ _ _;have eq:jT (xs++ys)=jT xs+jT ys:=zt _ _ _;have ha:=yI (u:=1074) (m:=2114) aA aA (dP h1 h2) (dP k1 k2);have hq:=yI (u:=2148) (m:=4212) aA aA (ig h1 h2) (ig k1 k2);rw[<-es] at ha;rw[<-eq] at hq;have e1:(sS xs).a=(xs.length:Nat):=by rw[eu h1]
 have e2:(sS ys).a=(ys.length:Nat):=by rw[eu k1]
 refine(MI H K (nH h1 h2) (nH k1 k2) (by rw[e1,e2];omega) F1 F2 F3 G1 G2 G3 ha hq hT (h3.lt h1) (h4.lt h1) (k3.lt k1) (k4.lt k1)).mono ?_;rintro r w' ⟨rfl,q,hb⟩;refine⟨rfl,⟨hA,hl2,_,_,?_,?_,by rw[Ie h1 k1];exact q⟩,hb⟩
 · rw[Y3];exact h3.app h1 k1 k3
 · rw[Y4];exact h4.app h1 k1 k4
def zw(xs:List Nat)(lo hi:Nat):List Nat:=Ue (Ps.cn 5 xs) (Ps.cn 3 xs) (Ps.cn 4 xs) (Ps.cn 1 xs) (Ps.cn 2 xs) xs.length (gV 1074 (iG xs)) (gV 2148 (jT xs)) lo hi
theorem jU(j:Nat)(xs:List Nat):Ps.cn j xs<=xs.length:=xh
theorem BO{x:Nat}(h:x<=4096):IntKind.u64.wrap (x:Int)=x:=by simp[IntKind.wrap,IntKind.bits,IntKind.signed];omega
theorem l6{w:World}{g:Nat}{xs:List Nat}(h:cK w g xs) :
 Calls Tryz.prog 10 #[.pointer (some ⟨g,0,none⟩)] w fun r w'=>∃ gb lo hi,eB bG xs lo/\eB nI xs hi/\r=.returned (.slice (some ⟨gb,0,none⟩) (zw xs lo hi).length (zw xs lo hi).length)/\w.heap.size<=gb/\By w' gb (zw xs lo hi)/\Below w.heap.size w w':=by
 obtain⟨h1,h2,lo,hi,h3,h4,H⟩:=h;have Fo:=cu (u:=1074) (m:=2114) aA aA (dP h1 h2);have Fq:=cu (u:=2148) (m:=4212) aA aA (ig h1 h2);have p1:=ql (u:=1074) aA aA (dP h1 h2);have p2:=ql (u:=2148) aA aA (ig h1 h2);have y1:=Fo.len;have y2:=Fq.len;have b5:=jU 5 xs;have b3:=jU 3 xs;have b4:=jU 4 xs;have b1:=jU 1 xs;have b2:=jU 2 xs;rw[eu h1] at H;obtain⟨a1,c1,a2,c2,kb,n1,n2⟩:=H;refine(zU w g (Ps.cn 5 xs) (Ps.cn 3 xs) (Ps.cn 4 xs) (Ps.cn 1 xs) (Ps.cn 2 xs) xs.length (gV 1074 (iG xs)) (gV 2148 (jT xs)) lo hi (dE (gV 1074 (iG xs))+4096).toNat (dE (gV 2148 (jT xs))+4096).toNat _ _ a1 a2 c1 c2 kb n1 n2 (BO af) (BO af) (BO af) (BO af) (BO af) (BO af) (au ⟨⟨af,af,af,af,af,af,h3.lt h1,h4.lt h1⟩,⟨af,af,af,af,af,af⟩,rfl,rfl⟩)).mono ?_;rintro r w' ⟨gb,rfl,q1,q2,q3⟩;exact⟨gb,lo,hi,h3,h4,rfl,q1,q2,q3⟩
theorem eB.none{K:Nat->Int}{xs:List Nat}{x:Nat}(hW:eD xs)(h:eB K xs x):Ps.cn 5 xs<xs.length\/x=0:=by
 rcases h with ⟨_,h⟩|⟨h1,h2,_⟩
 · exact .inr h
 · refine .inl ?_;have:=(XT hW).2 ⟨x,h1,h2⟩;rw[eu hW,decide_eq_true_eq] at this;have:((Ps.cn 5 xs:Nat):Int)<(xs.length:Nat):=this;omega
theorem vW(w:World)(ao:Option Addr)(xs:List Nat)(L:List Nat)(c lo hi:Nat)(hT:bO w)(hW:eD xs)(hl:xs.length<=4096)(hlo:eB bG xs lo)(hhi:eB nI xs hi)(hL:L=zw xs lo hi)(hF:dO w.heap.size w ao L)(hc:L.length<=c) :
 Calls Tryz.prog 13 #[.slice ao L.length c] w fun r w'=>∃ gS,r=.returned (.tuple #[.pointer (some ⟨gS,0,none⟩),.int .i64 0])/\w.heap.size<=gS/\cK w' gS xs/\Below w.heap.size w w':=by
 have Fo:=cu (u:=1074) (m:=2114) aA aA (dP hW hl);have Fq:=cu (u:=2148) (m:=4212) aA aA (ig hW hl);have p1:=ql (u:=1074) aA aA (dP hW hl);have p2:=ql (u:=2148) aA aA (ig hW hl);have y1:=Fo.len;have y2:=Fq.len;have b5:=jU 5 xs;have b3:=jU 3 xs;have b4:=jU 4 xs;have b1:=jU 1 xs;have b2:=jU 2 xs;refine(Uq w ao L c (Ps.cn 5 xs) (Ps.cn 3 xs) (Ps.cn 4 xs) (Ps.cn 1 xs) (Ps.cn 2 xs) xs.length (gV 1074 (iG xs)) (gV 2148 (jT xs)) lo hi (dE (gV 1074 (iG xs))+4096).toNat (dE (gV 2148 (jT xs))+4096).toNat hT hL hF hc (fun x hx=>by simp at hx;rcases hx with rfl | rfl | rfl | rfl | rfl | rfl <;> omega) af af af af af af ?_ ?_ (hlo.lt hW) (hhi.lt hW) ?_ ?_).mono ?_
 · rcases p1 with ⟨q1,q2,q3⟩ | ⟨q1,_⟩
   · exact .inl ⟨q1,q2,af⟩
   · exact .inr q1
 · rcases p2 with ⟨q1,q2,q3⟩ | ⟨q1,_⟩
   · exact .inl ⟨q1,q2,af⟩
   · exact .inr q1
 · rcases hlo.none hW with q | q
   · exact .inl q
   · rcases hhi.none hW with q' | q'
     · exact .inl q'
     · exact .inr ⟨q,q'⟩
 · intro v gS hv H;refine Kr hW hl hlo hhi ?_ hv;rw[eu hW];exact H
 · rintro r w' ⟨gS,rfl,q1,q2,q3⟩;exact⟨gS,rfl,q1,⟨hW,hl,lo,hi,hlo,hhi,by rw[eu hW];exact q2⟩,q3⟩
theorem Ih{w:World}{g:Nat}{xs:List Nat}(h:cK w g xs)(hT:bO w)(mode a b:Int)(z:Nat×Int)(hz:exR xs mode a b=z) :
 Calls Tryz.prog 14 #[.pointer (some ⟨g,0,none⟩),.int .i64 mode,.agg #[.int .i64 a,.int .i64 b]] w fun r w'=>r=.returned (.tuple #[.float .f64 z.1,.int .i64 z.2])/\Below w.heap.size w w':=by
 obtain⟨h1,h2,lo,hi,h3,h4,H⟩:=h;exact Sum21 H (nH h1 h2) (cu (m:=2114) aA aA (dP h1 h2)) hT mode a b z (by rw[<-P8 mode a b h1 h2];exact hz)
theorem Qe{w:World}{g:Nat}{xs:List Nat}(h:cK w g xs)(hT:bO w)(mode a b:Int)(z:Nat×Int)(hz:vU xs mode a b=z) :
 Calls Tryz.prog 15 #[.pointer (some ⟨g,0,none⟩),.int .i64 mode,.agg #[.int .i64 a,.int .i64 b]] w fun r w'=>r=.returned (.tuple #[.float .f64 z.1,.int .i64 z.2])/\Below w.heap.size w w':=by
 obtain⟨h1,h2,lo,hi,h3,h4,H⟩:=h;exact Mean21 H (nH h1 h2) (cu (m:=2114) aA aA (dP h1 h2)) hT mode a b z (by rw[<-Eu mode a b h1 h2];exact hz)
theorem Ii{w:World}{g:Nat}{xs:List Nat}(h:cK w g xs)(hT:bO w)(less mode a b:Int)(z:Nat×Int)(hz:Es wE xs less mode a b=z) :
 Calls Tryz.prog 16 #[.pointer (some ⟨g,0,none⟩),.int .i64 less,.int .i64 mode,.agg #[.int .i64 a,.int .i64 b]] w fun r w'=>r=.returned (.tuple #[.float .f64 z.1,.int .i64 z.2])/\Below w.heap.size w w':=by
 obtain⟨h1,h2,lo,hi,h3,h4,H⟩:=h;exact Var21 H (nH h1 h2) (cu (m:=2114) aA aA (dP h1 h2)) (cu (m:=4212) aA aA (ig h1 h2)) hT less mode a b z (by rw[<-H8 less mode a b h1 h2];exact hz)
def UE(K:Nat->Int)(xs:List Nat)(z:Nat×Int):Prop :=
 (xs=[]/\z=(0,3))\/(xs≠[]/\(∀ y ∈ xs,bN y=true)/\z=(9221120237041090560,0))\/∃ x,x ∈ xs/\bN x=false/\(∀ y ∈ xs,bN y=false->K x<=K y)/\z=(x,0)
theorem Nb{K:Nat->Int}{xs:List Nat}{x:Nat}(hW:eD xs)(h:eB K xs x):UE K xs (BM (sS xs) x):=by
 have e:(sS xs).a=(xs.length:Nat):=by rw[eu hW]
 unfold BM
 by_cases h0:xs=[]
 · subst h0;exact .inl ⟨rfl,by rw[if_pos (by rw[e];rfl)]⟩
 · have hp:0<xs.length:=List.length_pos_iff.2 h0;rw[if_neg (by rw[e];omega)];rcases h with ⟨h1,h2⟩|⟨h1,h2,h3⟩
   · have:=(Ia hW).2 h1;rw[if_neg (of_decide_eq_false this)];exact .inr (.inl ⟨h0,h1,rfl⟩)
   · have:=(XT hW).2 ⟨x,h1,h2⟩;rw[if_pos (of_decide_eq_true this)];exact .inr (.inr ⟨x,h1,h2,h3,rfl⟩)
theorem Ku{w:World}{g:Nat}{xs:List Nat}(h:cK w g xs) :
 Calls Tryz.prog 22 #[.pointer (some ⟨g,0,none⟩)] w fun r w'=>(∃ z,UE bG xs z/\r=.returned (.tuple #[.float .f64 z.1,.int .i64 z.2]))/\Below w.heap.size w w':=by
 obtain⟨h1,h2,lo,hi,h3,h4,H⟩:=h;refine(XO H _ rfl).mono ?_;rintro r w' ⟨rfl,hb⟩;exact⟨⟨_,Nb h1 h3,rfl⟩,hb⟩
theorem Qf{w:World}{g:Nat}{xs:List Nat}(h:cK w g xs) :
 Calls Tryz.prog 23 #[.pointer (some ⟨g,0,none⟩)] w fun r w'=>(∃ z,UE nI xs z/\r=.returned (.tuple #[.float .f64 z.1,.int .i64 z.2]))/\Below w.heap.size w w':=by
 obtain⟨h1,h2,lo,hi,h3,h4,H⟩:=h;refine(Most21 H _ rfl).mono ?_;rintro r w' ⟨rfl,hb⟩;exact⟨⟨_,Nb h1 h4,rfl⟩,hb⟩
abbrev QK:List Nat:=[4607182418800017408,4613937818241073152]
theorem aw21_1:exR QK 0 0 0=(4616189618054758400,0):=by decide +kernel
theorem aw21_2:Es wE QK 1 0 0 0=(4611686018427387904,0):=by decide +kernel
theorem aw21_3:(zw [] 0 0).length=58:=by decide +kernel
theorem UF:(zw QK 4607182418800017408 4613937818241073152).length=82:=by decide +kernel
theorem aw21_5:(zw QK 4607182418800017408 4613937818241073152).getD 40 0=2:=by decide +kernel
theorem Ew:eB bG QK 4607182418800017408/\eB nI QK 4613937818241073152:=by
 refine⟨.inr ⟨aL,by decide +kernel,fun y hy _=>?_⟩,.inr ⟨aL,by decide +kernel,fun y hy _=>?_⟩⟩ <;>
  (simp at hy;rcases hy with rfl | rfl <;> decide +kernel)
theorem Kv:eD QK:=fun y hy=>by simp at hy;rcases hy with rfl | rfl <;> decide
theorem Kw{w:World}{g:Nat}(h:cK w g []):Calls Tryz.prog 10 #[.pointer (some ⟨g,0,none⟩)] w fun r w'=>(∃ gb,r=.returned (.slice (some ⟨gb,0,none⟩) 58 58))/\Below w.heap.size w w':=by
 refine(l6 h).mono ?_;rintro r w' ⟨gb,lo,hi,h1,h2,rfl,_,_,hb⟩;obtain rfl:lo=0:=by rcases h1 with ⟨_,h⟩|⟨h,_⟩;exact h;simp at h
 obtain rfl:hi=0:=by rcases h2 with ⟨_,h⟩|⟨h,_⟩;exact h;simp at h
 exact⟨⟨gb,by rw[aw21_3]⟩,hb⟩
theorem Ij{w:World}{g:Nat}(h:cK w g QK):Calls Tryz.prog 10 #[.pointer (some ⟨g,0,none⟩)] w fun r w'=>(∃ gb,r=.returned (.slice (some ⟨gb,0,none⟩) 82 82)/\By w' gb (zw QK 4607182418800017408 4613937818241073152))/\Below w.heap.size w w':=by
 refine(l6 h).mono ?_;rintro r w' ⟨gb,lo,hi,h1,h2,rfl,_,hB,hb⟩;obtain rfl:lo=4607182418800017408:=eB.uniq Kv (fun _ _ a b c d e=>pF a b c d e) h1 Ew.1;obtain rfl:hi=4613937818241073152:=eB.uniq Kv (fun _ _ a b c d e=>H9 a b c d e) h2 Ew.2;exact⟨⟨gb,by rw[UF],hB⟩,hb⟩
theorem wW{w:World}{g i:Nat}{L:List Nat}(h:By w g L)(hi:i<L.length):w.cell? ⟨g,i,none⟩=some (Ub (L.getD i 0)):=by
 refine Bl.cell (C:=L.map Ub) h i _ ?_;rw[uX,aY hi];simp[aS,aY hi]
theorem XX:(FloatKind.f64.format.order 4616189618054758400 4616189618054758400==some .eq)=true:=by decide +kernel
theorem XY:(FloatKind.f64.format.order 4611686018427387904 4611686018427387904==some .eq)=true:=by decide +kernel
set_option maxRecDepth 100000 in
theorem XZ(w:World)(hT:bO w):Calls Tryz.prog 6 #[] w fun r w'=>r=.returned (.bool true)/\Below w.heap.size w w':=by
 have CN:=hid (Ig w);have HT:=au hT;have HD:=hid (fun u:World=>PZ u);clear hT;go_enter Tryz.func6,Tryz.ntmps6;go_wp2_with fail;refine CN.o.mono ?_;rintro r u ⟨rfl,hsh,hb⟩;have A:=(aT hsh hb);clear hsh hb CN;have C:=hid (Kw A.o.1);go_wp2_with fail;refine C.o.mono ?_;rintro r u1 ⟨⟨g0,rfl⟩,hb⟩;replace A:=aT (A.o.1.aD hb) (A.o.2.trans (hb.mono A.o.2.size));clear hb C;have C:=hid (zu 4607182418800017408 aA A.o.1 aL (HT.o.belows A.o.2));go_wp2_with fail;refine C.o.mono ?_;rintro r u2 ⟨rfl,hs,hf⟩;replace A:=aT hs (But.below A.o.2 hf A.o.2.size (aB _));clear hs hf C;have C:=hid (zu 4613937818241073152 aA A.o.1 aL (HT.o.belows A.o.2));go_wp2_with fail;refine C.o.mono ?_;rintro r u3 ⟨rfl,hs,hf⟩;replace A:Aside (cK u3 w.heap.size QK/\Below w.heap.size w u3):=aT hs (But.below A.o.2 hf A.o.2.size (aB _));clear hs hf C;have C:=hid (Ih A.o.1 (HT.o.belows A.o.2) 0 0 0 (4616189618054758400,0) aw21_1);go_wp2_with fail;refine C.o.mono ?_;rintro r u4 ⟨rfl,hb⟩;replace A:=aT (A.o.1.aD hb) (A.o.2.trans (hb.mono A.o.2.size));clear hb C;have C:=hid (Ii A.o.1 (HT.o.belows A.o.2) 1 0 0 0 (4611686018427387904,0) aw21_2);go_wp2_with fail;refine C.o.mono ?_;rintro r u5 ⟨rfl,hb⟩;replace A:=aT (A.o.1.aD hb) (A.o.2.trans (hb.mono A.o.2.size));clear hb C;have C:=hid (Ij A.o.1);go_wp2_with fail;refine C.o.mono ?_;rintro r u6 ⟨⟨gb,rfl,hB⟩,hb⟩;have A:=aT hB (A.o.2.trans (hb.mono A.o.2.size));clear hb C hB;obtain⟨L,hL⟩:=ah (zw QK 4607182418800017408 4613937818241073152);have hl82:L.length=82:=by rw[hL,UF]
 rw[<-hL] at A
 have C:=hid (show Calls Tryz.prog 13 #[.slice (some ⟨gb,0,none⟩) 82 82] u6 _ from by
  have:=vW u6 (some ⟨gb,0,none⟩) QK L 82 4607182418800017408 4613937818241073152 (HT.o.belows A.o.2) Kv aL Ew.1 Ew.2 hL (fun _=>⟨gb,0,A.o.1.lt,rfl,fun i hi=>by rw[dm];exact wW A.o.1 hi⟩) af;rw[hl82] at this
  exact this)
 have HL:Aside (L.getD 40 0=2/\40<L.length):=au ⟨by rw[hL,aw21_5],af⟩;clear hL hl82;go_wp2_with fail;refine C.o.mono ?_;rintro r u7 ⟨gS,rfl,_,_,hb⟩;replace A:=aT (A.o.1.below hb A.o.1.lt) (A.o.2.trans (hb.mono A.o.2.size));clear hb C;go_wp2_with fail;refine(HD.o _).mono ?_;rintro r u8 ⟨rfl,hb⟩;replace A:=aT (A.o.1.below hb A.o.1.lt) (A.o.2.trans (hb.mono A.o.2.size));clear hb HD
 have k40:u8.cell? ⟨gb,40,none⟩=some (.int .u8 2):=by
  have:=wW A.o.1 HL.o.2;rw[HL.o.1] at this;exact this
 have e1:=XX;have e2:=XY;go_wp2;go_ret;exact⟨rfl,A.o.2⟩
end
section
open Go.ChangeShapes Go.WideShapes Go.ChangeAt Go.RowKit
theorem Y5{H:Type}{enc:TypeId×Value->H}{P:Program}{w:World}{base:Nat}{spare:Nat->Bool}{held:Bool}{fuel:Nat}{t:TypeId}{cs:List Value}{x:DataW H×List MemPlace}{k:FloatKind}(ht:P.underlying t=some (.float k))(h:DataW.trod enc P w base spare held fuel t cs=some x):∃ n,cs=[.float k n]/\x=(.lit (.float k n),[])/\(Lit.float k n).wf=true:=by
 cases fuel with
 | zero=>simp[DataW.trod] at h
 | succ m =>
   simp only[DataW.trod,ht] at h
   split at h <;> simp_all
structure CameF (w:World) (a:Option Addr) (n c:Nat) (xs:List Nat):Prop where
 len:n=xs.length
 cap:n<=c
 wf:eD xs
 rd:Fs w.heap.size w a xs
 nil:a=none->c=0
theorem Qg(b off i:Nat):(⟨b,off,none⟩:Addr).add i=⟨b,off+i,none⟩:=by unfold Addr.add;split <;> simp_all
def X4{H:Type}(y:DataW H×List MemPlace):Nat:=match y.1 with | .lit (.float _ n)=>n | _=>0
theorem Tryz.cellsF:Tryz.prog.cellsOf 31=1:=by kernel_rfl
theorem Tryz.bytesF:Tryz.prog.bytesOf 31=8:=by kernel_rfl
theorem UG{H:Type}{enc:TypeId×Value->H}{W:World}{a:Option Addr}{n c:Nat}{d:DataW H}{p:List MemPlace}(h:DataW.Trod enc Tryz.prog W 0 (fun _=>true) true 32 (.slice a n c) d p) :
 ∃ xs,CameF W a n c xs/\((d=.nil/\c=0)\/∃ elems spare:List (DataW H),d=.slice elems spare/\elems.length+spare.length=c):=by
 obtain⟨fuel,hf⟩:=h;rcases DataW.trod_slice Tryz.underlying32 hf with ⟨hcs,hx⟩|⟨x,l,cp,elems,rest,m,_,hcs,hx,hb,hl,hm,hlen,hel,hsp,hns⟩
 · simp[Value.cells] at hcs;obtain⟨rfl,rfl,rfl⟩:=hcs;exact⟨[],⟨rfl,aB _,(fun x hx=>by cases hx),(fun h=>absurd rfl h),fun _=>rfl⟩,.inl ⟨(fB hx).1,rfl⟩⟩
 · simp[Value.cells] at hcs;obtain⟨rfl,rfl,rfl⟩:=hcs
   have each:∀ i y,i<n->elems[i]?=some y->y=(.lit (.float .f64 (X4 y)),[])/\(Lit.float .f64 (X4 y)).wf=true/\W.cell? (x.add i)=some (.float .f64 (X4 y)):=by
    intro i y hi hy;have hb':=hel i hi;rw[hy,Tryz.cellsF,gI,Option.bind_eq_some_iff] at hb';obtain⟨cs',hcs,hy'⟩:=hb';obtain⟨k,rfl,rfl,hw⟩:=Y5 Tryz.underlying31 hy';exact⟨rfl,hw,cell_of_cells?_one hcs⟩
   refine⟨elems.map X4,⟨by simp[hlen],hl,?_,?_,fun e=>by cases e⟩,.inr ⟨_,_,(fB hx).1,?_⟩⟩
   · intro y hy;obtain⟨z,hz,rfl⟩:=kW.1 hy;obtain⟨i,hi⟩:=List.getElem?_of_mem hz;have hil:=(Aa.1 hi).1;have:=(each i z af hi).2.1;exact of_decide_eq_true this
   · intro hne;obtain⟨b,off,spot⟩:=x
     have hn0:0<n:=by
      rcases rO n with h0|h0
      · rw[h0] at hlen;have:=xg hlen;subst this;simp at hne
      · exact h0
     have hc0:=(each 0 (elems[0]'(by omega)) hn0 (aY _)).2.2;have hspot:spot=none:=by simpa [Addr.add] using World.cell?_spot hc0
     subst hspot;refine⟨b,off,iH W _ (by simpa [Addr.add] using hc0),rfl,fun i hi=>?_⟩;rw[qC] at hi;have hadd:=Qg b off i;have:=(each i (elems[i]'hi) af (aY _)).2.2;rw[hadd] at this;rw[this];simp[aS,hi]
   · have hr:=(hsp rfl).1;simp only[qC];omega
theorem Ik {H:Type}{ts:List TypeId}{ds:List (DataW H)}(h:(DataW.weightsEach Tryz.prog ts ds).all (·<=reachBytes)=true) {j:Nat}{d:DataW H}{c n:Nat}(ht:ts[j]?=some 32) (hd:ds[j]?=some d) (hn:n<=c)
 (hc:(d=.nil/\c=0)\/∃ elems spare:List (DataW H),d=.slice elems spare/\elems.length+spare.length=c):n<=17592186043904:=by
 rcases hc with ⟨_,rfl⟩|⟨elems,spare,rfl,hl⟩
 · omega
 · have:=sized_slice h ht hd Tryz.underlying32;rw[Tryz.bytesF,hl] at this;simp only[reachBytes] at this;omega
end
section
open Go Go.RowKit J
def pG(l:List Nat)(i0 st k:Nat):List Nat:=(List.range k).map fun j=>l.getD (i0+j*st) 0
theorem Qh(l:List Nat)(i0 st k:Nat):pG l i0 st (k+1)=pG l i0 st k++[l.getD (i0+k*st) 0]:=by
 unfold pG;rw[List.range_succ,uV];rfl
theorem UH(l:List Nat)(i0 st k:Nat):(pG l i0 st k).length=k:=by unfold pG;simp
theorem UI{i0 st k n:Nat}(hs:1<=st)(h:∀ j,j<k->i0+j*st<n):k<=n:=by
 cases k with
 | zero=>omega
 | succ k =>
   have h1:=h k af;have h2:k*1<=k*st:=gH _ hs;omega
theorem Il(l:List Nat)(al:Option Addr)(c n i0 st:Nat)(w:World)(hn:n=l.length)(hl:n<=4096)(hF:Fs w.heap.size w al l)(hW:eD l)(hT:bO w)(h0:i0<=4096)(hs:1<=st)(hs2:st<=4096) :
 Calls Tryz.prog 11 #[.slice al n c,.int .i64 (i0:Nat),.int .i64 (st:Nat)] w fun r w'=>∃ g k,r=.returned (.pointer (some ⟨g,0,none⟩))/\w.heap.size<=g/\(∀ j,j<k->i0+j*st<n)/\n<=i0+k*st/\cK w' g (pG l i0 st k)/\Below w.heap.size w w':=by
 have CN:=hid (Ig w);have HX:=(iq hn hF hW hT hs);have HY:=(bM hl h0 hs2);clear hn hF hW hT hs hl h0 hs2;go_enter Tryz.func11,Tryz.ntmps11;go_wp2_with fail;refine CN.o.mono ?_;rintro r u ⟨rfl,hsh,hb⟩;have A0:=(aT hsh hb);clear hsh hb CN;go_wp2_with fail
 go_loopg [8] (n+1) (fun gk iv wr=>∃ k m:Nat,gk+k=n+1/\m=i0+k*st/\iv=.int .i64 (m:Nat)/\Aside ((∀ j,j<k->i0+j*st<n)/\cK wr w.heap.size (pG l i0 st k)/\Below w.heap.size w wr))
 case atStart=>exact⟨0,i0,af,af,rfl,au ⟨fun j hj=>by omega,A0.o.1,A0.o.2⟩⟩
 case round =>
  obtain⟨k,m,iL,hm,rfl,HA⟩:=hrel;have HM:=au hm
  by_cases hk:m<n
  · have hkl:m<l.length:=by rw[<-HX.o.1];exact hk
    obtain⟨b,off,hal,hc⟩:=((HX.o.2.1.below HA.o.r2).mono HA.o.r2.size).at (aG _ _) m hkl;have hal':=hal;subst hal;obtain⟨x,hx⟩:=ah (l.getD m 0);rw[<-hx] at hc;have hx6:x<18446744073709551616:=by rw[hx];exact HX.o.r2.1.get m
    have hkn:=UI HX.o.r4 HA.o.1;have hll:=HY.o.1;have C:=hid (zu x hx6 HA.o.2.1 (by rw[UH];have h2:k*1<=k*st:=gH _ HX.o.r4;omega) (HX.o.r3.1.belows HA.o.r2));rw[hx,hm,<-Qh,<-hm,<-hx] at C;have hd:decide ((m:Int)<n)=true:=by simp;omega
    have wr1:IntKind.i64.wrap ((m:Int)+(st:Nat))=((m+st:Nat):Int):=by have:=HY.o.2.1;have:=HY.o.r2;simp[IntKind.wrap,IntKind.bits,IntKind.signed];omega
    have HKN:=au hkn;clear hx hx6 hkl hm hkn hll;go_wp2_with fail;refine C.o.mono ?_;rintro r v ⟨rfl,hs,hf⟩
    have HB:Aside ((∀ j,j<k+1->i0+j*st<n)/\cK v w.heap.size (pG l i0 st (k+1))/\Below w.heap.size w v):=au ⟨fun j hj=>by
     by_cases e:j=k
     · subst e;rw[<-HM.o];exact hk
     · exact HA.o.1 j af,hs,But.below HA.o.r2 hf HA.o.r2.size (aB _)⟩
    clear HA C hs hf;go_wp2;go_roundg (gk-1)
    case measure=>have:=HKN.o;omega
    case rel=>exact⟨k+1,m+st,by have:=HKN.o;omega,by rw[dV,HM.o];omega,by rfl,HB⟩
  · have hd:decide ((m:Int)<n)=false:=by simp;omega
    go_wp2;go_ret;exact⟨_,k,rfl,aB _,HA.o.1,by rw[<-HM.o];omega,HA.o.2.1,HA.o.r2⟩
theorem Tryz.mf:Tryz.prog.underlying 46=some (.slice 39):=by kernel_rfl
theorem Tryz.qK:(Tryz.prog.info? 39).map (fun i=>(i.zero,i.size,i.bytes))=some (some (.pointer none),1,8):=by kernel_rfl
theorem gP {w:World}{ops:Array Oper}{rest:List Oper}{o:Oper}{a:Act}{Q:Exit->Act->World->Prop}(hgd:o.guard=none) (s x:Operand)
 (ho:o.op=.call { callee:=.builtin .append,args:=#[s,x],argTypes:=#[46,46] }) (v u:Value) (hs:a.eval s=v) (hx:a.eval x=u) (v':Value) (w':World)
 (hrun:(Builtin.append_ #[46,46] o.type #[v,u]).run Tryz.prog w=.ok v' w') (h:wpList Tryz.prog ops Q rest (a.put o.dst v') w'):wpList Tryz.prog ops Q (o::rest) a w:=by
 refine wpList_plain hgd fun K hK=>?_;unfold Oper.wp;simp[execOp,ho,resolve,invoke,builtin,hs,hx,hrun,Result.andThen];exact hK _ _ h
def jA(g:Nat):Value:=.pointer (some ⟨g,0,none⟩)
def kg(lo:Nat)(w:World)(v:Value)(gs:List Nat):Prop :=
 ∃ b off cap C,v=.slice (some ⟨b,off,none⟩) gs.length cap/\lo<=b/\Bl w b 39 C/\off+cap<=C.length/\gs.length<=cap/\∀ i,i<gs.length->C[off+i]?=some (jA (gs.getD i 0))
theorem kg.aD{lo:Nat}{w w':World}{v:Value}{gs:List Nat}(h:kg lo w v gs)(hb:Below w.heap.size w w'):kg lo w' v gs:=by
 obtain⟨b,off,cap,C,h1,h2,h3,h4⟩:=h;exact⟨b,off,cap,C,h1,h2,h3.below hb h3.lt,h4⟩
theorem kg.but{lo g T:Nat}{w w':World}{v:Value}{gs:List Nat}{D:List Value}(h:kg lo w v gs)(hD:Bl w g T D)(hT:T≠39)(hb:But g w w'):kg lo w' v gs:=by
 obtain⟨b,off,cap,C,h1,h2,h3,h4⟩:=h;refine⟨b,off,cap,C,h1,h2,h3.but hb ?_,h4⟩;rintro rfl;unfold Bl at h3 hD;rw[h3] at hD;simp at hD;exact hT hD.2.symm
theorem Qa3{P:Prop}(h:P:=by
 rw[jE] at hi;have:=q6 (i+2) af;rw[show off+(i+2)=off+2+i by omega] at this;rw[this];congr 2;simp[aS,lK]):P:=h
theorem kg.two{lo:Nat}{w:World}{v:Value}{gs:List Nat}(h:kg lo w v gs)(h2:2<=gs.length):∃ b off cap,v=.slice (some ⟨b,off,none⟩) gs.length cap/\2<=cap/\gs.length<=cap/\w.cell? ⟨b,off,none⟩=some (jA (gs.getD 0 0))/\w.cell? ⟨b,off+1,none⟩=some (jA (gs.getD 1 0))/\kg lo w (.slice (some ⟨b,off+2,none⟩) (gs.length-2) (cap-2)) (gs.drop 2):=by
 obtain⟨b,off,cap,C,rfl,q2,q3,q4,q5,q6⟩:=h;refine⟨b,off,cap,rfl,af,q5,q3.cell off _ (q6 0 af),q3.cell (off+1) _ (q6 1 af),b,off+2,cap-2,C,by rw[jE],q2,q3,af,by rw[jE];omega,fun i hi=>?_⟩;exact Qa3
theorem kg.one{lo:Nat}{w:World}{v:Value}{gs:List Nat}(h:kg lo w v gs)(h1:1<=gs.length):∃ b off cap,v=.slice (some ⟨b,off,none⟩) gs.length cap/\gs.length<=cap/\w.cell? ⟨b,off,none⟩=some (jA (gs.getD 0 0)):=by
 obtain⟨b,off,cap,C,rfl,q2,q3,q4,q5,q6⟩:=h;exact⟨b,off,cap,rfl,q5,q3.cell off _ (q6 0 af)⟩
theorem Im{lo:Nat}{w:World}{v:Value}{R:List Value}{gs:List Nat}(h:w.ownsRow lo 39 1 v gs.length R)(h0:1<=gs.length)(hR:∀ i,i<gs.length->R[i]?=some (jA (gs.getD i 0))):kg lo w v gs:=by
 rcases h.2 with ⟨_,hn⟩|⟨g,cap,cur,rfl,q1,q2,q3,q4,q5,q6⟩
 · omega
 · refine⟨g,0,cap,cur.toList,rfl,q1,by unfold Bl;simpa using q2,by simp;omega,q3,fun i hi=>?_⟩;have:=hR i hi;rw[<-q6,List.getElem?_take_of_lt af] at this;rw[dm];exact this
theorem kg.X5{lo b off m cap:Nat}{w:World}{gs:List Nat}(h:kg lo w (.slice (some ⟨b,off,none⟩) m cap) gs)(h2:2<=gs.length):w.cell? ⟨b,off,none⟩=some (jA (gs.getD 0 0))/\w.cell? ⟨b,off+1,none⟩=some (jA (gs.getD 1 0))/\kg lo w (.slice (some ⟨b,off+2,none⟩) (m-2) (cap-2)) (gs.drop 2)/\(cap=2->kg lo w (.slice (some ⟨b,off,none⟩) 0 0) (gs.drop 2))/\m=gs.length/\gs.length<=cap:=by
 obtain⟨b',off',cap',C,e,q2,q3,q4,q5,q6⟩:=h;injection e with e1 e2 e3
 injection e1 with e1
 injection e1 with e4 e5
 subst e4 e5 e2 e3;refine⟨q3.cell off _ (q6 0 af),q3.cell (off+1) _ (q6 1 af),⟨b,off+2,cap-2,C,by rw[jE],q2,q3,af,by rw[jE];omega,fun i hi=>?_⟩,fun hc=>⟨b,off,0,C,by rw[jE,show gs.length-2=0 by omega],q2,q3,af,by rw[jE];omega,fun i hi=>by rw[jE] at hi;omega⟩,rfl,q5⟩;exact Qa3
theorem Ky{w:World}{lo lo' e n:Nat}{v:Value}{R:List Value}(h:w.ownsRow lo e 1 v n R)(hl:lo'<=lo):w.ownsRow lo' e 1 v n R:=by
 rcases h with ⟨h1,h|⟨g,cap,cur,h2,h3,h4⟩⟩
 · exact⟨h1,.inl h⟩
 · exact⟨h1,.inr ⟨g,cap,cur,h2,aV hl h3,h4⟩⟩
theorem kg.snoc{lo gw g:Nat}{W:World}{v:Value}{gs:List Nat}(h:kg lo W v gs)(hB:Bl W gw 39 [jA g])(hlo:lo<=W.heap.size)(hk:gs.length<=10000) :
 ∃ v' w',(Builtin.append_ #[46,46] 46 #[v,.slice (some ⟨gw,0,none⟩) 1 1]).run Tryz.prog W=.ok v' w'/\kg lo w' v' (gs++[g])/\Below lo W w'/\(∀ (k:Nat) (xs:List Nat),cK W k xs->cK w' k xs)/\W.heap.size<=w'.heap.size:=by
 obtain⟨i0,hi,hz0,hz1,hz2⟩:=info_parts Tryz.qK;obtain⟨b,off,cap,C,rfl,q2,q3,q4,q5,q6⟩:=h
 have hnews:∀ j u,([jA g]:List Value)[j]?=some u->W.cell? ((⟨gw,0,none⟩:Addr).add j)=some u:=by
  intro j u hj;have:=hB.cell j u hj;have e:(⟨gw,0,none⟩:Addr).add j=⟨gw,j,none⟩:=by unfold Addr.add;split <;> simp_all
  rw[e];exact this
 have h1:∀ u ∈ ([jA g]:List Value),u.oneCell'=true:=by intro u hu;simp at hu;subst hu;rfl
 have eg:∀ i,i<(gs++[g]).length->(i<gs.length/\(gs++[g]).getD i 0=gs.getD i 0)\/(i=gs.length/\(gs++[g]).getD i 0=g):=by
  intro i hi;rw[kv,Cm] at hi
  by_cases q:i<gs.length
  · exact .inl ⟨q,by simp[aS,mq q]⟩
  · obtain rfl:i=gs.length:=af
    exact .inr ⟨rfl,by simp[aS]⟩
 by_cases hr:gs.length+1<=cap
 · have run:=run_append_room_cells (P:=Tryz.prog) W 46 46 39 i0 Tryz.mf hi b off gs.length cap ⟨gw,0,none⟩ 1 1 [jA g] (by rw[hz1];rfl) hnews h1 hr
    (fun j hj=>by
     simp at hj;subst hj
     rw[hz1,gI,gU,q3.cell (off+gs.length) _ (aY af)];rfl)
    (fun j hj=>q3.frozen _)
   rw[hz1,gI] at run;have hbl:=Bl.setCells [jA g] (off+gs.length) q3 (by simp;omega);have hbt:But b W (W.setCells b (off+gs.length) [jA g]):=But.setCells _ _ (But.refl _ _);refine⟨_,_,run,⟨b,off,cap,_,by rw[kv];rfl,q2,hbl,by simp;omega,by rw[kv];exact hr,fun i hi=>?_⟩,But.below (aG _ _) hbt hlo q2,fun k xs hl=>hl.but q3 aA hbt ?_,hbt.size⟩
   · rcases eg i hi with ⟨c,e⟩ | ⟨c,e⟩
     · rw[e,<-q6 i c,nX,mq (by simp;omega),List.getElem?_take_of_lt af]
     · rw[e,c,nX,mr (by simp;omega)];simp;rw[show off+gs.length-min (off+gs.length) C.length=0 by omega];rfl
   · rintro rfl;obtain⟨_,_,_,_,_,_,a1,c1,a2,c2,kb,_⟩:=hl;unfold Bl at q3 kb;rw[q3] at kb;simp at kb
 · obtain⟨v',w',run,own,gr⟩:=run_append_arg_grows (P:=Tryz.prog) W 46 46 39 i0 (.pointer none) 1 8 Tryz.mf hi hz0 hz1 hz2 rfl aA ⟨b,off,none⟩ gs.length cap (gs.map jA) aL
    (by
     intro j u hj;have e:(⟨b,off,none⟩:Addr).add j=⟨b,off+j,none⟩:=by unfold Addr.add;split <;> simp_all
     rw[e]
     have hl:j<gs.length:=by
      have:=(Aa.1 hj).1;simpa using this
     have:=q3.cell (off+j) _ (q6 j hl);rw[this];rw[uX,aY hl] at hj;simp[aS,aY hl] at hj |-
     exact hj) ⟨gw,0,none⟩ 1 1 [jA g] rfl hnews af (by unfold maxLen;omega) af
   have hbel:Below W.heap.size W w':=Below.grown (aG _ _) gr (aB _) (fun k hk=>by simp at hk);refine⟨v',w',run,Im (gs:=gs++[g]) (R:=gs.map jA++[jA g]) (by rw[kv];exact Ky own hlo) aL (fun i hi=>?_),hbel.mono hlo,fun k xs hl=>hl.aD hbel,hbel.size⟩;rcases eg i hi with ⟨c,e⟩|⟨c,e⟩
   · rw[e,mq (by simpa using c),uX,aY c];simp[aS,aY c]
   · rw[e,c,mr aL];simp
structure wF (lo:Nat) (w wr:World) (v:Value) (l:List Nat) (gs:List Nat) (XS:List (List Nat)):Prop where
 pw:kg lo wr v gs
 len:gs.length=XS.length
 sh:∀ i,i<gs.length->cK wr (gs.getD i 0) (XS.getD i [])
 low:∀ g ∈ gs,lo<=g
 nd:gs.Nodup
 perm:XS.flatten.Perm l
 aD:Below lo w wr
 hlo:lo<=wr.heap.size
structure Ex (lo:Nat) (w wr:World) (v:Value) (l:List Nat) (gs:List Nat) (XS:List (List Nat)) (t:Nat) (X:List Nat):Prop where
 pw:kg lo wr v gs
 len:gs.length=XS.length
 sh:∀ i,i<gs.length->cK wr (gs.getD i 0) (XS.getD i [])
 low:∀ g ∈ gs,lo<=g
 nd:gs.Nodup
 one:cK wr t X
 tlow:lo<=t
 tno:t ∉ gs
 perm:(XS.flatten++X).Perm l
 aD:Below lo w wr
 hlo:lo<=wr.heap.size
theorem cK.Y6{w:World}{g:Nat}{xs:List Nat}(h:cK w g xs):∃ C,Bl w g 79 C:=by
 obtain⟨_,_,_,_,_,_,a1,c1,a2,c2,kb,_⟩:=h;exact⟨_,kb⟩
theorem wF.merge{lo g0 g1:Nat}{w wr u:World}{v:Value}{l X0 X1:List Nat}{gs:List Nat}{XS:List (List Nat)}(h:wF lo w wr v l (g0::g1::gs) (X0::X1::XS)){v2:Value}(hp:kg lo wr v2 gs)(hm:cK u g1 (X1++X0))(hb:But g1 wr u):Ex lo w u v2 l gs XS g1 (X1++X0):=by
 obtain⟨C,hC⟩:=(h.sh 1 aL).Y6;have nd:=h.nd;simp only[List.nodup_cons,List.mem_cons,not_or] at nd;have hl1:lo<=g1:=h.low g1 aL;refine⟨hp.but hC aA hb,by have:=h.len;simpa using this,fun i hi=>?_,fun g hg=>h.low g (by simp[hg]),nd.2.2,hm,hl1,nd.2.1,?_,But.below h.aD hb h.hlo hl1,aV h.hlo hb.size⟩
 · have:=h.sh (i+2) (by simp;omega);have this':cK wr (gs.getD i 0) (XS.getD i []):=by simpa using this
   refine this'.but hC aA hb ?_;rintro rfl;refine nd.2.1 ?_;rw[aS,aY hi];exact iw hi
 · have:=h.perm;simp only[List.flatten_cons] at this;refine List.Perm.trans ?_ this;refine I6.trans ?_;rw[nX];refine(List.Perm.append_left X1 I6).trans ?_;rw[<-nX];refine I6.trans ?_;exact List.Perm.refl _
theorem Ex.uJ{lo:Nat}{w wr u:World}{v:Value}{l:List Nat}{gs:List Nat}{XS:List (List Nat)}{t:Nat}{X:List Nat}(h:Ex lo w wr v l gs XS t X)(hb:Below wr.heap.size wr u):Ex lo w u v l gs XS t X :=
 ⟨h.pw.aD hb,h.len,fun i hi=>(h.sh i hi).aD hb,h.low,h.nd,h.one.aD hb,h.tlow,h.tno,h.perm,h.aD.trans (hb.mono h.hlo),aV h.hlo hb.size⟩
theorem Ex.other{lo:Nat}{w wr u:World}{v:Value}{l:List Nat}{gs:List Nat}{XS:List (List Nat)}{t t':Nat}{X:List Nat}(h:Ex lo w wr v l gs XS t X)(hb:Below wr.heap.size wr u)(ht:wr.heap.size<=t')(hs:cK u t' X):Ex lo w u v l gs XS t' X:=by
 have k:=h.uJ hb;refine⟨k.pw,k.len,k.sh,k.low,k.nd,hs,aV h.hlo ht,fun q=>?_,k.perm,k.aD,k.hlo⟩;obtain⟨i,hi,e⟩:=xe.1 q;have:=(h.sh i hi).lt;rw[aS,aY hi] at this;simp at this;omega
theorem Ex.snoc{lo:Nat}{w wr u:World}{v v':Value}{l:List Nat}{gs:List Nat}{XS:List (List Nat)}{t:Nat}{X:List Nat}(h:Ex lo w wr v l gs XS t X)(hp:kg lo u v' (gs++[t]))(hb:Below lo wr u)(hk:∀ (k:Nat) (xs:List Nat),cK wr k xs->cK u k xs)(hz:wr.heap.size<=u.heap.size):wF lo w u v' l (gs++[t]) (XS++[X]):=by
 refine⟨hp,by simp[h.len],fun i hi=>?_,fun g hg=>?_,?_,by simpa using h.perm,h.aD.trans hb,aV h.hlo hz⟩
 · rw[kv,Cm] at hi
   by_cases q:i<gs.length
   · have e1:(gs++[t]).getD i 0=gs.getD i 0:=by simp[aS,mq q]
     have e2:(XS++[X]).getD i []=XS.getD i []:=by simp[aS,mq (h.len ▸ q)]
     rw[e1,e2];exact hk _ _ (h.sh i q)
   · obtain rfl:i=gs.length:=af
     have e1:(gs++[t]).getD gs.length 0=t:=by simp[aS]
     have e2:(XS++[X]).getD gs.length []=X:=by rw[h.len];simp[aS]
     rw[e1,e2];exact hk _ _ h.one
 · rcases fA.1 hg with q | q
   · exact h.low g q
   · simp at q;subst q;exact h.tlow
 · rw[List.nodup_append];refine⟨h.nd,aL,fun a ha b hb'=>?_⟩;simp at hb';subst hb';rintro rfl;exact h.tno ha
theorem wF.uJ{lo:Nat}{w wr u:World}{v:Value}{l:List Nat}{gs:List Nat}{XS:List (List Nat)}(h:wF lo w wr v l gs XS)(hb:Below wr.heap.size wr u):wF lo w u v l gs XS :=
 ⟨h.pw.aD hb,h.len,fun i hi=>(h.sh i hi).aD hb,h.low,h.nd,h.perm,h.aD.trans (hb.mono h.hlo),aV h.hlo hb.size⟩
theorem wF.front{lo:Nat}{w wr:World}{v:Value}{l:List Nat}{gs:List Nat}{XS:List (List Nat)}(h:wF lo w wr v l gs XS)(h2:2<=gs.length):∃ g0 g1 gs' X0 X1 XS',gs=g0::g1::gs'/\XS=X0::X1::XS'/\cK wr g0 X0/\cK wr g1 X1/\g0≠g1/\X1.length+X0.length<=l.length:=by
 obtain⟨g0,gs,rfl⟩:=Cq (show 0<gs.length by omega);obtain⟨g1,gs,rfl⟩:=Cq (show 0<gs.length by simp at h2;omega);have hl:=h.len;obtain⟨X0,XS,rfl⟩:=Cq (show 0<XS.length by rw[<-hl];simp);obtain⟨X1,XS,rfl⟩:=Cq (show 0<XS.length by simp at hl;omega);have nd:=h.nd;simp only[List.nodup_cons,List.mem_cons,not_or] at nd;have pl:=h.perm.length_eq;simp at pl;exact⟨g0,g1,gs,X0,X1,XS,rfl,rfl,by simpa using h.sh 0 aL,by simpa using h.sh 1 aL,nd.1.1,af⟩
def Qi(n st i k:Nat):Prop:=(∀ j,j<k->i+j*st<n)/\n<=i+k*st
theorem Qj{n st:Nat}(hs:1<=st)(K:Nat->Nat)(h:∀ i,i<st->Qi n st i (K i)):((List.range st).flatMap fun i=>(List.range (K i)).map fun j=>i+j*st).Perm (List.range n):=by
 have hp:0<st:=hs;refine(List.perm_ext_iff_of_nodup ?_ List.nodup_range).2 fun m=>?_
 · unfold List.Nodup;rw[List.pairwise_flatMap];refine⟨fun i hi=>?_,?_⟩
   · rw[List.pairwise_map];refine List.Pairwise.imp ?_ List.pairwise_lt_range;intro a b hab e;have:=jV hab hp;omega
   · refine List.Pairwise.imp_of_mem ?_ List.pairwise_lt_range;intro a b ha hb hab x hx y hy e;obtain⟨j,_,rfl⟩:=kW.1 hx;obtain⟨j',_,rfl⟩:=kW.1 hy;have h1:(a+j*st)%st=a:=by rw[Ca,ja (kX.1 ha)]
     have h2:(b+j'*st)%st=b:=by rw[Ca,ja (kX.1 hb)]
     rw[e,h2] at h1;omega
 · rw[List.mem_flatMap,kX];constructor
   · rintro ⟨i,hi,hm⟩;obtain⟨j,hj,rfl⟩:=kW.1 hm;exact(h i (kX.1 hi)).1 j (kX.1 hj)
   · intro hm;refine⟨m%st,kX.2 (iB _ hp),kW.2 ⟨m/st,kX.2 ?_,by rw[bR];exact xu m st⟩⟩;rcases iJ (m/st) (K (m%st)) with c|c
     · exact c
     · have h1:=(h (m%st) (iB _ hp)).2;have h2:K (m%st)*st<=m/st*st:=dF _ c;have h3:=xu m st;rw[bR st] at h3;omega
theorem zx(l:List Nat):(List.range l.length).map (fun j=>l.getD j 0)=l:=by
 refine List.ext_getElem aL fun i h1 h2=>?_;simp[aS,aY h2]
theorem Ey{l:List Nat}{st:Nat}(hs:1<=st)(K:Nat->Nat)(h:∀ i,i<st->Qi l.length st i (K i)):((List.range st).map fun i=>pG l i st (K i)).flatten.Perm l:=by
 have:=(Qj hs K h).map (fun j=>l.getD j 0);rw[zx] at this;refine List.Perm.trans (List.Perm.of_eq ?_) this;unfold pG;rw[List.map_flatMap,List.flatMap_def];congr 1;refine List.map_congr_left fun i _=>?_;rw[List.map_map];rfl
theorem X6{l:List Nat}{k:Nat}(h:Qi l.length 1 0 k):pG l 0 1 k=l:=by
 have h1:=h.2;have h2:k<=l.length:=UI (aB 1) h.1;obtain rfl:k=l.length:=af
 unfold pG;simp only[dm,gI];exact zx l
def Qk(lo:Nat)(w:World)(v:Value)(gs:List Nat):Prop:=(v=.slice none 0 0/\gs=[])\/kg lo w v gs
theorem Qk.aD{lo:Nat}{w w':World}{v:Value}{gs:List Nat}(h:Qk lo w v gs)(hb:Below w.heap.size w w'):Qk lo w' v gs:=h.imp id fun h=>h.aD hb
theorem Qk.snoc{lo gw g:Nat}{W:World}{v:Value}{gs:List Nat}(h:Qk lo W v gs)(hB:Bl W gw 39 [jA g])(hlo:lo<=W.heap.size)(hk:gs.length<=10000) :
 ∃ v' w',(Builtin.append_ #[46,46] 46 #[v,.slice (some ⟨gw,0,none⟩) 1 1]).run Tryz.prog W=.ok v' w'/\kg lo w' v' (gs++[g])/\Below lo W w'/\(∀ (k:Nat) (xs:List Nat),cK W k xs->cK w' k xs)/\W.heap.size<=w'.heap.size:=by
 rcases h with ⟨rfl,rfl⟩|h
 · obtain⟨i0,hi,hz0,hz1,hz2⟩:=info_parts Tryz.qK
   obtain⟨v',w',r1,r2,r3,_,r5⟩:=run_append_own_at (P:=Tryz.prog) W lo 46 46 39 i0 (.pointer none) 1 8 Tryz.mf hi hz0 hz1 hz2 rfl aA (.slice none 0 0) 0 [] (QM W lo 39 1) ⟨gw,0,none⟩ 1 1 [jA g] aL (by
    intro j u hj;have:=hB.cell j u hj;have e:(⟨gw,0,none⟩:Addr).add j=⟨gw,j,none⟩:=by unfold Addr.add;split <;> simp_all
    rw[e];exact this) (by intro u hu;simp at hu;subst hu;rfl) (by unfold maxLen;omega) af af
   have hbel:Below W.heap.size W w':=Below.grown (aG _ _) r3 (aB _) (fun k hk=>by simp[Value.ownBlock] at hk)
   exact⟨v',w',r1,Im (gs:=[g]) (R:=[jA g]) r2 aL (fun i hi=>by
    obtain rfl:i=0:=by simpa using hi
    rfl),hbel.mono hlo,fun k xs hl=>hl.aD hbel,hbel.size⟩
 · exact h.snoc hB hlo hk
structure zX (lo:Nat) (w wr:World) (v:Value) (l:List Nat) (st i:Nat):Prop where
 ex:∃ (gs:List Nat) (K:Nat->Nat),Qk lo wr v gs/\gs.length=i/\(∀ j,j<i->Qi l.length st j (K j)/\cK wr (gs.getD j 0) (pG l j st (K j)))/\(∀ g ∈ gs,lo<=g)/\gs.Nodup
 aD:Below lo w wr
 hlo:lo<=wr.heap.size
theorem zX.start(lo:Nat)(w wr:World)(l:List Nat)(st:Nat)(hb:Below lo w wr)(hlo:lo<=wr.heap.size):zX lo w wr (.slice none 0 0) l st 0 :=
 ⟨⟨[],fun _=>0,.inl ⟨rfl,rfl⟩,rfl,fun j hj=>by omega,fun g hg=>by simp at hg,aL⟩,hb,hlo⟩
theorem zX.more{lo gw g k:Nat}{w wr W:World}{v:Value}{l:List Nat}{st i:Nat}(h:zX lo w wr v l st i)(hb:Below wr.heap.size wr W)(hg:wr.heap.size<=g)(hq:Qi l.length st i k)(hs:cK W g (pG l i st k))(hB:Bl W gw 39 [jA g])(hi:i<=10000) :
 ∃ v' w',(Builtin.append_ #[46,46] 46 #[v,.slice (some ⟨gw,0,none⟩) 1 1]).run Tryz.prog W=.ok v' w'/\zX lo w w' v' l st (i+1):=by
 obtain⟨⟨gs,K,h1,h2,h3,h4,h5⟩,hbel,hlo⟩:=h;have hz:=hb.size;obtain⟨v',w',r1,r2,r3,r4,r5⟩:=(h1.aD hb).snoc hB af af;refine⟨v',w',r1,⟨gs++[g],fun j=>if j=i then k else K j,.inr r2,by simp[h2],fun j hj=>?_,fun x hx=>?_,?_⟩,(hbel.trans (hb.mono hlo)).trans r3,af⟩
 · by_cases q:j=i
   · subst q;have e1:(gs++[g]).getD j 0=g:=by rw[<-h2];simp[aS]
     rw[e1];simp only[if_true];exact⟨hq,r4 _ _ hs⟩
   · have hj':j<i:=af
     have e1:(gs++[g]).getD j 0=gs.getD j 0:=by simp[aS,mq (h2.symm ▸ hj')]
     rw[e1];simp only[q,if_false];exact⟨(h3 j hj').1,r4 _ _ ((h3 j hj').2.aD hb)⟩
 · rcases fA.1 hx with q | q
   · exact h4 x q
   · simp at q;subst q;omega
 · rw[List.nodup_append];refine⟨h5,aL,fun a ha b hb'=>?_⟩;simp at hb';subst hb';rintro rfl;obtain⟨j,hj,e⟩:=xe.1 ha;have:=(h3 j af).2.lt;rw[aS,aY hj] at this;simp at this;omega
theorem zX.all{lo:Nat}{w wr:World}{v:Value}{l:List Nat}{st:Nat}(h:zX lo w wr v l st st)(hs:1<=st):∃ gs XS,gs.length=st/\wF lo w wr v l gs XS:=by
 obtain⟨⟨gs,K,h1,h2,h3,h4,h5⟩,hbel,hlo⟩:=h;refine⟨gs,(List.range st).map fun i=>pG l i st (K i),h2,?_,by simp[h2],fun i hi=>?_,h4,h5,Ey hs K fun i hi=>(h3 i hi).1,hbel,hlo⟩
 · rcases h1 with ⟨_,rfl⟩ | h1
   · simp at h2;omega
   · exact h1
 · have:=(h3 i af).2
   have e:((List.range st).map fun i=>pG l i st (K i)).getD i []=pG l i st (K i):=by
    rw[aS,aY (by simp;omega)];simp
   rw[e];exact this
end
section
def sw(L:List Nat)(i j:Nat):List Nat:=(L.set i (L.getD j 0)).set j (L.getD i 0)
theorem UJ(L:List Nat)(i j:Nat):(sw L i j).length=L.length:=by unfold sw;simp
theorem uK{L:List Nat}{i j:Nat}(hi:i<L.length)(hj:j<L.length)(k:Nat):(sw L i j).getD k 0=if k=j then L.getD i 0 else if k=i then L.getD j 0 else L.getD k 0:=by
 unfold sw;simp only[aS,List.getElem?_set,List.length_set]
 by_cases h1:k=j
 · subst h1;simp[hj]
 · rw[if_neg (fun h=>h1 h.symm),if_neg h1]
   by_cases h2:k=i
   · subst h2;simp[hi]
   · rw[if_neg (fun h=>h2 h.symm),if_neg h2]
theorem X7{L:List Nat}{i j:Nat}(hi:i<L.length)(hj:j<L.length):(sw L i j).Perm L:=by
 unfold sw;have e1:L.getD i 0=L[i]:=by rw[aS,aY hi];rfl
 have e2:L.getD j 0=L[j]:=by rw[aS,aY hj];rfl
 rw[e1,e2];exact List.set_set_perm hi hj
structure Pm (a b:Nat) (L L':List Nat):Prop where
 len:L'.length=L.length
 perm:L'.Perm L
 o:∀ k,k<a\/b<=k->L'.getD k 0=L.getD k 0
 X8:∀ k,a<=k->k<b->∃ j,a<=j/\j<b/\L'.getD k 0=L.getD j 0
theorem Pm.refl(a b:Nat)(L:List Nat):Pm a b L L:=⟨rfl,List.Perm.refl _,fun _ _=>rfl,fun k h1 h2=>⟨k,h1,h2,rfl⟩⟩
theorem Pm.trans{a b:Nat}{L M N:List Nat}(h:Pm a b L M)(g:Pm a b M N):Pm a b L N :=
 ⟨g.len.trans h.len,g.perm.trans h.perm,fun k hk=>(g.o k hk).trans (h.o k hk),fun k h1 h2=>by
  obtain⟨j,j1,j2,j3⟩:=g.X8 k h1 h2;obtain⟨i,i1,i2,i3⟩:=h.X8 j j1 j2
  exact⟨i,i1,i2,j3.trans i3⟩⟩
theorem Pm.mono{a b c d:Nat}{L M:List Nat}(h:Pm a b L M)(h1:c<=a)(h2:b<=d):Pm c d L M :=
 ⟨h.len,h.perm,fun k hk=>h.o k af,fun k k1 k2=>by
  by_cases q:a<=k/\k<b
  · obtain⟨j,j1,j2,j3⟩:=h.X8 k q.1 q.2;exact⟨j,af,af,j3⟩
  · exact⟨k,k1,k2,h.o k af⟩⟩
theorem Pm.swap{a b i j:Nat}{L:List Nat}(hb:b<=L.length)(i1:a<=i)(i2:i<b)(j1:a<=j)(j2:j<b):Pm a b L (sw L i j):=by
 refine⟨UJ _ _ _,X7 af af,fun k hk=>?_,fun k k1 k2=>?_⟩
 · rw[uK af af,if_neg af,if_neg af]
 · rw[uK af af]
   by_cases h1:k=j
   · rw[if_pos h1];exact⟨i,i1,i2,rfl⟩
   · rw[if_neg h1]
     by_cases h2:k=i
     · rw[if_pos h2];exact⟨j,j1,j2,rfl⟩
     · rw[if_neg h2];exact⟨k,k1,k2,rfl⟩
def ky(K:Nat->Nat)(L:List Nat)(k:Nat):Nat:=K (L.getD k 0)
def Up(K:Nat->Nat)(a b:Nat)(L:List Nat):Prop:=∀ i j,a<=i->i<j->j<b->ky K L i<=ky K L j
structure Ins (K:Nat->Nat) (a i j:Nat) (L:List Nat):Prop where
 aj:a<=j
 ji:j<=i
 up:∀ x y,a<=x->x<y->y<=i->x≠j->y≠j->ky K L x<=ky K L y
 hi:∀ y,j<y->y<=i->ky K L j<=ky K L y
theorem Ins.start{K:Nat->Nat}{a i:Nat}{L:List Nat}(h:Up K a i L)(ha:a<=i):Ins K a i i L :=
 ⟨ha,aB _,fun x y h1 h2 h3 h4 h5=>h x y h1 h2 af,fun y h1 h2=>absurd h1 af⟩
theorem Ins.step{K:Nat->Nat}{a i j:Nat}{L:List Nat}(h:Ins K a i j L)(hl:i<L.length)(hj:a<j)(hlt:ky K L j<ky K L (j-1)):Ins K a i (j-1) (sw L j (j-1)):=by
 have:=h.ji
 have g:∀ k,ky K (sw L j (j-1)) k=if k=j-1 then ky K L j else if k=j then ky K L (j-1) else ky K L k:=fun k=>by
  unfold ky;rw[uK af af]
  split
  · rfl
  · split <;> rfl
 refine⟨af,af,fun x y h1 h2 h3 h4 h5=>?_,fun y h1 h2=>?_⟩
 · rw[g,g,if_neg h4,if_neg h5]
   by_cases q1:x=j
   · rw[if_pos q1,if_neg af];exact h.up (j-1) y af af h3 af af
   · rw[if_neg q1]
     by_cases q2:y=j
     · rw[if_pos q2];exact h.up x (j-1) h1 af af q1 af
     · rw[if_neg q2];exact h.up x y h1 h2 h3 q1 q2
 · rw[g,g,if_pos rfl,if_neg af]
   by_cases q:y=j
   · rw[if_pos q];omega
   · rw[if_neg q];exact h.hi y af h2
theorem Ins.done{K:Nat->Nat}{a i j:Nat}{L:List Nat}(h:Ins K a i j L)(hs:j=a\/ky K L (j-1)<=ky K L j):Up K a (i+1) L:=by
 intro x y h1 h2 h3;have:=h.aj
 by_cases q1:x=j
 · rw[q1];exact h.hi y af af
 · by_cases q2:y=j
   · rw[q2];rcases hs with e|e
     · omega
     · by_cases q3:x=j-1
       · rw[q3];exact e
       · have:=h.up x (j-1) h1 af (by have:=h.ji;omega) q1 af;omega
   · exact h.up x y h1 h2 af q1 q2
def Hp(K:Nat->Nat)(f lo hi:Nat)(L:List Nat):Prop:=∀ c,0<c->c<hi->lo<=(c-1)/2->ky K L (f+c)<=ky K L (f+(c-1)/2)
structure Sf (K:Nat->Nat) (f lo hi r:Nat) (L:List Nat):Prop where
 ge:lo<=r
 hp:∀ c,0<c->c<hi->lo<=(c-1)/2->(c-1)/2≠r->ky K L (f+c)<=ky K L (f+(c-1)/2)
 pr:0<r->lo<=(r-1)/2->∀ c,0<c->c<hi->(c-1)/2=r->ky K L (f+c)<=ky K L (f+(r-1)/2)
theorem Sf.start{K:Nat->Nat}{f lo hi:Nat}{L:List Nat}(h:Hp K f (lo+1) hi L):Sf K f lo hi lo L :=
 ⟨aB _,fun c h1 h2 h3 h4=>h c h1 h2 af,fun h1 h2=>by omega⟩
theorem Sf.done{K:Nat->Nat}{f lo hi r:Nat}{L:List Nat}(h:Sf K f lo hi r L)(hs:∀ c,0<c->c<hi->(c-1)/2=r->ky K L (f+c)<=ky K L (f+r)):Hp K f lo hi L:=by
 intro c h1 h2 h3
 by_cases q:(c-1)/2=r
 · rw[q];exact hs c h1 h2 q
 · exact h.hp c h1 h2 h3 q
theorem Sf.step{K:Nat->Nat}{f lo hi r d:Nat}{L:List Nat}(h:Sf K f lo hi r L)(hl:f+hi<=L.length)(hd:d=2*r+1\/d=2*r+2)(hdh:d<hi)(hlt:ky K L (f+r)<ky K L (f+d))(hmax:∀ c,0<c->c<hi->(c-1)/2=r->ky K L (f+c)<=ky K L (f+d)):Sf K f lo hi d (sw L (f+r) (f+d)):=by
 have g:∀ k,ky K (sw L (f+r) (f+d)) (f+k)=if k=d then ky K L (f+r) else if k=r then ky K L (f+d) else ky K L (f+k):=fun k=>by
  unfold ky;rw[uK af af]
  by_cases q:k=d
  · rw[if_pos af,if_pos q]
  · rw[if_neg af,if_neg q]
    by_cases q2:k=r
    · rw[if_pos af,if_pos q2]
    · rw[if_neg af,if_neg q2]
 have hge:=h.ge;refine⟨af,fun c h1 h2 h3 h4=>?_,fun h1 h2 c c1 c2 c3=>?_⟩
 · rw[g,g,if_neg h4]
   by_cases q1:c=d
   · rw[if_pos q1,if_pos af];omega
   · rw[if_neg q1]
     by_cases q2:c=r
     · rw[if_pos q2,if_neg af];have:=h.pr af af d af hdh af;rw[q2];exact this
     · rw[if_neg q2]
       by_cases q3:(c-1)/2=r
       · rw[if_pos q3];exact hmax c h1 h2 q3
       · rw[if_neg q3];exact h.hp c h1 h2 h3 q3
 · rw[g,g,if_neg af,if_neg af,if_neg af,if_pos af];have:=h.hp c c1 c2 af af;rw[c3] at this;exact this
theorem Hp.top{K:Nat->Nat}{f hi:Nat}{L:List Nat}(h:Hp K f 0 hi L):∀ c,c<hi->ky K L (f+c)<=ky K L f:=by
 intro c
 induction c using Nat.strongRecOn with
 | _ c ih =>
   intro hc
   by_cases q:c=0
   · rw[q];exact aB _
   · have h1:=h c af hc (jd _);have h2:=ih ((c-1)/2) af af;omega
end
section
open Go.RowKit J
def X9(n:Nat):Value:=.int .i64 (n:Nat)
def bE(w:World)(g:Nat)(L:List Nat):Prop:=w.heap[g]?=some (.cells (L.map X9).toArray 3 (0,0))
theorem bE.lt{w:World}{g:Nat}{L:List Nat}(h:bE w g L):g<w.heap.size:=(fG.1 h).1
theorem bE.cell{w:World}{g:Nat}{L:List Nat}(h:bE w g L)(i:Nat)(hi:i<L.length):w.cell? ⟨g,i,none⟩=some (.int .i64 ((L.getD i 0:Nat):Int)):=by
 unfold bE at h;simp[World.cell?,h,X9,hi]
theorem bE.frozen{w:World}{g:Nat}{L:List Nat}(h:bE w g L)(i:Nat):w.frozen? ⟨g,i,none⟩=false:=by
 unfold bE at h;exact Qaw
theorem bE.set{w:World}{g:Nat}{L:List Nat}(h:bE w g L)(i x:Nat):bE (w.setCell ⟨g,i,none⟩ (.int .i64 (x:Nat))) g (L.set i x):=by
 unfold bE at h |-;simp only[World.setCell,iA,h];simp[X9,wX]
theorem bE.below{w w':World}{g B:Nat}{L:List Nat}(h:bE w g L)(hb:Below B w w')(hg:g<B):bE w' g L:=by
 unfold bE at h |-;rw[hb.block g hg];exact h
theorem bE.sw{w:World}{g:Nat}{L:List Nat}(h:bE w g L)(i j:Nat):bE ((w.setCell ⟨g,i,none⟩ (.int .i64 (L.getD j 0:Nat))).setCell ⟨g,j,none⟩ (.int .i64 (L.getD i 0:Nat))) g (sw L i j):=(h.set i _).set j _
theorem But.bq{g:Nat}{a w w':World}(h:But g a w)(hb:Below w.heap.size w w'):But g a w':=h.trans ⟨hb.os,hb.tape,hb.output,hb.size,fun k hk _=>hb.block k hk⟩
def iQ(K:Nat->Nat)(n g:Nat)(recv:Value)(w:World):Prop:=∀ (u:World) (x y:Nat),But g w u->x<n->y<n->∃ c:Int,(c<0↔K x<K y)/\Calls Tryz.prog 134 #[recv,.int .i64 (x:Nat),.int .i64 (y:Nat)] u fun r w'=>r=.returned (.int .i64 c)/\Below u.heap.size u w'
end
section
structure H2 (K:Nat->Nat) (f hi m:Nat) (L:List Nat):Prop where
 le:m<=hi
 hp:Hp K f 0 m L
 bt:∀ x y,x<m->m<=y->y<hi->ky K L (f+x)<=ky K L (f+y)
 up:Up K (f+m) (f+hi) L
theorem H2.start{K:Nat->Nat}{f hi:Nat}{L:List Nat}(h:Hp K f 0 hi L):H2 K f hi hi L :=
 ⟨aB _,h,fun x y h1 h2 h3=>by omega,fun i j h1 h2 h3=>by omega⟩
theorem qL{K:Nat->Nat}{L:List Nat}{i j:Nat}(hi:i<L.length)(hj:j<L.length)(k:Nat):ky K (sw L i j) k=if k=j then ky K L i else if k=i then ky K L j else ky K L k:=by
 unfold ky;rw[uK hi hj]
 split
 · rfl
 · split <;> rfl
theorem H2.mid{K:Nat->Nat}{f hi m:Nat}{L:List Nat}(h:H2 K f hi (m+1) L)(hl:f+hi<=L.length):Hp K f 1 m (sw L f (f+m)):=by
 have:=h.le;intro c h1 h2 h3;rw[qL af af,qL af af,if_neg af,if_neg af,if_neg af,if_neg af];exact h.hp c h1 af (jd _)
theorem H2.step{K:Nat->Nat}{f hi m:Nat}{L L':List Nat}(h:H2 K f hi (m+1) L)(hl:f+hi<=L.length)(hP:Pm f (f+m) (sw L f (f+m)) L')(hH:Hp K f 0 m L'):H2 K f hi m L':=by
 have hle:=h.le;have top:=h.hp.top;have e:∀ k,f+m<=k->ky K L' k=ky K (sw L f (f+m)) k:=fun k hk=>by unfold ky;rw[hP.o k (.inr hk)]
 have s:∀ k,ky K (sw L f (f+m)) k=if k=f+m then ky K L f else if k=f then ky K L (f+m) else ky K L k:=qL af af
 have em:ky K L' (f+m)=ky K L f:=by rw[e _ (aB _),s,if_pos rfl]
 have eo:∀ k,f+m<k->ky K L' k=ky K L k:=fun k hk=>by rw[e _ af,s,if_neg af,if_neg af]
 have X8:∀ x,x<m->∃ j,j<m+1/\ky K L' (f+x)=ky K L (f+j):=fun x hx=>by
  obtain⟨j,j1,j2,j3⟩:=hP.X8 (f+x) af af;have:ky K L' (f+x)=ky K (sw L f (f+m)) j:=by unfold ky;rw[j3]
  rw[this,s,if_neg af]
  by_cases q:j=f
  · rw[if_pos q];exact⟨m,af,rfl⟩
  · rw[if_neg q];exact⟨j-f,af,by rw[show f+(j-f)=j by omega]⟩
 refine⟨af,hH,fun x y h1 h2 h3=>?_,fun i j h1 h2 h3=>?_⟩
 · obtain⟨j,j1,j2⟩:=X8 x h1;rw[j2]
   by_cases q:y=m
   · rw[q,em];exact top j j1
   · rw[eo _ af];exact h.bt j y j1 af h3
 · rw[eo j af]
   by_cases q:i=f+m
   · rw[q,em];have:=h.bt 0 (j-f) af af af;rw[show f+(j-f)=j by omega] at this;exact this
   · rw[eo i af];exact h.up i j af h2 h3
theorem H2.done{K:Nat->Nat}{f hi:Nat}{L:List Nat}(h:H2 K f hi 0 L):Up K f (f+hi) L:=h.up
structure Pt (K:Nat->Nat) (a b i j:Nat) (p:Nat) (L:List Nat):Prop where
 ai:a<i
 jb:j<b
 ij:i<=j+1
 pv:ky K L a=p
 lo:∀ k,a<k->k<i->ky K L k<p
 hi:∀ k,j<k->k<b->p<=ky K L k
theorem Pt.start{K:Nat->Nat}{a b q:Nat}{L:List Nat}(hb:b<=L.length)(hab:a+1<b)(q1:a<=q)(q2:q<b):Pt K a b (a+1) (b-1) (ky K L q) (sw L a q):=by
 refine⟨af,af,af,?_,fun k h1 h2=>by omega,fun k h1 h2=>by omega⟩;rw[qL af af]
 by_cases e:a=q
 · rw[if_pos e,e]
 · rw[if_neg e,if_pos rfl]
theorem Pt.right{K:Nat->Nat}{a b i j p:Nat}{L:List Nat}(h:Pt K a b i j p L)(hij:i<=j)(hlt:ky K L i<ky K L a):Pt K a b (i+1) j p L:=by
 have:=h.ai;refine⟨af,h.jb,af,h.pv,fun k h1 h2=>?_,h.hi⟩
 by_cases e:k=i
 · rw[e,<-h.pv];exact hlt
 · exact h.lo k h1 af
theorem Pt.left{K:Nat->Nat}{a b i j p:Nat}{L:List Nat}(h:Pt K a b i j p L)(hij:i<=j)(hge:ky K L a<=ky K L j):Pt K a b i (j-1) p L:=by
 have:=h.ai;have:=h.jb;refine⟨h.ai,af,af,h.pv,h.lo,fun k h1 h2=>?_⟩
 by_cases e:k=j
 · rw[e,<-h.pv];exact hge
 · exact h.hi k af h2
theorem Pt.swap{K:Nat->Nat}{a b i j p:Nat}{L:List Nat}(h:Pt K a b i j p L)(hb:b<=L.length)(hij:i<=j)(h1:ky K L a<=ky K L i)(h2:ky K L j<ky K L a):Pt K a b (i+1) (j-1) p (sw L i j):=by
 have a1:=h.ai;have a2:=h.jb;have hne:i≠j:=fun e=>by rw[e] at h1;omega
 have s:∀ k,ky K (sw L i j) k=if k=j then ky K L i else if k=i then ky K L j else ky K L k:=qL af af
 have hp:=h.pv;refine⟨af,af,af,?_,fun k k1 k2=>?_,fun k k1 k2=>?_⟩
 · rw[s,if_neg af,if_neg af];exact hp
 · rw[s,if_neg af]
   by_cases e:k=i
   · rw[if_pos e,<-hp];exact h2
   · rw[if_neg e];exact h.lo k k1 af
 · rw[s]
   by_cases e:k=j
   · rw[if_pos e,<-hp];exact h1
   · rw[if_neg e,if_neg af];exact h.hi k af k2
structure EI (K:Nat->Nat) (a b m:Nat) (L:List Nat):Prop where
 am:a<=m
 mb:m<b
 lo:∀ k,a<=k->k<m->ky K L k<=ky K L m
 hi:∀ k,m<k->k<b->ky K L m<=ky K L k
theorem Pt.done{K:Nat->Nat}{a b i j p:Nat}{L:List Nat}(h:Pt K a b i j p L)(hb:b<=L.length)(hij:j<i):EI K a b j (sw L j a):=by
 have a1:=h.ai;have a2:=h.jb;have a3:=h.ij;have s:∀ k,ky K (sw L j a) k=if k=a then ky K L j else if k=j then ky K L a else ky K L k:=qL af af
 have hm:ky K (sw L j a) j=p:=by
  rw[s]
  by_cases e:j=a
  · rw[if_pos e,e];exact h.pv
  · rw[if_neg e,if_pos rfl];exact h.pv
 refine⟨af,af,fun k k1 k2=>?_,fun k k1 k2=>?_⟩
 · rw[hm,s]
   by_cases e:k=a
   · rw[if_pos e];exact nV (h.lo j af af)
   · rw[if_neg e,if_neg af];exact nV (h.lo k af af)
 · rw[hm,s,if_neg af,if_neg af];exact h.hi k k1 k2
theorem EI.left{K:Nat->Nat}{a b m:Nat}{L L':List Nat}(h:EI K a b m L)(hP:Pm a m L L'):EI K a b m L':=by
 have em:ky K L' m=ky K L m:=by unfold ky;rw[hP.o m (.inr (aB _))]
 refine⟨h.am,h.mb,fun k k1 k2=>?_,fun k k1 k2=>?_⟩
 · obtain⟨j,j1,j2,j3⟩:=hP.X8 k k1 k2;rw[em,show ky K L' k=ky K L j by unfold ky;rw[j3]];exact h.lo j j1 j2
 · rw[em,show ky K L' k=ky K L k by unfold ky;rw[hP.o k (.inr af)]];exact h.hi k k1 k2
theorem EI.right{K:Nat->Nat}{a b m:Nat}{L L':List Nat}(h:EI K a b m L)(hP:Pm (m+1) b L L'):EI K a b m L':=by
 have em:ky K L' m=ky K L m:=by unfold ky;rw[hP.o m (.inl af)]
 refine⟨h.am,h.mb,fun k k1 k2=>?_,fun k k1 k2=>?_⟩
 · rw[em,show ky K L' k=ky K L k by unfold ky;rw[hP.o k (.inl af)]];exact h.lo k k1 k2
 · obtain⟨j,j1,j2,j3⟩:=hP.X8 k af k2;rw[em,show ky K L' k=ky K L j by unfold ky;rw[j3]];exact h.hi j af j2
theorem EI.up{K:Nat->Nat}{a b m:Nat}{L:List Nat}(h:EI K a b m L)(h1:Up K a m L)(h2:Up K (m+1) b L):Up K a b L:=by
 intro i j hi hij hj
 by_cases q1:j<m
 · exact h1 i j hi hij q1
 · by_cases q2:m<i
   · exact h2 i j af hij hj
   · have e1:ky K L i<=ky K L m:=by
      by_cases q:i=m
      · rw[q];exact aB _
      · exact h.lo i hi af
     have e2:ky K L m<=ky K L j:=by
      by_cases q:j=m
      · rw[q];exact aB _
      · exact h.hi j af hj
     omega
theorem Up.o{K:Nat->Nat}{a b c d:Nat}{L L':List Nat}(h:Up K a b L)(hP:Pm c d L L')(hd:b<=c\/d<=a):Up K a b L':=by
 intro i j h1 h2 h3;rw[show ky K L' i=ky K L i by unfold ky;rw[hP.o i af],show ky K L' j=ky K L j by unfold ky;rw[hP.o j af]];exact h i j h1 h2 h3
def Fl(K:Nat->Nat)(a b:Nat)(L:List Nat):Prop:=0<a->∀ k,a<=k->k<b->ky K L (a-1)<ky K L k
theorem Fl.pm{K:Nat->Nat}{a b:Nat}{L L':List Nat}(h:Fl K a b L)(hP:Pm a b L L'):Fl K a b L':=by
 intro ha k k1 k2;obtain⟨j,j1,j2,j3⟩:=hP.X8 k k1 k2;rw[show ky K L' (a-1)=ky K L (a-1) by unfold ky;rw[hP.o (a-1) (.inl af)],show ky K L' k=ky K L j by unfold ky;rw[j3]];exact h ha j j1 j2
theorem Fl.left{K:Nat->Nat}{a b m:Nat}{L:List Nat}(h:Fl K a b L)(hm:m<=b):Fl K a m L:=fun ha k k1 k2=>h ha k k1 af
theorem EI.fl{K:Nat->Nat}{a b m:Nat}{L:List Nat}(h:EI K a b m L)(hn:∀ i j,i<b->j<b->i≠j->ky K L i≠ky K L j):Fl K (m+1) b L:=fun _ k k1 k2=>by
 have h1:=h.hi k af k2;have h2:=hn m k af k2 af;rw[show m+1-1=m by omega];omega
end
section
open Go.RowKit J
theorem Kz{q:Nat}(h:q<4611686018427387904):IntKind.i64.wrap (q:Int)=(q:Int):=by
 simp[IntKind.wrap,IntKind.bits,IntKind.signed];omega
theorem aH{u:World}{p:Addr}{v:Value}(h:u.cell? p=some v):p.block<u.heap.size:=by
 unfold World.cell? at h;rcases iJ p.block u.heap.size with q|q
 · exact q
 · rw[xE q] at h;cases h
theorem jj{P:Prop}(h:P:=by
 rcases hv with rfl | rfl
 · exact((o4.bq hdr).set _ _).set _ _
 · exact((o4.bq hdr).set _ _).set _ _):P:=h
theorem Io(K:Nat->Nat)(n g a b cap:Nat)(L:List Nat)(recv:Value)(w:World)(hO:bE w g L)(hL:∀ x ∈ L,x<n)(hab:a<=b)(hb:b<=L.length)(hbig:L.length<4611686018427387904)(hC:iQ K n g recv w) :
 Calls Tryz.prog 257 #[.slice (some ⟨g,0,none⟩) L.length cap,.int .i64 (a:Nat),.int .i64 (b:Nat),.func (.func 134) #[recv] #[]] w fun r w'=>r=.returned (.tuple #[])/\∃ L',bE w' g L'/\Pm a b L L'/\Up K a b L'/\But g w w':=by
 obtain⟨N,hN⟩:=ah (L.length);have HX:=(bM hN hL hC);have B0:Aside (∃ L',bE w g L'/\Pm a b L L'/\Up K a (a+1) L'/\But g w w):=⟨L,hO,Pm.refl _ _ _,fun i j h1 h2 h3=>by omega,But.refl _ _⟩;rw[<-hN] at hb hbig |-;have hab':a<4611686018427387904:=af
 have hbb:b<4611686018427387904:=af
 clear hN hL hC hO;go_enter Tryz.func257,Tryz.ntmps257;go_wp2
 go_loopg [8] (b-(a+1)) (fun gk iv wr=>∃ i:Nat,gk=b-i/\a+1<=i/\(i<=b\/i=a+1)/\iv=.int .i64 (i:Nat)/\Aside (∃ L',bE wr g L'/\Pm a b L L'/\Up K a i L'/\But g w wr))
 case atStart=>exact⟨a+1,rfl,aB _,.inr rfl,aL,B0.o⟩
 case round =>
  clear B0;obtain⟨i,iL,hai,hib,rfl,HA⟩:=hrel
  by_cases hi:i<b
  · have hd:decide ((i:Int)<(b:Nat))=true:=by simp;omega
    have J0:Aside (∃ L',bE wr g L'/\Pm a b L L'/\Ins K a i i L'/\But g w wr):=by
     obtain⟨L',h1,h2,h3,h4⟩:=HA.o;exact⟨L',h1,h2,Ins.start h3 af,h4⟩
    clear HA;go_wp2
    go_loopg [9] i (fun gk jv wr=>∃ j:Nat,gk=j/\a<=j/\j<=i/\jv=.int .i64 (j:Nat)/\Aside (∃ L',bE wr g L'/\Pm a b L L'/\Ins K a i j L'/\But g w wr))
    case atStart=>exact⟨i,rfl,af,aB _,aL,J0.o⟩
    case round =>
     clear J0;obtain⟨j,hgj,haj,hji,rfl,HA⟩:=hrel
     by_cases hj:a<j
     · have hd4:decide ((a:Int)<(j:Nat))=true:=by simp;omega
       go_upto_region 4 with fail
       go_cut [34] from 18 to 33 (fun v wx=>∃ c:Bool,v=.bool c/\Aside (∃ L',bE wx g L'/\Pm a b L L'/\Ins K a i j L'/\But g w wx/\(c=true↔ky K L' j<ky K L' (j-1))))
       case first =>
        obtain⟨L',o1,o2,o3,o4⟩:=HA.o;have hlen:L'.length=N:=by rw[o2.len,<-HX.o.1]
        have hjN:j<N:=af
        have hdr:=(aG wr.heap.size wr).drew;have oD:=o1.below hdr o1.lt;have m1:L'.getD j 0<n:=HX.o.2.1 _ (o2.perm.mem_iff.1 (by rw[aS,aY af];exact iw _));have m2:L'.getD (j-1) 0<n:=HX.o.2.1 _ (o2.perm.mem_iff.1 (by rw[aS,aY af];exact iw _));have c1:=oD.cell j af;have c2:=oD.cell (j-1) af;obtain⟨x,hx⟩:=ah (L'.getD j 0);obtain⟨y,hy⟩:=ah (L'.getD (j-1) 0);rw[<-hx] at c1 m1;rw[<-hy] at c2 m2;have ej:((j:Int)-1)=((j-1:Nat):Int):=af
        have hj1:j-1<N:=af
        obtain⟨c,hc,C0⟩:=HX.o.r2 _ x y (o4.bq hdr) m1 m2;have C:=hid C0
        have HF:Aside (∀ v:World,Below wr.drew.heap.size wr.drew v->∃ L',bE v g L'/\Pm a b L L'/\Ins K a i j L'/\But g w v/\(decide (c<0)=true↔ky K L' j<ky K L' (j-1))):=fun v hv =>
         ⟨L',oD.below hv oD.lt,o2,o3,(o4.bq hdr).bq hv,by rw[decide_eq_true_iff,hc];unfold ky;rw[<-hx,<-hy]⟩
        clear HA o1 o2 o3 o4 hlen hdr oD m1 m2 hx hy hc C0;obtain⟨q,hq⟩:=ah (j-1);rw[<-hq] at c2;have hwq:IntKind.i64.wrap ((j:Int)-1)=(q:Int):=by rw[show(j:Int)-1=(q:Int) by omega];exact Kz af
        have b1:(0:Int)<=(q:Int):=af
        have b2:(q:Int)<(N:Int):=af
        have b3:(j:Int)<(N:Int):=af
        have hqN:q<N:=af
        have kS:=aT c1 c2;have HQ:=au hq;clear c1 c2 ej hq hj1
        go_region_held3 (fun w'=>w'.cell? ⟨g,j,none⟩=some (.int .i64 (x:Nat))/\w'.cell? ⟨g,q,none⟩=some (.int .i64 (y:Nat))) (with_reducible exact kS.o) (first
         | (go_at_call 134
            with_reducible refine C.o.mono ?_
            rintro r v ⟨rfl,hb⟩;have G:=au (HF.o v hb);have kS:Aside (v.cell? ⟨g,j,none⟩=some (.int .i64 (x:Nat))/\v.cell? ⟨g,q,none⟩=some (.int .i64 (y:Nat))):=⟨(hb.cell (p:=⟨g,j,none⟩) (aH kS.o.1)).trans kS.o.1,(hb.cell (p:=⟨g,q,none⟩) (aH kS.o.2)).trans kS.o.2⟩
            clear hb))
        all_goals
         go_wp2_with fail
         go_meet
         case rel=>exact⟨_,rfl,G.o⟩
       clear HA;obtain⟨c,rfl,HB⟩:=hcut
       cases c
       · have HN:Aside (∃ L',bE wc g L'/\Pm a b L L'/\Up K a (i+1) L'/\But g w wc):=by
          obtain⟨L',h1,h2,h3,h4,h5⟩:=HB.o;exact⟨L',h1,h2,h3.done (.inr (by rcases iJ (ky K L' j) (ky K L' (j-1)) with q | q;exact absurd (h5.2 q) aA;exact q)),h4⟩
         clear HB;go_wp2;go_roundg (b-(i+1))
         case measure=>omega
         case rel=>exact⟨i+1,rfl,af,.inl af,by first | rfl | simp,HN.o⟩
       · obtain⟨q,hq⟩:=ah (j-1);have hwq:IntKind.i64.wrap ((j:Int)-1)=(q:Int):=by rw[show(j:Int)-1=(q:Int) by omega];exact Kz af
         have b1:(0:Int)<=(q:Int):=af
         have b2:(q:Int)<(N:Int):=af
         have b3:(j:Int)<(N:Int):=af
         have hqN:q<N:=af
         have hjN:j<N:=af
         have hne:j≠q:=af
         have hne':q≠j:=af
         have HQ:=au hq;clear hq
         go_upto_region 6 with fail
         obtain⟨L',o1,o2,o3,o4,o5⟩:=HB.o;have hlen:L'.length=N:=by rw[o2.len,<-HX.o.1]
         have hdr:=(aG wc.heap.size wc).drew;have oD:=o1.below hdr o1.lt;have c1:=o1.cell j af;have c2:=o1.cell q af;have z1:=o1.frozen j;have z2:=o1.frozen q
         have HF:Aside (∀ v:World,(v=(wc.drew.setCell ⟨g,j,none⟩ (.int .i64 (L'.getD q 0:Nat))).setCell ⟨g,q,none⟩ (.int .i64 (L'.getD j 0:Nat))\/v=(wc.drew.setCell ⟨g,q,none⟩ (.int .i64 (L'.getD j 0:Nat))).setCell ⟨g,j,none⟩ (.int .i64 (L'.getD q 0:Nat)))->∃ L',bE v g L'/\Pm a b L L'/\Ins K a i q L'/\But g w v):=fun v hv=>by
          have hq:=HQ.o;refine⟨sw L' j q,?_,o2.trans (Pm.swap af af af af af),?_,?_⟩
          · rcases hv with rfl | rfl
            · exact oD.sw j q
            · have:=(oD.set q (L'.getD j 0)).set j (L'.getD q 0);unfold sw;rw[xJ _ _ hne];exact this
          · have:=o3.step af hj (by rw[<-HQ.o];have:=o5.1 rfl;rw[<-HQ.o] at this;exact this);rw[<-HQ.o] at this;exact this
          · exact jj
         obtain⟨x,hx⟩:=ah (L'.getD j 0);obtain⟨y,hy⟩:=ah (L'.getD q 0);rw[<-hx] at c1 HF;rw[<-hy] at c2 HF;clear HB o1 o2 o3 o4 o5 hlen hdr oD hx hy
         go_region
         all_goals
          go_wp2;go_roundg q
          case measure=>have:=HQ.o;omega
          case rel=>exact⟨q,rfl,by have:=HQ.o;omega,by have:=HQ.o;omega,by first | rfl | simp,HF.o _ (by first | exact .inl rfl | exact .inr rfl)⟩
     · have hd4:decide ((a:Int)<(j:Nat))=false:=by simp;omega
       have HN:Aside (∃ L',bE wr g L'/\Pm a b L L'/\Up K a (i+1) L'/\But g w wr):=by
        obtain⟨L',h1,h2,h3,h4⟩:=HA.o;exact⟨L',h1,h2,h3.done (.inl af),h4⟩
       clear HA
       go_upto_region 4 with fail
       go_region
       all_goals
        go_wp2;go_roundg (b-(i+1))
        case measure=>omega
        case rel=>exact⟨i+1,rfl,af,.inl af,by first | rfl | simp,by obtain⟨L',h1,h2,h3,h4⟩:=HN.o;exact⟨L',h1,h2,h3,h4.drew⟩⟩
  · have hd:decide ((i:Int)<(b:Nat))=false:=by simp;omega
    go_wp2;refine bodyPost_end (v:=.tuple #[]) (by simp[results,Tryz.results257,go_sem]) rfl ?_;obtain⟨L',h1,h2,h3,h4⟩:=HA.o;exact⟨rfl,L',h1,h2,fun x y hx hxy hy=>h3 x y hx hxy af,h4⟩
end
end Go.Proofs.YtaejmlkaefnbhaaGreatDoor
