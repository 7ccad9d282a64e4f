import Derived.Test.YtdimlelcgapobaaGreatDoorZ10x
import Derived.Test.YtdimlelcgapobaaGreatDoorZ23x
import Derived.Test.YtdimlelcgapobaaGreatDoorD9x
set_option linter.unusedVariables false
set_option linter.unusedSimpArgs false
set_option maxHeartbeats 16000000
set_option maxRecDepth 20000
namespace Go.Proofs.YtdimlelcgapobaaGreatDoor
section
open Go.RowKit
def ofK (s:Bool) (K:Nat):Option (Bool×Nat×Int):=ofR s (K/4503599627370496) (K%4503599627370496)
theorem ofK_val (s:Bool) (K:Nat) (hK:K<9218868437227405312):∃ n X e,ofK s K=some (n,X,e)∧Frm n X e∧(X≠0→n=s)∧(X=0↔K=0)∧∀ Bs:Int,Bs≤-1074→zv Bs (n,X,e)=sg1 s*((vK K*2^(-1074-Bs).toNat:Nat):Int):=by
 obtain ⟨x,hx⟩:∃ x,K/4503599627370496=x:=⟨_,rfl⟩;obtain ⟨f,hf⟩:∃ f,K%4503599627370496=f:=⟨_,rfl⟩;have hxl:x<2047:=by omega
 have hfl:f<4503599627370496:=by omega
 obtain ⟨M,hM⟩:∃ M,(if x=0 then f else f+4503599627370496)=M:=⟨_,rfl⟩
 obtain ⟨E,hE⟩:∃ E:Int,(if x=0 then (-1074:Int) else (x:Int)-1075)=E:=⟨_,rfl⟩
 have hME:(x=0∧M=f∧E=-1074)∨(x≠0∧M=f+4503599627370496∧E=(x:Int)-1075):=by
  by_cases h:x=0
  · rw [if_pos h] at hM hE;exact .inl ⟨h,hM.symm,hE.symm⟩
  · rw [if_neg h] at hM hE;exact .inr ⟨h,hM.symm,hE.symm⟩
 have hMl:M<9007199254740992:=by omega
 have hO:ofK s K=mkS s M E:=by unfold ofK ofR;rw [hx,hf,if_neg (by omega),hM,hE]
 have hsome:(mkS s M E).isSome=true:=by
  unfold mkS
  split
  · rfl
  · rename_i h0
    have hb:=bl_le53 M hMl;obtain ⟨_,_,_,hbb⟩:=odd_part M h0;rw [if_neg (by omega)]
    rfl
 obtain ⟨⟨n,X,e⟩,hz⟩:=Option.isSome_iff_exists.1 hsome;have hKw:K=(E+1074).toNat*4503599627370496+M:=by rcases hME with h | h <;> omega
 have hv:vK K=M*2^(E+1074).toNat:=by
  rw [hKw];exact vK_word _ _ (by rcases hME with h | h;left;omega;right;omega) (by omega)
 have hM0:M=0↔K=0:=by rcases hME with h | h <;> omega
 refine ⟨n,X,e,by rw [hO,hz],mkS_frm hz,?_,?_,?_⟩
 · intro hX
   unfold mkS at hz
   split at hz
   · cases hz;exact absurd rfl hX
   · split at hz
     · cases hz
     · cases hz;rfl
 · rw [←hM0]
   constructor
   · intro hX
     unfold mkS at hz
     split at hz
     · assumption
     · rename_i h0
       split at hz
       · cases hz
       · obtain ⟨m,_,hd,_⟩:=odd_part M h0
         cases hz
         omega
   · intro h0
     unfold mkS at hz;rw [if_pos h0] at hz
     cases hz;rfl
 · intro Bs hBs
   rw [zv_mkS hz Bs (.inr (by omega)),hv,Nat.mul_assoc,←Nat.pow_add,show (E+1074).toNat+(-1074-Bs).toNat=(E-Bs).toNat by omega]
end
section
open Go.RowKit
def Al (w:World) (v:Value) (X:Nat):Prop:=∃ a l c xs,v=.slice a l c∧Arg w a l c xs∧val xs=X∧l≤2000000
theorem Al.below {w w':World}{v:Value}{X:Nat}(h:Al w v X) (hb:Below w.heap.size w w'):Al w' v X:=by
 obtain ⟨a,l,c,xs,rfl,hA,hv,hl⟩:=h;exact ⟨a,l,c,xs,rfl,hA.below hb,hv,hl⟩
theorem Al.off {w:World}{v:Value}{X g:Nat}{n:Bool}{s:Option Addr}{sl sc:Nat}{k:Int}(h:Al w v X) (D:Dk w g n (.slice s sl sc) k) (x y z:Value):Al (st3 w g x y z) v X:=by
 obtain ⟨a,l,c,xs,rfl,hA,hv,hl⟩:=h;exact ⟨a,l,c,xs,rfl,hA.off3 D.tk x y z,hv,hl⟩
def Fm (o:Option (Bool×Nat×Int)):Prop:=∃ B x,Fv B o x
theorem Fm.len {o:Option (Bool×Nat×Int)}(h:Fm o):(ws (dX o)).length≤8192:=by obtain ⟨B,x,h⟩:=h;exact h.len
theorem Fm.re {o:Option (Bool×Nat×Int)}(h:Fm o):mkS (dN o) (dX o) (dE o)=o:=by obtain ⟨B,x,h⟩:=h;exact h.reform
theorem Fm.rng {o:Option (Bool×Nat×Int)}(h:Fm o):-9223372036854775808≤dE o∧dE o≤9223372036854775807:=by
 obtain ⟨B,x,h⟩:=h;obtain ⟨n,X,e,rfl,F,_⟩:=h.ex;have:=F.up;have:=F.down
 show -9223372036854775808≤e∧e≤9223372036854775807
 omega
theorem Nt.al {lo:Nat}{w:World}{v:Value}{o:Option (Bool×Nat×Int)}(h:Nt lo w v (dX o)) (F:Fm o):Al w v (dX o):=by
 have:=F.len;obtain ⟨a,c,rfl,hA⟩:=h.arg (by omega)
 exact ⟨a,_,c,_,rfl,hA,val_ws _,by omega⟩
theorem lit_al (w:World):Al (w.alloc (.cells #[.int .u32 1] 23)) (.slice (some ⟨w.heap.size,0,none⟩) 1 1) 1:=⟨_,1,1,[1],rfl,lit_arg w 1 (by omega),by simp [val],by omega⟩
theorem rmulW {w:World}{v u:Value}{X Y:Nat}{n m:Bool}{e f:Int}(h1:Al w v X) (h2:Al w u Y) (be:-9223372036854775808≤e∧e≤9223372036854775807) (bf:-9223372036854775808≤f∧f≤9223372036854775807) (o:Option (Bool×Nat×Int)) (ho:mulD (mkS n X e) (mkS m Y f)=o) :
 Calls Tryz.prog 65 #[.agg #[.bool n,v,.int .i64 e],.agg #[.bool m,u,.int .i64 f]] w fun r w'=>(∃ p,r=.returned (.tuple #[.agg #[.bool (dN o),p,.int .i64 (dE o)],.int .i64 (erS o)])∧Nt w.heap.size w' p (dX o))∧Below w.heap.size w w':=by
 obtain ⟨a,l,c,xs,rfl,hA,rfl,hl⟩:=h1;obtain ⟨b,k,d,ys,rfl,hB,rfl,hk⟩:=h2;subst ho;exact rMul_any3 hA hB hl hk n m e f be.1 be.2 bf.1 bf.2
theorem raddW {w:World}{v u:Value}{X Y:Nat}{n m:Bool}{e f:Int}(h1:Al w v X) (h2:Al w u Y) (be:-9223372036854775808≤e∧e≤9223372036854775807) (bf:-9223372036854775808≤f∧f≤9223372036854775807) (o:Option (Bool×Nat×Int)) (ho:addD (mkS n X e) (mkS m Y f)=o) :
 Calls Tryz.prog 100 #[.agg #[.bool n,v,.int .i64 e],.agg #[.bool m,u,.int .i64 f]] w fun r w'=>(∃ p,r=.returned (.tuple #[.agg #[.bool (dN o),p,.int .i64 (dE o)],.int .i64 (erS o)])∧Nt w.heap.size w' p (dX o))∧Below w.heap.size w w':=by
 obtain ⟨a,l,c,xs,rfl,hA,rfl,hl⟩:=h1;obtain ⟨b,k,d,ys,rfl,hB,rfl,hk⟩:=h2;subst ho;exact rAdd_any3 hA hB hl hk n m e f be.1 be.2 bf.1 bf.2
theorem rcmpW {w:World}{v u:Value}{X Y:Nat}{n m:Bool}{e f:Int}(h1:Al w v X) (h2:Al w u Y) (be:-9223372036854775808≤e∧e≤9223372036854775807) (bf:-9223372036854775808≤f∧f≤9223372036854775807) (c:Int) (ho:cmpV n X e m Y f=c) :
 Calls Tryz.prog 69 #[.agg #[.bool n,v,.int .i64 e],.agg #[.bool m,u,.int .i64 f]] w fun r w'=>r=.returned (.int .i64 c)∧Below w.heap.size w w':=by
 obtain ⟨a,l,c',xs,rfl,hA,rfl,hl⟩:=h1;obtain ⟨b,k,d,ys,rfl,hB,rfl,hk⟩:=h2;subst ho;exact rCmp_any3 hA hB hl hk n m e f be.1 be.2 bf.1 bf.2
theorem rofW {w:World}{s:Bool}{K:Nat}(hK:K<9218868437227405312) (x:Nat) (hx:x=(if s then 9223372036854775808 else 0)+K) (o:Option (Bool×Nat×Int)) (ho:ofK s K=o) :
 Calls Tryz.prog 73 #[.float .f64 x] w fun r w'=>(∃ p k,r=.returned (.tuple #[.agg #[.bool (dN o),p,.int .i64 (dE o)],.int .i64 k])∧Nt w.heap.size w' p (dX o))∧Below w.heap.size w w':=by
 have h1:K/4503599627370496<2048:=by omega
 have h2:K%4503599627370496<4503599627370496:=by omega
 have e1:B.bw s (K/4503599627370496) (K%4503599627370496)=x:=by unfold B.bw;rw [hx];cases s <;> simp <;> omega
 have:=rOf3_any s (K/4503599627370496) (K%4503599627370496) h1 h2 w;rw [e1] at this;subst ho;refine this.mono ?_;rintro r w' ⟨⟨v,h,hn⟩,hb⟩;exact ⟨⟨v,_,h,hn⟩,hb⟩
theorem middle_q {w:World}{n m:Bool}{a b:Option Addr}{la ca lb cb X Y:Nat}{e f:Int}(x y:Nat) (o1 o2 o3 o4 o7:Option (Bool×Nat×Int)) (c:Int)
 (hN:Al w (.slice a la ca) X) (hD:Al w (.slice b lb cb) Y) (be:-9223372036854775808≤e∧e≤9223372036854775807) (bf:-9223372036854775808≤f∧f≤9223372036854775807)
 (HO1:Hid (∀ u:World,Calls Tryz.prog 73 #[.float .f64 x] u fun r w'=>(∃ p k,r=.returned (.tuple #[.agg #[.bool (dN o1),p,.int .i64 (dE o1)],.int .i64 k])∧Nt u.heap.size w' p (dX o1))∧Below u.heap.size u w'))
 (HO2:Hid (∀ u:World,Calls Tryz.prog 73 #[.float .f64 y] u fun r w'=>(∃ p k,r=.returned (.tuple #[.agg #[.bool (dN o2),p,.int .i64 (dE o2)],.int .i64 k])∧Nt u.heap.size w' p (dX o2))∧Below u.heap.size u w'))
 (FF:Aside (Fm o1∧Fm o2∧Fm o3∧Fm o4∧Fm o7))
 (EQ:Aside (addD o1 o2=o3∧mulD (mkS n X e) (mkS false 1 1)=o4∧mulD o3 (mkS m Y f)=o7∧cmpV (dN o7) (dX o7) (dE o7) (dN o4) (dX o4) (dE o4)=c)) :
 Calls Tryz.prog 104 #[.float .f64 x,.float .f64 y,.agg #[.bool n,.slice a la ca,.int .i64 e,.bool m,.slice b lb cb,.int .i64 f],.bool false] w fun r w'=>r=.returned (.int .i64 c)∧Below w.heap.size w w':=by
 obtain ⟨W1,hW1⟩:∃ W,W=w.alloc (.cells #[.bool n,.slice a la ca,.int .i64 e,.bool m,.slice b lb cb,.int .i64 f] 30):=⟨_,rfl⟩;have hB:Below w.heap.size w W1:=by rw [hW1];exact below_alloc _ _
 have QR0:Rq W1 w.heap.size n (.slice a la ca) e m (.slice b lb cb) f:=by rw [hW1];exact Rq.new _ _ _ _ _ _ _
 have BD:=sd (ai be bf);have b1:-9223372036854775808≤(1:Int)∧(1:Int)≤9223372036854775807:=by decide
 have b2:-9223372036854775808≤(2:Int)∧(2:Int)≤9223372036854775807:=by decide
 have BL:=sd (ai b1 b2);clear be bf b1 b2;have hbel:=hB;have S0:=(sd (ai hbel (ai QR0 (ai (hN.below hB) (hD.below hB)))));clear hbel;clear hB QR0 hN hD;go_enter Tryz.func104,Tryz.ntmps104;obtain ⟨bel,QR,AN,AD⟩:=S0.out;have HC:=hid (HO1.out W1);clear bel QR AN AD
 go_upto_region 1 with fail
 rw [←hW1];clear hW1
 go_wp2_with fail
 refine HC.out.mono ?_;rintro r u1 ⟨⟨p,k1,rfl,hN⟩,hb⟩;obtain ⟨q1,d1,rfl,-⟩:=hN.shape;clear HC;obtain ⟨bel,QR,AN,AD⟩:=S0.out;have hbn:=bel.trans (hb.mono bel.size);have S1:=sd (ai hbn (ai (QR.below hb) (ai (AN.below hb) (ai (AD.below hb) (hN.al FF.out.1)))));clear bel QR AN AD;clear hb hbn S0;clear hN HO1;obtain ⟨A2,hU2⟩:∃ U,U=u1.alloc (.cells #[.bool (dN o1),.slice q1 (ws (dX o1)).length d1,.int .i64 (dE o1)] 27):=⟨_,rfl⟩;obtain ⟨bel,QR,AN,AD,A1⟩:=S1.out;have hbA:Below u1.heap.size u1 A2:=by rw [hU2];exact below_alloc _ _
 have hbB:=bel.trans (hbA.mono bel.size);have T2:=ai hbB (ai (QR.below hbA) (ai (AN.below hbA) (ai (AD.below hbA) (ai (A1.below hbA) (show Dk A2 u1.heap.size (dN o1) (.slice q1 (ws (dX o1)).length d1) (dE o1) by rw [hU2];exact Dk.new _ _ _ _)))))
 have S2:=sd T2;clear bel QR AN AD A1;clear hbA hbB T2 S1;obtain ⟨bel,QR,AN,AD,A1,D1⟩:=S2.out;have HC:=hid (HO2.out A2);clear bel QR AN AD A1 D1
 go_upto_region 2 with fail
 rw [←hU2];clear hU2
 go_wp2_with fail
 refine HC.out.mono ?_;rintro r u3 ⟨⟨p,k2,rfl,hN⟩,hb⟩;obtain ⟨q2,d2,rfl,-⟩:=hN.shape;clear HC;obtain ⟨bel,QR,AN,AD,A1,D1⟩:=S2.out;have hbn:=bel.trans (hb.mono bel.size);have S3:=sd (ai hbn (ai (QR.below hb) (ai (AN.below hb) (ai (AD.below hb) (ai (A1.below hb) (ai (D1.below hb) (hN.al FF.out.2.1)))))));clear bel QR AN AD A1 D1;clear hb hbn S2;clear hN HO2;obtain ⟨A4,hU4⟩:∃ U,U=u3.alloc (.cells #[.bool (dN o2),.slice q2 (ws (dX o2)).length d2,.int .i64 (dE o2)] 27):=⟨_,rfl⟩;obtain ⟨bel,QR,AN,AD,A1,D1,A2⟩:=S3.out;have hbA:Below u3.heap.size u3 A4:=by rw [hU4];exact below_alloc _ _
 have hbB:=bel.trans (hbA.mono bel.size);have T4:=ai hbB (ai (QR.below hbA) (ai (AN.below hbA) (ai (AD.below hbA) (ai (A1.below hbA) (ai (D1.below hbA) (ai (A2.below hbA) (show Dk A4 u3.heap.size (dN o2) (.slice q2 (ws (dX o2)).length d2) (dE o2) by rw [hU4];exact Dk.new _ _ _ _)))))))
 have S4:=sd T4;clear bel QR AN AD A1 D1 A2;clear hbA hbB T4 S3;obtain ⟨x0,x1,x2,x3,x4,x5⟩:=S4.out.2.2.2.2.2.1.facts;obtain ⟨y0,y1,y2,y3,y4,y5⟩:=S4.out.2.2.2.2.2.2.2.facts;obtain ⟨bel,QR,AN,AD,A1,D1,A2,D2⟩:=S4.out;have HC:=hid (raddW A1 A2 FF.out.1.rng FF.out.2.1.rng o3 (by rw [FF.out.1.re,FF.out.2.1.re];exact EQ.out.1))
 clear bel QR AN AD A1 D1 A2 D2
 go_upto_region 3 with fail
 rw [←hU4];clear hU4
 go_wp2_with fail
 clear x0 x1 x2 x3 x4 x5 y0 y1 y2 y3 y4 y5;refine HC.out.mono ?_;rintro r u5 ⟨⟨p,rfl,hN⟩,hb⟩;obtain ⟨q3,d3,rfl,-⟩:=hN.shape;clear HC;obtain ⟨bel,QR,AN,AD,A1,D1,A2,D2⟩:=S4.out;have hbn:=bel.trans (hb.mono bel.size);have S5:=sd (ai hbn (ai (QR.below hb) (ai (AN.below hb) (ai (AD.below hb) (hN.al FF.out.2.2.1)))));clear bel QR AN AD A1 D1 A2 D2;clear hb hbn S4;clear hN;obtain ⟨A6,hU6⟩:∃ U,U=u5.alloc (.cells #[.bool (dN o3),.slice q3 (ws (dX o3)).length d3,.int .i64 (dE o3)] 27):=⟨_,rfl⟩;obtain ⟨bel,QR,AN,AD,A3⟩:=S5.out;have hbA:Below u5.heap.size u5 A6:=by rw [hU6];exact below_alloc _ _
 have hbB:=bel.trans (hbA.mono bel.size);have T6:=ai hbB (ai (QR.below hbA) (ai (AN.below hbA) (ai (AD.below hbA) (ai (A3.below hbA) (show Dk A6 u5.heap.size (dN o3) (.slice q3 (ws (dX o3)).length d3) (dE o3) by rw [hU6];exact Dk.new _ _ _ _)))))
 have S6:=sd T6;clear bel QR AN AD A3;clear hbA hbB T6 S5;obtain ⟨x0,x1,x2,x3,x4,x5⟩:=S6.out.2.1.facts
 go_upto_region 4 with fail
 rw [←hU6];clear hU6;obtain ⟨A7,hU7⟩:∃ U,U=A6.alloc (.cells #[.int .u32 1] 23):=⟨_,rfl⟩;obtain ⟨bel,QR,AN,AD,A3,D3⟩:=S6.out;have hbA:Below A6.heap.size A6 A7:=by rw [hU7];exact below_alloc _ _
 have hbB:=bel.trans (hbA.mono bel.size);have T7:=ai hbB (ai (QR.below hbA) (ai (AN.below hbA) (ai (AD.below hbA) (ai (A3.below hbA) (ai (D3.below hbA) (show Al A7 (.slice (some ⟨A6.heap.size,0,none⟩) 1 1) 1 by rw [hU7];exact lit_al _))))))
 have S7:=sd T7;clear bel QR AN AD A3 D3;clear hbA hbB T7 S6;obtain ⟨bel,QR,AN,AD,A3,D3,AL⟩:=S7.out;have HC:=hid (rmulW AN AL BD.out.1 BL.out.1 o4 (by exact EQ.out.2.1))
 clear bel QR AN AD A3 D3 AL
 go_wp2_with fail
 rw [←hU7];clear hU7;clear x0 x1 x2 x3 x4 x5;refine HC.out.mono ?_;rintro r u8 ⟨⟨p,rfl,hN⟩,hb⟩;obtain ⟨q4,d4,rfl,-⟩:=hN.shape;clear HC;obtain ⟨bel,QR,AN,AD,A3,D3,AL⟩:=S7.out;have hbn:=bel.trans (hb.mono bel.size);have S8:=sd (ai hbn (ai (QR.below hb) (ai (AN.below hb) (ai (AD.below hb) (ai (A3.below hb) (ai (D3.below hb) (hN.al FF.out.2.2.2.1)))))));clear bel QR AN AD A3 D3 AL;clear hb hbn S7;clear hN
 have hST:Aside (u5.heap.size<u8.heap.size):=by
  obtain ⟨bel,QR,AN,AD,A3,D3,A4⟩:=S8.out;exact sd D3.lt
 obtain ⟨A9,hU9⟩:∃ U,U=u8.alloc (.cells #[.bool (dN o4),.slice q4 (ws (dX o4)).length d4,.int .i64 (dE o4)] 27):=⟨_,rfl⟩;obtain ⟨bel,QR,AN,AD,A3,D3,A4⟩:=S8.out;have hbA:Below u8.heap.size u8 A9:=by rw [hU9];exact below_alloc _ _
 have hbB:=bel.trans (hbA.mono bel.size);have T9:=ai hbB (ai (QR.below hbA) (ai (AN.below hbA) (ai (AD.below hbA) (ai (A3.below hbA) (ai (D3.below hbA) (ai (A4.below hbA) (show Dk A9 u8.heap.size (dN o4) (.slice q4 (ws (dX o4)).length d4) (dE o4) by rw [hU9];exact Dk.new _ _ _ _)))))))
 have S9:=sd T9;clear bel QR AN AD A3 D3 A4;clear hbA hbB T9 S8;obtain ⟨x0,x1,x2,x3,x4,x5⟩:=S9.out.2.2.2.2.2.1.facts;obtain ⟨y0,y1,y2,y3,y4,y5⟩:=S9.out.2.1.facts;obtain ⟨bel,QR,AN,AD,A3,D3,A4,D4⟩:=S9.out;have HC:=hid (rmulW A3 AD FF.out.2.2.1.rng BD.out.2 o7 (by rw [FF.out.2.2.1.re];exact EQ.out.2.2.1))
 clear bel QR AN AD A3 D3 A4 D4
 go_upto_region 8 with fail
 rw [←hU9];clear hU9
 go_wp2_with fail
 clear x0 x1 x2 x3 x4 x5 y0 y1 y2 y3 y4 y5;refine HC.out.mono ?_;rintro r u10 ⟨⟨p,rfl,hN⟩,hb⟩;obtain ⟨q7,d7,rfl,-⟩:=hN.shape;clear HC;obtain ⟨bel,QR,AN,AD,A3,D3,A4,D4⟩:=S9.out;have hbn:=bel.trans (hb.mono bel.size);have S10:=sd (ai hbn (ai (QR.below hb) (ai (AN.below hb) (ai (AD.below hb) (ai (A3.below hb) (ai (D3.below hb) (ai (A4.below hb) (ai (D4.below hb) (hN.al FF.out.2.2.2.2)))))))));clear bel QR AN AD A3 D3 A4 D4;clear hb hbn S9;clear hN;obtain ⟨A11,hU11⟩:∃ U,U=u10.alloc (.cells #[.bool (dN o7),.slice q7 (ws (dX o7)).length d7,.int .i64 (dE o7)] 27):=⟨_,rfl⟩;obtain ⟨bel,QR,AN,AD,A3,D3,A4,D4,A7⟩:=S10.out;have hbA:Below u10.heap.size u10 A11:=by rw [hU11];exact below_alloc _ _
 have hbB:=bel.trans (hbA.mono bel.size);have T11:=ai hbB (ai (QR.below hbA) (ai (AN.below hbA) (ai (AD.below hbA) (ai (A3.below hbA) (ai (D3.below hbA) (ai (A4.below hbA) (ai (D4.below hbA) (ai (A7.below hbA) (show Dk A11 u10.heap.size (dN o7) (.slice q7 (ws (dX o7)).length d7) (dE o7) by rw [hU11];exact Dk.new _ _ _ _)))))))))
 have S11:=sd T11;clear bel QR AN AD A3 D3 A4 D4 A7;clear hbA hbB T11 S10;obtain ⟨x0,x1,x2,x3,x4,x5⟩:=S11.out.2.2.2.2.2.2.2.2.2.facts;obtain ⟨y0,y1,y2,y3,y4,y5⟩:=S11.out.2.2.2.2.2.2.2.1.facts;obtain ⟨bel,QR,AN,AD,A3,D3,A4,D4,A7,D7⟩:=S11.out;have HC:=hid (rcmpW A7 A4 FF.out.2.2.2.2.rng FF.out.2.2.2.1.rng c EQ.out.2.2.2);clear bel QR AN AD A3 D3 A4 D4 A7 D7
 go_upto_region 9 with fail
 rw [←hU11];clear hU11
 go_wp2_with fail
 clear x0 x1 x2 x3 x4 x5 y0 y1 y2 y3 y4 y5;refine HC.out.mono ?_;rintro r u12 ⟨rfl,hb⟩;clear HC;obtain ⟨bel,QR,AN,AD,A3,D3,A4,D4,A7,D7⟩:=S11.out;have hbn:=bel.trans (hb.mono bel.size);have S12:=sd (ai hbn (ai (QR.below hb) (ai (AN.below hb) (ai (AD.below hb) (ai (A3.below hb) (ai (D3.below hb) (ai (A4.below hb) (ai (D4.below hb) (ai (A7.below hb) (D7.below hb))))))))));clear bel QR AN AD A3 D3 A4 D4 A7 D7;clear hb hbn S11;have S99:=sd S12.out.1;clear S12 FF EQ BD BL;go_wp2;go_ret;exact ⟨rfl,S99.out⟩
theorem middle_s {w:World}{n m:Bool}{a b:Option Addr}{la ca lb cb X Y:Nat}{e f:Int}(x y:Nat) (o1 o2 o3 o4 o5 o6 o7:Option (Bool×Nat×Int)) (c:Int)
 (hN:Al w (.slice a la ca) X) (hD:Al w (.slice b lb cb) Y) (be:-9223372036854775808≤e∧e≤9223372036854775807) (bf:-9223372036854775808≤f∧f≤9223372036854775807)
 (HO1:Hid (∀ u:World,Calls Tryz.prog 73 #[.float .f64 x] u fun r w'=>(∃ p k,r=.returned (.tuple #[.agg #[.bool (dN o1),p,.int .i64 (dE o1)],.int .i64 k])∧Nt u.heap.size w' p (dX o1))∧Below u.heap.size u w'))
 (HO2:Hid (∀ u:World,Calls Tryz.prog 73 #[.float .f64 y] u fun r w'=>(∃ p k,r=.returned (.tuple #[.agg #[.bool (dN o2),p,.int .i64 (dE o2)],.int .i64 k])∧Nt u.heap.size w' p (dX o2))∧Below u.heap.size u w'))
 (FF:Aside (Fm o1∧Fm o2∧Fm o3∧Fm o4∧Fm o5∧Fm o6∧Fm o7))
 (EQ:Aside (addD o1 o2=o3∧mulD (mkS n X e) (mkS false 1 1)=o4∧mulD o3 o3=o5∧mulD (mkS n X e) (mkS false 1 2)=o6∧mulD o5 (mkS m Y f)=o7∧cmpV (dN o7) (dX o7) (dE o7) (dN o6) (dX o6) (dE o6)=c)) :
 Calls Tryz.prog 104 #[.float .f64 x,.float .f64 y,.agg #[.bool n,.slice a la ca,.int .i64 e,.bool m,.slice b lb cb,.int .i64 f],.bool true] w fun r w'=>r=.returned (.int .i64 c)∧Below w.heap.size w w':=by
 obtain ⟨W1,hW1⟩:∃ W,W=w.alloc (.cells #[.bool n,.slice a la ca,.int .i64 e,.bool m,.slice b lb cb,.int .i64 f] 30):=⟨_,rfl⟩;have hB:Below w.heap.size w W1:=by rw [hW1];exact below_alloc _ _
 have QR0:Rq W1 w.heap.size n (.slice a la ca) e m (.slice b lb cb) f:=by rw [hW1];exact Rq.new _ _ _ _ _ _ _
 have BD:=sd (ai be bf);have b1:-9223372036854775808≤(1:Int)∧(1:Int)≤9223372036854775807:=by decide
 have b2:-9223372036854775808≤(2:Int)∧(2:Int)≤9223372036854775807:=by decide
 have BL:=sd (ai b1 b2);clear be bf b1 b2;have hbel:=hB;have S0:=(sd (ai hbel (ai QR0 (ai (hN.below hB) (hD.below hB)))));clear hbel;clear hB QR0 hN hD;go_enter Tryz.func104,Tryz.ntmps104;obtain ⟨bel,QR,AN,AD⟩:=S0.out;have HC:=hid (HO1.out W1);clear bel QR AN AD
 go_upto_region 1 with fail
 rw [←hW1];clear hW1
 go_wp2_with fail
 refine HC.out.mono ?_;rintro r u1 ⟨⟨p,k1,rfl,hN⟩,hb⟩;obtain ⟨q1,d1,rfl,-⟩:=hN.shape;clear HC;obtain ⟨bel,QR,AN,AD⟩:=S0.out;have hbn:=bel.trans (hb.mono bel.size);have S1:=sd (ai hbn (ai (QR.below hb) (ai (AN.below hb) (ai (AD.below hb) (hN.al FF.out.1)))));clear bel QR AN AD;clear hb hbn S0;clear hN HO1;obtain ⟨A2,hU2⟩:∃ U,U=u1.alloc (.cells #[.bool (dN o1),.slice q1 (ws (dX o1)).length d1,.int .i64 (dE o1)] 27):=⟨_,rfl⟩;obtain ⟨bel,QR,AN,AD,A1⟩:=S1.out;have hbA:Below u1.heap.size u1 A2:=by rw [hU2];exact below_alloc _ _
 have hbB:=bel.trans (hbA.mono bel.size);have T2:=ai hbB (ai (QR.below hbA) (ai (AN.below hbA) (ai (AD.below hbA) (ai (A1.below hbA) (show Dk A2 u1.heap.size (dN o1) (.slice q1 (ws (dX o1)).length d1) (dE o1) by rw [hU2];exact Dk.new _ _ _ _)))))
 have S2:=sd T2;clear bel QR AN AD A1;clear hbA hbB T2 S1;obtain ⟨bel,QR,AN,AD,A1,D1⟩:=S2.out;have HC:=hid (HO2.out A2);clear bel QR AN AD A1 D1
 go_upto_region 2 with fail
 rw [←hU2];clear hU2
 go_wp2_with fail
 refine HC.out.mono ?_;rintro r u3 ⟨⟨p,k2,rfl,hN⟩,hb⟩;obtain ⟨q2,d2,rfl,-⟩:=hN.shape;clear HC;obtain ⟨bel,QR,AN,AD,A1,D1⟩:=S2.out;have hbn:=bel.trans (hb.mono bel.size);have S3:=sd (ai hbn (ai (QR.below hb) (ai (AN.below hb) (ai (AD.below hb) (ai (A1.below hb) (ai (D1.below hb) (hN.al FF.out.2.1)))))));clear bel QR AN AD A1 D1;clear hb hbn S2;clear hN HO2;obtain ⟨A4,hU4⟩:∃ U,U=u3.alloc (.cells #[.bool (dN o2),.slice q2 (ws (dX o2)).length d2,.int .i64 (dE o2)] 27):=⟨_,rfl⟩;obtain ⟨bel,QR,AN,AD,A1,D1,A2⟩:=S3.out;have hbA:Below u3.heap.size u3 A4:=by rw [hU4];exact below_alloc _ _
 have hbB:=bel.trans (hbA.mono bel.size);have T4:=ai hbB (ai (QR.below hbA) (ai (AN.below hbA) (ai (AD.below hbA) (ai (A1.below hbA) (ai (D1.below hbA) (ai (A2.below hbA) (show Dk A4 u3.heap.size (dN o2) (.slice q2 (ws (dX o2)).length d2) (dE o2) by rw [hU4];exact Dk.new _ _ _ _)))))))
 have S4:=sd T4;clear bel QR AN AD A1 D1 A2;clear hbA hbB T4 S3;obtain ⟨x0,x1,x2,x3,x4,x5⟩:=S4.out.2.2.2.2.2.1.facts;obtain ⟨y0,y1,y2,y3,y4,y5⟩:=S4.out.2.2.2.2.2.2.2.facts;obtain ⟨bel,QR,AN,AD,A1,D1,A2,D2⟩:=S4.out;have HC:=hid (raddW A1 A2 FF.out.1.rng FF.out.2.1.rng o3 (by rw [FF.out.1.re,FF.out.2.1.re];exact EQ.out.1))
 clear bel QR AN AD A1 D1 A2 D2
 go_upto_region 3 with fail
 rw [←hU4];clear hU4
 go_wp2_with fail
 clear x0 x1 x2 x3 x4 x5 y0 y1 y2 y3 y4 y5;refine HC.out.mono ?_;rintro r u5 ⟨⟨p,rfl,hN⟩,hb⟩;obtain ⟨q3,d3,rfl,-⟩:=hN.shape;clear HC;obtain ⟨bel,QR,AN,AD,A1,D1,A2,D2⟩:=S4.out;have hbn:=bel.trans (hb.mono bel.size);have S5:=sd (ai hbn (ai (QR.below hb) (ai (AN.below hb) (ai (AD.below hb) (hN.al FF.out.2.2.1)))));clear bel QR AN AD A1 D1 A2 D2;clear hb hbn S4;clear hN
 have H0S:Aside (w.heap.size<u5.heap.size):=by
  obtain ⟨bel,QR,AN,AD,A3⟩:=S5.out;exact sd QR.lt
 obtain ⟨A6,hU6⟩:∃ U,U=u5.alloc (.cells #[.bool (dN o3),.slice q3 (ws (dX o3)).length d3,.int .i64 (dE o3)] 27):=⟨_,rfl⟩;obtain ⟨bel,QR,AN,AD,A3⟩:=S5.out;have hbA:Below u5.heap.size u5 A6:=by rw [hU6];exact below_alloc _ _
 have hbB:=bel.trans (hbA.mono bel.size);have T6:=ai hbB (ai (QR.below hbA) (ai (AN.below hbA) (ai (AD.below hbA) (ai (A3.below hbA) (show Dk A6 u5.heap.size (dN o3) (.slice q3 (ws (dX o3)).length d3) (dE o3) by rw [hU6];exact Dk.new _ _ _ _)))))
 have S6:=sd T6;clear bel QR AN AD A3;clear hbA hbB T6 S5;obtain ⟨x0,x1,x2,x3,x4,x5⟩:=S6.out.2.1.facts
 go_upto_region 4 with fail
 rw [←hU6];clear hU6;obtain ⟨A7,hU7⟩:∃ U,U=A6.alloc (.cells #[.int .u32 1] 23):=⟨_,rfl⟩;obtain ⟨bel,QR,AN,AD,A3,D3⟩:=S6.out;have hbA:Below A6.heap.size A6 A7:=by rw [hU7];exact below_alloc _ _
 have hbB:=bel.trans (hbA.mono bel.size);have T7:=ai hbB (ai (QR.below hbA) (ai (AN.below hbA) (ai (AD.below hbA) (ai (A3.below hbA) (ai (D3.below hbA) (show Al A7 (.slice (some ⟨A6.heap.size,0,none⟩) 1 1) 1 by rw [hU7];exact lit_al _))))))
 have S7:=sd T7;clear bel QR AN AD A3 D3;clear hbA hbB T7 S6;obtain ⟨bel,QR,AN,AD,A3,D3,AL⟩:=S7.out;have HC:=hid (rmulW AN AL BD.out.1 BL.out.1 o4 (by exact EQ.out.2.1))
 clear bel QR AN AD A3 D3 AL
 go_wp2_with fail
 rw [←hU7];clear hU7;clear x0 x1 x2 x3 x4 x5;refine HC.out.mono ?_;rintro r u8 ⟨⟨p,rfl,hN⟩,hb⟩;obtain ⟨q4,d4,rfl,-⟩:=hN.shape;clear HC;obtain ⟨bel,QR,AN,AD,A3,D3,AL⟩:=S7.out;have hbn:=bel.trans (hb.mono bel.size);have S8:=sd (ai hbn (ai (QR.below hb) (ai (AN.below hb) (ai (AD.below hb) (ai (A3.below hb) (ai (D3.below hb) (hN.al FF.out.2.2.2.1)))))));clear bel QR AN AD A3 D3 AL;clear hb hbn S7;clear hN
 have hST:Aside (u5.heap.size<u8.heap.size):=by
  obtain ⟨bel,QR,AN,AD,A3,D3,A4⟩:=S8.out;exact sd D3.lt
 obtain ⟨A9,hU9⟩:∃ U,U=u8.alloc (.cells #[.bool (dN o4),.slice q4 (ws (dX o4)).length d4,.int .i64 (dE o4)] 27):=⟨_,rfl⟩;obtain ⟨bel,QR,AN,AD,A3,D3,A4⟩:=S8.out;have hbA:Below u8.heap.size u8 A9:=by rw [hU9];exact below_alloc _ _
 have hbB:=bel.trans (hbA.mono bel.size);have T9:=ai hbB (ai (QR.below hbA) (ai (AN.below hbA) (ai (AD.below hbA) (ai (A3.below hbA) (ai (D3.below hbA) (ai (A4.below hbA) (show Dk A9 u8.heap.size (dN o4) (.slice q4 (ws (dX o4)).length d4) (dE o4) by rw [hU9];exact Dk.new _ _ _ _)))))))
 have S9:=sd T9;clear bel QR AN AD A3 D3 A4;clear hbA hbB T9 S8;have hSQ:Aside (w.heap.size<u5.heap.size):=H0S;obtain ⟨x0,x1,x2,x3,x4,x5⟩:=S9.out.2.2.2.2.2.1.facts;obtain ⟨bel,QR,AN,AD,A3,D3,A4,D4⟩:=S9.out;have HC:=hid (rmulW A3 A3 FF.out.2.2.1.rng FF.out.2.2.1.rng o5 (by rw [FF.out.2.2.1.re];exact EQ.out.2.2.1))
 clear bel QR AN AD A3 D3 A4 D4
 go_upto_region 6 with fail
 rw [←hU9];clear hU9
 go_wp2_with fail
 clear x0 x1 x2 x3 x4 x5;refine HC.out.mono ?_;rintro r u10 ⟨⟨p,rfl,hN⟩,hb⟩;obtain ⟨q5,d5,rfl,-⟩:=hN.shape;clear HC;obtain ⟨bel,QR,AN,AD,A3,D3,A4,D4⟩:=S9.out;have hbn:=bel.trans (hb.mono bel.size);have S10:=sd (ai hbn (ai (QR.below hb) (ai (AN.below hb) (ai (AD.below hb) (ai (D3.below hb) (ai (D4.below hb) (hN.al FF.out.2.2.2.2.1)))))));clear bel QR AN AD A3 D3 A4 D4;clear hb hbn S9;clear hN;obtain ⟨A11,hU11⟩:∃ U,U=st3 u10 u5.heap.size (.bool (dN o5)) (.slice q5 (ws (dX o5)).length d5) (.int .i64 (dE o5)):=⟨_,rfl⟩;obtain ⟨bel,QR,AN,AD,D3,D4,A5⟩:=S10.out;have hbB:Below w.heap.size w A11:=by rw [hU11];exact below_st3 bel bel.size (by have:=hSQ.out;have:=hST.out;omega) _ _ _
 obtain ⟨z0,z1,z2,z3,z4,z5⟩:=D3.facts;have S11:=sd (ai hbB (ai ((show Rq A11 w.heap.size n (.slice a la ca) e m (.slice b lb cb) f by rw [hU11];exact QR.but (set3_but _ _ _ _ _) (by have:=hSQ.out;have:=hST.out;omega))) (ai ((show Al A11 (.slice a la ca) X by rw [hU11];exact AN.off D3 _ _ _)) (ai ((show Al A11 (.slice b lb cb) Y by rw [hU11];exact AD.off D3 _ _ _)) (ai ((show Dk A11 u5.heap.size (dN o5) (.slice q5 (ws (dX o5)).length d5) (dE o5) by rw [hU11];exact D3.set _ _ _)) (ai ((show Dk A11 u8.heap.size (dN o4) (.slice q4 (ws (dX o4)).length d4) (dE o4) by rw [hU11];exact D4.other _ (by have:=hST.out;omega) _ _ _)) (show Al A11 (.slice q5 (ws (dX o5)).length d5) (dX o5) by rw [hU11];exact A5.off D3 _ _ _)))))))
 clear bel QR AN AD D3 D4 A5;clear hbB S10;unfold st3 at hU11
 go_upto_region 7 with fail
 rw [←hU11];clear hU11 z0 z1 z2 z3 z4 z5;obtain ⟨x0,x1,x2,x3,x4,x5⟩:=S11.out.2.1.facts;obtain ⟨A12,hU12⟩:∃ U,U=A11.alloc (.cells #[.int .u32 1] 23):=⟨_,rfl⟩;obtain ⟨bel,QR,AN,AD,D3,D4,A5⟩:=S11.out;have hbA:Below A11.heap.size A11 A12:=by rw [hU12];exact below_alloc _ _
 have hbB:=bel.trans (hbA.mono bel.size);have T12:=ai hbB (ai (QR.below hbA) (ai (AN.below hbA) (ai (AD.below hbA) (ai (D3.below hbA) (ai (D4.below hbA) (ai (A5.below hbA) (show Al A12 (.slice (some ⟨A11.heap.size,0,none⟩) 1 1) 1 by rw [hU12];exact lit_al _)))))))
 have S12:=sd T12;clear bel QR AN AD D3 D4 A5;clear hbA hbB T12 S11;obtain ⟨bel,QR,AN,AD,D3,D4,A5,AL⟩:=S12.out;have HC:=hid (rmulW AN AL BD.out.1 BL.out.2 o6 (by exact EQ.out.2.2.2.1))
 clear bel QR AN AD D3 D4 A5 AL
 go_wp2_with fail
 rw [←hU12];clear hU12;clear x0 x1 x2 x3 x4 x5;refine HC.out.mono ?_;rintro r u13 ⟨⟨p,rfl,hN⟩,hb⟩;obtain ⟨q6,d6,rfl,-⟩:=hN.shape;clear HC;obtain ⟨bel,QR,AN,AD,D3,D4,A5,AL⟩:=S12.out;have hbn:=bel.trans (hb.mono bel.size);have S13:=sd (ai hbn (ai (QR.below hb) (ai (AN.below hb) (ai (AD.below hb) (ai (D3.below hb) (ai (D4.below hb) (ai (A5.below hb) (hN.al FF.out.2.2.2.2.2.1))))))));clear bel QR AN AD D3 D4 A5 AL;clear hb hbn S12;clear hN;obtain ⟨A14,hU14⟩:∃ U,U=st3 u13 u8.heap.size (.bool (dN o6)) (.slice q6 (ws (dX o6)).length d6) (.int .i64 (dE o6)):=⟨_,rfl⟩;obtain ⟨bel,QR,AN,AD,D3,D4,A5,A6⟩:=S13.out;have hbB:Below w.heap.size w A14:=by rw [hU14];exact below_st3 bel bel.size (by have:=hSQ.out;have:=hST.out;omega) _ _ _
 obtain ⟨z0,z1,z2,z3,z4,z5⟩:=D4.facts;have S14:=sd (ai hbB (ai ((show Rq A14 w.heap.size n (.slice a la ca) e m (.slice b lb cb) f by rw [hU14];exact QR.but (set3_but _ _ _ _ _) (by have:=hSQ.out;have:=hST.out;omega))) (ai ((show Al A14 (.slice a la ca) X by rw [hU14];exact AN.off D4 _ _ _)) (ai ((show Al A14 (.slice b lb cb) Y by rw [hU14];exact AD.off D4 _ _ _)) (ai ((show Dk A14 u5.heap.size (dN o5) (.slice q5 (ws (dX o5)).length d5) (dE o5) by rw [hU14];exact D3.other _ (by have:=hST.out;omega) _ _ _)) (ai ((show Dk A14 u8.heap.size (dN o6) (.slice q6 (ws (dX o6)).length d6) (dE o6) by rw [hU14];exact D4.set _ _ _)) (ai ((show Al A14 (.slice q5 (ws (dX o5)).length d5) (dX o5) by rw [hU14];exact A5.off D4 _ _ _)) (show Al A14 (.slice q6 (ws (dX o6)).length d6) (dX o6) by rw [hU14];exact A6.off D4 _ _ _))))))))
 clear bel QR AN AD D3 D4 A5 A6;clear hbB S13;unfold st3 at hU14
 go_upto_region 8 with fail
 rw [←hU14];clear hU14 z0 z1 z2 z3 z4 z5;obtain ⟨x0,x1,x2,x3,x4,x5⟩:=S14.out.2.2.2.2.1.facts;obtain ⟨y0,y1,y2,y3,y4,y5⟩:=S14.out.2.1.facts;obtain ⟨bel,QR,AN,AD,D3,D4,A5,A6⟩:=S14.out;have HC:=hid (rmulW A5 AD FF.out.2.2.2.2.1.rng BD.out.2 o7 (by rw [FF.out.2.2.2.2.1.re];exact EQ.out.2.2.2.2.1))
 clear bel QR AN AD D3 D4 A5 A6
 go_wp2_with fail
 clear x0 x1 x2 x3 x4 x5 y0 y1 y2 y3 y4 y5;refine HC.out.mono ?_;rintro r u15 ⟨⟨p,rfl,hN⟩,hb⟩;obtain ⟨q7,d7,rfl,-⟩:=hN.shape;clear HC;obtain ⟨bel,QR,AN,AD,D3,D4,A5,A6⟩:=S14.out;have hbn:=bel.trans (hb.mono bel.size);have S15:=sd (ai hbn (ai (QR.below hb) (ai (AN.below hb) (ai (AD.below hb) (ai (D3.below hb) (ai (D4.below hb) (ai (A5.below hb) (ai (A6.below hb) (hN.al FF.out.2.2.2.2.2.2)))))))));clear bel QR AN AD D3 D4 A5 A6;clear hb hbn S14;clear hN;obtain ⟨A16,hU16⟩:∃ U,U=u15.alloc (.cells #[.bool (dN o7),.slice q7 (ws (dX o7)).length d7,.int .i64 (dE o7)] 27):=⟨_,rfl⟩;obtain ⟨bel,QR,AN,AD,D3,D4,A5,A6,A7⟩:=S15.out;have hbA:Below u15.heap.size u15 A16:=by rw [hU16];exact below_alloc _ _
 have hbB:=bel.trans (hbA.mono bel.size);have T16:=ai hbB (ai (QR.below hbA) (ai (AN.below hbA) (ai (AD.below hbA) (ai (D3.below hbA) (ai (D4.below hbA) (ai (A5.below hbA) (ai (A6.below hbA) (ai (A7.below hbA) (show Dk A16 u15.heap.size (dN o7) (.slice q7 (ws (dX o7)).length d7) (dE o7) by rw [hU16];exact Dk.new _ _ _ _)))))))))
 have S16:=sd T16;clear bel QR AN AD D3 D4 A5 A6 A7;clear hbA hbB T16 S15;obtain ⟨x0,x1,x2,x3,x4,x5⟩:=S16.out.2.2.2.2.2.2.2.2.2.facts;obtain ⟨y0,y1,y2,y3,y4,y5⟩:=S16.out.2.2.2.2.2.1.facts;obtain ⟨bel,QR,AN,AD,D3,D4,A5,A6,A7,D7⟩:=S16.out;have HC:=hid (rcmpW A7 A6 FF.out.2.2.2.2.2.2.rng FF.out.2.2.2.2.2.1.rng c EQ.out.2.2.2.2.2);clear bel QR AN AD D3 D4 A5 A6 A7 D7
 go_upto_region 9 with fail
 rw [←hU16];clear hU16
 go_wp2_with fail
 clear x0 x1 x2 x3 x4 x5 y0 y1 y2 y3 y4 y5;refine HC.out.mono ?_;rintro r u17 ⟨rfl,hb⟩;clear HC;obtain ⟨bel,QR,AN,AD,D3,D4,A5,A6,A7,D7⟩:=S16.out;have hbn:=bel.trans (hb.mono bel.size);have S17:=sd (ai hbn (ai (QR.below hb) (ai (AN.below hb) (ai (AD.below hb) (ai (D3.below hb) (ai (D4.below hb) (ai (A5.below hb) (ai (A6.below hb) (ai (A7.below hb) (D7.below hb))))))))));clear bel QR AN AD D3 D4 A5 A6 A7 D7;clear hb hbn S16;have S99:=sd S17.out.1;clear S17 FF EQ BD BL;go_wp2;go_ret;exact ⟨rfl,S99.out⟩
end
section
open Go.RowKit
theorem size_and (s:Bool) (K:Nat) (hK:K<9223372036854775808):bits .and .u64 ((wd64 s K:Nat):Int) 9223372036854775807=(K:Int):=by
 have hl:wd64 s K<18446744073709551616:=by unfold wd64;cases s <;> simp <;> omega
 have h:=bits_mask .u64 64 (by decide) B.wraps_u64 63 (by decide) ((wd64 s K:Nat):Int) (by omega) (by omega)
 rw [show ((2:Int)^63-1)=9223372036854775807 from rfl] at h
 rw [h];unfold wd64;cases s <;> simp <;> omega
section
attribute [local go_sem] B.f64bits B.f64frombits
theorem nearest_big {w:World}{n m:Bool}{a b:Option Addr}{la ca lb cb:Nat}{e f:Int}(x:Nat) (k:Int) (sq:Bool) (hk:bits .and .u64 (x:Int) 9223372036854775807=k) (hb:decide (9214364837600034816≤k)=true) :
 Calls Tryz.prog 72 #[.float .f64 x,.agg #[.bool n,.slice a la ca,.int .i64 e,.bool m,.slice b lb cb,.int .i64 f],.bool sq] w fun r w'=>r=.returned (.bool true)∧Below w.heap.size w w':=by
 obtain ⟨W1,hW1⟩:∃ W,W=w.alloc (.cells #[.bool n,.slice a la ca,.int .i64 e,.bool m,.slice b lb cb,.int .i64 f] 30):=⟨_,rfl⟩;have hB:Below w.heap.size w W1:=by rw [hW1];exact below_alloc _ _
 have QR0:Rq W1 w.heap.size n (.slice a la ca) e m (.slice b lb cb) f:=by rw [hW1];exact Rq.new _ _ _ _ _ _ _
 have hbel:=hB;have S0:=(sd (ai hbel QR0));clear hbel;clear hB QR0;go_enter Tryz.func72,Tryz.ntmps72;have S9:=sd S0.out.1;clear S0
 go_upto_region 3 with fail
 rw [←hW1];clear hW1;go_wp2;go_ret;exact ⟨rfl,S9.out⟩
theorem nearest_zero {w:World}{n m:Bool}{a b:Option Addr}{la ca lb cb:Nat}{e f:Int}(x:Nat) (c:Int) (sq:Bool) (hk:bits .and .u64 (x:Int) 9223372036854775807=0) (ans:Bool) (hc:decide (0≤c)=ans) (HM:Hid (∀ u:World,Below w.heap.size w u→Calls Tryz.prog 104 #[.float .f64 0,.float .f64 1,.agg #[.bool false,.slice a la ca,.int .i64 e,.bool m,.slice b lb cb,.int .i64 f],.bool sq] u fun r w'=>r=.returned (.int .i64 c)∧Below u.heap.size u w')) :
 Calls Tryz.prog 72 #[.float .f64 x,.agg #[.bool n,.slice a la ca,.int .i64 e,.bool m,.slice b lb cb,.int .i64 f],.bool sq] w fun r w'=>r=.returned (.bool ans)∧Below w.heap.size w w':=by
 obtain ⟨W1,hW1⟩:∃ W,W=w.alloc (.cells #[.bool n,.slice a la ca,.int .i64 e,.bool m,.slice b lb cb,.int .i64 f] 30):=⟨_,rfl⟩;have hB:Below w.heap.size w W1:=by rw [hW1];exact below_alloc _ _
 have QR0:Rq W1 w.heap.size n (.slice a la ca) e m (.slice b lb cb) f:=by rw [hW1];exact Rq.new _ _ _ _ _ _ _
 have hbel:=hB;have S0:=(sd (ai hbel QR0));clear hbel;clear hB QR0;go_enter Tryz.func72,Tryz.ntmps72;obtain ⟨x0,x1,x2,x3,x4,x5⟩:=S0.out.2.facts;obtain ⟨bel,QR⟩:=S0.out;have HC:=hid (HM.out W1 bel);clear bel QR
 go_upto_region 3 with fail
 rw [←hW1];clear hW1
 go_wp2_with fail
 clear x0 x1 x2 x3 x4 x5;refine HC.out.mono ?_;rintro r u1 ⟨rfl,hb⟩;clear HC;obtain ⟨bel,QR⟩:=S0.out;have hbn:=bel.trans (hb.mono bel.size);have S1:=sd (ai hbn (QR.below hb));clear bel QR;clear hb hbn S0;have S9:=sd S1.out.1;clear S1 HM;go_wp2;go_ret;exact ⟨rfl,S9.out⟩
theorem nearest_pos {w:World}{n m:Bool}{a b:Option Addr}{la ca lb cb:Nat}{e f:Int}(x xo xi:Nat) (k c1 c2 d1 d2:Int) (sq ev:Bool) (hn:n=false) (hk:bits .and .u64 (x:Int) 9223372036854775807=k) (hb:decide (9214364837600034816≤k)=false) (hz:(k==0)=false)
 (hxo:IntKind.u64.wrap ((x:Int)+1)=(xo:Int)) (hxi:IntKind.u64.wrap ((x:Int)-1)=(xi:Int)) (hev:((x:Int)%2==0)=ev) (hd1:IntKind.i64.wrap (-c1)=d1) (hd2:IntKind.i64.wrap (-c2)=d2)
 (HA:Hid ((0<c1∨c1=0∧ev=true)∧(c2<0∨c2=0∧ev=true))) (H1:Hid (∀ u:World,Below w.heap.size w u→Calls Tryz.prog 104 #[.float .f64 x,.float .f64 xo,.agg #[.bool false,.slice a la ca,.int .i64 e,.bool m,.slice b lb cb,.int .i64 f],.bool sq] u fun r w'=>r=.returned (.int .i64 c1)∧Below u.heap.size u w')) (H2:Hid (∀ u:World,Below w.heap.size w u→Calls Tryz.prog 104 #[.float .f64 x,.float .f64 xi,.agg #[.bool false,.slice a la ca,.int .i64 e,.bool m,.slice b lb cb,.int .i64 f],.bool sq] u fun r w'=>r=.returned (.int .i64 c2)∧Below u.heap.size u w')) :
 Calls Tryz.prog 72 #[.float .f64 x,.agg #[.bool n,.slice a la ca,.int .i64 e,.bool m,.slice b lb cb,.int .i64 f],.bool sq] w fun r w'=>r=.returned (.bool true)∧Below w.heap.size w w':=by
 subst hn;obtain ⟨W1,hW1⟩:∃ W,W=w.alloc (.cells #[.bool false,.slice a la ca,.int .i64 e,.bool m,.slice b lb cb,.int .i64 f] 30):=⟨_,rfl⟩;have hB:Below w.heap.size w W1:=by rw [hW1];exact below_alloc _ _
 have QR0:Rq W1 w.heap.size false (.slice a la ca) e m (.slice b lb cb) f:=by rw [hW1];exact Rq.new _ _ _ _ _ _ _
 have hbel:=hB;have S0:=(sd (ai hbel QR0));clear hbel;clear hB QR0;go_enter Tryz.func72,Tryz.ntmps72;obtain ⟨x0,x1,x2,x3,x4,x5⟩:=S0.out.2.facts;obtain ⟨bel,QR⟩:=S0.out;have HC:=hid (H1.out W1 bel);clear bel QR
 go_upto_region 3 with fail
 rw [←hW1];clear hW1
 go_wp2_with fail
 clear x0 x1 x2 x3 x4 x5;refine HC.out.mono ?_;rintro r u1 ⟨rfl,hb⟩;clear HC;obtain ⟨bel,QR⟩:=S0.out;have hbn:=bel.trans (hb.mono bel.size);have S1:=sd (ai hbn (QR.below hb));clear bel QR;clear hb hbn S0;obtain ⟨x0,x1,x2,x3,x4,x5⟩:=S1.out.2.facts;obtain ⟨bel,QR⟩:=S1.out;have HC:=hid (H2.out u1 bel);clear bel QR
 go_wp2_with fail
 clear x0 x1 x2 x3 x4 x5;refine HC.out.mono ?_;rintro r u2 ⟨rfl,hb⟩;clear HC;obtain ⟨bel,QR⟩:=S1.out;have hbn:=bel.trans (hb.mono bel.size);have S2:=sd (ai hbn (QR.below hb));clear bel QR;clear hb hbn S1;obtain ⟨x0,x1,x2,x3,x4,x5⟩:=S2.out.2.facts;have S9:=sd S2.out.1;clear S2 H1 H2;obtain ⟨h1,h2⟩:=HA.out;clear HA
 rcases h1 with h1|⟨h1,rfl⟩ <;> rcases h2 with h2|⟨h2,h3⟩
 · have g1:decide (0<c1)=true:=by simp [h1]
   have g2:decide (c2<0)=true:=by simp [h2]
   clear h1 h2;go_wp2;go_ret;exact ⟨rfl,S9.out⟩
 · have g1:decide (0<c1)=true:=by simp [h1]
   have g2:decide (c2<0)=false:=by simp [h2]
   have g4:(c2==0)=true:=by simp [h2]
   subst h3;clear h1 h2;go_wp2;go_ret;exact ⟨rfl,S9.out⟩
 · have g1:decide (0<c1)=false:=by simp [h1]
   have g3:(c1==0)=true:=by simp [h1]
   have g2:decide (c2<0)=true:=by simp [h2]
   clear h1 h2;go_wp2;go_ret;exact ⟨rfl,S9.out⟩
 · have g1:decide (0<c1)=false:=by simp [h1]
   have g3:(c1==0)=true:=by simp [h1]
   have g2:decide (c2<0)=false:=by simp [h2]
   have g4:(c2==0)=true:=by simp [h2]
   clear h1 h2;go_wp2;go_ret;exact ⟨rfl,S9.out⟩
theorem nearest_neg {w:World}{n m:Bool}{a b:Option Addr}{la ca lb cb:Nat}{e f:Int}(x xo xi:Nat) (k c1 c2 d1 d2:Int) (sq ev:Bool) (hn:n=true) (hk:bits .and .u64 (x:Int) 9223372036854775807=k) (hb:decide (9214364837600034816≤k)=false) (hz:(k==0)=false)
 (hxo:IntKind.u64.wrap ((x:Int)+1)=(xo:Int)) (hxi:IntKind.u64.wrap ((x:Int)-1)=(xi:Int)) (hev:((x:Int)%2==0)=ev) (hd1:IntKind.i64.wrap (-c1)=d1) (hd2:IntKind.i64.wrap (-c2)=d2)
 (HA:Hid ((0<d1∨d1=0∧ev=true)∧(d2<0∨d2=0∧ev=true))) (H1:Hid (∀ u:World,Below w.heap.size w u→Calls Tryz.prog 104 #[.float .f64 x,.float .f64 xo,.agg #[.bool true,.slice a la ca,.int .i64 e,.bool m,.slice b lb cb,.int .i64 f],.bool sq] u fun r w'=>r=.returned (.int .i64 c1)∧Below u.heap.size u w')) (H2:Hid (∀ u:World,Below w.heap.size w u→Calls Tryz.prog 104 #[.float .f64 x,.float .f64 xi,.agg #[.bool true,.slice a la ca,.int .i64 e,.bool m,.slice b lb cb,.int .i64 f],.bool sq] u fun r w'=>r=.returned (.int .i64 c2)∧Below u.heap.size u w')) :
 Calls Tryz.prog 72 #[.float .f64 x,.agg #[.bool n,.slice a la ca,.int .i64 e,.bool m,.slice b lb cb,.int .i64 f],.bool sq] w fun r w'=>r=.returned (.bool true)∧Below w.heap.size w w':=by
 subst hn;obtain ⟨W1,hW1⟩:∃ W,W=w.alloc (.cells #[.bool true,.slice a la ca,.int .i64 e,.bool m,.slice b lb cb,.int .i64 f] 30):=⟨_,rfl⟩;have hB:Below w.heap.size w W1:=by rw [hW1];exact below_alloc _ _
 have QR0:Rq W1 w.heap.size true (.slice a la ca) e m (.slice b lb cb) f:=by rw [hW1];exact Rq.new _ _ _ _ _ _ _
 have hbel:=hB;have S0:=(sd (ai hbel QR0));clear hbel;clear hB QR0;go_enter Tryz.func72,Tryz.ntmps72;obtain ⟨x0,x1,x2,x3,x4,x5⟩:=S0.out.2.facts;obtain ⟨bel,QR⟩:=S0.out;have HC:=hid (H1.out W1 bel);clear bel QR
 go_upto_region 3 with fail
 rw [←hW1];clear hW1
 go_wp2_with fail
 clear x0 x1 x2 x3 x4 x5;refine HC.out.mono ?_;rintro r u1 ⟨rfl,hb⟩;clear HC;obtain ⟨bel,QR⟩:=S0.out;have hbn:=bel.trans (hb.mono bel.size);have S1:=sd (ai hbn (QR.below hb));clear bel QR;clear hb hbn S0;obtain ⟨x0,x1,x2,x3,x4,x5⟩:=S1.out.2.facts;obtain ⟨bel,QR⟩:=S1.out;have HC:=hid (H2.out u1 bel);clear bel QR
 go_wp2_with fail
 clear x0 x1 x2 x3 x4 x5;refine HC.out.mono ?_;rintro r u2 ⟨rfl,hb⟩;clear HC;obtain ⟨bel,QR⟩:=S1.out;have hbn:=bel.trans (hb.mono bel.size);have S2:=sd (ai hbn (QR.below hb));clear bel QR;clear hb hbn S1;obtain ⟨x0,x1,x2,x3,x4,x5⟩:=S2.out.2.facts;have S9:=sd S2.out.1;clear S2 H1 H2;obtain ⟨h1,h2⟩:=HA.out;clear HA
 rcases h1 with h1|⟨h1,rfl⟩ <;> rcases h2 with h2|⟨h2,h3⟩
 · have g1:decide (0<d1)=true:=by simp [h1]
   have g2:decide (d2<0)=true:=by simp [h2]
   clear h1 h2;go_wp2;go_ret;exact ⟨rfl,S9.out⟩
 · have g1:decide (0<d1)=true:=by simp [h1]
   have g2:decide (d2<0)=false:=by simp [h2]
   have g4:(d2==0)=true:=by simp [h2]
   subst h3;clear h1 h2;go_wp2;go_ret;exact ⟨rfl,S9.out⟩
 · have g1:decide (0<d1)=false:=by simp [h1]
   have g3:(d1==0)=true:=by simp [h1]
   have g2:decide (d2<0)=true:=by simp [h2]
   clear h1 h2;go_wp2;go_ret;exact ⟨rfl,S9.out⟩
 · have g1:decide (0<d1)=false:=by simp [h1]
   have g3:(d1==0)=true:=by simp [h1]
   have g2:decide (d2<0)=false:=by simp [h2]
   have g4:(d2==0)=true:=by simp [h2]
   clear h1 h2;go_wp2;go_ret;exact ⟨rfl,S9.out⟩
end
end
end Go.Proofs.YtdimlelcgapobaaGreatDoor
