import Derived.Test.YtihjfhpoiheomaaGreatDoorW25x
import Derived.Test.YtihjfhpoiheomaaGreatDoorBIeeex
import Derived.ProofKit
import Derived.OpenShut
import Derived.ChangeOld
import Derived.ChangeArms
import Derived.SizedLaws
import Derived.Laws.Cover2
import Derived.OwnWalk
set_option linter.unusedVariables false
set_option linter.unusedSimpArgs false
set_option maxHeartbeats 16000000
set_option maxRecDepth 20000
namespace Go.Proofs.YtihjfhpoiheomaaGreatDoor
namespace J
end J
section
open Go.RowKit
theorem parts_step (P x Y B:Nat) (hY:0<Y):(x+B*P)/Y=(x+B*(P%Y))/Y+B*(P/Y)∧(x+B*P)%Y=(x+B*(P%Y))%Y:=by
 have h:=Nat.div_add_mod P Y
 have e:x+B*P=(x+B*(P%Y))+Y*(B*(P/Y)):=by
  conv=>lhs;rw [←h]
  rw [Nat.mul_add,←Nat.mul_assoc,Nat.mul_comm B Y,Nat.mul_assoc];omega
 rw [e];exact ⟨Nat.add_mul_div_left _ _ hY,Nat.add_mul_mod_self_left _ _ _⟩
theorem parts_digit (P x Y B:Nat) (hY:0<Y) (hx:x<B):x+B*(P%Y)<Y*B:=by
 have h:=Nat.mod_lt P hY;have h1:B*(P%Y+1)≤B*Y:=Nat.mul_le_mul_left _ h;rw [Nat.mul_add] at h1;rw [Nat.mul_comm Y];omega
theorem val_drop_set (M:List Nat) (k d:Nat) (hk:k<M.length):val ((M.set k d).drop k)=d+4294967296*val (M.drop (k+1)):=by
 rw [val_drop_succ _ k (by simpa using hk),getD_set_same _ _ _ hk]
 rw [List.drop_set_of_lt (by omega)]
theorem own_row {w:World}{g:Nat}{x:Nat}(h:Own w g [x]):w.ownsRow g 113 1 (.slice (some ⟨g,0,none⟩) 1 1) 1 ([x].map U) :=
 ⟨by simp,.inr ⟨g,1,_,rfl,Nat.le_refl _,h,Nat.le_refl _,by unfold maxLen;omega,by simp,by simp⟩⟩
theorem lit_own1 (w:World) (x:Nat):Own (w.alloc (.cells #[.int .u32 (x:Int)] 113)) w.heap.size [x]:=by
 unfold Own;rw [heap_alloc_new];rfl
set_option maxRecDepth 100000 in
theorem parts_any {w:World}{a b:Option Addr}{n c m d:Nat}{xs ys:List Nat}(h1:Arg w a n c xs) (h2:Arg w b m d ys) (hn:n≤35184372088000) (hm:m+1≤35184372088000) (hY:0<val ys) :
 Calls Tryz.prog 114 #[.slice a n c,.slice b m d] w fun r w'=>∃ v u,r=.returned (.tuple #[v,u])∧Nt w.heap.size w' v (val xs/val ys)∧Nt w.heap.size w' u (val xs%val ys)∧Below w.heap.size w w':=by
 obtain ⟨W1,hW1⟩:∃ W,W=w.alloc (.cells (madeCells #[.int .u32 0] n) 113):=⟨_,rfl⟩;have hO1:Own W1 w.heap.size (List.replicate n 0):=by rw [hW1];exact Own.made w n
 have hB1:Below w.heap.size w W1:=by rw [hW1];exact (Below.refl _ _).alloc (Nat.le_refl _) _
 have hmk:=make_words (n:Int) n rfl (by omega) w
 rw [←hW1] at hmk;obtain ⟨g,hg⟩:∃ g,g=w.heap.size:=⟨_,rfl⟩;rw [←hg] at hO1 hmk hB1;obtain ⟨Y,hYe⟩:∃ Y,val ys=Y:=⟨_,rfl⟩;have hYp:=val_lt ys h2.wf;rw [←h2.len,hYe] at hYp;rw [hYe] at hY ⊢;have hlen:=h1.len;have HX:=(qsd (ai h1 (ai h2 (ai hYe (ai hYp (ai hB1 (ai hg hlen)))))));have HO:=hid hO1;clear h1 h2 hYe hYp hB1 hO1 hW1 hg hlen;go_enter Tryz.func114,Tryz.ntmps114;go_wp2
 go_loopg [7,8] n (fun k rv iv wr=>∃ (M:List Nat),k≤n∧iv=.int .i64 ((k:Int)-1)∧Hid (Own wr g M) ∧
  Aside (Wf M∧M.length=n∧(∀ j,j<k→M.getD j 0=0)∧val (M.drop k)=val (xs.drop k)/Y∧Below g w wr∧Nt (g+1) wr rv (val (xs.drop k)%Y)))
 case atStart =>
  obtain ⟨h1,h2,hYe,hYp,hB1,hg,hlen⟩:=HX.out;refine ⟨List.replicate n 0,Nat.le_refl _,by first | rfl | go_num,HO,Wf.zeros _,by simp,fun j _=>getD_zeros _ _,?_,hB1,?_⟩
  · rw [List.drop_of_length_le (by simp),List.drop_of_length_le (by omega)];simp [val]
  · rw [List.drop_of_length_le (by omega)]
    simp only [val,Nat.zero_mod];exact Nt.nil _ _
 case round =>
  obtain ⟨M,hk,rfl,HM,HA⟩:=hrel
  by_cases hk0:gk=0
  · subst hk0
    obtain ⟨hMw,hMl,hMz,hMv,hbel,hNr⟩:=HA.out;rw [List.drop_zero,List.drop_zero] at hMv;rw [List.drop_zero] at hNr;have T:=hid (rNorm_any M (some ⟨g,0,none⟩) n n (g+1) wr hMl.symm (Nat.le_refl _) (by omega) hMw (by simpa [hMl,List.take_of_length_le] using Rd.ofOwn HM.out 0 n) (fun e=>by cases e))
    rw [hMv] at T;have S:=(qsd (ai hbel hNr));have hgl:=HM.out.lt;clear hMw hMl hMz hMv hbel hNr
    go_wp2_with fail
    refine T.out.mono ?_;rintro r u1 ⟨v,rfl,hN,hb⟩;have S2:=(qsd (ai hN hb));clear hN hb;go_wp2
    go_ret2
    obtain ⟨hN,hb⟩:=S2.out;obtain ⟨hbel,hNr⟩:=S.out;obtain ⟨h1,h2,hYe,hYp,hB1,hg,hlen⟩:=HX.out;rw [←hg];exact ⟨v,_,rfl,hN.mono (by omega),(hNr.below hb).mono (by omega),hbel.trans (hb.mono (by omega))⟩
  · obtain ⟨k,rfl⟩:∃ k,gk=k+1:=⟨gk-1,by omega⟩
    obtain ⟨h1,h2,hYe,hYp,hB1,hg,hlen⟩:=HX.out;obtain ⟨hMw,hMl,hMz,hMv,hbel,hNr⟩:=HA.out;have hgl:=HM.out.lt;obtain ⟨ba,off,hBa,rfl,hcell⟩:=h1.rd (by intro e;subst e;simp at hlen;omega)
    have hxc:wr.cell? ⟨ba,off+k,none⟩=some (.int .u32 ((xs.getD k 0:Nat):Int)):=(hbel.cell (p:=⟨ba,off+k,none⟩) (by simp;omega)).trans (hcell k (by omega))
    obtain ⟨x,hx⟩:∃ x,xs.getD k 0=x:=⟨_,rfl⟩;have hxl:x<4294967296:=hx ▸ h1.wf.get k;rw [hx] at hxc;obtain ⟨P,hP⟩:∃ P,val (xs.drop (k+1))=P:=⟨_,rfl⟩;have hds:=val_drop_succ xs k (by omega)
    rw [hx,hP] at hds;rw [hP] at hMv hNr;obtain ⟨st1,st2⟩:=parts_step P x Y 4294967296 hY;rw [←hds] at st1 st2;have hdl:=parts_digit P x Y 4294967296 hY hxl;obtain ⟨R,hR⟩:∃ R,P%Y=R:=⟨_,rfl⟩;have hRY:R<Y:=hR ▸ Nat.mod_lt _ hY;rw [hR] at st1 st2 hdl hNr;obtain ⟨Z,hZ⟩:∃ Z,x+4294967296*R=Z:=⟨_,rfl⟩;rw [hZ] at st1 st2 hdl;have hwR:(ws R).length≤m:=(ws_len_le R m).2 (by omega)
    have hZp:Z<pw (m+1):=by rw [pw_succ];rw [Nat.mul_comm Y] at hdl;omega
    have hwZ:(ws Z).length≤m+1:=(ws_len_le Z (m+1)).2 hZp;obtain ⟨ar,cr,rfl,AR⟩:=hNr.arg (by omega)
    have hLO:=lit_own1 wr x;obtain ⟨v',w2,hap,hown,hgrow⟩:=append_words (wr.alloc (.cells #[.int .u32 (x:Int)] 113)) wr.heap.size (.slice (some ⟨wr.heap.size,0,none⟩) 1 1) 1 [x] (ws R) ar (ws R).length cr wr.heap.size 75 (own_row hLO) rfl (AR.rd.below (below_alloc wr _)) AR.nil (by omega) (by simp)
    have hb2:Below wr.heap.size wr w2:=(below_alloc wr _).grown hgrow (by simp) (fun k hk=>by simp [Value.ownBlock] at hk;omega)
    obtain ⟨a2,c2,rfl,hc2,hl2,hnil2,hRd2⟩:=Rw.words hown;have hval:val ([x]++ws R)=Z:=by rw [←hZ];simp [val,val_ws]
    have N1:=hid (rNorm_any ([x]++ws R) a2 (1+(ws R).length) c2 w2.heap.size w2 hl2 hc2 (by omega) (Wf.append (Wf.cons hxl Wf.nil) (wf_ws R)) hRd2 hnil2)
    rw [hval] at N1;have HAP:=hid hap;have hs2:=hb2.size;have S1:=(qsd (ai hMw (ai hMl (ai hMz (ai hMv (ai (hbel.trans (hb2.mono (by omega))) (ai (HM.out.below hb2 hgl) (ai st1 (ai st2 (ai hdl hx))))))))))
    clear h1 h2 hYe hYp hB1 hg hlen hMw hMl hMz hMv hbel hNr hcell hx hP hds st1 st2 hdl hR hRY hZ hZp AR hLO hap hown hgrow hb2 hl2 hnil2 hRd2 hval HM HA
    go_wp2_with (at_builtin;refine wpList_append_run2 rfl (.tmp 27) (.tmp 28) 75 rfl _ _ rfl rfl _ _ HAP.out ?_)
    refine N1.out.mono ?_;rintro r u3 ⟨v3,rfl,hN3,hb3⟩;obtain ⟨a3,c3,rfl,A3⟩:=hN3.arg (by omega)
    obtain ⟨hMw,hMl,hMz,hMv,hbel,hOw,st1,st2,hdl,hx⟩:=S1.out;obtain ⟨h1,h2,hYe,hYp,hB1,hg,hlen⟩:=HX.out;have hs3:=hb3.size;have hbel3:Below g w u3:=hbel.trans (hb3.mono (by omega))
    have hO3:=hOw.below hb3 (by omega)
    have hbw3:Below w.heap.size w u3:=hg ▸ hbel3
    by_cases hge:Y≤Z
    · obtain ⟨z,hz⟩:∃ z,cmpI Z Y=z:=⟨_,rfl⟩
      have hz0:0≤z:=hz ▸ cmpI_ge hge;have C1:=hid (rCmp_arg A3 (h2.below hbw3) z (by rw [val_ws,hYe];exact hz))
      have S2:=(qsd (ai hMw (ai hMl (ai hMz (ai hMv (ai hbel3 (ai hO3 (ai st1 (ai st2 (ai hdl hN3))))))))));clear hMw hMl hMz hMv hbel hOw st1 st2 hdl hx h1 h2 hYe hYp hB1 hg hlen hbel3 hO3 hbw3 hb3 hN3 A3 hz S1 N1
      go_wp2_with fail
      refine C1.out.mono ?_;rintro r u4 ⟨rfl,hb4⟩;obtain ⟨hMw,hMl,hMz,hMv,hbel,hOw,st1,st2,hdl,hN3⟩:=S2.out;obtain ⟨h1,h2,hYe,hYp,hB1,hg,hlen⟩:=HX.out;have hs4:=hb4.size;have hbel4:Below g w u4:=hbel.trans (hb4.mono (by omega))
      have hO4:=hOw.below hb4 (by omega)
      have hbw4:Below w.heap.size w u4:=hg ▸ hbel4;have hN4:=hN3.below hb4;obtain ⟨_,_,e4,A4⟩:=hN4.arg (by omega)
      cases e4
      have D0:=digit_any A4 (h2.below hbw4) (by omega) (by rw [val_ws,hYe];exact hdl)
      rw [val_ws,hYe] at D0;have hDl:Z/Y<4294967296:=Nat.div_lt_of_lt_mul hdl;have hmd:=Nat.mod_add_div Z Y;have hYD:Y*(Z/Y)≤Z:=by omega
      have hwD:(ws (Y*(Z/Y))).length≤m+1:=by
       have h5:=(ws_len_le Z (m+1)).1 hwZ;exact (ws_len_le _ (m+1)).2 (by omega)
      obtain ⟨D,hD⟩:∃ D,Z/Y=D:=⟨_,rfl⟩;rw [hD] at D0 hDl hmd hYD hwD st1;have D1:=hid D0;have S3:=(qsd (ai hMw (ai hMl (ai hMz (ai hMv (ai hbel4 (ai hO4 (ai st1 (ai st2 (ai hN4 hmd))))))))));clear hMw hMl hMz hMv hbel hOw st1 st2 hdl h1 h2 hYe hYp hB1 hg hlen hbel4 hO4 hbw4 hb4 hN3 hN4 A4 hmd hYD hD D0 S2 C1
      go_wp2_with fail
      refine D1.out.mono ?_;rintro r u5 ⟨v5,rfl,hN5,hb5⟩;obtain ⟨hMw,hMl,hMz,hMv,hbel,hOw,st1,st2,hN4,hmd⟩:=S3.out;have hs5:=hb5.size;have hbel5:Below g w u5:=hbel.trans (hb5.mono (by omega))
      have hO5:=hOw.below hb5 (by omega)
      have hgc:=hO5.cell k (by omega)
      have hgf:=hO5.frozen k;have hbt:But g u5 (u5.setCell ⟨g,k,none⟩ (.int .u32 (D:Nat))):=(But.refl g u5).set k _;have hN6:=(hN4.below hb5).but hbt (by omega)
      have hN7:=hN5.but hbt (by omega)
      obtain ⟨_,_,e6,A6⟩:=hN6.arg (by omega)
      cases e6
      obtain ⟨a7,c7,rfl,A7⟩:=hN7.arg (by omega)
      have M1:=hid (rMinus_arg (V:=Z%Y) A6 A7 (by omega) (by omega) (by rw [val_ws,val_ws];exact hmd))
      have S4:=(qsd (ai hMw (ai hMl (ai hMz (ai hMv (ai hbel5 (ai hO5 (ai st1 (ai st2 hbt)))))))));clear hMw hMl hMz hMv hbel hOw st1 st2 hN4 hmd hbel5 hO5 hbt hN6 hN7 A6 A7 hN5 hb5 S3 D1
      go_wp2_with fail
      refine M1.out.mono ?_;rintro r u8 ⟨v8,rfl,hN8,hb8⟩;have S5:=(qsd (ai hN8 hb8));clear hN8 hb8 M1;go_wp2
      go_roundg k
      case measure=>omega
      case rel =>
       obtain ⟨hMw,hMl,hMz,hMv,hbel,hOw,st1,st2,hbt⟩:=S4.out;obtain ⟨hN8,hb8⟩:=S5.out;have hs8:=hb8.size;have hss:(u5.setCell ⟨g,k,none⟩ (.int .u32 (D:Nat))).heap.size=u5.heap.size:=by simp [World.setCell]
       refine ⟨M.set k D,by omega,by first | go_num | (congr 1;omega),(hOw.set k D).below hb8 (by omega),hMw.set _ _ hDl,by simp [hMl],?_,?_,?_,?_⟩
       · intro j hj
         rw [getD_set_ne _ _ _ _ (by omega)]
         exact hMz j (by omega)
       · rw [val_drop_set M k D (by omega),hMv,st1]
       · exact (But.below hbel hbt (by omega) (Nat.le_refl _)).trans (hb8.mono (by omega))
       · rw [st2]
         exact hN8.mono (by omega)
    · have hz:cmpI Z Y=-1:=cmpI_lt (by omega)
      have C1:=hid (rCmp_arg A3 (h2.below hbw3) (-1) (by rw [val_ws,hYe];exact hz))
      have S2:=(qsd (ai hMw (ai hMl (ai hMz (ai hMv (ai hbel3 (ai hO3 (ai st1 (ai st2 (ai hdl (ai hN3 hlen)))))))))));clear hMw hMl hMz hMv hbel hOw st1 st2 hdl hx h1 h2 hYe hYp hB1 hg hlen hbel3 hO3 hbw3 hb3 hN3 A3 hz S1 N1
      go_wp2_with fail
      refine C1.out.mono ?_;rintro r u4 ⟨rfl,hb4⟩;have S3:=qsd hb4;clear hb4 C1;go_wp2
      go_roundg k
      case measure=>omega
      case rel =>
       obtain ⟨hMw,hMl,hMz,hMv,hbel,hOw,st1,st2,hdl,hN3,hlen⟩:=S2.out;have hb4:=S3.out;refine ⟨M,by omega,by first | go_num | (congr 1;omega),hOw.below hb4 (by omega),hMw,hMl,fun j hj=>hMz j (by omega),?_,hbel.trans (hb4.mono (by omega)),?_⟩
       · rw [val_drop_succ M k (by omega),hMz k (by omega),hMv,st1,Nat.div_eq_of_lt (show Z<Y by omega)]
       · rw [st2,Nat.mod_eq_of_lt (show Z<Y by omega)]
         exact (hN3.below hb4).mono (by omega)
end
section
open Go.RowKit
theorem lit_arg2 (w:World) (a b:Nat) (ha:a<4294967296) (hb:b<4294967296):Arg (w.alloc (.cells #[.int .u32 (a:Int),.int .u32 (b:Int)] 113)) (some ⟨w.heap.size,0,none⟩) 2 2 [a,b]:=by
 refine ⟨rfl,Nat.le_refl _,by omega,Wf.cons ha (Wf.cons hb Wf.nil),fun _=>⟨w.heap.size,0,by simp,rfl,fun i hi=>?_⟩,fun e=>by cases e⟩
 have hi2:i=0∨i=1:=by simp at hi;omega
 unfold World.cell?;simp only [heap_alloc_new]
 rcases hi2 with rfl|rfl <;> rfl
theorem rOf_any (x:Nat) (w:World) (hx:x<18446744073709551616) :
 Calls Tryz.prog 144 #[.int .u64 (x:Nat)] w fun r w'=>∃ v,r=.returned v∧Nt w.heap.size w' v x∧Below w.heap.size w w':=by
 obtain ⟨a,ha⟩:∃ a,a=x%4294967296:=⟨_,rfl⟩;obtain ⟨b,hb⟩:∃ b,b=x/4294967296:=⟨_,rfl⟩;have e1:(x:Int)%4294967296=(a:Int):=by omega
 have e2:(x:Int)/4294967296=(b:Int):=by omega
 have e3:(b:Int)%4294967296=(b:Int):=by omega
 have N1:=hid (rNorm_arg (V:=x) (lit_arg2 w a b (by omega) (by omega)) (by simp [val];omega))
 have hb3:b<4294967296:=by omega
 clear ha hb;go_enter Tryz.func144,Tryz.ntmps144
 go_wp2_with fail
 refine N1.out.mono ?_;rintro r u1 ⟨v,rfl,hN,hbl⟩;have S:=(qsd (ai hN hbl));clear hN hbl;go_wp2;go_ret;exact ⟨v,rfl,S.out.1.mono (by simp),(below_alloc w _).trans (S.out.2.mono (by simp))⟩
theorem lo_form (X:Nat) (h:X≠0):∃ m,X=2^lo X*(2*m+1):=by
 have key:∀ Y:Nat,Y≠0→∃ i m,Y=2^i*(2*m+1):=by
  intro Y
  induction Y using Nat.strongRecOn with
  | ind Y ih =>
    intro hY
    rcases Nat.mod_two_eq_zero_or_one Y with h0|h1
    · obtain ⟨i,m,e⟩:=ih (Y/2) (by omega) (by omega)
      refine ⟨i+1,m,?_⟩;rw [Nat.pow_succ,Nat.mul_comm (2^i) 2,Nat.mul_assoc,←e];omega
    · exact ⟨0,Y/2,by omega⟩
 obtain ⟨i,m,e⟩:=key X h;refine ⟨m,?_⟩;rw [e,lo_eq]
theorem lo_bit (X:Nat) (h:X≠0):X/2^lo X%2=1:=by
 obtain ⟨m,e⟩:=lo_form X h;generalize lo X=i at e;rw [e,Nat.mul_div_cancel_left _ (Nat.pow_pos (by omega))]
 omega
theorem lo_bits (X j:Nat) (h:X≠0) (hj:j<lo X):X/2^j%2=0:=by
 obtain ⟨m,e⟩:=lo_form X h;generalize lo X=i at e hj;obtain ⟨d,rfl⟩:∃ d,i=j+(d+1):=⟨i-j-1,by omega⟩
 rw [e,Nat.pow_add,Nat.mul_assoc,Nat.mul_div_cancel_left _ (Nat.pow_pos (by omega)),Nat.pow_succ,Nat.mul_comm (2^d) 2,Nat.mul_assoc]
 omega
theorem lo_lt (X:Nat) (h:X≠0) (n:Nat) (hp:X<pw n):lo X<32*n:=by
 obtain ⟨m,e⟩:=lo_form X h
 rcases Nat.lt_or_ge (lo X) (32*n) with h1|h1
 · exact h1
 · exfalso
   have h2:2^(32*n)≤2^lo X:=Nat.pow_le_pow_right (by omega) h1
   have h3:pw n=2^(32*n):=by unfold pw;rw [Nat.pow_mul]
   have h4:2^lo X*1≤2^lo X*(2*m+1):=Nat.mul_le_mul_left _ (by omega)
   omega
theorem rLow_any (xs:List Nat) (ao:Option Addr) (n cap B:Nat) (w:World) (hn:n=xs.length) (hm:n≤70368744177664) (hx:Wf xs) (hR:Rd B w ao xs) :
 Calls Tryz.prog 145 #[.slice ao n cap] w fun r w'=>r=.returned (.int .i64 (lo (val xs):Nat))∧w'=w:=by
 have H:=hid (size_any xs ao n cap B w hn (by omega) hR)
 by_cases h0:val xs=0
 · rw [h0,lo_zero]
   rw [(nl_zero_iff xs).2 h0] at H;clear hn hx hR h0;go_enter Tryz.func145,Tryz.ntmps145
   go_wp2_with fail
   refine H.out.mono ?_;rintro r w1 ⟨rfl,rfl⟩;go_wp2;go_ret;exact ⟨rfl,rfl⟩
 · have hnl:nl xs≠0:=fun e=>h0 ((nl_zero_iff xs).1 e)
   have hv:=val_lt xs hx;rw [←hn] at hv;have hlt:=lo_lt _ h0 n hv;obtain ⟨k,hk⟩:∃ k,nl xs=k:=⟨_,rfl⟩;rw [hk] at H hnl;obtain ⟨L,hL⟩:∃ L,lo (val xs)=L:=⟨_,rfl⟩;have hb1:=lo_bit _ h0;have hb0:=lo_bits (val xs) (h:=h0);rw [hL] at hb1 hb0 hlt ⊢
   have BT:Hid (∀ i:Nat,i≤9223372036854775807→∀ w1,w1=w→Calls Tryz.prog 157 #[.slice ao n cap,.int .i64 (i:Int)] w1 fun r w'=>r=.returned (.bool (decide (val xs/2^i%2=1)))∧w'=w1):=by
    intro i hi w1 hw;subst hw;exact rBit_any xs ao n cap B i w1 hn hx hR hi
   have HB:=(qsd (ai hb1 hb0));clear hb1 hb0 hn hx hR h0 hv hk hL;go_enter Tryz.func145,Tryz.ntmps145
   go_wp2_with fail
   refine H.out.mono ?_;rintro r w1 ⟨rfl,rfl⟩;have hkf:((k:Int)==0)=false:=by simp;omega
   go_wp2
   go_loopg [3] L (fun gk iv wr=>∃ (i:Nat),gk+i=L∧iv=.int .i64 (i:Nat)∧wr=w1)
   case atStart=>exact ⟨0,by omega,rfl,rfl⟩
   case round =>
    obtain ⟨i,hi,rfl,rfl⟩:=hrel;have B1:=BT.out i (by omega) _ rfl
    by_cases hiL:i=L
    · subst hiL
      obtain rfl:gk=0:=by omega
      rw [HB.out.1] at B1;have B2:=hid (show Calls Tryz.prog 157 #[.slice ao n cap,.int .i64 (i:Int)] wr fun r w'=>r=.returned (.bool true)∧w'=wr from B1)
      clear B1
      go_wp2_with fail
      refine B2.out.mono ?_;rintro r w2 ⟨rfl,rfl⟩;go_wp2;go_ret;exact ⟨rfl,rfl⟩
    · rw [HB.out.2 i (by omega)] at B1
      have B2:=hid (show Calls Tryz.prog 157 #[.slice ao n cap,.int .i64 (i:Int)] wr fun r w'=>r=.returned (.bool false)∧w'=wr from B1)
      clear B1
      go_wp2_with fail
      refine B2.out.mono ?_;rintro r w2 ⟨rfl,rfl⟩;go_wp2
      go_roundg (gk-1)
      case measure=>omega
      case rel=>exact ⟨i+1,by omega,by first | go_num | (congr 1;omega),rfl⟩
end
section
open Go.RowKit
theorem own_row_made {w:World}{g:Nat}{L:List Nat}(h:Own w g L) (hm:L.length≤35184372088832):w.ownsRow g 113 1 (.slice (some ⟨g,0,none⟩) L.length L.length) L.length (L.map U) :=
 ⟨by simp,.inr ⟨g,L.length,_,rfl,Nat.le_refl _,h,Nat.le_refl _,by unfold maxLen;omega,by simp,by simp [List.take_of_length_le]⟩⟩
theorem Arg.drew' {w:World}{a:Option Addr}{n c:Nat}{xs:List Nat}(h:Arg w a n c xs):Arg w.drew a n c xs:=⟨h.len,h.cap,h.big,h.wf,h.rd,h.nil⟩
theorem pow_small (r:Nat) (hr:r<32):2^r<4294967296:=by
 have:2^r≤2^31:=Nat.pow_le_pow_right (by omega) (by omega)
 omega
theorem moved_up {w:World}{a:Option Addr}{l c:Nat}{X:Nat}(k:Nat) (h1:Arg w a l c (ws X)) (hl:l≤2000000) (hk:k≤64000000) :
 Calls Tryz.prog 81 #[.slice a l c,.int .i64 (k:Nat)] w fun r w'=>∃ v,r=.returned v∧Nt w.heap.size w' v (X*2^k)∧Below w.heap.size w w':=by
 obtain ⟨q,hq⟩:∃ q,q=k/32:=⟨_,rfl⟩;obtain ⟨s,hs⟩:∃ s,s=k%32:=⟨_,rfl⟩;have e1:(k:Int)/32=(q:Int):=by omega
 have e2:(k:Int)%32=(s:Int):=by omega
 have hqb:q≤2000000:=by omega
 have hs32:s<32:=by omega
 obtain ⟨W1,hW1⟩:∃ W,W=w.alloc (.cells (madeCells #[.int .u32 0] q) 113):=⟨_,rfl⟩;have hO1:Own W1 w.heap.size (List.replicate q 0):=by rw [hW1];exact Own.made w q
 have hB1:Below w.heap.size w W1:=by rw [hW1];exact (Below.refl _ _).alloc (Nat.le_refl _) _
 have hmk:=make_words (q:Int) q rfl (by omega) w
 rw [←hW1] at hmk;have hR:=own_row_made hO1 (by simp;omega)
 simp only [List.length_replicate] at hR;have A1:=h1.below hB1;obtain ⟨v',w2,hap,hown,hgrow⟩:=append_words W1 w.heap.size _ q (List.replicate q 0) (ws X) a l c W1.heap.size 75 hR A1.len A1.rd A1.nil (by omega) hB1.size
 have hB2:Below w.heap.size w w2:=hB1.grown hgrow hB1.size (fun k hk=>by simp [Value.ownBlock] at hk;omega)
 obtain ⟨a2,c2,rfl,hc2,hl2,hnil2,hRd2⟩:=Rw.words hown;have AO:Arg w2 a2 (q+l) c2 (List.replicate q 0++ws X):=⟨hl2,hc2,by omega,(Wf.zeros q).append (wf_ws X),hRd2,hnil2⟩
 have hval:val (List.replicate q 0++ws X)=X*pw q:=by
  rw [val_append,val_zeros,val_ws,List.length_replicate,Nat.zero_add,Nat.mul_comm]
 have hpw:pw q*2^s=2^k:=by
  have:pw q=2^(32*q):=by unfold pw;rw [Nat.pow_mul]
  rw [this,←Nat.pow_add]
  congr 1
  omega
 have hps:=pow_small s hs32;obtain ⟨p,hp⟩:∃ p,p=2^s:=⟨_,rfl⟩
 have e3:(2:Int)^s=(p:Int):=by
  have h5:((2^s:Nat):Int)=(2:Int)^s:=by simp
  rw [←h5,←hp]
 have hpl:p<4294967296:=by omega
 have T1:=hid (rTimes_arg (V:=X*2^k) (AO.below (below_alloc w2 _)) (lit_arg w2 p (by omega)) (by omega) (by rw [hval];simp only [val];rw [←hpw,hp,Nat.mul_assoc];simp))
 have HAP:=hid hap;have hs2:=hB2.size;have S1:=qsd hB2;clear hap hown hgrow hB2 hl2 hnil2 hRd2 AO hval hpw A1 hR hO1 hB1 h1 hW1 hq hs hps hp;go_enter Tryz.func81,Tryz.ntmps81
 go_wp2_with (at_builtin;refine wpList_append_run2 rfl (.tmp 39) (.tmp 40) 75 rfl _ _ rfl rfl _ _ HAP.out ?_)
 refine T1.out.mono ?_;rintro r u3 ⟨v3,rfl,hN3,hb3⟩;have S2:=(qsd (ai hN3 hb3));clear hN3 hb3;go_wp2;go_ret;obtain ⟨hN3,hb3⟩:=S2.out;exact ⟨v3,rfl,hN3.mono (by simp;omega),S1.out.trans (((below_alloc w2 _).trans (hb3.mono (by simp))).mono hs2)⟩
theorem moved_down {w:World}{b off:Nat}{l c:Nat}{X:Nat}(k:Nat) (h1:Arg w (some ⟨b,off,none⟩) l c (ws X)) (hl:l≤2000000) (hk0:0<k) (hk:k≤64000000) (hkl:k/32<l) :
 Calls Tryz.prog 81 #[.slice (some ⟨b,off,none⟩) l c,.int .i64 (-(k:Int))] w fun r w'=>∃ v,r=.returned v∧Nt w.heap.size w' v (X/2^k)∧Below w.heap.size w w':=by
 obtain ⟨q,hq⟩:∃ q,q=k/32:=⟨_,rfl⟩;obtain ⟨s,hs⟩:∃ s,s=k%32:=⟨_,rfl⟩;have e1:(k:Int)/32=(q:Int):=by omega
 have e2:(k:Int)%32=(s:Int):=by omega
 have hql:q<l:=by omega
 have hs32:s<32:=by omega
 have hcl:=h1.cap;have hqc:¬ c=q:=by omega
 obtain ⟨p,hp⟩:∃ p,p=2^s:=⟨_,rfl⟩;have hps:=pow_small s hs32
 have e3:(2:Int)^s=(p:Int):=by
  have h5:((2^s:Nat):Int)=(2:Int)^s:=by simp
  rw [←h5,←hp]
 have hpl:p<4294967296:=by omega
 have hd1:decide (l≤q)=false:=decide_eq_false (by omega)
 have hd2:decide ((-(k:Int)) < -1099511627776)=false:=decide_eq_false (by omega)
 have hd3:decide ((l:Int)≤(q:Int))=false:=decide_eq_false (by omega)
 have hvd:val ((ws X).drop q)=X/pw q:=by
  have h5:=val_take_drop (ws X) q (by rw [←h1.len];omega)
  have h6:=val_lt ((ws X).take q) ((wf_ws X).take q);rw [val_ws] at h5;rw [List.length_take,Nat.min_eq_left (by rw [←h1.len];omega)] at h6
  generalize val ((ws X).drop q)=Bv at h5 ⊢;generalize val ((ws X).take q)=Av at h5 h6;rw [h5,Nat.add_mul_div_left _ _ (pw_pos q),Nat.div_eq_of_lt h6,Nat.zero_add]
 have hpw:X/pw q/p=X/2^k:=by
  have h5:pw q=2^(32*q):=by unfold pw;rw [Nat.pow_mul]
  rw [Nat.div_div_eq_div_mul,h5,hp,←Nat.pow_add]
  congr 2
  omega
 have hXl:(ws (X/pw q)).length≤2000000:=by
  have h5:X<pw l:=by rw [h1.len];exact ws_len_lt X
  have h6:X/pw q≤X:=Nat.div_le_self _ _;have h7:=(ws_len_le (X/pw q) l).2 (by omega)
  omega
 have hp0:0<p:=by rw [hp];exact Nat.pow_pos (by omega)
 have HNm:Hid (∀ u,Below w.heap.size w u→Calls Tryz.prog 115 #[.slice (some ⟨b,off+q,none⟩) (l-q) (c-q)] u fun r w'=>∃ v,r=.returned v∧Nt u.heap.size w' v (X/pw q)∧Below u.heap.size u w'):=by
  intro u hu;have h5:=rNorm_any ((ws X).drop q) (some ⟨b,off+q,none⟩) (l-q) (c-q) w.heap.size u (by rw [List.length_drop,←h1.len]) (by omega) (by omega) ((wf_ws X).drop q) ((h1.rd.drop q).below hu) (fun e=>by cases e)
  rw [hvd] at h5;exact h5
 have HP:=(qsd (ai hpw hXl));have e7:IntKind.i64.wrap (k:Int)=(k:Int):=by simp [IntKind.wrap,IntKind.bits,IntKind.signed] <;> omega
 have e8:(k:Int).tmod 32=(s:Int):=by rw [Int.tmod_eq_emod_of_nonneg (by omega)];exact e2
 have e6:IntKind.u32.wrap (p:Int)=(p:Int):=by simp [IntKind.wrap,IntKind.bits,IntKind.signed] <;> omega
 clear h1 hq hs hp hvd hpw hXl hps;go_enter Tryz.func81,Tryz.ntmps81;go_wp2
 go_region_with (first
  | (go_at_call 115
     refine (HNm.out _ ((Below.refl _ _).drew)).mono ?_;rintro r u1 ⟨v1,rfl,hN1,hb1⟩;obtain ⟨a1,c1,rfl,A1⟩:=hN1.arg (by have:=HP.out.2;omega)
     have hbw:Below w.heap.size w u1:=((Below.refl w.heap.size w).drew).trans (hb1.mono (Nat.le_refl _));have S1:=(qsd (ai hbw A1));clear hN1 hb1 A1 hbw)
  | (go_at_call 115
     refine (HNm.out _ ((below_alloc w _).drew)).mono ?_;rintro r u1 ⟨v1,rfl,hN1,hb1⟩;obtain ⟨a1,c1,rfl,A1⟩:=hN1.arg (by have:=HP.out.2;omega)
     have hbw:Below w.heap.size w u1:=((below_alloc w _).drew).trans (hb1.mono (by simp))
     have L1:=qsd ((Arg.drew' (lit_arg w p hpl)).below hb1);have S1:=(qsd (ai hbw A1));clear hN1 hb1 A1 hbw)
  | (go_at_call 114
     refine (parts_any S1.out.2 L1.out (by have:=HP.out.2;omega) (by omega) (by simp [val];exact hp0)).mono ?_
     rintro r u2 ⟨v2,v3,rfl,hN2,hN3,hb2⟩;have hbw:Below w.heap.size w u2:=S1.out.1.trans (hb2.mono S1.out.1.size);have hNw:=hN2.mono (lo':=w.heap.size) S1.out.1.size;have S2:=(qsd (ai hNw hbw));clear hN2 hN3 hb2 hbw hNw)
  | (go_at_call 114
     refine (parts_any (S1.out.2.below (below_alloc u1 _)) (lit_arg u1 p hpl) (by have:=HP.out.2;omega) (by omega) (by simp [val];exact hp0)).mono ?_
     rintro r u2 ⟨v2,v3,rfl,hN2,hN3,hb2⟩;have hbw:Below w.heap.size w u2:=S1.out.1.trans (((below_alloc u1 _).trans (hb2.mono (by simp))).mono S1.out.1.size)
     have hNw:=hN2.mono (lo':=w.heap.size) (by have:=S1.out.1.size;simp;omega)
     have S2:=(qsd (ai hNw hbw));clear hN2 hN3 hb2 hbw hNw))
 all_goals (
  go_wp2;go_ret;obtain ⟨hN2,hb2⟩:=S2.out;have e5:val [p]=p:=by simp [val]
  rw [val_ws,e5,HP.out.1] at hN2;exact ⟨v2,rfl,hN2,hb2⟩)
end
section
open Go.RowKit
theorem moved_far (a:Option Addr) (l c k:Nat) (w:World) (hl:l≤2000000) (hk:k≤9223372036854775807) (hk0:0<k) (hkl:l≤k/32) :
 Calls Tryz.prog 81 #[.slice a l c,.int .i64 (-(k:Int))] w fun r w'=>r=.returned (.slice none 0 0)∧w'=w:=by
 obtain ⟨q,hq⟩:∃ q,q=k/32:=⟨_,rfl⟩;have e1:(k:Int)/32=(q:Int):=by omega
 have e7:IntKind.i64.wrap (k:Int)=(k:Int):=by simp [IntKind.wrap,IntKind.bits,IntKind.signed] <;> omega
 have hql:l≤q:=by omega
 clear hq hkl;go_enter Tryz.func81,Tryz.ntmps81;go_wp2;go_ret;exact ⟨rfl,rfl⟩
theorem moved_least (a:Option Addr) (l c:Nat) (w:World) (hl:l≤2000000) :
 Calls Tryz.prog 81 #[.slice a l c,.int .i64 (-9223372036854775808)] w fun r w'=>r=.returned (.slice none 0 0)∧w'=w:=by
 go_enter Tryz.func81,Tryz.ntmps81;go_wp2
 all_goals (
  go_ret;exact ⟨rfl,rfl⟩)
theorem shift_gone (X k l:Nat) (h:X<pw l) (hk:32*l≤k):X/2^k=0:=by
 apply Nat.div_eq_of_lt
 have h1:pw l=2^(32*l):=by unfold pw;rw [Nat.pow_mul]
 have h2:2^(32*l)≤2^k:=Nat.pow_le_pow_right (by omega) hk
 omega
theorem Nt.some {lo:Nat}{w:World}{v:Value}{X:Nat}(h:Nt lo w v X) (hX:X≠0):∃ g c,v=.slice (some ⟨g,0,none⟩) (ws X).length c:=by
 rcases h.2 with ⟨_,h0⟩|⟨g,cap,cur,rfl,_⟩
 · exact absurd ((ws_len_zero X).1 h0) hX
 · exact ⟨g,cap,rfl⟩
theorem moved_any {w:World}{v:Value}{X lo:Nat}(hN:Nt lo w v X) (by':Int) (hb0:-9223372036854775808≤by') (hb1:by'≤64000000) (hX:X≠0) (hl:(ws X).length≤2000000) :
 Calls Tryz.prog 81 #[v,.int .i64 by'] w fun r w'=>∃ v,r=.returned v∧Nt w.heap.size w' v (if by'<0 then X/2^(-by').toNat else X*2^by'.toNat)∧Below w.heap.size w w':=by
 obtain ⟨g,c,rfl⟩:=hN.some hX;obtain ⟨_,_,e,A⟩:=hN.arg (by omega)
 cases e
 by_cases h:by'<0
 · rw [if_pos h]
   by_cases hmin:by'=-9223372036854775808
   · subst hmin
     rw [shift_gone X _ (ws X).length (ws_len_lt X) (by omega)]
     exact (moved_least _ _ _ w hl).mono fun r w' ⟨h1,h2⟩=>⟨_,h1,Nt.nil _ _,by rw [h2];exact Below.refl _ _⟩
   · obtain ⟨k,hk⟩:∃ k:Nat,by'=-(k:Int):=⟨(-by').toNat,by omega⟩
     subst hk;rw [show (- -(k:Int)).toNat=k by omega]
     by_cases hkl:k/32<(ws X).length
     · exact moved_down k A hl (by omega) (by omega) hkl
     · rw [shift_gone X k (ws X).length (ws_len_lt X) (by omega)]
       exact (moved_far _ _ _ k w hl (by omega) (by omega) (by omega)).mono fun r w' ⟨h1,h2⟩=>⟨_,h1,Nt.nil _ _,by rw [h2];exact Below.refl _ _⟩
 · rw [if_neg h]
   obtain ⟨k,hk⟩:∃ k:Nat,by'=(k:Int):=⟨by'.toNat,by omega⟩
   subst hk;rw [show ((k:Int)).toNat=k by omega]
   exact moved_up k A hl (by omega)
end
section
open Go.RowKit
def mkS (neg:Bool) (X:Nat) (e:Int):Option (Bool×Nat×Int) :=
 if X=0 then some (false,0,0)
 else if 262144<bl X-lo X∨1048576-(lo X:Int)<e∨e < -1048576-(lo X:Int) then none
 else some (neg,X/2^lo X,e+lo X)
def dN (o:Option (Bool×Nat×Int)):Bool:=(o.getD (false,0,0)).1
def dX (o:Option (Bool×Nat×Int)):Nat:=(o.getD (false,0,0)).2.1
def dE (o:Option (Bool×Nat×Int)):Int:=(o.getD (false,0,0)).2.2
def erS (o:Option (Bool×Nat×Int)):Int:=if o.isSome then 0 else 2
theorem bl_gt (X m:Nat):m<bl X↔2^m≤X:=by
 constructor
 · intro h
   have h0:X≠0:=by rintro rfl;rw [bl_zero] at h;omega
   exact Nat.le_trans (Nat.pow_le_pow_right (by omega) (by omega:m≤bl X-1)) (bl_ge X h0)
 · intro h
   exact (Nat.pow_lt_pow_iff_right (by omega)).1 (Nat.lt_of_le_of_lt h (bl_lt X))
theorem len_bl (X k m:Nat) (hm:m=32*k):k<(ws X).length↔m<bl X:=by
 rw [bl_gt,hm,Nat.pow_mul];have h:=ws_len_le X k;unfold pw at h;rw [show (2:Nat)^32=4294967296 from rfl]
 generalize 4294967296^k=P at h ⊢;omega
theorem LG_bl (X:Nat):LG X↔262144<bl X:=len_bl X 8192 262144 rfl
theorem bl_mul_pow (k Y:Nat) (h:Y≠0):bl (2^k*Y)=k+bl Y:=by
 have h1:=bl_lt Y;have h2:=bl_ge Y h;have h3:=bl_pos Y h;have e:k+bl Y=(k+(bl Y-1))+1:=by omega
 rw [e]
 apply bl_eq
 · rw [Nat.pow_add];exact Nat.mul_le_mul_left _ h2
 · rw [show k+(bl Y-1)+1=k+bl Y by omega,Nat.pow_add]
   exact Nat.mul_lt_mul_of_pos_left h1 (Nat.two_pow_pos k)
theorem odd_part (X:Nat) (h:X≠0):∃ m,X=2^lo X*(2*m+1)∧X/2^lo X=2*m+1∧bl X=lo X+bl (X/2^lo X):=by
 obtain ⟨m,hm⟩:=lo_form X h
 have e:X/2^lo X=2*m+1:=by
  obtain ⟨k,hk⟩:∃ k,lo X=k:=⟨_,rfl⟩;rw [hk] at hm ⊢;rw [hm,Nat.mul_div_cancel_left _ (Nat.two_pow_pos k)]
 refine ⟨m,hm,e,?_⟩;rw [e];obtain ⟨k,hk⟩:∃ k,lo X=k:=⟨_,rfl⟩;rw [hk] at hm ⊢;rw [hm];exact bl_mul_pow k _ (by omega)
theorem lo_double (X:Nat) (h:X≠0):lo (2*X)=lo X+1:=by
 obtain ⟨m,hm⟩:=lo_form X h;obtain ⟨k,hk⟩:∃ k,lo X=k:=⟨_,rfl⟩;rw [hk] at hm ⊢;have e:2*X=2^(k+1)*(2*m+1):=by rw [hm,Nat.pow_succ];grind
 rw [e];exact lo_eq (k+1) m
theorem bl_double (X:Nat) (h:X≠0):bl (2*X)=bl X+1:=by
 have:=bl_mul_pow 1 X h;rw [Nat.pow_one] at this;omega
theorem mkS_double (n:Bool) (X:Nat) (e:Int):mkS n (2*X) e=mkS n X (e+1):=by
 unfold mkS
 by_cases h:X=0
 · subst h;simp
 · rw [if_neg (by omega),if_neg h,lo_double X h,bl_double X h]
   have e1:2*X/2^(lo X+1)=X/2^lo X:=by
    rw [Nat.pow_succ,Nat.mul_comm (2^lo X) 2,Nat.mul_div_mul_left _ _ (by omega)]
   rw [e1];have e2:(262144<bl X+1-(lo X+1)∨1048576-((lo X+1:Nat):Int)<e∨e < -1048576-((lo X+1:Nat):Int))↔(262144<bl X-lo X∨1048576-(lo X:Int)<e+1∨e+1 < -1048576-(lo X:Int)):=by omega
   by_cases h2:262144<bl X-lo X∨1048576-(lo X:Int)<e+1∨e+1 < -1048576-(lo X:Int)
   · rw [if_pos h2,if_pos (e2.2 h2)]
   · rw [if_neg h2,if_neg (fun h3=>h2 (e2.1 h3))]
     congr 3
     omega
theorem mkS_zero (n:Bool) (e:Int):mkS n 0 e=some (false,0,0):=by unfold mkS;rw [if_pos rfl]
theorem lo_odd' (X:Nat) (h:X%2=1):lo X=0:=by
 have:=lo_odd (X/2);rw [show 2*(X/2)+1=X by omega] at this
 exact this
theorem mkS_odd (n:Bool) (X:Nat) (e:Int) (h:X%2=1):mkS n X e=if 262144<bl X∨1048576<e∨e < -1048576 then none else some (n,X,e):=by
 have h0:X≠0:=by omega
 unfold mkS;rw [if_neg h0,lo_odd' X h];simp only [Nat.sub_zero,Nat.pow_zero,Nat.div_one]
 by_cases h2:262144<bl X∨1048576<e∨e < -1048576
 · rw [if_pos h2,if_pos (by omega)]
 · rw [if_neg h2,if_neg (by omega)]
   congr 3
   omega
structure Frm (n:Bool) (X:Nat) (e:Int):Prop where
 odd:X%2=1∨(X=0∧n=false∧e=0)
 size:bl X≤262144
 up:e≤1048576
 down:-1048576≤e
theorem mkS_frm {n n':Bool}{X Y:Nat}{e f:Int}(h:mkS n X e=some (n',Y,f)):Frm n' Y f:=by
 unfold mkS at h
 split at h
 · cases h
   exact ⟨.inr ⟨rfl,rfl,rfl⟩,by rw [bl_zero];omega,by omega,by omega⟩
 · next h0 =>
   split at h
   · cases h
   · next h1 =>
     obtain ⟨m,hm,e1,hb⟩:=odd_part X h0
     cases h
     refine ⟨.inl (by rw [e1];omega),by omega,by omega,by omega⟩
theorem Frm.self {n:Bool}{X:Nat}{e:Int}(h:Frm n X e):mkS n X e=some (n,X,e):=by
 rcases h.odd with h1|⟨rfl,rfl,rfl⟩
 · rw [mkS_odd n X e h1,if_neg]
   have:=h.size;have:=h.up;have:=h.down;omega
 · exact mkS_zero _ _
theorem frm_len {n:Bool}{X:Nat}{e:Int}(h:Frm n X e):(ws X).length≤8192:=by
 have h1:=LG_bl X;have h2:=h.size;unfold LG at h1;omega
theorem mkS_len (n:Bool) (X:Nat) (e:Int):(ws (dX (mkS n X e))).length≤8192:=by
 unfold dX
 cases h:mkS n X e with
 | none=>simp [ws_zero]
 | some d =>
   obtain ⟨n',Y,f⟩:=d;exact frm_len (mkS_frm h)
end
section
open Go.RowKit
theorem word_in (xs:List Nat) (ao:Option Addr) (n cap B i:Nat) (w:World) (hn:n=xs.length) (hm:n≤70368744177664) (hx:Wf xs) (hR:Rd B w ao xs) (hi:i<n) :
 Calls Tryz.prog 158 #[.slice ao n cap,.int .i64 (i:Nat)] w fun r w'=>r=.returned (.int .u32 ((xs.getD i 0:Nat):Int))∧w'=w:=by
 obtain ⟨b,off,hb,rfl,hc⟩:=hR (by intro e;subst e;simp at hn;omega)
 have hcell:=hc i (by omega)
 obtain ⟨x,hx2⟩:∃ x,xs.getD i 0=x:=⟨_,rfl⟩;rw [hx2] at hcell ⊢;have hi1:decide (n≤i)=false:=decide_eq_false (by omega)
 clear hc hx hn hx2;go_enter Tryz.func158,Tryz.ntmps158;go_wp2;go_ret;exact ⟨rfl,rfl⟩
theorem word_out (xs:List Nat) (ao:Option Addr) (n cap:Nat) (i:Int) (w:World) (hn:n=xs.length) (hm:n≤70368744177664) (hi:i<0∨(n:Int)≤i) :
 Calls Tryz.prog 158 #[.slice ao n cap,.int .i64 i] w fun r w'=>r=.returned (.int .u32 0)∧w'=w:=by
 clear hn
 rcases hi with h|h
 · go_enter Tryz.func158,Tryz.ntmps158
   go_wp2;go_ret;exact ⟨rfl,rfl⟩
 · have h0:decide (i<0)=false:=decide_eq_false (by omega)
   go_enter Tryz.func158,Tryz.ntmps158;go_wp2;go_ret;exact ⟨rfl,rfl⟩
def wd (xs:List Nat) (i:Int):Nat:=if i<0 then 0 else xs.getD i.toNat 0
theorem wd_lt (xs:List Nat) (hx:Wf xs) (i:Int):wd xs i<4294967296:=by
 unfold wd;split
 · omega
 · exact hx.get _
theorem word_any (xs:List Nat) (ao:Option Addr) (n cap B:Nat) (i:Int) (w:World) (hn:n=xs.length) (hm:n≤70368744177664) (hx:Wf xs) (hR:Rd B w ao xs) :
 Calls Tryz.prog 158 #[.slice ao n cap,.int .i64 i] w fun r w'=>r=.returned (.int .u32 ((wd xs i:Nat):Int))∧w'=w:=by
 by_cases h:i<0
 · unfold wd;rw [if_pos h];exact word_out xs ao n cap i w hn hm (.inl h)
 · obtain ⟨k,rfl⟩:∃ k:Nat,i=(k:Int):=⟨i.toNat,by omega⟩
   unfold wd;rw [if_neg h,Int.toNat_natCast]
   by_cases hk:k<n
   · exact word_in xs ao n cap B k w hn hm hx hR hk
   · rw [List.getD_eq_getElem?_getD,List.getElem?_eq_none (by omega)]
     exact word_out xs ao n cap k w hn hm (.inr (by omega))
def win (X:Nat) (i:Int):Nat:=if i<0 then X*2^(-i).toNat%4294967296 else X/2^i.toNat%4294967296
theorem val_mod (xs:List Nat):val xs%4294967296=xs.getD 0 0%4294967296:=by
 cases xs with
 | nil=>simp [val]
 | cons x xs=>simp [val]
theorem val_word (xs:List Nat) (hx:Wf xs) (q:Nat):∃ R,val xs/pw q=xs.getD q 0+4294967296*(xs.getD (q+1) 0+4294967296*R):=by
 by_cases h:q<xs.length
 · have h1:val xs/pw q=val (xs.drop q):=by
    have h5:=val_take_drop xs q (by omega)
    have h6:=val_lt (xs.take q) (hx.take q);rw [List.length_take,Nat.min_eq_left (by omega)] at h6
    rw [h5,Nat.add_mul_div_left _ _ (pw_pos q),Nat.div_eq_of_lt h6,Nat.zero_add]
   obtain ⟨R,hR⟩:∃ R,val (xs.drop (q+1))=xs.getD (q+1) 0+4294967296*R:=by
    by_cases h:q+1<xs.length
    · exact ⟨_,val_drop_succ xs (q+1) h⟩
    · refine ⟨0,?_⟩
      rw [List.drop_of_length_le (by omega),List.getD_eq_getElem?_getD,List.getElem?_eq_none (by omega)]
      rfl
   exact ⟨R,by rw [h1,val_drop_succ xs q h,hR]⟩
 · refine ⟨0,?_⟩
   have h1:=val_lt xs hx;have h2:=pw_mono (show xs.length≤q by omega)
   rw [Nat.div_eq_of_lt (by omega),List.getD_eq_getElem?_getD,List.getElem?_eq_none (by omega),List.getD_eq_getElem?_getD,List.getElem?_eq_none (by omega)]
   rfl
theorem win_pos (xs:List Nat) (hx:Wf xs) (q r:Nat) (hr:r<32):(xs.getD (q+1) 0*4294967296+xs.getD q 0)/2^r%4294967296=val xs/2^(32*q+r)%4294967296:=by
 rw [pw_two,←Nat.div_div_eq_div_mul];obtain ⟨R,hR⟩:=val_word xs hx q;rw [hR]
 have e:xs.getD q 0+4294967296*(xs.getD (q+1) 0+4294967296*R)=(xs.getD (q+1) 0*4294967296+xs.getD q 0)+2^r*(4294967296*(2^(32-r)*R)):=by
  have h1:=two_pow_rest r hr;have:2^r*(4294967296*(2^(32-r)*R))=4294967296*(4294967296*R):=by rw [←h1];grind
  rw [this];omega
 rw [e,Nat.add_mul_div_left _ _ (Nat.two_pow_pos _),Nat.add_mul_mod_self_left]
end
section
open Go.RowKit
theorem shl_mod (V k:Nat):V*2^k%4294967296=V%4294967296*2^k%4294967296:=by
 simp [Nat.mul_mod]
theorem win_eq (xs:List Nat) (hx:Wf xs) (i at':Int) (rest:Nat) (h1:at'=i/32) (h2:(rest:Int)=i%32) :
 (wd xs (at'+1)*4294967296+wd xs at')/2^rest%4294967296=win (val xs) i:=by
 have hr:rest<32:=by omega
 by_cases h:i<0
 · unfold win
   rw [if_pos h]
   by_cases h3:at'=-1
   · subst h3
     have e1:wd xs (-1)=0:=by unfold wd;rw [if_pos (by omega)]
     have e2:wd xs (-1+1)=xs.getD 0 0:=by unfold wd;rw [if_neg (by omega)];rfl
     rw [e1,e2,Nat.add_zero];obtain ⟨k,hk⟩:∃ k,(-i).toNat=k:=⟨_,rfl⟩;have e3:k=32-rest:=by omega
     rw [hk,shl_mod,val_mod,←shl_mod,←two_pow_rest rest hr,e3];rw [show xs.getD 0 0*(2^rest*2^(32-rest))=2^rest*(xs.getD 0 0*2^(32-rest)) by grind,Nat.mul_div_cancel_left _ (Nat.two_pow_pos rest)]
   · have e1:wd xs at'=0:=by unfold wd;rw [if_pos (by omega)]
     have e2:wd xs (at'+1)=0:=by unfold wd;rw [if_pos (by omega)]
     rw [e1,e2];obtain ⟨k,hk⟩:∃ k,(-i).toNat=k+32:=⟨(-i).toNat-32,by omega⟩
     rw [hk,Nat.pow_add,show (2:Nat)^32=4294967296 from rfl,←Nat.mul_assoc,Nat.mul_mod_left]
     simp
 · obtain ⟨n,rfl⟩:∃ n:Nat,i=(n:Int):=⟨i.toNat,by omega⟩
   obtain ⟨q,rfl⟩:∃ q:Nat,at'=(q:Int):=⟨at'.toNat,by omega⟩
   have e1:wd xs ((q:Int)+1)=xs.getD (q+1) 0:=by unfold wd;rw [if_neg (by omega)];rfl
   have e2:wd xs (q:Int)=xs.getD q 0:=by unfold wd;rw [if_neg (by omega)];rfl
   unfold win;rw [if_neg h,e1,e2,Int.toNat_natCast,win_pos xs hx q rest hr];rw [show 32*q+rest=n by omega]
theorem and31 (i:Int) (h0:-9223372036854775808≤i) (h1:i≤9223372036854775807):bits BinOp.and IntKind.i64 i 31=i%32:=by
 unfold bits;simp [IntKind.bits,IntKind.signed,IntKind.wrap]
 have e:(BitVec.ofInt 64 i &&& 31#64).toNat=(i%18446744073709551616).toNat%32:=by
  rw [BitVec.toNat_and,BitVec.toNat_ofInt];exact Nat.and_two_pow_sub_one_eq_mod _ 5
 show (if 9223372036854775808≤(((BitVec.ofInt 64 i &&& 31#64:BitVec 64).toNat:Nat):Int)%18446744073709551616 then (((BitVec.ofInt 64 i &&& 31#64:BitVec 64).toNat:Nat):Int)%18446744073709551616-18446744073709551616 else (((BitVec.ofInt 64 i &&& 31#64:BitVec 64).toNat:Nat):Int)%18446744073709551616)=i%32
 rw [e];generalize hz:(i%18446744073709551616).toNat=z;have hz2:(z:Int)=i%18446744073709551616:=by omega
 split <;> omega
theorem window_any (xs:List Nat) (ao:Option Addr) (n cap B:Nat) (i:Int) (w:World) (hn:n=xs.length) (hm:n≤70368744177664) (hx:Wf xs) (hR:Rd B w ao xs) (h0:-9223372036854775808≤i) (h1:i≤9223372036854775807) :
 Calls Tryz.prog 152 #[.slice ao n cap,.int .i64 i] w fun r w'=>r=.returned (.int .u32 ((win (val xs) i:Nat):Int))∧w'=w:=by
 obtain ⟨at',hat⟩:∃ a,a=i/32:=⟨_,rfl⟩;obtain ⟨rest,hrest⟩:∃ r:Nat,(r:Int)=i%32:=⟨(i%32).toNat,by omega⟩
 have hw:=win_eq xs hx i at' rest hat hrest;have W1:=hid (word_any xs ao n cap B (at'+1) w hn hm hx hR);have W2:=hid (word_any xs ao n cap B at' w hn hm hx hR);have l1:=wd_lt xs hx (at'+1);have l2:=wd_lt xs hx at';generalize wd xs (at'+1)=a at *;generalize wd xs at'=b at *;generalize win (val xs) i=v at *;have e1:i/32=at':=hat.symm;have e2:bits BinOp.and IntKind.i64 i 31=(rest:Int):=by rw [and31 i h0 h1,hrest]
 have e3:=or64_join a b l1 l2;have hr:rest<32:=by omega
 have ha0:-288230376151711744≤at':=by omega
 have ha1:at'≤288230376151711744:=by omega
 obtain ⟨t,ht⟩:∃ t:Nat,a*4294967296+b=t:=⟨_,rfl⟩;rw [ht] at e3 hw;have e4:(t:Int)/2^rest%4294967296=(v:Int):=by rw [←hw];simp
 clear hat hrest hw hn hx hR ht;go_enter Tryz.func152,Tryz.ntmps152
 go_wp2_with fail
 refine W1.out.mono ?_;rintro r w1 ⟨rfl,rfl⟩
 go_wp2_with fail
 refine W2.out.mono ?_;rintro r w2 ⟨rfl,rfl⟩;go_wp2;go_ret;exact ⟨by simp [e4],rfl⟩
end
section
open Go.RowKit
theorem ws_getD (Y i:Nat):(ws Y).getD i 0=Y/pw i%4294967296:=by
 induction i generalizing Y with
 | zero =>
   by_cases h:Y=0
   · subst h;simp [ws_zero]
   · rw [ws_pos Y h,pw_zero];simp
 | succ i ih =>
   by_cases h:Y=0
   · subst h;simp [ws_zero]
   · rw [ws_pos Y h,pw_succ,←Nat.div_div_eq_div_mul,←ih]
     simp
theorem win_word (X low i:Nat):win X ((low:Int)+32*(i:Int))=(ws (X/2^low)).getD i 0:=by
 rw [ws_getD,Nat.div_div_eq_div_mul];unfold win;rw [if_neg (by omega),show ((low:Int)+32*(i:Int)).toNat=low+32*i by omega,Nat.pow_add,Nat.pow_mul]
 rfl
theorem part_set (Ys:List Nat) (k:Nat) (hk:k<Ys.length) :
 (Ys.take k++List.replicate (Ys.length-k) 0).set k (Ys.getD k 0)=Ys.take (k+1)++List.replicate (Ys.length-(k+1)) 0:=by
 apply List.ext_getElem?
 intro j;rw [List.getElem?_set]
 by_cases hj:k=j
 · subst hj
   rw [if_pos rfl,if_pos (by simp;omega),List.getElem?_append_left (by simp;omega)]
   simp [List.getD_eq_getElem?_getD,hk]
 · rw [if_neg hj]
   by_cases h1:j<k
   · rw [List.getElem?_append_left (by simp;omega),List.getElem?_append_left (by simp;omega)]
     simp [h1,show j<k+1 by omega]
   · rw [List.getElem?_append_right (by simp;omega),List.getElem?_append_right (by simp;omega)]
     simp only [List.getElem?_replicate,List.length_take]
     congr 1
     simp only [eq_iff_iff];omega
theorem odd_any {w:World}{a:Option Addr}{n c:Nat}{xs:List Nat}(h1:Arg w a n c xs) (low size:Nat) (hle:low≤size) (hsz:size≤1125899906842624) (hlen:(size-low+31)/32=(ws (val xs/2^low)).length) :
 Calls Tryz.prog 133 #[.slice a n c,.int .i64 (low:Nat),.int .i64 (size:Nat)] w fun r w'=>∃ v,r=.returned v∧Nt w.heap.size w' v (val xs/2^low)∧Below w.heap.size w w':=by
 obtain ⟨m,hm⟩:∃ m,m=(size-low+31)/32:=⟨_,rfl⟩;rw [←hm] at hlen;have e1:((size:Int)-low+32-1)/32=(m:Int):=by omega
 have hmb:m≤35184372088832:=by omega
 obtain ⟨W1,hW1⟩:∃ W,W=w.alloc (.cells (madeCells #[.int .u32 0] m) 113):=⟨_,rfl⟩;have hO1:Own W1 w.heap.size (List.replicate m 0):=by rw [hW1];exact Own.made w m
 have hB1:Below w.heap.size w W1:=by rw [hW1];exact (Below.refl _ _).alloc (Nat.le_refl _) _
 have hmk:=make_words (m:Int) m rfl (by omega) w
 rw [←hW1] at hmk;have A1:=h1.below hB1;obtain ⟨g,hg⟩:∃ g,g=w.heap.size:=⟨_,rfl⟩;rw [←hg] at hO1 hmk;obtain ⟨Ys,hYs⟩:∃ Ys,ws (val xs/2^low)=Ys:=⟨_,rfl⟩;have hYw:Wf Ys:=hYs ▸ wf_ws _;rw [hYs] at hlen
 have WN:Hid (∀ wr,But g W1 wr→∀ i:Nat,i<m→Calls Tryz.prog 152 #[.slice a n c,.int .i64 ((low:Int)+32*(i:Int))] wr fun r w'=>r=.returned (.int .u32 ((Ys.getD i 0:Nat):Int))∧w'=wr):=by
  intro wr hb i hi;have hR:Rd w.heap.size wr a xs:=(h1.rd.below hB1).but hb (by rw [hg] at *;have:=hB1.size;omega) (by omega)
  have:=window_any xs a n c w.heap.size ((low:Int)+32*(i:Int)) wr h1.len (by have:=h1.big;omega) h1.wf hR (by omega) (by omega)
  rw [win_word,hYs] at this;exact this
 have HR:=(qsd (ai hB1 (ai hg (ai hYs (ai hYw hlen)))))
 have HO:Hid (Own W1 g (Ys.take 0++List.replicate (Ys.length-0) 0)):=by
  rw [←hlen];exact hid (by simpa using hO1)
 clear hm h1 hO1 hB1 A1 hg hYs hYw hW1 hlen;go_enter Tryz.func133,Tryz.ntmps133;go_wp2
 go_loopg [18] m (fun gk iv wr=>∃ (k:Nat),gk+k=m∧iv=.int .i64 (k:Nat)∧Hid (Own wr g (Ys.take k++List.replicate (Ys.length-k) 0))∧Aside (But g W1 wr))
 case atStart=>exact ⟨0,by omega,rfl,HO,But.refl _ _⟩
 case round =>
  clear HO e1;obtain ⟨k,hgk,rfl,HM,HA⟩:=hrel
  by_cases hk:k<m
  · have hlen:=HR.out.2.2.2.2
    have hgc:=HM.out.cell k (by simp;omega)
    have hgf:=HM.out.frozen k;obtain ⟨old,hold⟩:∃ o:Nat,(Ys.take k++List.replicate (Ys.length-k) 0).getD k 0=o:=⟨_,rfl⟩;rw [hold] at hgc;obtain ⟨y,hy⟩:∃ y:Nat,Ys.getD k 0=y:=⟨_,rfl⟩;have W2:=hid (WN.out wr HA.out k hk);rw [hy] at W2;have HY:=qsd hy;clear hlen hold hy
    go_wp2_with fail
    refine W2.out.mono ?_;rintro r w2 ⟨rfl,rfl⟩;go_wp2
    go_roundg (gk-1)
    case measure=>omega
    case rel =>
     refine ⟨k+1,by omega,by first | go_num | (congr 1;omega),?_,HA.out.set _ _⟩
     rw [←part_set Ys k (by have:=HR.out.2.2.2.2;omega),HY.out]
     exact HM.out.set _ _
  · obtain rfl:k=m:=by omega
    go_wp2;go_ret;obtain ⟨hB1,hg,hYs,hYw,hlen⟩:=HR.out;have hO:=HM.out;rw [hlen,List.take_length,Nat.sub_self,List.replicate_zero,List.append_nil] at hO;have hN:=Nt.ofOwn hO (lo:=w.heap.size) (by omega) hYw (by unfold maxLen;omega)
    have e2:nl Ys=Ys.length:=by rw [←hYs];exact nl_ws _
    rw [e2,←hYs,val_ws] at hN;rw [hlen,←hYs];exact ⟨_,rfl,hN,But.below hB1 HA.out hB1.size (by omega)⟩
def DAns (lo:Nat) (w:World) (r:Ending) (o:Option (Bool×Nat×Int)):Prop :=
 ∃ v,r=.returned (.tuple #[.agg #[.bool (dN o),v,.int .i64 (dE o)],.int .i64 (erS o)])∧Nt lo w v (dX o)
theorem bcell {W w1:World}(hb:Below W.heap.size W w1):(∀ b o,b<W.heap.size→w1.cell? ⟨b,o,none⟩=W.cell? ⟨b,o,none⟩)∧(∀ b o,b<W.heap.size→w1.frozen? ⟨b,o,none⟩=W.frozen? ⟨b,o,none⟩) :=
 ⟨fun b o h=>hb.cell (p:=⟨b,o,none⟩) h,fun b o h=>hb.frozen (p:=⟨b,o,none⟩) h⟩
theorem ws_len_bl (X:Nat):(ws X).length=(bl X+31)/32:=by
 by_cases h:X=0
 · subst h;simp [ws_zero,bl_zero]
 · have h1:=len_bl X ((ws X).length-1) _ rfl
   have h2:=len_bl X (ws X).length _ rfl;have h3:(ws X).length≠0:=fun e=>h ((ws_len_zero X).1 e)
   omega
theorem mk_len (X:Nat) (h:X≠0):(bl X-lo X+31)/32=(ws (X/2^lo X)).length:=by
 obtain ⟨m,_,_,hb⟩:=odd_part X h;rw [ws_len_bl]
 congr 2
 omega
theorem set3_but (g:Nat) (w:World) (x y z:Value):But g w (((w.setCell ⟨g,0,none⟩ x).setCell ⟨g,1,none⟩ y).setCell ⟨g,2,none⟩ z):=(((But.refl g w).set _ _).set _ _).set _ _
theorem laid3 {w W1 w2:World}{v:Value}{Y:Nat}(hB:Below w.heap.size w W1) (hs:w.heap.size<W1.heap.size) (hN:Nt W1.heap.size w2 v Y) (hb:Below W1.heap.size W1 w2) (x y z:Value) :
 Nt w.heap.size (((w2.setCell ⟨w.heap.size,0,none⟩ x).setCell ⟨w.heap.size,1,none⟩ y).setCell ⟨w.heap.size,2,none⟩ z) v Y∧Below w.heap.size w (((w2.setCell ⟨w.heap.size,0,none⟩ x).setCell ⟨w.heap.size,1,none⟩ y).setCell ⟨w.heap.size,2,none⟩ z) :=
 ⟨(hN.but (set3_but _ _ _ _ _) hs).mono (by omega),But.below (hB.trans (hb.mono (by omega))) (set3_but _ _ _ _ _) (by have:=hb.size;omega) (Nat.le_refl _)⟩
theorem Make_any {w:World}{a:Option Addr}{n c:Nat}{xs:List Nat}(h1:Arg w a n c xs) (hT:Tab w) (neg:Bool) (e:Int) (he0:-9223372036854775808≤e) (he1:e≤9223372036854775807) :
 Calls Tryz.prog 105 #[.bool neg,.slice a n c,.int .i64 e] w fun r w'=>DAns w.heap.size w' r (mkS neg (val xs) e)∧Below w.heap.size w w':=by
 obtain ⟨W1,hW1⟩:∃ W,W=w.alloc (.cells #[.bool false,.slice none 0 0,.int .i64 0] 77):=⟨_,rfl⟩;have hB1:Below w.heap.size w W1:=by rw [hW1];exact (Below.refl _ _).alloc (Nat.le_refl _) _
 have A1:=h1.below hB1;have hT1:=hT.belows hB1;have hbig:=h1.big;have H1:=hid (len_any xs a n c W1.heap.size W1 A1.len A1.cap (by omega) A1.wf A1.rd)
 have H2:=hid (low_any xs a n c W1.heap.size W1 A1.len (by omega) A1.wf A1.rd hT1)
 have hbl:bl (val xs)≤32*n:=by
  have:=val_lt xs h1.wf;rw [←h1.len] at this;exact bl_pw _ _ this
 obtain ⟨X,hX⟩:∃ X,val xs=X:=⟨_,rfl⟩;rw [hX] at H1 H2 hbl ⊢;obtain ⟨b,hb⟩:∃ b,bl X=b:=⟨_,rfl⟩;obtain ⟨l,hl⟩:∃ l,lo X=l:=⟨_,rfl⟩;rw [hb] at H1 hbl;rw [hl] at H2;unfold mkS;rw [hb,hl]
 have hlb:l≤b:=by
  by_cases h0:X=0
  · subst h0;rw [lo_zero] at hl;omega
  · obtain ⟨m,_,_,hbb⟩:=odd_part X h0
    omega
 have HB:=qsd hB1;have SZ:W1.heap.size=w.heap.size+1:=by rw [hW1];simp
 by_cases h0:X=0
 · have hb0:b=0:=by rw [←hb,h0,bl_zero]
   subst hb0;rw [if_pos h0];clear hb hl hX h0 hB1 A1 hT1 hT h1 hlb hbl SZ;subst hW1;go_enter Tryz.func105,Tryz.ntmps105
   go_wp2_with fail
   refine H1.out.mono ?_;rintro r w1 ⟨rfl,rfl⟩
   go_wp2_with fail
   refine H2.out.mono ?_;rintro r w1 ⟨rfl,rfl⟩;go_wp2;refine bodyPost_ret (v:=.tuple #[.agg #[.bool false,.slice none 0 0,.int .i64 0],.int .i64 0]) (by simp [results,Tryz.results105,go_sem]) rfl ⟨⟨_,rfl,Nt.nil _ _⟩,HB.out⟩
 · rw [if_neg h0]
   have hb0:((b:Int)==0)=false:=by have:=bl_pos X h0;simp;omega
   have hOD:=odd_any A1 l b hlb (by omega) (by rw [hX,←hb,←hl];exact mk_len X h0)
   rw [hX] at hOD;have H3:=hid hOD
   by_cases h2:262144<b-l
   · rw [if_pos (.inl h2)]
     have h2':(262144:Int)<(b:Int)-l:=by omega
     clear hb hl hX h0 hB1 A1 hT1 hT h1 SZ H3 h2 hOD;subst hW1;go_enter Tryz.func105,Tryz.ntmps105
     go_wp2_with fail
     refine H1.out.mono ?_;rintro r w1 ⟨rfl,rfl⟩
     go_wp2_with fail
     refine H2.out.mono ?_;rintro r w1 ⟨rfl,rfl⟩;go_wp2;refine bodyPost_ret (v:=.tuple #[.agg #[.bool false,.slice none 0 0,.int .i64 0],.int .i64 2]) (by simp [results,Tryz.results105,go_sem]) rfl ⟨⟨_,rfl,Nt.nil _ _⟩,HB.out⟩
   · have h2':decide ((262144:Int)<(b:Int)-l)=false:=decide_eq_false (by omega)
     by_cases h3:1048576-(l:Int)<e
     · rw [if_pos (.inr (.inl h3))]
       clear hb hl hX h0 hB1 A1 hT1 hT h1 SZ H3 h2 hOD;subst hW1;go_enter Tryz.func105,Tryz.ntmps105
       go_wp2_with fail
       refine H1.out.mono ?_;rintro r w1 ⟨rfl,rfl⟩
       go_wp2_with fail
       refine H2.out.mono ?_;rintro r w1 ⟨rfl,rfl⟩;go_wp2;refine bodyPost_ret (v:=.tuple #[.agg #[.bool false,.slice none 0 0,.int .i64 0],.int .i64 2]) (by simp [results,Tryz.results105,go_sem]) rfl ⟨⟨_,rfl,Nt.nil _ _⟩,HB.out⟩
     · have h3':decide (1048576-(l:Int)<e)=false:=decide_eq_false h3
       by_cases h4:e < -1048576-(l:Int)
       · rw [if_pos (.inr (.inr h4))]
         clear hb hl hX h0 hB1 A1 hT1 hT h1 SZ H3 h2 hOD;subst hW1;go_enter Tryz.func105,Tryz.ntmps105
         go_wp2_with fail
         refine H1.out.mono ?_;rintro r w1 ⟨rfl,rfl⟩
         go_wp2_with fail
         refine H2.out.mono ?_;rintro r w1 ⟨rfl,rfl⟩;go_wp2;refine bodyPost_ret (v:=.tuple #[.agg #[.bool false,.slice none 0 0,.int .i64 0],.int .i64 2]) (by simp [results,Tryz.results105,go_sem]) rfl ⟨⟨_,rfl,Nt.nil _ _⟩,HB.out⟩
       · have h4':decide (e < -1048576-(l:Int))=false:=decide_eq_false h4
         rw [if_neg (by omega)]
         obtain ⟨Y,hY⟩:∃ Y,X/2^l=Y:=⟨_,rfl⟩;rw [hY] at H3 ⊢;have hs:(ws Y).length≤35184372088832:=by rw [←hY,←hl,←mk_len X h0];omega
         have h5:e+l≤1048576:=by omega
         have h6:-1048576≤e+l:=by omega
         clear hb hl hX h0 hB1 A1 hT1 hT h1 hOD h2 h3 h4;subst hW1;go_enter Tryz.func105,Tryz.ntmps105
         go_wp2_with fail
         refine H1.out.mono ?_;rintro r w1 ⟨rfl,rfl⟩
         go_wp2_with fail
         refine H2.out.mono ?_;rintro r w1 ⟨rfl,rfl⟩
         go_wp2_with fail
         refine H3.out.mono ?_;rintro r w2 ⟨v,rfl,hN,hb⟩;obtain ⟨a2,c2,rfl,_⟩:=hN.arg hs;obtain ⟨hc,hf⟩:=bcell hb;have HN:=(qsd (ai hN hb));have hz:=hb.size;clear hN hb;go_wp2;obtain ⟨q1,q2⟩:=laid3 HB.out (by simp) HN.out.1 HN.out.2 (.bool neg) (.slice a2 (ws Y).length c2) (.int .i64 (e+l))
         exact bodyPost_ret (v:=.tuple #[.agg #[.bool neg,.slice a2 (ws Y).length c2,.int .i64 (e+l)],.int .i64 0]) (by simp [results,Tryz.results105,go_sem,hc]) rfl ⟨⟨_,rfl,q1⟩,q2⟩
end
section
open Go.RowKit
attribute [local go_sem] B.f64bits B.f64frombits
theorem st_float {P:Program}{w:World}(a:Addr) (k:FloatKind) (n:Nat) (m:Mode):(store a (.float k n) m).run P w=stored P w a (.float k n) m:=run_store P w a _ m rfl
def oddW:Nat:=9221120237041090560
def nanW (z:Nat):Bool:=decide (9218868437227405312<z%9223372036854775808)
theorem bwz (z:Nat) (h:z<18446744073709551616):∃ s e f,e<2048∧f<4503599627370496∧z=B.bw s e f∧B.odd e f=nanW z:=by
 refine ⟨decide (9223372036854775808≤z),z%9223372036854775808/4503599627370496,z%4503599627370496,by omega,by omega,?_,?_⟩
 · unfold B.bw
   by_cases h1:9223372036854775808≤z
   · simp only [h1,decide_true,Bool.toNat_true];omega
   · simp only [h1,decide_false,Bool.toNat_false];omega
 · unfold B.odd nanW
   rw [Bool.eq_iff_iff];simp only [Bool.and_eq_true,beq_iff_eq,bne_iff_ne,ne_eq,decide_eq_true_eq];omega
theorem isNaN_w (z:Nat) (h:z<18446744073709551616) (w:World):Calls Tryz.prog 41 #[.float .f64 z] w fun r w'=>r=.returned (.bool (nanW z))∧w'=w:=by
 obtain ⟨s,e,f,he,hf,h1,h2⟩:=bwz z h;rw [←h2,h1];exact B.isNaN_any s e f he hf w
end
section
open Go.RowKit
def Fs (B:Nat) (w:World) (ao:Option Addr) (xs:List Nat):Prop :=
 xs≠[]→∃ b off,b<B∧ao=some ⟨b,off,none⟩∧∀ i,i<xs.length→w.cell? ⟨b,off+i,none⟩=some (.float .f64 (xs.getD i 0))
theorem Fs.at {B:Nat}{w w':World}{ao:Option Addr}{xs:List Nat}(h:Fs B w ao xs) (hb:Below B w w') (i:Nat) (hi:i<xs.length):∃ b off,ao=some ⟨b,off,none⟩∧w'.cell? ⟨b,off+i,none⟩=some (.float .f64 (xs.getD i 0)):=by
 obtain ⟨b,off,h1,h2,h3⟩:=h (by intro e;subst e;simp at hi)
 exact ⟨b,off,h2,(hb.cell (p:=⟨b,off+i,none⟩) h1).trans (h3 i hi)⟩
theorem Fs.below {B:Nat}{w w':World}{ao:Option Addr}{xs:List Nat}(h:Fs B w ao xs) (hb:Below B w w'):Fs B w' ao xs:=by
 intro hne;obtain ⟨b,off,h1,h2,h3⟩:=h hne;exact ⟨b,off,h1,h2,fun i hi=>(hb.cell (p:=⟨b,off+i,none⟩) h1).trans (h3 i hi)⟩
theorem Fs.mono {B B':Nat}{w:World}{ao:Option Addr}{xs:List Nat}(h:Fs B w ao xs) (hb:B≤B'):Fs B' w ao xs:=by
 intro hne;obtain ⟨b,off,h1,h2,h3⟩:=h hne;exact ⟨b,off,Nat.lt_of_lt_of_le h1 hb,h2,h3⟩
theorem Fs.cell {B:Nat}{w w':World}{b off:Nat}{xs:List Nat}(h:Fs B w (some ⟨b,off,none⟩) xs) (hb:Below B w w') (i:Nat) (hi:i<xs.length):w'.cell? ⟨b,off+i,none⟩=some (.float .f64 (xs.getD i 0)):=by
 obtain ⟨b',off',e,hc⟩:=h.at hb i hi
 cases e
 exact hc
theorem Fs.nil (B:Nat) (w:World) (ao:Option Addr):Fs B w ao []:=fun h=>absurd rfl h
def W64 (xs:List Nat):Prop:=∀ x ∈ xs,x<18446744073709551616
end
section
open Go.ChangeShapes Go.WideShapes Go.ChangeAt Go.RowKit
theorem trodF {H:Type}{enc:TypeId×Value→H}{P:Program}{w:World}{base:Nat}{spare:Nat→Bool}{held:Bool}{fuel:Nat}{t:TypeId}{cs:List Value}{x:DataW H×List MemPlace}{k:FloatKind}(ht:P.underlying t=some (.float k)) (h:DataW.trod enc P w base spare held fuel t cs=some x):∃ n,cs=[.float k n]∧x=(.lit (.float k n),[])∧(Lit.float k n).wf=true:=by
 cases fuel with
 | zero=>simp [DataW.trod] at h
 | succ m =>
   simp only [DataW.trod,ht] at h
   split at h <;> simp_all
structure CameF (w:World) (a:Option Addr) (n c:Nat) (xs:List Nat):Prop where
 len:n=xs.length
 cap:n≤c
 wf:W64 xs
 rd:Fs w.heap.size w a xs
 nil:a=none→c=0
theorem add_noneF (b off i:Nat):(⟨b,off,none⟩:Addr).add i=⟨b,off+i,none⟩:=by unfold Addr.add;split <;> simp_all
def numF {H:Type} (y:DataW H×List MemPlace):Nat:=match y.1 with | .lit (.float _ n)=>n | _=>0
theorem Tryz.cellsF:Tryz.prog.cellsOf 40=1:=by kernel_rfl
theorem Tryz.bytesF:Tryz.prog.bytesOf 40=8:=by kernel_rfl
theorem cameF_of {H:Type}{enc:TypeId×Value→H}{W:World}{a:Option Addr}{n c:Nat}{d:DataW H}{p:List MemPlace}(h:DataW.Trod enc Tryz.prog W 0 (fun _=>true) true 22 (.slice a n c) d p) :
 ∃ xs,CameF W a n c xs∧((d=.nil∧c=0)∨∃ elems spare:List (DataW H),d=.slice elems spare∧elems.length+spare.length=c):=by
 obtain ⟨fuel,hf⟩:=h
 rcases DataW.trod_slice Tryz.underlying22 hf with ⟨hcs,hx⟩|⟨x,l,cp,elems,rest,m,_,hcs,hx,hb,hl,hm,hlen,hel,hsp,hns⟩
 · simp [Value.cells] at hcs
   obtain ⟨rfl,rfl,rfl⟩:=hcs;exact ⟨[],⟨rfl,Nat.le_refl _,(fun x hx=>by cases hx),(fun h=>absurd rfl h),fun _=>rfl⟩,.inl ⟨(Prod.mk.inj hx).1,rfl⟩⟩
 · simp [Value.cells] at hcs
   obtain ⟨rfl,rfl,rfl⟩:=hcs
   have each:∀ i y,i<n→elems[i]?=some y→y=(.lit (.float .f64 (numF y)),[])∧(Lit.float .f64 (numF y)).wf=true∧W.cell? (x.add i)=some (.float .f64 (numF y)):=by
    intro i y hi hy;have hb':=hel i hi;rw [hy,Tryz.cellsF,Nat.mul_one,Option.bind_eq_some_iff] at hb';obtain ⟨cs',hcs,hy'⟩:=hb';obtain ⟨k,rfl,rfl,hw⟩:=trodF Tryz.underlying40 hy';exact ⟨rfl,hw,cell_of_cells?_one hcs⟩
   refine ⟨elems.map numF,⟨by simp [hlen],hl,?_,?_,fun e=>by cases e⟩,.inr ⟨_,_,(Prod.mk.inj hx).1,?_⟩⟩
   · intro y hy
     obtain ⟨z,hz,rfl⟩:=List.mem_map.1 hy;obtain ⟨i,hi⟩:=List.getElem?_of_mem hz;have hil:=(List.getElem?_eq_some_iff.1 hi).1;have:=(each i z (by omega) hi).2.1
     exact of_decide_eq_true this
   · intro hne
     obtain ⟨b,off,spot⟩:=x
     have hn0:0<n:=by
      rcases Nat.eq_zero_or_pos n with h0|h0
      · rw [h0] at hlen;have:=List.eq_nil_of_length_eq_zero hlen;subst this;simp at hne
      · exact h0
     have hc0:=(each 0 (elems[0]'(by omega)) hn0 (List.getElem?_eq_getElem _)).2.2
     have hspot:spot=none:=by simpa [Addr.add] using World.cell?_spot hc0
     subst hspot;refine ⟨b,off,World.block_lt_of_cell? W _ (by simpa [Addr.add] using hc0),rfl,fun i hi=>?_⟩
     rw [List.length_map] at hi;have hadd:=add_noneF b off i;have:=(each i (elems[i]'hi) (by omega) (List.getElem?_eq_getElem _)).2.2
     rw [hadd] at this;rw [this];simp [List.getD_eq_getElem?_getD,hi]
   · have hr:=(hsp rfl).1
     simp only [List.length_map];omega
theorem cameF_reach {H:Type}{ts:List TypeId}{ds:List (DataW H)}(h:(DataW.weightsEach Tryz.prog ts ds).all (·≤reachBytes)=true) {j:Nat}{d:DataW H}{c n:Nat}(ht:ts[j]?=some 22) (hd:ds[j]?=some d) (hn:n≤c)
 (hc:(d=.nil∧c=0)∨∃ elems spare:List (DataW H),d=.slice elems spare∧elems.length+spare.length=c):n≤17592186043904:=by
 rcases hc with ⟨_,rfl⟩|⟨elems,spare,rfl,hl⟩
 · omega
 · have:=sized_slice h ht hd Tryz.underlying22
   rw [Tryz.bytesF,hl] at this;simp only [reachBytes] at this;omega
end
section
def sw (L:List Nat) (i j:Nat):List Nat:=(L.set i (L.getD j 0)).set j (L.getD i 0)
theorem sw_len (L:List Nat) (i j:Nat):(sw L i j).length=L.length:=by unfold sw;simp
theorem sw_get {L:List Nat}{i j:Nat}(hi:i<L.length) (hj:j<L.length) (k:Nat):(sw L i j).getD k 0=if k=j then L.getD i 0 else if k=i then L.getD j 0 else L.getD k 0:=by
 unfold sw;simp only [List.getD_eq_getElem?_getD,List.getElem?_set,List.length_set]
 by_cases h1:k=j
 · subst h1;simp [hj]
 · rw [if_neg (fun h=>h1 h.symm),if_neg h1]
   by_cases h2:k=i
   · subst h2;simp [hi]
   · rw [if_neg (fun h=>h2 h.symm),if_neg h2]
theorem sw_perm {L:List Nat}{i j:Nat}(hi:i<L.length) (hj:j<L.length):(sw L i j).Perm L:=by
 unfold sw;have e1:L.getD i 0=L[i]:=by rw [List.getD_eq_getElem?_getD,List.getElem?_eq_getElem hi];rfl
 have e2:L.getD j 0=L[j]:=by rw [List.getD_eq_getElem?_getD,List.getElem?_eq_getElem hj];rfl
 rw [e1,e2];exact List.set_set_perm hi hj
structure Pm (a b:Nat) (L L':List Nat):Prop where
 len:L'.length=L.length
 perm:L'.Perm L
 out:∀ k,k<a∨b≤k→L'.getD k 0=L.getD k 0
 inn:∀ k,a≤k→k<b→∃ j,a≤j∧j<b∧L'.getD k 0=L.getD j 0
theorem Pm.refl (a b:Nat) (L:List Nat):Pm a b L L:=⟨rfl,List.Perm.refl _,fun _ _=>rfl,fun k h1 h2=>⟨k,h1,h2,rfl⟩⟩
theorem Pm.trans {a b:Nat}{L M N:List Nat}(h:Pm a b L M) (g:Pm a b M N):Pm a b L N :=
 ⟨g.len.trans h.len,g.perm.trans h.perm,fun k hk=>(g.out k hk).trans (h.out k hk),fun k h1 h2=>by
  obtain ⟨j,j1,j2,j3⟩:=g.inn k h1 h2;obtain ⟨i,i1,i2,i3⟩:=h.inn j j1 j2;exact ⟨i,i1,i2,j3.trans i3⟩⟩
theorem Pm.mono {a b c d:Nat}{L M:List Nat}(h:Pm a b L M) (h1:c≤a) (h2:b≤d):Pm c d L M :=
 ⟨h.len,h.perm,fun k hk=>h.out k (by omega),fun k k1 k2=>by
  by_cases q:a≤k∧k<b
  · obtain ⟨j,j1,j2,j3⟩:=h.inn k q.1 q.2
    exact ⟨j,by omega,by omega,j3⟩
  · exact ⟨k,k1,k2,h.out k (by omega)⟩⟩
theorem Pm.swap {a b i j:Nat}{L:List Nat}(hb:b≤L.length) (i1:a≤i) (i2:i<b) (j1:a≤j) (j2:j<b):Pm a b L (sw L i j):=by
 refine ⟨sw_len _ _ _,sw_perm (by omega) (by omega),fun k hk=>?_,fun k k1 k2=>?_⟩
 · rw [sw_get (by omega) (by omega),if_neg (by omega),if_neg (by omega)]
 · rw [sw_get (by omega) (by omega)]
   by_cases h1:k=j
   · rw [if_pos h1];exact ⟨i,i1,i2,rfl⟩
   · rw [if_neg h1]
     by_cases h2:k=i
     · rw [if_pos h2];exact ⟨j,j1,j2,rfl⟩
     · rw [if_neg h2];exact ⟨k,k1,k2,rfl⟩
def ky (K:Nat→Nat) (L:List Nat) (k:Nat):Nat:=K (L.getD k 0)
def Up (K:Nat→Nat) (a b:Nat) (L:List Nat):Prop:=∀ i j,a≤i→i<j→j<b→ky K L i≤ky K L j
structure Ins (K:Nat→Nat) (a i j:Nat) (L:List Nat):Prop where
 aj:a≤j
 ji:j≤i
 up:∀ x y,a≤x→x<y→y≤i→x≠j→y≠j→ky K L x≤ky K L y
 hi:∀ y,j<y→y≤i→ky K L j≤ky K L y
theorem Ins.start {K:Nat→Nat}{a i:Nat}{L:List Nat}(h:Up K a i L) (ha:a≤i):Ins K a i i L :=
 ⟨ha,Nat.le_refl _,fun x y h1 h2 h3 h4 h5=>h x y h1 h2 (by omega),fun y h1 h2=>absurd h1 (by omega)⟩
theorem Ins.step {K:Nat→Nat}{a i j:Nat}{L:List Nat}(h:Ins K a i j L) (hl:i<L.length) (hj:a<j) (hlt:ky K L j<ky K L (j-1)):Ins K a i (j-1) (sw L j (j-1)):=by
 have:=h.ji
 have g:∀ k,ky K (sw L j (j-1)) k=if k=j-1 then ky K L j else if k=j then ky K L (j-1) else ky K L k:=fun k=>by
  unfold ky;rw [sw_get (by omega) (by omega)]
  split
  · rfl
  · split <;> rfl
 refine ⟨by omega,by omega,fun x y h1 h2 h3 h4 h5=>?_,fun y h1 h2=>?_⟩
 · rw [g,g,if_neg h4,if_neg h5]
   by_cases q1:x=j
   · rw [if_pos q1,if_neg (by omega)]
     exact h.up (j-1) y (by omega) (by omega) h3 (by omega) (by omega)
   · rw [if_neg q1]
     by_cases q2:y=j
     · rw [if_pos q2]
       exact h.up x (j-1) h1 (by omega) (by omega) q1 (by omega)
     · rw [if_neg q2];exact h.up x y h1 h2 h3 q1 q2
 · rw [g,g,if_pos rfl,if_neg (by omega)]
   by_cases q:y=j
   · rw [if_pos q];omega
   · rw [if_neg q];exact h.hi y (by omega) h2
theorem Ins.done {K:Nat→Nat}{a i j:Nat}{L:List Nat}(h:Ins K a i j L) (hs:j=a∨ky K L (j-1)≤ky K L j):Up K a (i+1) L:=by
 intro x y h1 h2 h3;have:=h.aj
 by_cases q1:x=j
 · rw [q1];exact h.hi y (by omega) (by omega)
 · by_cases q2:y=j
   · rw [q2]
     rcases hs with e|e
     · omega
     · by_cases q3:x=j-1
       · rw [q3];exact e
       · have:=h.up x (j-1) h1 (by omega) (by have:=h.ji;omega) q1 (by omega)
         omega
   · exact h.up x y h1 h2 (by omega) q1 q2
def Hp (K:Nat→Nat) (f lo hi:Nat) (L:List Nat):Prop:=∀ c,0<c→c<hi→lo≤(c-1)/2→ky K L (f+c)≤ky K L (f+(c-1)/2)
structure Sf (K:Nat→Nat) (f lo hi r:Nat) (L:List Nat):Prop where
 ge:lo≤r
 hp:∀ c,0<c→c<hi→lo≤(c-1)/2→(c-1)/2≠r→ky K L (f+c)≤ky K L (f+(c-1)/2)
 pr:0<r→lo≤(r-1)/2→∀ c,0<c→c<hi→(c-1)/2=r→ky K L (f+c)≤ky K L (f+(r-1)/2)
theorem Sf.start {K:Nat→Nat}{f lo hi:Nat}{L:List Nat}(h:Hp K f (lo+1) hi L):Sf K f lo hi lo L :=
 ⟨Nat.le_refl _,fun c h1 h2 h3 h4=>h c h1 h2 (by omega),fun h1 h2=>by omega⟩
theorem Sf.done {K:Nat→Nat}{f lo hi r:Nat}{L:List Nat}(h:Sf K f lo hi r L) (hs:∀ c,0<c→c<hi→(c-1)/2=r→ky K L (f+c)≤ky K L (f+r)):Hp K f lo hi L:=by
 intro c h1 h2 h3
 by_cases q:(c-1)/2=r
 · rw [q];exact hs c h1 h2 q
 · exact h.hp c h1 h2 h3 q
theorem Sf.step {K:Nat→Nat}{f lo hi r d:Nat}{L:List Nat}(h:Sf K f lo hi r L) (hl:f+hi≤L.length) (hd:d=2*r+1∨d=2*r+2) (hdh:d<hi) (hlt:ky K L (f+r)<ky K L (f+d)) (hmax:∀ c,0<c→c<hi→(c-1)/2=r→ky K L (f+c)≤ky K L (f+d)):Sf K f lo hi d (sw L (f+r) (f+d)):=by
 have g:∀ k,ky K (sw L (f+r) (f+d)) (f+k)=if k=d then ky K L (f+r) else if k=r then ky K L (f+d) else ky K L (f+k):=fun k=>by
  unfold ky;rw [sw_get (by omega) (by omega)]
  by_cases q:k=d
  · rw [if_pos (by omega),if_pos q]
  · rw [if_neg (by omega),if_neg q]
    by_cases q2:k=r
    · rw [if_pos (by omega),if_pos q2]
    · rw [if_neg (by omega),if_neg q2]
 have hge:=h.ge;refine ⟨by omega,fun c h1 h2 h3 h4=>?_,fun h1 h2 c c1 c2 c3=>?_⟩
 · rw [g,g,if_neg h4]
   by_cases q1:c=d
   · rw [if_pos q1,if_pos (by omega)];omega
   · rw [if_neg q1]
     by_cases q2:c=r
     · rw [if_pos q2,if_neg (by omega)]
       have:=h.pr (by omega) (by omega) d (by omega) hdh (by omega)
       rw [q2];exact this
     · rw [if_neg q2]
       by_cases q3:(c-1)/2=r
       · rw [if_pos q3];exact hmax c h1 h2 q3
       · rw [if_neg q3];exact h.hp c h1 h2 h3 q3
 · rw [g,g,if_neg (by omega),if_neg (by omega),if_neg (by omega),if_pos (by omega)]
   have:=h.hp c c1 c2 (by omega) (by omega)
   rw [c3] at this;exact this
theorem Hp.top {K:Nat→Nat}{f hi:Nat}{L:List Nat}(h:Hp K f 0 hi L):∀ c,c<hi→ky K L (f+c)≤ky K L f:=by
 intro c
 induction c using Nat.strongRecOn with
 | _ c ih =>
   intro hc
   by_cases q:c=0
   · rw [q];exact Nat.le_refl _
   · have h1:=h c (by omega) hc (Nat.zero_le _)
     have h2:=ih ((c-1)/2) (by omega) (by omega)
     omega
end
section
open Go.RowKit J
def Iw15 (n:Nat):Value:=.int .i64 (n:Nat)
def OwnI (w:World) (g:Nat) (L:List Nat):Prop:=w.heap[g]?=some (.cells (L.map Iw15).toArray 3 (0,0))
theorem OwnI.lt {w:World}{g:Nat}{L:List Nat}(h:OwnI w g L):g<w.heap.size:=(Array.getElem?_eq_some_iff.1 h).1
theorem OwnI.cell {w:World}{g:Nat}{L:List Nat}(h:OwnI w g L) (i:Nat) (hi:i<L.length):w.cell? ⟨g,i,none⟩=some (.int .i64 ((L.getD i 0:Nat):Int)):=by
 unfold OwnI at h;simp [World.cell?,h,Iw15,hi]
theorem OwnI.frozen {w:World}{g:Nat}{L:List Nat}(h:OwnI w g L) (i:Nat):w.frozen? ⟨g,i,none⟩=false:=by
 unfold OwnI at h;simp [World.frozen?,h]
theorem OwnI.set {w:World}{g:Nat}{L:List Nat}(h:OwnI w g L) (i x:Nat):OwnI (w.setCell ⟨g,i,none⟩ (.int .i64 (x:Nat))) g (L.set i x):=by
 unfold OwnI at h ⊢;simp only [World.setCell,Array.getElem?_modify,h];simp [Iw15,List.map_set]
theorem OwnI.below {w w':World}{g B:Nat}{L:List Nat}(h:OwnI w g L) (hb:Below B w w') (hg:g<B):OwnI w' g L:=by
 unfold OwnI at h ⊢;rw [hb.block g hg];exact h
theorem OwnI.sw {w:World}{g:Nat}{L:List Nat}(h:OwnI w g L) (i j:Nat):OwnI ((w.setCell ⟨g,i,none⟩ (.int .i64 (L.getD j 0:Nat))).setCell ⟨g,j,none⟩ (.int .i64 (L.getD i 0:Nat))) g (sw L i j):=(h.set i _).set j _
theorem But.of_bel15 {g:Nat}{a w w':World}(h:But g a w) (hb:Below w.heap.size w w'):But g a w':=h.trans ⟨hb.os,hb.tape,hb.output,hb.size,fun k hk _=>hb.block k hk⟩
def Cmp15 (K:Nat→Nat) (n g:Nat) (recv:Value) (w:World):Prop:=∀ (u:World) (x y:Nat),But g w u→x<n→y<n→∃ c:Int,(c<0↔K x<K y)∧Calls Tryz.prog 49 #[recv,.int .i64 (x:Nat),.int .i64 (y:Nat)] u fun r w'=>r=.returned (.int .i64 c)∧Below u.heap.size u w'
end
section
structure H2 (K:Nat→Nat) (f hi m:Nat) (L:List Nat):Prop where
 le:m≤hi
 hp:Hp K f 0 m L
 bt:∀ x y,x<m→m≤y→y<hi→ky K L (f+x)≤ky K L (f+y)
 up:Up K (f+m) (f+hi) L
theorem H2.start {K:Nat→Nat}{f hi:Nat}{L:List Nat}(h:Hp K f 0 hi L):H2 K f hi hi L :=
 ⟨Nat.le_refl _,h,fun x y h1 h2 h3=>by omega,fun i j h1 h2 h3=>by omega⟩
theorem ky_sw {K:Nat→Nat}{L:List Nat}{i j:Nat}(hi:i<L.length) (hj:j<L.length) (k:Nat):ky K (sw L i j) k=if k=j then ky K L i else if k=i then ky K L j else ky K L k:=by
 unfold ky;rw [sw_get hi hj]
 split
 · rfl
 · split <;> rfl
theorem H2.mid {K:Nat→Nat}{f hi m:Nat}{L:List Nat}(h:H2 K f hi (m+1) L) (hl:f+hi≤L.length):Hp K f 1 m (sw L f (f+m)):=by
 have:=h.le;intro c h1 h2 h3;rw [ky_sw (by omega) (by omega),ky_sw (by omega) (by omega),if_neg (by omega),if_neg (by omega),if_neg (by omega),if_neg (by omega)]
 exact h.hp c h1 (by omega) (Nat.zero_le _)
theorem H2.step {K:Nat→Nat}{f hi m:Nat}{L L':List Nat}(h:H2 K f hi (m+1) L) (hl:f+hi≤L.length) (hP:Pm f (f+m) (sw L f (f+m)) L') (hH:Hp K f 0 m L'):H2 K f hi m L':=by
 have hle:=h.le;have top:=h.hp.top;have e:∀ k,f+m≤k→ky K L' k=ky K (sw L f (f+m)) k:=fun k hk=>by unfold ky;rw [hP.out k (.inr hk)]
 have s:∀ k,ky K (sw L f (f+m)) k=if k=f+m then ky K L f else if k=f then ky K L (f+m) else ky K L k:=ky_sw (by omega) (by omega)
 have em:ky K L' (f+m)=ky K L f:=by rw [e _ (Nat.le_refl _),s,if_pos rfl]
 have eo:∀ k,f+m<k→ky K L' k=ky K L k:=fun k hk=>by rw [e _ (by omega),s,if_neg (by omega),if_neg (by omega)]
 have inn:∀ x,x<m→∃ j,j<m+1∧ky K L' (f+x)=ky K L (f+j):=fun x hx=>by
  obtain ⟨j,j1,j2,j3⟩:=hP.inn (f+x) (by omega) (by omega)
  have:ky K L' (f+x)=ky K (sw L f (f+m)) j:=by unfold ky;rw [j3]
  rw [this,s,if_neg (by omega)]
  by_cases q:j=f
  · rw [if_pos q];exact ⟨m,by omega,rfl⟩
  · rw [if_neg q];exact ⟨j-f,by omega,by rw [show f+(j-f)=j by omega]⟩
 refine ⟨by omega,hH,fun x y h1 h2 h3=>?_,fun i j h1 h2 h3=>?_⟩
 · obtain ⟨j,j1,j2⟩:=inn x h1
   rw [j2]
   by_cases q:y=m
   · rw [q,em];exact top j j1
   · rw [eo _ (by omega)];exact h.bt j y j1 (by omega) h3
 · rw [eo j (by omega)]
   by_cases q:i=f+m
   · rw [q,em]
     have:=h.bt 0 (j-f) (by omega) (by omega) (by omega)
     rw [show f+(j-f)=j by omega] at this
     exact this
   · rw [eo i (by omega)];exact h.up i j (by omega) h2 h3
theorem H2.done {K:Nat→Nat}{f hi:Nat}{L:List Nat}(h:H2 K f hi 0 L):Up K f (f+hi) L:=h.up
structure Pt (K:Nat→Nat) (a b i j:Nat) (p:Nat) (L:List Nat):Prop where
 ai:a<i
 jb:j<b
 ij:i≤j+1
 pv:ky K L a=p
 lo:∀ k,a<k→k<i→ky K L k<p
 hi:∀ k,j<k→k<b→p≤ky K L k
theorem Pt.start {K:Nat→Nat}{a b q:Nat}{L:List Nat}(hb:b≤L.length) (hab:a+1<b) (q1:a≤q) (q2:q<b):Pt K a b (a+1) (b-1) (ky K L q) (sw L a q):=by
 refine ⟨by omega,by omega,by omega,?_,fun k h1 h2=>by omega,fun k h1 h2=>by omega⟩
 rw [ky_sw (by omega) (by omega)]
 by_cases e:a=q
 · rw [if_pos e,e]
 · rw [if_neg e,if_pos rfl]
theorem Pt.right {K:Nat→Nat}{a b i j p:Nat}{L:List Nat}(h:Pt K a b i j p L) (hij:i≤j) (hlt:ky K L i<ky K L a):Pt K a b (i+1) j p L:=by
 have:=h.ai;refine ⟨by omega,h.jb,by omega,h.pv,fun k h1 h2=>?_,h.hi⟩
 by_cases e:k=i
 · rw [e,←h.pv];exact hlt
 · exact h.lo k h1 (by omega)
theorem Pt.left {K:Nat→Nat}{a b i j p:Nat}{L:List Nat}(h:Pt K a b i j p L) (hij:i≤j) (hge:ky K L a≤ky K L j):Pt K a b i (j-1) p L:=by
 have:=h.ai;have:=h.jb;refine ⟨h.ai,by omega,by omega,h.pv,h.lo,fun k h1 h2=>?_⟩
 by_cases e:k=j
 · rw [e,←h.pv];exact hge
 · exact h.hi k (by omega) h2
theorem Pt.swap {K:Nat→Nat}{a b i j p:Nat}{L:List Nat}(h:Pt K a b i j p L) (hb:b≤L.length) (hij:i≤j) (h1:ky K L a≤ky K L i) (h2:ky K L j<ky K L a):Pt K a b (i+1) (j-1) p (sw L i j):=by
 have a1:=h.ai;have a2:=h.jb;have hne:i≠j:=fun e=>by rw [e] at h1;omega
 have s:∀ k,ky K (sw L i j) k=if k=j then ky K L i else if k=i then ky K L j else ky K L k:=ky_sw (by omega) (by omega)
 have hp:=h.pv;refine ⟨by omega,by omega,by omega,?_,fun k k1 k2=>?_,fun k k1 k2=>?_⟩
 · rw [s,if_neg (by omega),if_neg (by omega)];exact hp
 · rw [s,if_neg (by omega)]
   by_cases e:k=i
   · rw [if_pos e,←hp];exact h2
   · rw [if_neg e];exact h.lo k k1 (by omega)
 · rw [s]
   by_cases e:k=j
   · rw [if_pos e,←hp];exact h1
   · rw [if_neg e,if_neg (by omega)];exact h.hi k (by omega) k2
structure Prt (K:Nat→Nat) (a b m:Nat) (L:List Nat):Prop where
 am:a≤m
 mb:m<b
 lo:∀ k,a≤k→k<m→ky K L k≤ky K L m
 hi:∀ k,m<k→k<b→ky K L m≤ky K L k
theorem Pt.done {K:Nat→Nat}{a b i j p:Nat}{L:List Nat}(h:Pt K a b i j p L) (hb:b≤L.length) (hij:j<i):Prt K a b j (sw L j a):=by
 have a1:=h.ai;have a2:=h.jb;have a3:=h.ij;have s:∀ k,ky K (sw L j a) k=if k=a then ky K L j else if k=j then ky K L a else ky K L k:=ky_sw (by omega) (by omega)
 have hm:ky K (sw L j a) j=p:=by
  rw [s]
  by_cases e:j=a
  · rw [if_pos e,e];exact h.pv
  · rw [if_neg e,if_pos rfl];exact h.pv
 refine ⟨by omega,by omega,fun k k1 k2=>?_,fun k k1 k2=>?_⟩
 · rw [hm,s]
   by_cases e:k=a
   · rw [if_pos e];exact Nat.le_of_lt (h.lo j (by omega) (by omega))
   · rw [if_neg e,if_neg (by omega)];exact Nat.le_of_lt (h.lo k (by omega) (by omega))
 · rw [hm,s,if_neg (by omega),if_neg (by omega)];exact h.hi k k1 k2
theorem Prt.left {K:Nat→Nat}{a b m:Nat}{L L':List Nat}(h:Prt K a b m L) (hP:Pm a m L L'):Prt K a b m L':=by
 have em:ky K L' m=ky K L m:=by unfold ky;rw [hP.out m (.inr (Nat.le_refl _))]
 refine ⟨h.am,h.mb,fun k k1 k2=>?_,fun k k1 k2=>?_⟩
 · obtain ⟨j,j1,j2,j3⟩:=hP.inn k k1 k2
   rw [em,show ky K L' k=ky K L j by unfold ky;rw [j3]]
   exact h.lo j j1 j2
 · rw [em,show ky K L' k=ky K L k by unfold ky;rw [hP.out k (.inr (by omega))]]
   exact h.hi k k1 k2
theorem Prt.right {K:Nat→Nat}{a b m:Nat}{L L':List Nat}(h:Prt K a b m L) (hP:Pm (m+1) b L L'):Prt K a b m L':=by
 have em:ky K L' m=ky K L m:=by unfold ky;rw [hP.out m (.inl (by omega))]
 refine ⟨h.am,h.mb,fun k k1 k2=>?_,fun k k1 k2=>?_⟩
 · rw [em,show ky K L' k=ky K L k by unfold ky;rw [hP.out k (.inl (by omega))]]
   exact h.lo k k1 k2
 · obtain ⟨j,j1,j2,j3⟩:=hP.inn k (by omega) k2
   rw [em,show ky K L' k=ky K L j by unfold ky;rw [j3]]
   exact h.hi j (by omega) j2
theorem Prt.up {K:Nat→Nat}{a b m:Nat}{L:List Nat}(h:Prt K a b m L) (h1:Up K a m L) (h2:Up K (m+1) b L):Up K a b L:=by
 intro i j hi hij hj
 by_cases q1:j<m
 · exact h1 i j hi hij q1
 · by_cases q2:m<i
   · exact h2 i j (by omega) hij hj
   · have e1:ky K L i≤ky K L m:=by
      by_cases q:i=m
      · rw [q];exact Nat.le_refl _
      · exact h.lo i hi (by omega)
     have e2:ky K L m≤ky K L j:=by
      by_cases q:j=m
      · rw [q];exact Nat.le_refl _
      · exact h.hi j (by omega) hj
     omega
theorem Up.out {K:Nat→Nat}{a b c d:Nat}{L L':List Nat}(h:Up K a b L) (hP:Pm c d L L') (hd:b≤c∨d≤a):Up K a b L':=by
 intro i j h1 h2 h3;rw [show ky K L' i=ky K L i by unfold ky;rw [hP.out i (by omega)],show ky K L' j=ky K L j by unfold ky;rw [hP.out j (by omega)]]
 exact h i j h1 h2 h3
def Fl (K:Nat→Nat) (a b:Nat) (L:List Nat):Prop:=0<a→∀ k,a≤k→k<b→ky K L (a-1)<ky K L k
theorem Fl.pm {K:Nat→Nat}{a b:Nat}{L L':List Nat}(h:Fl K a b L) (hP:Pm a b L L'):Fl K a b L':=by
 intro ha k k1 k2;obtain ⟨j,j1,j2,j3⟩:=hP.inn k k1 k2;rw [show ky K L' (a-1)=ky K L (a-1) by unfold ky;rw [hP.out (a-1) (.inl (by omega))],show ky K L' k=ky K L j by unfold ky;rw [j3]]
 exact h ha j j1 j2
theorem Fl.left {K:Nat→Nat}{a b m:Nat}{L:List Nat}(h:Fl K a b L) (hm:m≤b):Fl K a m L:=fun ha k k1 k2=>h ha k k1 (by omega)
theorem Prt.fl {K:Nat→Nat}{a b m:Nat}{L:List Nat}(h:Prt K a b m L) (hn:∀ i j,i<b→j<b→i≠j→ky K L i≠ky K L j):Fl K (m+1) b L:=fun _ k k1 k2=>by
 have h1:=h.hi k (by omega) k2
 have h2:=hn m k (by omega) k2 (by omega)
 rw [show m+1-1=m by omega]
 omega
end
end Go.Proofs.YtihjfhpoiheomaaGreatDoor
