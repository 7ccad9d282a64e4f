import Derived.Test.YtaofncmoehebmaaDoorW14x
import Derived.Test.YtaofncmoehebmaaDoorBIeeex
import Derived.Laws.StructEq
import Derived.Deep.RegionWith
import Derived.BigQuiet
import Derived.Deep.RegionHeld3
import Derived.Deep.Cut
import Derived.Laws.FloatArith
set_option linter.unusedVariables false
set_option linter.unusedSimpArgs false
set_option maxHeartbeats 16000000
set_option maxRecDepth 20000
namespace Go.Proofs.YtaofncmoehebmaaDoor
section
open Go.RowKit
theorem ws_getD (Y i:Nat):(ws Y).getD i 0=Y/pw i%4294967296:=by
 induction i generalizing Y with
 | zero =>
   by_cases h:Y=0
   · subst h;simp [ws_zero]
   · rw [ws_pos Y h,pw_zero];simp
 | succ i ih =>
   by_cases h:Y=0
   · subst h;simp [ws_zero]
   · rw [ws_pos Y h,pw_succ,←Nat.div_div_eq_div_mul,←ih]
     simp
theorem win_word (X low i:Nat):win X ((low:Int)+32*(i:Int))=(ws (X/2^low)).getD i 0:=by
 rw [ws_getD,Nat.div_div_eq_div_mul];unfold win;rw [if_neg (by omega),show ((low:Int)+32*(i:Int)).toNat=low+32*i by omega,Nat.pow_add,Nat.pow_mul]
 rfl
theorem part_set (Ys:List Nat) (k:Nat) (hk:k<Ys.length) :
 (Ys.take k++List.replicate (Ys.length-k) 0).set k (Ys.getD k 0)=Ys.take (k+1)++List.replicate (Ys.length-(k+1)) 0:=by
 apply List.ext_getElem?
 intro j;rw [List.getElem?_set]
 by_cases hj:k=j
 · subst hj
   rw [if_pos rfl,if_pos (by simp;omega),List.getElem?_append_left (by simp;omega)]
   simp [List.getD_eq_getElem?_getD,hk]
 · rw [if_neg hj]
   by_cases h1:j<k
   · rw [List.getElem?_append_left (by simp;omega),List.getElem?_append_left (by simp;omega)]
     simp [h1,show j<k+1 by omega]
   · rw [List.getElem?_append_right (by simp;omega),List.getElem?_append_right (by simp;omega)]
     simp only [List.getElem?_replicate,List.length_take]
     congr 1
     simp only [eq_iff_iff];omega
theorem odd_any {w:World}{a:Option Addr}{n c:Nat}{xs:List Nat}(h1:Arg w a n c xs) (low size:Nat) (hle:low≤size) (hsz:size≤1125899906842624) (hlen:(size-low+31)/32=(ws (val xs/2^low)).length) :
 Calls Tryd.prog 58 #[.slice a n c,.int .i64 (low:Nat),.int .i64 (size:Nat)] w fun r w'=>∃ v,r=.returned v∧Nt w.heap.size w' v (val xs/2^low)∧Below w.heap.size w w':=by
 obtain ⟨m,hm⟩:∃ m,m=(size-low+31)/32:=⟨_,rfl⟩;rw [←hm] at hlen;have e1:((size:Int)-low+32-1)/32=(m:Int):=by omega
 have hmb:m≤35184372088832:=by omega
 obtain ⟨W1,hW1⟩:∃ W,W=w.alloc (.cells (madeCells #[.int .u32 0] m) 43):=⟨_,rfl⟩;have hO1:Own W1 w.heap.size (List.replicate m 0):=by rw [hW1];exact Own.made w m
 have hB1:Below w.heap.size w W1:=by rw [hW1];exact (Below.refl _ _).alloc (Nat.le_refl _) _
 have hmk:=make_words (m:Int) m rfl (by omega) w
 rw [←hW1] at hmk;have A1:=h1.below hB1;obtain ⟨g,hg⟩:∃ g,g=w.heap.size:=⟨_,rfl⟩;rw [←hg] at hO1 hmk;obtain ⟨Ys,hYs⟩:∃ Ys,ws (val xs/2^low)=Ys:=⟨_,rfl⟩;have hYw:Wf Ys:=hYs ▸ wf_ws _;rw [hYs] at hlen
 have WN:Hid (∀ wr,But g W1 wr→∀ i:Nat,i<m→Calls Tryd.prog 72 #[.slice a n c,.int .i64 ((low:Int)+32*(i:Int))] wr fun r w'=>r=.returned (.int .u32 ((Ys.getD i 0:Nat):Int))∧w'=wr):=by
  intro wr hb i hi;have hR:Rd w.heap.size wr a xs:=(h1.rd.below hB1).but hb (by rw [hg] at *;have:=hB1.size;omega) (by omega)
  have:=window_any xs a n c w.heap.size ((low:Int)+32*(i:Int)) wr h1.len (by have:=h1.big;omega) h1.wf hR (by omega) (by omega)
  rw [win_word,hYs] at this;exact this
 have HR:=(qsd (ai hB1 (ai hg (ai hYs (ai hYw hlen)))))
 have HO:Hid (Own W1 g (Ys.take 0++List.replicate (Ys.length-0) 0)):=by
  rw [←hlen];exact hid (by simpa using hO1)
 clear hm h1 hO1 hB1 A1 hg hYs hYw hW1 hlen;go_enter Tryd.func58,Tryd.ntmps58;go_wp2
 go_loopg [18] m (fun gk iv wr=>∃ (k:Nat),gk+k=m∧iv=.int .i64 (k:Nat)∧Hid (Own wr g (Ys.take k++List.replicate (Ys.length-k) 0))∧Aside (But g W1 wr))
 case atStart=>exact ⟨0,by omega,rfl,HO,But.refl _ _⟩
 case round =>
  clear HO e1;obtain ⟨k,hgk,rfl,HM,HA⟩:=hrel
  by_cases hk:k<m
  · have hlen:=HR.out.2.2.2.2
    have hgc:=HM.out.cell k (by simp;omega)
    have hgf:=HM.out.frozen k;obtain ⟨old,hold⟩:∃ o:Nat,(Ys.take k++List.replicate (Ys.length-k) 0).getD k 0=o:=⟨_,rfl⟩;rw [hold] at hgc;obtain ⟨y,hy⟩:∃ y:Nat,Ys.getD k 0=y:=⟨_,rfl⟩;have W2:=hid (WN.out wr HA.out k hk);rw [hy] at W2;have HY:=qsd hy;clear hlen hold hy
    go_wp2_with fail
    refine W2.out.mono ?_;rintro r w2 ⟨rfl,rfl⟩;go_wp2
    go_roundg (gk-1)
    case measure=>omega
    case rel =>
     refine ⟨k+1,by omega,by first | go_num | (congr 1;omega),?_,HA.out.set _ _⟩
     rw [←part_set Ys k (by have:=HR.out.2.2.2.2;omega),HY.out]
     exact HM.out.set _ _
  · obtain rfl:k=m:=by omega
    go_wp2;go_ret;obtain ⟨hB1,hg,hYs,hYw,hlen⟩:=HR.out;have hO:=HM.out;rw [hlen,List.take_length,Nat.sub_self,List.replicate_zero,List.append_nil] at hO;have hN:=Nt.ofOwn hO (lo:=w.heap.size) (by omega) hYw (by unfold maxLen;omega)
    have e2:nl Ys=Ys.length:=by rw [←hYs];exact nl_ws _
    rw [e2,←hYs,val_ws] at hN;rw [hlen,←hYs];exact ⟨_,rfl,hN,But.below hB1 HA.out hB1.size (by omega)⟩
def DAns (lo:Nat) (w:World) (r:Ending) (o:Option (Bool×Nat×Int)):Prop :=
 ∃ v,r=.returned (.tuple #[.agg #[.bool (dN o),v,.int .i64 (dE o)],.int .i64 (erS o)])∧Nt lo w v (dX o)
theorem bcell {W w1:World}(hb:Below W.heap.size W w1):(∀ b o,b<W.heap.size→w1.cell? ⟨b,o,none⟩=W.cell? ⟨b,o,none⟩)∧(∀ b o,b<W.heap.size→w1.frozen? ⟨b,o,none⟩=W.frozen? ⟨b,o,none⟩) :=
 ⟨fun b o h=>hb.cell (p:=⟨b,o,none⟩) h,fun b o h=>hb.frozen (p:=⟨b,o,none⟩) h⟩
theorem ws_len_bl (X:Nat):(ws X).length=(bl X+31)/32:=by
 by_cases h:X=0
 · subst h;simp [ws_zero,bl_zero]
 · have h1:=len_bl X ((ws X).length-1) _ rfl
   have h2:=len_bl X (ws X).length _ rfl;have h3:(ws X).length≠0:=fun e=>h ((ws_len_zero X).1 e)
   omega
theorem mk_len (X:Nat) (h:X≠0):(bl X-lo X+31)/32=(ws (X/2^lo X)).length:=by
 obtain ⟨m,_,_,hb⟩:=odd_part X h;rw [ws_len_bl]
 congr 2
 omega
theorem set3_but (g:Nat) (w:World) (x y z:Value):But g w (((w.setCell ⟨g,0,none⟩ x).setCell ⟨g,1,none⟩ y).setCell ⟨g,2,none⟩ z):=(((But.refl g w).set _ _).set _ _).set _ _
theorem laid3 {w W1 w2:World}{v:Value}{Y:Nat}(hB:Below w.heap.size w W1) (hs:w.heap.size<W1.heap.size) (hN:Nt W1.heap.size w2 v Y) (hb:Below W1.heap.size W1 w2) (x y z:Value) :
 Nt w.heap.size (((w2.setCell ⟨w.heap.size,0,none⟩ x).setCell ⟨w.heap.size,1,none⟩ y).setCell ⟨w.heap.size,2,none⟩ z) v Y∧Below w.heap.size w (((w2.setCell ⟨w.heap.size,0,none⟩ x).setCell ⟨w.heap.size,1,none⟩ y).setCell ⟨w.heap.size,2,none⟩ z) :=
 ⟨(hN.but (set3_but _ _ _ _ _) hs).mono (by omega),But.below (hB.trans (hb.mono (by omega))) (set3_but _ _ _ _ _) (by have:=hb.size;omega) (Nat.le_refl _)⟩
theorem Make_any {w:World}{a:Option Addr}{n c:Nat}{xs:List Nat}(h1:Arg w a n c xs) (hT:Tab w) (neg:Bool) (e:Int) (he0:-9223372036854775808≤e) (he1:e≤9223372036854775807) :
 Calls Tryd.prog 41 #[.bool neg,.slice a n c,.int .i64 e] w fun r w'=>DAns w.heap.size w' r (mkS neg (val xs) e)∧Below w.heap.size w w':=by
 obtain ⟨W1,hW1⟩:∃ W,W=w.alloc (.cells #[.bool false,.slice none 0 0,.int .i64 0] 64):=⟨_,rfl⟩;have hB1:Below w.heap.size w W1:=by rw [hW1];exact (Below.refl _ _).alloc (Nat.le_refl _) _
 have A1:=h1.below hB1;have hT1:=hT.belows hB1;have hbig:=h1.big;have H1:=hid (len_any xs a n c W1.heap.size W1 A1.len A1.cap (by omega) A1.wf A1.rd)
 have H2:=hid (low_any xs a n c W1.heap.size W1 A1.len (by omega) A1.wf A1.rd hT1)
 have hbl:bl (val xs)≤32*n:=by
  have:=val_lt xs h1.wf;rw [←h1.len] at this;exact bl_pw _ _ this
 obtain ⟨X,hX⟩:∃ X,val xs=X:=⟨_,rfl⟩;rw [hX] at H1 H2 hbl ⊢;obtain ⟨b,hb⟩:∃ b,bl X=b:=⟨_,rfl⟩;obtain ⟨l,hl⟩:∃ l,lo X=l:=⟨_,rfl⟩;rw [hb] at H1 hbl;rw [hl] at H2;unfold mkS;rw [hb,hl]
 have hlb:l≤b:=by
  by_cases h0:X=0
  · subst h0;rw [lo_zero] at hl;omega
  · obtain ⟨m,_,_,hbb⟩:=odd_part X h0
    omega
 have HB:=qsd hB1;have SZ:W1.heap.size=w.heap.size+1:=by rw [hW1];simp
 by_cases h0:X=0
 · have hb0:b=0:=by rw [←hb,h0,bl_zero]
   subst hb0;rw [if_pos h0];clear hb hl hX h0 hB1 A1 hT1 hT h1 hlb hbl SZ;subst hW1;go_enter Tryd.func41,Tryd.ntmps41
   go_wp2_with fail
   refine H1.out.mono ?_;rintro r w1 ⟨rfl,rfl⟩
   go_wp2_with fail
   refine H2.out.mono ?_;rintro r w1 ⟨rfl,rfl⟩;go_wp2;refine bodyPost_ret (v:=.tuple #[.agg #[.bool false,.slice none 0 0,.int .i64 0],.int .i64 0]) (by simp [results,Tryd.results41,go_sem]) rfl ⟨⟨_,rfl,Nt.nil _ _⟩,HB.out⟩
 · rw [if_neg h0]
   have hb0:((b:Int)==0)=false:=by have:=bl_pos X h0;simp;omega
   have hOD:=odd_any A1 l b hlb (by omega) (by rw [hX,←hb,←hl];exact mk_len X h0)
   rw [hX] at hOD;have H3:=hid hOD
   by_cases h2:262144<b-l
   · rw [if_pos (.inl h2)]
     have h2':(262144:Int)<(b:Int)-l:=by omega
     clear hb hl hX h0 hB1 A1 hT1 hT h1 SZ H3 h2 hOD;subst hW1;go_enter Tryd.func41,Tryd.ntmps41
     go_wp2_with fail
     refine H1.out.mono ?_;rintro r w1 ⟨rfl,rfl⟩
     go_wp2_with fail
     refine H2.out.mono ?_;rintro r w1 ⟨rfl,rfl⟩;go_wp2;refine bodyPost_ret (v:=.tuple #[.agg #[.bool false,.slice none 0 0,.int .i64 0],.int .i64 2]) (by simp [results,Tryd.results41,go_sem]) rfl ⟨⟨_,rfl,Nt.nil _ _⟩,HB.out⟩
   · have h2':decide ((262144:Int)<(b:Int)-l)=false:=decide_eq_false (by omega)
     by_cases h3:1048576-(l:Int)<e
     · rw [if_pos (.inr (.inl h3))]
       clear hb hl hX h0 hB1 A1 hT1 hT h1 SZ H3 h2 hOD;subst hW1;go_enter Tryd.func41,Tryd.ntmps41
       go_wp2_with fail
       refine H1.out.mono ?_;rintro r w1 ⟨rfl,rfl⟩
       go_wp2_with fail
       refine H2.out.mono ?_;rintro r w1 ⟨rfl,rfl⟩;go_wp2;refine bodyPost_ret (v:=.tuple #[.agg #[.bool false,.slice none 0 0,.int .i64 0],.int .i64 2]) (by simp [results,Tryd.results41,go_sem]) rfl ⟨⟨_,rfl,Nt.nil _ _⟩,HB.out⟩
     · have h3':decide (1048576-(l:Int)<e)=false:=decide_eq_false h3
       by_cases h4:e < -1048576-(l:Int)
       · rw [if_pos (.inr (.inr h4))]
         clear hb hl hX h0 hB1 A1 hT1 hT h1 SZ H3 h2 hOD;subst hW1;go_enter Tryd.func41,Tryd.ntmps41
         go_wp2_with fail
         refine H1.out.mono ?_;rintro r w1 ⟨rfl,rfl⟩
         go_wp2_with fail
         refine H2.out.mono ?_;rintro r w1 ⟨rfl,rfl⟩;go_wp2;refine bodyPost_ret (v:=.tuple #[.agg #[.bool false,.slice none 0 0,.int .i64 0],.int .i64 2]) (by simp [results,Tryd.results41,go_sem]) rfl ⟨⟨_,rfl,Nt.nil _ _⟩,HB.out⟩
       · have h4':decide (e < -1048576-(l:Int))=false:=decide_eq_false h4
         rw [if_neg (by omega)]
         obtain ⟨Y,hY⟩:∃ Y,X/2^l=Y:=⟨_,rfl⟩;rw [hY] at H3 ⊢;have hs:(ws Y).length≤35184372088832:=by rw [←hY,←hl,←mk_len X h0];omega
         have h5:e+l≤1048576:=by omega
         have h6:-1048576≤e+l:=by omega
         clear hb hl hX h0 hB1 A1 hT1 hT h1 hOD h2 h3 h4;subst hW1;go_enter Tryd.func41,Tryd.ntmps41
         go_wp2_with fail
         refine H1.out.mono ?_;rintro r w1 ⟨rfl,rfl⟩
         go_wp2_with fail
         refine H2.out.mono ?_;rintro r w1 ⟨rfl,rfl⟩
         go_wp2_with fail
         refine H3.out.mono ?_;rintro r w2 ⟨v,rfl,hN,hb⟩;obtain ⟨a2,c2,rfl,_⟩:=hN.arg hs;obtain ⟨hc,hf⟩:=bcell hb;have HN:=(qsd (ai hN hb));have hz:=hb.size;clear hN hb;go_wp2;obtain ⟨q1,q2⟩:=laid3 HB.out (by simp) HN.out.1 HN.out.2 (.bool neg) (.slice a2 (ws Y).length c2) (.int .i64 (e+l))
         exact bodyPost_ret (v:=.tuple #[.agg #[.bool neg,.slice a2 (ws Y).length c2,.int .i64 (e+l)],.int .i64 0]) (by simp [results,Tryd.results41,go_sem,hc]) rfl ⟨⟨_,rfl,q1⟩,q2⟩
end
section
open Go.RowKit
attribute [local go_sem] B.f64bits B.f64frombits
theorem st_float {P:Program}{w:World}(a:Addr) (k:FloatKind) (n:Nat) (m:Mode):(store a (.float k n) m).run P w=stored P w a (.float k n) m:=run_store P w a _ m rfl
def oddW:Nat:=9221120237041090560
def arW (op:BinOp) (x y:Nat):Nat:=(floatBits op .f64 x y).getD oddW
theorem run_float_none {P:Program}(w:World) (op:BinOp) (t:TypeId) (x y:Nat) (ho:op=.add∨op=.sub∨op=.mul) (h:floatBits op .f64 x y=none) :
 ∃ z,(9218868437227405312<z%9223372036854775808∧z<18446744073709551616)∧(binOp op t (.float .f64 x) (.float .f64 y)).run P w=.ok (.float .f64 z) w.drew:=by
 refine ⟨(Question.nanBits .f64 x y).cut (w.tape w.drawn (.nanBits .f64 x y)),?_,?_⟩
 · unfold Question.cut
   generalize w.tape w.drawn (.nanBits .f64 x y)=t
   show 9218868437227405312<((t%2)*9223372036854775808+9218868437227405312+1+(t/2)%4503599627370495)%9223372036854775808∧((t%2)*9223372036854775808+9218868437227405312+1+(t/2)%4503599627370495)<18446744073709551616
   have h1:(t/2)%4503599627370495<4503599627370495:=Nat.mod_lt _ (by decide)
   generalize (t/2)%4503599627370495=q at *
   rcases Nat.mod_two_eq_zero_or_one t with h2|h2 <;> rw [h2] <;> omega
 · unfold floatBits at h
   rcases ho with rfl|rfl|rfl <;> simp only at h <;> simp [binOp,Op.floatArith,h,Question.forced]
def Gives (op:BinOp) (x y z:Nat):Prop:=floatBits op .f64 x y=some z∨floatBits op .f64 x y=none∧9218868437227405312<z%9223372036854775808∧z<18446744073709551616
theorem plus_any (x y:Nat) (w:World):Calls Tryd.prog 17 #[.float .f64 x,.float .f64 y] w fun r w'=>∃ z,r=.returned (.float .f64 z)∧Gives .add x y z∧Below w.heap.size w w':=by
 go_enter Tryd.func17,Tryd.ntmps17
 cases h:floatBits .add .f64 x y with
 | some z =>
   have d:=run_float_arith (P:=Tryd.prog) w .add 53 .f64 x y z h
   go_wp2_with (simp only [d])
   exact bodyPost_ret (v:=.float .f64 z) (by simp [results,Tryd.results17,go_sem]) rfl ⟨z,rfl,.inl h,Below.refl _ _⟩
 | none =>
   obtain ⟨z,hz,d⟩:=run_float_none (P:=Tryd.prog) w .add 53 x y (.inl rfl) h
   go_wp2_with (simp only [d])
   exact bodyPost_ret (v:=.float .f64 z) (by simp [results,Tryd.results17,go_sem]) rfl ⟨z,rfl,.inr ⟨h,hz⟩,(Below.refl _ _).drew⟩
theorem minus_any (x y:Nat) (w:World):Calls Tryd.prog 18 #[.float .f64 x,.float .f64 y] w fun r w'=>∃ z,r=.returned (.float .f64 z)∧Gives .sub x y z∧Below w.heap.size w w':=by
 go_enter Tryd.func18,Tryd.ntmps18
 cases h:floatBits .sub .f64 x y with
 | some z =>
   have d:=run_float_arith (P:=Tryd.prog) w .sub 53 .f64 x y z h
   go_wp2_with (simp only [d])
   exact bodyPost_ret (v:=.float .f64 z) (by simp [results,Tryd.results18,go_sem]) rfl ⟨z,rfl,.inl h,Below.refl _ _⟩
 | none =>
   obtain ⟨z,hz,d⟩:=run_float_none (P:=Tryd.prog) w .sub 53 x y (.inr (.inl rfl)) h
   go_wp2_with (simp only [d])
   exact bodyPost_ret (v:=.float .f64 z) (by simp [results,Tryd.results18,go_sem]) rfl ⟨z,rfl,.inr ⟨h,hz⟩,(Below.refl _ _).drew⟩
theorem write_fin (d:Ieee.Datum) (h:d.isNaN=false):Ieee.double.write d%9223372036854775808≤9218868437227405312∧Ieee.double.write d<18446744073709551616:=by
 have hw:∀ (s:Bool) (r:Nat),r≤9218868437227405312→Ieee.double.word s r%9223372036854775808≤9218868437227405312∧Ieee.double.word s r<18446744073709551616:=by
  intro s r hr;have e:Ieee.double.word s r=(if s then 9223372036854775808+r else r):=rfl
  rw [e]
  cases s <;> simp <;> omega
 cases d with
 | number n m p =>
   show Ieee.double.nearest n m p%_≤_∧Ieee.double.nearest n m p<_
   unfold Ieee.Format.nearest
   split
   · exact hw _ _ (by omega)
   · exact hw _ _ (Nat.min_le_right _ _)
 | infinity n=>exact hw _ _ (Nat.le_refl _)
 | nan n f=>cases h
theorem sum_fin {a b d:Ieee.Datum}(h:a.sum b=some d):d.isNaN=false:=by
 cases a <;> cases b <;> simp only [Ieee.Datum.sum] at h <;> first | (cases h;rfl) | (cases h;done) | (split at h <;> first | (cases h;rfl) | (cases h;done))
theorem product_fin {a b d:Ieee.Datum}(h:a.product b=some d):d.isNaN=false:=by
 cases a <;> cases b <;> simp only [Ieee.Datum.product] at h <;> first | (cases h;rfl) | (cases h;done) | (split at h <;> first | (cases h;rfl) | (cases h;done))
theorem bits_fin {op:BinOp}{x y z:Nat}(ho:op=.add∨op=.sub∨op=.mul) (h:floatBits op .f64 x y=some z):z%9223372036854775808≤9218868437227405312∧z<18446744073709551616:=by
 unfold floatBits at h
 rcases ho with rfl|rfl|rfl
 · obtain ⟨d,h1,h2⟩:=Option.map_eq_some_iff.1 (show ((Ieee.double.read x).sum (Ieee.double.read y)).map Ieee.double.write=some z from h)
   rw [←h2];exact write_fin d (sum_fin h1)
 · obtain ⟨d,h1,h2⟩:=Option.map_eq_some_iff.1 (show ((Ieee.double.read x).sum (Ieee.double.read y).opposite).map Ieee.double.write=some z from h)
   rw [←h2];exact write_fin d (sum_fin h1)
 · obtain ⟨d,h1,h2⟩:=Option.map_eq_some_iff.1 (show ((Ieee.double.read x).product (Ieee.double.read y)).map Ieee.double.write=some z from h)
   rw [←h2];exact write_fin d (product_fin h1)
def nanW (z:Nat):Bool:=decide (9218868437227405312<z%9223372036854775808)
theorem bwz (z:Nat) (h:z<18446744073709551616):∃ s e f,e<2048∧f<4503599627370496∧z=B.bw s e f∧B.odd e f=nanW z:=by
 refine ⟨decide (9223372036854775808≤z),z%9223372036854775808/4503599627370496,z%4503599627370496,by omega,by omega,?_,?_⟩
 · unfold B.bw
   by_cases h1:9223372036854775808≤z
   · simp only [h1,decide_true,Bool.toNat_true];omega
   · simp only [h1,decide_false,Bool.toNat_false];omega
 · unfold B.odd nanW
   rw [Bool.eq_iff_iff];simp only [Bool.and_eq_true,beq_iff_eq,bne_iff_ne,ne_eq,decide_eq_true_eq];omega
theorem isNaN_w (z:Nat) (h:z<18446744073709551616) (w:World):Calls Tryd.prog 28 #[.float .f64 z] w fun r w'=>r=.returned (.bool (nanW z))∧w'=w:=by
 obtain ⟨s,e,f,he,hf,h1,h2⟩:=bwz z h;rw [←h2,h1];exact B.isNaN_any s e f he hf w
theorem step_plus (x y:Nat) (w:World) :
 Calls Tryd.prog 16 #[.float .f64 x,.func (.func 17) #[] #[],.float .f64 y] w fun r w'=>r=.returned (.float .f64 (arW .add x y))∧Below w.heap.size w w':=by
 obtain ⟨Z,hZ⟩:∃ Z,arW .add x y=Z:=⟨_,rfl⟩;rw [hZ];have HG:=hid fun u=>plus_any x y u
 go_enter Tryd.func16,Tryd.ntmps16
 go_wp2_with fail
 refine (Calls.mono (HG.out _)) ?_;rintro r w1 ⟨z,rfl,hz,hb⟩;have hz2:z<18446744073709551616:=by rcases hz with h | h;exact (bits_fin (op:=.add) (.inl rfl) h).2;exact h.2.2
 have HN:=hid fun u=>isNaN_w z hz2 u
 go_wp2_with fail
 refine (Calls.mono (HN.out _)) ?_;rintro r w2 ⟨rfl,rfl⟩
 have ha:Z=if nanW z then oddW else z:=by
  rw [←hZ];unfold arW nanW
  rcases hz with h|h
  · have:=(bits_fin (op:=.add) (.inl rfl) h).1
    rw [h,if_neg (by simp;omega)];rfl
  · rw [h.1,if_pos (by simpa using h.2.1)];rfl
 clear HN HG hz hz2 hZ
 cases hn:nanW z
 · rw [hn,if_neg (by simp)] at ha
   subst ha;go_wp2;exact bodyPost_ret (v:=.float .f64 Z) (by simp [results,Tryd.results16,go_sem]) rfl ⟨rfl,hb⟩
 · rw [hn,if_pos rfl] at ha
   subst ha;go_wp2;exact bodyPost_ret (v:=.float .f64 oddW) (by simp [results,Tryd.results16,go_sem,oddW]) rfl ⟨rfl,hb⟩
theorem step_minus (x y:Nat) (w:World) :
 Calls Tryd.prog 16 #[.float .f64 x,.func (.func 18) #[] #[],.float .f64 y] w fun r w'=>r=.returned (.float .f64 (arW .sub x y))∧Below w.heap.size w w':=by
 obtain ⟨Z,hZ⟩:∃ Z,arW .sub x y=Z:=⟨_,rfl⟩;rw [hZ];have HG:=hid fun u=>minus_any x y u
 go_enter Tryd.func16,Tryd.ntmps16
 go_wp2_with fail
 refine (Calls.mono (HG.out _)) ?_;rintro r w1 ⟨z,rfl,hz,hb⟩;have hz2:z<18446744073709551616:=by rcases hz with h | h;exact (bits_fin (op:=.sub) (.inr (.inl rfl)) h).2;exact h.2.2
 have HN:=hid fun u=>isNaN_w z hz2 u
 go_wp2_with fail
 refine (Calls.mono (HN.out _)) ?_;rintro r w2 ⟨rfl,rfl⟩
 have ha:Z=if nanW z then oddW else z:=by
  rw [←hZ];unfold arW nanW
  rcases hz with h|h
  · have:=(bits_fin (op:=.sub) (.inr (.inl rfl)) h).1
    rw [h,if_neg (by simp;omega)];rfl
  · rw [h.1,if_pos (by simpa using h.2.1)];rfl
 clear HN HG hz hz2 hZ
 cases hn:nanW z
 · rw [hn,if_neg (by simp)] at ha
   subst ha;go_wp2;exact bodyPost_ret (v:=.float .f64 Z) (by simp [results,Tryd.results16,go_sem]) rfl ⟨rfl,hb⟩
 · rw [hn,if_pos rfl] at ha
   subst ha;go_wp2;exact bodyPost_ret (v:=.float .f64 oddW) (by simp [results,Tryd.results16,go_sem,oddW]) rfl ⟨rfl,hb⟩
end
section
open Go.RowKit
theorem But.setC {g:Nat}(w:World) (i:Nat) (u:Value):But g w (w.setCell ⟨g,i,none⟩ u):=(But.refl g w).set _ _
theorem Nt.setC {lo:Nat}{w:World}{v:Value}{X:Nat}(h:Nt lo w v X) (b i:Nat) (u:Value) (hb:b<lo):Nt lo (w.setCell ⟨b,i,none⟩ u) v X:=h.but (But.setC w i u) hb
theorem Nt.allocC {lo:Nat}{w:World}{v:Value}{X:Nat}(h:Nt lo w v X) (o:Obj):Nt lo (w.alloc o) v X:=h.below (below_alloc w o)
theorem Below.setC {lo:Nat}{w0 w:World}(h:Below lo w0 w) (b i:Nat) (u:Value) (hb:lo≤b) (hs:lo≤w.heap.size):Below lo w0 (w.setCell ⟨b,i,none⟩ u):=But.below h (But.setC w i u) hs hb
structure Fin (lo m:Nat) (w0 w:World) (v:Value) (X:Nat):Prop where
 nt:Nt m w v X
 bel:Below lo w0 w
 size:lo≤w.heap.size
theorem Fin.set {lo m:Nat}{w0 w:World}{v:Value}{X:Nat}(H:Fin lo m w0 w v X) (b i:Nat) (u:Value) (h1:lo≤b) (h2:b<m):Fin lo m w0 (w.setCell ⟨b,i,none⟩ u) v X :=
 ⟨H.nt.setC b i u h2,Below.setC H.bel b i u h1 H.size,by simpa [World.setCell] using H.size⟩
theorem Fin.alloc {lo m:Nat}{w0 w:World}{v:Value}{X:Nat}(H:Fin lo m w0 w v X) (o:Obj):Fin lo m w0 (w.alloc o) v X :=
 ⟨H.nt.allocC o,H.bel.alloc H.size o,by have:=H.size;simp;omega⟩
theorem Fin.of {lo:Nat}{w0 W1 w2:World}{v:Value}{X:Nat}(k:Nat) (hB:Below lo w0 W1) (hk:W1.heap.size=lo+k) (hN:Nt W1.heap.size w2 v X) (hb:Below W1.heap.size W1 w2):Fin lo (lo+k) w0 w2 v X :=
 ⟨hk ▸ hN,hB.trans (hb.mono (by omega)),by have:=hb.size;omega⟩
theorem Fin.dans {lo m:Nat}{w0 w:World}{n:Bool}{v:Value}{X:Nat}{e:Int}{k:Value}(H:Fin lo m w0 w v X) (h:lo≤m) :
 (∃ v',Ending.returned (.tuple #[.agg #[.bool n,v,.int .i64 e],k])=.returned (.tuple #[.agg #[.bool n,v',.int .i64 e],k])∧Nt lo w v' X)∧Below lo w0 w:=⟨⟨v,rfl,H.nt.mono h⟩,H.bel⟩
end
section
open Go.RowKit
theorem form_any {w:World}{a:Option Addr}{n c:Nat}{xs:List Nat}(h1:Arg w a n c xs) (hT:Tab w) (neg:Bool) (e:Int) (he0:-9223372036854775808≤e) (he1:e≤9223372036854775807) :
 Calls Tryd.prog 53 #[.agg #[.bool neg,.slice a n c,.int .i64 e]] w fun r w'=>DAns w.heap.size w' r (mkS neg (val xs) e)∧Below w.heap.size w w':=by
 have HB:=qsd (show Below w.heap.size w ((w.alloc (.cells #[.bool neg,.slice a n c,.int .i64 e] 64)).alloc (.cells #[.bool false,.slice none 0 0,.int .i64 0] 64)) from (((Below.refl _ _).alloc (Nat.le_refl _) _).alloc (by simp) _))
 have H1:=hid (Make_any (h1.below HB.out) (hT.belows HB.out) neg e he0 he1);have hl:=mkS_len neg (val xs) e;obtain ⟨o,ho⟩:∃ o,mkS neg (val xs) e=o:=⟨_,rfl⟩;rw [ho] at H1 hl ⊢;unfold DAns at H1 ⊢;obtain ⟨dn,hdn⟩:∃ d,dN o=d:=⟨_,rfl⟩;obtain ⟨X,hdx⟩:∃ d,dX o=d:=⟨_,rfl⟩;obtain ⟨de,hde⟩:∃ d,dE o=d:=⟨_,rfl⟩;obtain ⟨er,her⟩:∃ d,erS o=d:=⟨_,rfl⟩;rw [hdn,hdx,hde,her] at H1 ⊢;rw [hdx] at hl;clear h1 ho hdn hdx hde her hT he0 he1;go_enter Tryd.func53,Tryd.ntmps53
 go_wp2_with fail
 refine H1.out.mono ?_;rintro r w2 ⟨⟨v,rfl,hN⟩,hb⟩;obtain ⟨a2,c2,rfl,_⟩:=hN.arg (by omega)
 obtain ⟨hc,hf⟩:=bcell hb;have HF:=qsd (Fin.of 2 HB.out (by simp) hN hb)
 have hz:w.heap.size+1<w2.heap.size:=by have:=hb.size;simp at this;omega
 clear hN hb;go_wp2;exact bodyPost_ret (v:=.tuple #[.agg #[.bool dn,.slice a2 (ws X).length c2,.int .i64 de],.int .i64 er]) (by simp [results,Tryd.results53,go_sem,hc]) rfl (Fin.dans (m:=w.heap.size+2) (by repeat (first | exact HF.out | refine Fin.alloc ?_ _ | refine Fin.set ?_ _ _ _ (by omega) (by omega))) (by omega))
end
namespace B
open Go.RowKit
attribute [local go_sem] f64bits f64frombits
theorem eqParts (a c:Bool) (k l x y f g:Int) (w:World):(Op.equalIn 10000 92 (.agg #[.bool a,.int .i64 k,.int .i64 x,.int .u64 f]) (.agg #[.bool c,.int .i64 l,.int .i64 y,.int .u64 g])).run Tryd.prog w=.ok (a==c&&(k==l&&(x==y&&f==g))) w:=by
 have u3:=Tryd.underlying3;have u4:=Tryd.underlying4;have u23:=Tryd.underlying33;have hS:Tryd.prog.underlying 92=some (.struct (Tryd.prog.fieldsOf 92)):=by kernel_rfl
 have hp:Tryd.prog.stoodInHeld 92=false:=by kernel_rfl
 rw [show (10000:Nat)=9999+1 from rfl,run_equalIn_agg w 9999 92 _ _ hS hp]
 simp only [Program.fieldsOf,Tryd.underlying92]
 go_simp
 by_cases h1:a=c <;> by_cases h2:k=l <;> by_cases h3:x=y <;> by_cases h4:f=g <;> simp [h1,h2,h3,h4]
attribute [local go_sem] eqParts
theorem fld0 (a:Bool) (k x f:Int) (w:World):(Instr.field 92 (.agg #[.bool a,.int .i64 k,.int .i64 x,.int .u64 f]) 0).run Tryd.prog w=.ok (.bool a) w:=by kernel_rfl
theorem fld1 (a:Bool) (k x f:Int) (w:World):(Instr.field 92 (.agg #[.bool a,.int .i64 k,.int .i64 x,.int .u64 f]) 1).run Tryd.prog w=.ok (.int .i64 k) w:=by kernel_rfl
theorem fld2 (a:Bool) (k x f:Int) (w:World):(Instr.field 92 (.agg #[.bool a,.int .i64 k,.int .i64 x,.int .u64 f]) 2).run Tryd.prog w=.ok (.int .i64 x) w:=by kernel_rfl
theorem fld3 (a:Bool) (k x f:Int) (w:World):(Instr.field 92 (.agg #[.bool a,.int .i64 k,.int .i64 x,.int .u64 f]) 3).run Tryd.prog w=.ok (.int .u64 f) w:=by kernel_rfl
attribute [local go_sem] fld0 fld1 fld2 fld3
end B
namespace B
open Go.RowKit
attribute [local go_sem] f64bits f64frombits
theorem abs_any (s:Bool) (e f:Nat) (he:e<2048) (hf:f<4503599627370496) (w:World) :
 Calls Tryd.prog 4 #[.float .f64 (bw s e f)] w fun r w'=>r=.returned (.float .f64 (bw false e f))∧w'=w:=by
 have h1:=abs_bw s e f he hf;go_enter Tryd.func4,Tryd.ntmps4;go_wp2;go_ret;exact ⟨rfl,rfl⟩
end B
section
open Go.RowKit
theorem Nt.arg' {lo:Nat}{w:World}{a:Option Addr}{n c X:Nat}(h:Nt lo w (.slice a n c) X) (hs:(ws X).length≤35184372088832):n=(ws X).length∧Arg w a (ws X).length c (ws X):=by
 obtain ⟨a',c',e,A⟩:=h.arg hs
 cases e
 exact ⟨rfl,A⟩
end
section
open Go.RowKit
theorem notLG {X:Nat}(h:bl X≤262144):¬ LG X:=by rw [LG_bl];omega
end
section
open Go.RowKit
def Dk (w:World) (g:Nat) (n:Bool) (v:Value) (e:Int):Prop:=w.heap[g]?=some (.cells #[.bool n,v,.int .i64 e] 64 (0,0))
theorem Dk.lt {w:World}{g:Nat}{n:Bool}{v:Value}{e:Int}(h:Dk w g n v e):g<w.heap.size:=(Array.getElem?_eq_some_iff.1 h).1
theorem Dk.below {w w':World}{g:Nat}{n:Bool}{v:Value}{e:Int}(h:Dk w g n v e) (hb:Below w.heap.size w w'):Dk w' g n v e:=by
 unfold Dk;rw [hb.block g h.lt];exact h
theorem Dk.alloc {w:World}{g:Nat}{n:Bool}{v:Value}{e:Int}(h:Dk w g n v e) (o:Obj):Dk (w.alloc o) g n v e:=h.below (below_alloc w o)
theorem Dk.new (w:World) (n:Bool) (v:Value) (e:Int):Dk (w.alloc (.cells #[.bool n,v,.int .i64 e] 64)) w.heap.size n v e:=heap_alloc_new _ _
theorem Dk.facts {w:World}{g:Nat}{n:Bool}{v:Value}{e:Int}(h:Dk w g n v e) :
 w.cell? ⟨g,0,none⟩=some (.bool n)∧w.cell? ⟨g,1,none⟩=some v∧w.cell? ⟨g,2,none⟩=some (.int .i64 e)∧w.frozen? ⟨g,0,none⟩=false∧w.frozen? ⟨g,1,none⟩=false∧w.frozen? ⟨g,2,none⟩=false:=by
 unfold Dk at h;simp [World.cell?,World.frozen?,h]
theorem Fin.drew {lo m:Nat}{w0 w:World}{v:Value}{X:Nat}(H:Fin lo m w0 w v X):Fin lo m w0 w.drew v X:=⟨H.nt,H.bel.drew,H.size⟩
end
section
open Go.RowKit
theorem shift_up (X:Nat) (b:Int) (h0:0≤b) (hX:X≠0) (hl:bl X≤262144):shiftS X b=if 262144<bl X+b.toNat then (0,2) else (X*2^b.toNat,0):=by
 unfold shiftS;rw [if_neg (notLG hl),if_neg hX,if_neg (by omega)]
 by_cases h:262144<bl X+b.toNat
 · rw [if_pos h,if_pos (by omega)]
 · rw [if_neg h,if_neg (by omega)]
theorem len_ne {X:Nat}(h:X≠0):((((ws X).length:Nat):Int)==0)=false:=beq_eq_false_iff_ne.2 (by have:(ws X).length≠0:=fun e=>h ((ws_len_zero X).1 e);omega)
end
namespace B
open Go.RowKit
attribute [local go_sem] f64bits f64frombits
theorem mul_exact (f:Ieee.Format) (hs:f.infRung<f.signWeight) (s t:Bool) (r u v a:Nat) (ha:f.leastPlace=-(a:Int)) (hr:r<f.infRung) (hu:u<f.infRung) (hv:v<f.infRung)
 (h:val f r*val f u=val f v*2^a) (h0:val f r≠0) (h1:val f u≠0):f.mul (f.word s r) (f.word t u)=some (f.word (s ^^ t) v):=by
 obtain ⟨m,k,e1,v1⟩:=read_word f s r hr hs;obtain ⟨n,j,e2,v2⟩:=read_word f t u hu hs;unfold Ieee.Format.mul;rw [e1,e2]
 show some (f.nearest (s ^^ t) (m*n) (f.leastPlace+k+(f.leastPlace+j)))=_
 have e:f.leastPlace+(k:Int)+(f.leastPlace+(j:Int))=f.leastPlace+((k+j:Nat):Int)-(a:Int):=by omega
 have hmn:m*n≠0:=by
  intro h2
  rcases Nat.mul_eq_zero.1 h2 with h3|h3
  · subst h3;simp at v1;exact h0 v1.symm
  · subst h3;simp at v2;exact h1 v2.symm
 rw [e,nearest_exact2 f _ (m*n) (k+j) a v hv ?_ hmn];rw [←h,←v1,←v2,Nat.pow_add]
 grind
theorem and_high (a:Nat) (h:a<2^63):a &&& 2^63=0:=by
 apply Nat.eq_of_testBit_eq
 intro i;rw [Nat.testBit_and,Nat.testBit_two_pow,Nat.zero_testBit]
 by_cases hi:63=i
 · subst hi;rw [Nat.testBit_lt_two_pow h];rfl
 · simp [hi]
theorem mask_clear (e g:Nat) (he:e<2048) (hg:g<4503599627370496):bits .andNot .u64 ((bw false e g:Nat):Int) 9218868437227405312=(g:Int):=by
 have h:=u64_andNot_nat (bw false e g) 9218868437227405312 (bw_lt false e g he hg) (by omega)
 rw [show (((9218868437227405312:Nat)):Int)=9218868437227405312 from rfl] at h
 rw [h];have hb:bw false e g=e*4503599627370496+g:=by unfold bw;simp
 have hlt:bw false e g<2^63:=by rw [hb];omega
 have e1:18446744073709551615-9218868437227405312=2^63 ||| (2^52-1):=by decide
 rw [e1,Nat.and_or_distrib_left,Nat.and_two_pow_sub_one_eq_mod,and_high _ hlt,Nat.zero_or,hb];omega
theorem join_exp (E g:Nat) (hE:E<2048) (hg:g<4503599627370496):bits .or .u64 (g:Int) ((E:Int)*4503599627370496)=((bw false E g:Nat):Int):=by
 have hc:bits .or .u64 (g:Int) ((E:Int)*4503599627370496)=bits .or .u64 ((E:Int)*4503599627370496) (g:Int):=by simp only [bits,BitVec.or_comm]
 rw [hc,bits_join .u64 64 (by decide) wraps_u64 52 ((E:Int)*4503599627370496) (g:Int) (by omega) (by omega) (by omega) (by omega) (by omega) (by omega)]
 unfold bw;simp
theorem isInf0 (e g:Nat) (he:e<2047) (hg:g<4503599627370496) (w:World) :
 Calls Tryd.prog 27 #[.float .f64 (bw false e g),.int .i64 0] w fun r w'=>r=.returned (.bool false)∧w'=w:=by
 have H:=hid (abs_any false e g (by omega) hg w)
 have h1:=gt_max false e g (by omega) hg
 have h2:(!false&&(e==2047&&g==0))=false:=by simp;omega
 rw [h2] at h1;generalize bw false e g=b at *;go_enter Tryd.func27,Tryd.ntmps27
 go_wp2_with fail
 refine H.out.mono ?_;rintro r w1 ⟨rfl,rfl⟩;go_wp2;go_ret;exact ⟨rfl,rfl⟩
theorem normalize_any (e g:Nat) (h0:0<e) (he:e<2047) (hg:g<4503599627370496) (w:World) :
 Calls Tryd.prog 29 #[.float .f64 (bw false e g)] w fun r w'=>r=.returned (.tuple #[.float .f64 (bw false e g),.int .i64 0])∧w'=w:=by
 have H:=hid (abs_any false e g (by omega) hg w)
 have h1:=lt_f64 false false e g 1 0 (by omega) hg (by omega) (by omega)
 have h3:(!odd e g&&(!odd 1 0&&decide (pl false e g<pl false 1 0)))=false:=by
  have:¬ pl false e g<pl false 1 0:=by unfold pl sg;simp;omega
  simp [this]
 rw [h3,show bw false 1 0=4503599627370496 from rfl] at h1
 generalize bw false e g=b at *;clear h3;go_enter Tryd.func29,Tryd.ntmps29
 go_wp2_with fail
 refine H.out.mono ?_;rintro r w1 ⟨rfl,rfl⟩;go_wp2
 go_ret2
 exact ⟨rfl,rfl⟩
theorem inf_any (w:World):Calls Tryd.prog 31 #[.int .i64 1] w fun r w'=>r=.returned (.float .f64 9218868437227405312)∧w'=w:=by
 go_enter Tryd.func31,Tryd.ntmps31;go_wp2;go_ret;exact ⟨rfl,rfl⟩
theorem copysign_neg (e g:Nat) (he:e<2048) (hg:g<4503599627370496) (w:World) :
 Calls Tryd.prog 30 #[.float .f64 (bw false e g),.float .f64 13830554455654793216] w fun r w'=>r=.returned (.float .f64 (bw true e g))∧w'=w:=by
 have h1:=abs_bw false e g he hg;have h2:bits .and .u64 13830554455654793216 9223372036854775808=9223372036854775808:=by decide
 have hb:bw false e g=e*4503599627370496+g:=by unfold bw;simp
 have h3:=or_sign ((bw false e g:Nat):Int) (by omega) (by rw [hb];omega)
 have h4:((bw false e g:Nat):Int)+9223372036854775808=((bw true e g:Nat):Int):=by unfold bw;simp;omega
 rw [h4] at h3;generalize bw false e g=b at *;generalize bw true e g=d at *;clear hb h4;go_enter Tryd.func30,Tryd.ntmps30;go_wp2;go_ret;exact ⟨by simp,rfl⟩
end B
namespace B
open Go.RowKit
attribute [local go_sem] f64bits f64frombits
theorem ldexp_norm (b e g d:Nat) (x y z:Int) (w:World) (hb:b<9223372036854775808) (hx0:-3000≤x) (hx1:x≤3000) (he0:0<e) (he1:e<2047) (hg:g<4503599627370496)
 (z0:(FloatKind.f64.format.order b 0==some .eq)=false)
 (HI:Hid (∀ u,Calls Tryd.prog 27 #[.float .f64 b,.int .i64 0] u fun r w'=>r=.returned (.bool false)∧w'=u))
 (HN:Hid (∀ u,Calls Tryd.prog 28 #[.float .f64 b] u fun r w'=>r=.returned (.bool false)∧w'=u))
 (HZ:Hid (∀ u,Calls Tryd.prog 29 #[.float .f64 b] u fun r w'=>r=.returned (.tuple #[.float .f64 b,.int .i64 0])∧w'=u))
 (e1:bits .and .i64 ((b:Int)/4503599627370496) 2047=(e:Int)) (mc:bits .andNot .u64 (b:Int) 9218868437227405312=(g:Int))
 (ey:x+((e:Int)-1023)=y) (hy0:-1022≤y) (hy1:y≤1023) (ez:(y+1023)*4503599627370496=z) (hz0:0≤z) (hz1:z<9223372036854775808) (je:bits .or .u64 (g:Int) z=(d:Int))
 (mu:∀ u:World,(binOp .mul 23 (.float .f64 4607182418800017408) (.float .f64 d)).run Tryd.prog u=.ok (.float .f64 d) u) :
 Calls Tryd.prog 15 #[.float .f64 b,.int .i64 x] w fun r w'=>r=.returned (.float .f64 d)∧w'=w:=by
 go_enter Tryd.func15,Tryd.ntmps15
 go_wp2_with fail
 refine (Calls.mono (HI.out _)) ?_;rintro r w1 ⟨rfl,hw⟩;rw [hw];clear hw w1
 go_wp2_with fail
 refine (Calls.mono (HN.out _)) ?_;rintro r w1 ⟨rfl,hw⟩;rw [hw];clear hw w1
 go_wp2_with fail
 refine (Calls.mono (HZ.out _)) ?_;rintro r w1 ⟨rfl,hw⟩;rw [hw];clear hw w1;go_wp2;go_ret;exact ⟨rfl,rfl⟩
theorem ldexp_sub (b e g d c:Nat) (x y y2 z:Int) (w:World) (hb:b<9223372036854775808) (hx0:-3000≤x) (hx1:x≤3000) (he0:0<e) (he1:e<2047) (hg:g<4503599627370496)
 (z0:(FloatKind.f64.format.order b 0==some .eq)=false)
 (HI:Hid (∀ u,Calls Tryd.prog 27 #[.float .f64 b,.int .i64 0] u fun r w'=>r=.returned (.bool false)∧w'=u))
 (HN:Hid (∀ u,Calls Tryd.prog 28 #[.float .f64 b] u fun r w'=>r=.returned (.bool false)∧w'=u))
 (HZ:Hid (∀ u,Calls Tryd.prog 29 #[.float .f64 b] u fun r w'=>r=.returned (.tuple #[.float .f64 b,.int .i64 0])∧w'=u))
 (e1:bits .and .i64 ((b:Int)/4503599627370496) 2047=(e:Int)) (mc:bits .andNot .u64 (b:Int) 9218868437227405312=(g:Int))
 (ey:x+((e:Int)-1023)=y) (hy0:-1075≤y) (hy1:y < -1022) (ey2:y+53=y2) (hy2:-1022≤y2) (hy3:y2≤1023) (ez:(y2+1023)*4503599627370496=z) (hz0:0≤z) (hz1:z<9223372036854775808) (je:bits .or .u64 (g:Int) z=(d:Int))
 (mu:∀ u:World,(binOp .mul 23 (.float .f64 4368491638549381120) (.float .f64 d)).run Tryd.prog u=.ok (.float .f64 c) u) :
 Calls Tryd.prog 15 #[.float .f64 b,.int .i64 x] w fun r w'=>r=.returned (.float .f64 c)∧w'=w:=by
 go_enter Tryd.func15,Tryd.ntmps15
 go_wp2_with fail
 refine (Calls.mono (HI.out _)) ?_;rintro r w1 ⟨rfl,hw⟩;rw [hw];clear hw w1
 go_wp2_with fail
 refine (Calls.mono (HN.out _)) ?_;rintro r w1 ⟨rfl,hw⟩;rw [hw];clear hw w1
 go_wp2_with fail
 refine (Calls.mono (HZ.out _)) ?_;rintro r w1 ⟨rfl,hw⟩;rw [hw];clear hw w1;go_wp2;go_ret;exact ⟨rfl,rfl⟩
theorem ldexp_inf (b e g:Nat) (x y:Int) (w:World) (hb:b<9223372036854775808) (hx0:-3000≤x) (hx1:x≤3000) (he0:0<e) (he1:e<2047) (hg:g<4503599627370496)
 (z0:(FloatKind.f64.format.order b 0==some .eq)=false)
 (HI:Hid (∀ u,Calls Tryd.prog 27 #[.float .f64 b,.int .i64 0] u fun r w'=>r=.returned (.bool false)∧w'=u))
 (HN:Hid (∀ u,Calls Tryd.prog 28 #[.float .f64 b] u fun r w'=>r=.returned (.bool false)∧w'=u))
 (HZ:Hid (∀ u,Calls Tryd.prog 29 #[.float .f64 b] u fun r w'=>r=.returned (.tuple #[.float .f64 b,.int .i64 0])∧w'=u))
 (e1:bits .and .i64 ((b:Int)/4503599627370496) 2047=(e:Int)) (mc:bits .andNot .u64 (b:Int) 9218868437227405312=(g:Int))
 (ey:x+((e:Int)-1023)=y) (hy0:1023<y) (z1:(FloatKind.f64.format.order b 0==some .lt)=false) :
 Calls Tryd.prog 15 #[.float .f64 b,.int .i64 x] w fun r w'=>r=.returned (.float .f64 9218868437227405312)∧w'=w:=by
 go_enter Tryd.func15,Tryd.ntmps15
 go_wp2_with fail
 refine (Calls.mono (HI.out _)) ?_;rintro r w1 ⟨rfl,hw⟩;rw [hw];clear hw w1
 go_wp2_with fail
 refine (Calls.mono (HN.out _)) ?_;rintro r w1 ⟨rfl,hw⟩;rw [hw];clear hw w1
 go_wp2_with fail
 refine (Calls.mono (HZ.out _)) ?_;rintro r w1 ⟨rfl,hw⟩;rw [hw];clear hw w1
 go_wp2_with fail
 refine (Calls.mono (inf_any _)) ?_;rintro r w1 ⟨rfl,hw⟩;rw [hw];clear hw w1;go_wp2;go_ret;exact ⟨rfl,rfl⟩
end B
namespace B
open Go.RowKit
theorem bl_le53' (X:Nat) (h:X≤9007199254740991):bl X≤53:=by
 by_cases h0:X=0
 · subst h0;rw [bl_zero];omega
 · have:=(Nat.pow_lt_pow_iff_right (a:=2) (by omega)).1 (Nat.lt_of_le_of_lt (bl_ge X h0) (show X<2^53 by omega))
   omega
theorem bits_mask1 (z:Nat) (hz:z<18446744073709551616):bits .and .u64 (z:Int) 1=((z%2:Nat):Int):=by
 have h:=bits_mask .u64 64 (by decide) wraps_u64 1 (by decide) (z:Int) (by omega) (by omega)
 rw [show ((2:Int)^1-1)=1 from rfl] at h
 rw [h];omega
def LP:Nat:=1074
theorem dLP:Ieee.double.leastPlace=-(LP:Int):=by decide
theorem val_plain (e g:Nat) (he:0<e) (hg:g<4503599627370496):val Ieee.double (e*4503599627370496+g)=(4503599627370496+g)*2^(e-1):=by
 obtain ⟨j,rfl⟩:∃ j,e=j+1:=⟨e-1,by omega⟩
 have h:=val_at Ieee.double j (4503599627370496+g) (.inr (by rw [dBin];omega)) (by rw [dBin];omega)
 rw [dBin] at h;rw [show (j+1)*4503599627370496+g=j*4503599627370496+(4503599627370496+g) by omega,h]
 rfl
theorem val_tiny (r:Nat) (h:r<4503599627370496):val Ieee.double r=r:=by unfold val;rw [dBin,if_pos h]
theorem two52:(4503599627370496:Nat)=2^52:=rfl
structure Whole (c e g:Nat):Prop where
 e0:0<e
 e1:e<1077
 g0:g<4503599627370496
 v:(4503599627370496+g)*2^(e-1)=c*2^LP
 ex:e=bl c+1022
 gx:∀ k,bl c+k=53→4503599627370496+g=c*2^k
 top:bl c=54→g=0
theorem whole_of (c:Nat) (h0:0<c) (h1:c≤9007199254740992):∃ e g,Whole c e g:=by
 by_cases ht:c=9007199254740992
 · subst ht
   have hb:bl 9007199254740992=54:=bl_eq _ 53 (by decide) (by decide)
   obtain ⟨e,he⟩:∃ e,e=1076:=⟨_,rfl⟩;refine ⟨e,0,by omega,by omega,by omega,?_,by rw [hb];omega,fun k hk=>by omega,fun _=>rfl⟩
   have key:∀ q,q=LP+1→(4503599627370496+0)*2^q=9007199254740992*2^LP:=by
    intro q hq;rw [hq,Nat.pow_succ];generalize 2^LP=Q;omega
   exact key (e-1) (by rw [he];rfl)
 · have hb1:=bl_pos c (by omega)
   have hb2:bl c≤53:=by
    have:=(Nat.pow_lt_pow_iff_right (a:=2) (by omega)).1 (Nat.lt_of_le_of_lt (bl_ge c (by omega)) (show c<2^53 by omega))
    omega
   obtain ⟨k,hk⟩:∃ k,bl c+k=53:=⟨53-bl c,by omega⟩
   have hlo:2^52≤c*2^k:=by
    have h2:=bl_ge c (by omega)
    have h3:2^(bl c-1)*2^k≤c*2^k:=Nat.mul_le_mul_right _ h2;rw [←Nat.pow_add,show bl c-1+k=52 by omega] at h3
    exact h3
   have hhi:c*2^k<2^53:=by
    have h3:=Nat.mul_lt_mul_of_pos_right (bl_lt c) (Nat.two_pow_pos k);rw [←Nat.pow_add,hk] at h3;exact h3
   have e52:(2:Nat)^52=4503599627370496:=rfl;have e53:(2:Nat)^53=9007199254740992:=rfl;rw [e52] at hlo;rw [e53] at hhi;refine ⟨bl c+1022,c*2^k-4503599627370496,by omega,by omega,by omega,?_,rfl,fun k' hk'=>?_,fun h=>by omega⟩
   · rw [show 4503599627370496+(c*2^k-4503599627370496)=c*2^k by omega,Nat.mul_assoc,←Nat.pow_add]
     congr 2
     show k+(bl c+1022-1)=1074
     omega
   · obtain rfl:k'=k:=by omega
     omega
theorem ofInt_whole (c e g:Nat) (h:Whole c e g):floatOfInt .f64 (c:Int)=bw false e g:=by
 have hr:e*4503599627370496+g<Ieee.double.infRung:=by rw [dInf];have:=h.e1;have:=h.g0;omega
 have hn:=nearest_exact Ieee.double false c LP (e*4503599627370496+g) hr (by rw [val_plain e g h.e0 h.g0,h.v])
 rw [dLP] at hn;rw [bw_word,←hn]
 show Ieee.double.nearest (decide ((c:Int)<0)) (c:Int).natAbs 0=_
 rw [show decide ((c:Int)<0)=false from decide_eq_false (by omega),Int.natAbs_natCast]
 congr 1
theorem pow_val (e:Nat) (he:0<e) (q:Nat) (hq:e-1=q):val Ieee.double (e*4503599627370496+0)=2^(52+q):=by
 rw [val_plain e 0 he (by omega),hq,Nat.add_zero,Nat.pow_add]
theorem pow_val2 (e:Nat) (he:0<e) (q r:Nat) (hq:e-1=q) (hr:52+q=r):val Ieee.double (e*4503599627370496+0)=2^r:=by rw [pow_val e he q hq,hr]
theorem one_val:val Ieee.double 4607182418800017408=2^LP:=pow_val2 1023 (by omega) (LP-52) LP rfl rfl
theorem small_val:val Ieee.double 4368491638549381120*2^53=2^LP:=by
 have h:val Ieee.double 4368491638549381120=2^(LP-53):=pow_val2 970 (by omega) (LP-105) (LP-53) rfl rfl
 rw [h,←Nat.pow_add]
 congr 1
theorem mul_one (d:Nat) (hd:d<9218868437227405312) (h0:0<d) (t:TypeId) (u:World):(binOp .mul t (.float .f64 4607182418800017408) (.float .f64 d)).run Tryd.prog u=.ok (.float .f64 d) u:=by
 refine run_float_arith u .mul t .f64 _ _ _ ?_
 show Ieee.double.mul 4607182418800017408 d=some d
 have hw:∀ r:Nat,Ieee.double.word false r=r:=fun r=>by simp [Ieee.Format.word]
 have hp:0<val Ieee.double d:=by have:=val_lt Ieee.double (r:=0) (s:=d) h0;omega
 have:=mul_exact Ieee.double dHs false false 4607182418800017408 d d LP dLP (by rw [dInf];omega) (by rw [dInf];omega) (by rw [dInf];omega) (by rw [one_val,Nat.mul_comm]) (by rw [one_val];have:=Nat.two_pow_pos LP;omega) (by omega)
 rw [hw,hw] at this;exact this
theorem mul_small (d c:Nat) (hd:d<9218868437227405312) (hc:c<4503599627370496) (h0:0<c) (hv:val Ieee.double d=c*2^53) (t:TypeId) (u:World):(binOp .mul t (.float .f64 4368491638549381120) (.float .f64 d)).run Tryd.prog u=.ok (.float .f64 c) u:=by
 refine run_float_arith u .mul t .f64 _ _ _ ?_
 show Ieee.double.mul 4368491638549381120 d=some c
 have hw:∀ r:Nat,Ieee.double.word false r=r:=fun r=>by simp [Ieee.Format.word]
 have hs:=small_val;have hp:val Ieee.double 4368491638549381120≠0:=by intro h;rw [h] at hs;have:=Nat.two_pow_pos LP;omega
 have:=mul_exact Ieee.double dHs false false 4368491638549381120 d c LP dLP (by rw [dInf];omega) (by rw [dInf];omega) (by rw [dInf];omega) (by rw [hv,val_tiny c hc,←hs];grind) hp (by rw [hv];have:=Nat.two_pow_pos 53;have:=Nat.mul_pos h0 this;omega)
 rw [hw,hw,Bool.xor_false,hw] at this;exact this
theorem nan_no (e g:Nat) (he:e<2047) (hg:g<4503599627370496) (u:World):Calls Tryd.prog 28 #[.float .f64 (bw false e g)] u fun r w'=>r=.returned (.bool false)∧w'=u:=by
 have:=isNaN_any false e g (by omega) hg u
 rw [odd_lt e g he] at this;exact this
theorem ldexp_any (c e g:Nat) (x:Int) (w:World) (hw:Whole c e g) (h0:0<c) (h1:c≤9007199254740992) (hx0:-1074≤x) (hx1:x≤971) (hn:x=-1074∨4503599627370496≤c) :
 Calls Tryd.prog 15 #[.float .f64 (bw false e g),.int .i64 x] w fun r w'=>r=.returned (.float .f64 ((x+1074).toNat*4503599627370496+c))∧w'=w:=by
 have he0:=hw.e0;have he1:=hw.e1;have hg:=hw.g0;have hb:bw false e g=e*4503599627370496+g:=by unfold bw;simp
 have z0:(FloatKind.f64.format.order (bw false e g) 0==some .eq)=false:=by rw [eq_zero false e g (by omega) hg];simp;omega
 have HI:Hid (∀ u,Calls Tryd.prog 27 #[.float .f64 (bw false e g),.int .i64 0] u fun r w'=>r=.returned (.bool false)∧w'=u):=fun u=>isInf0 e g (by omega) hg u
 have HN:Hid (∀ u,Calls Tryd.prog 28 #[.float .f64 (bw false e g)] u fun r w'=>r=.returned (.bool false)∧w'=u):=fun u=>nan_no e g (by omega) hg u
 have HZ:Hid (∀ u,Calls Tryd.prog 29 #[.float .f64 (bw false e g)] u fun r w'=>r=.returned (.tuple #[.float .f64 (bw false e g),.int .i64 0])∧w'=u):=fun u=>normalize_any e g he0 (by omega) hg u
 have e1:=bw_exp false e g (by omega) hg
 have mc:=mask_clear e g (by omega) hg
 have hbl:bl c≤54:=by have:=hw.ex;omega
 have hblp:=bl_pos c (by omega)
 have hex:=hw.ex
 by_cases hc:4503599627370496≤c
 · have hb53:53≤bl c:=by
    have:=(bl_gt c 52).2 (by rw [←two52];exact hc)
    omega
   by_cases hb54:bl c=54
   · have hg0:=hw.top hb54
     have hc2:c=9007199254740992:=by
      have:=(bl_gt c 53).1 (by omega)
      have e53:(2:Nat)^53=9007199254740992:=rfl;omega
     subst hg0
     by_cases hinf:x=971
     · subst hinf
       have:=ldexp_inf (bw false e 0) e 0 971 1024 w (by rw [hb];omega) (by omega) (by omega) he0 (by omega) (by omega) z0 HI HN HZ e1 mc (by omega) (by omega) (by rw [lt_zero false e 0 (by omega) (by omega) (odd_zero e) (by simp;omega)])
       rw [hc2];exact this
     · obtain ⟨E,hE⟩:∃ E:Nat,(E:Int)=x+((e:Int)-1023)+1023:=⟨(x+((e:Int)-1023)+1023).toNat,by omega⟩
       have hd:bw false E 0=(x+1074).toNat*4503599627370496+c:=by unfold bw;simp;omega
       have:=ldexp_norm (bw false e 0) e 0 (bw false E 0) x (x+((e:Int)-1023)) ((E:Int)*4503599627370496) w (by rw [hb];omega) (by omega) (by omega) he0 (by omega) (by omega) z0 HI HN HZ e1 mc rfl (by omega) (by omega) (by omega) (by omega) (by omega) (join_exp E 0 (by omega) (by omega)) (mul_one _ (by rw [hd];omega) (by rw [hd];omega) _)
       rw [hd] at this;exact this
   · have hb3:bl c=53:=by omega
     have hgx:=hw.gx 0 (by omega)
     rw [Nat.pow_zero,Nat.mul_one] at hgx;obtain ⟨E,hE⟩:∃ E:Nat,(E:Int)=x+((e:Int)-1023)+1023:=⟨(x+((e:Int)-1023)+1023).toNat,by omega⟩
     have hd:bw false E g=(x+1074).toNat*4503599627370496+c:=by unfold bw;simp;omega
     have:=ldexp_norm (bw false e g) e g (bw false E g) x (x+((e:Int)-1023)) ((E:Int)*4503599627370496) w (by rw [hb];omega) (by omega) (by omega) he0 (by omega) hg z0 HI HN HZ e1 mc rfl (by omega) (by omega) (by omega) (by omega) (by omega) (join_exp E g (by omega) hg) (mul_one _ (by rw [hd];omega) (by rw [hd];omega) _)
     rw [hd] at this;exact this
 · obtain rfl:x=-1074:=by omega
   have hb52:bl c≤52:=by
    by_cases h:52<bl c
    · have:=(bl_gt c 52).1 h
      rw [←two52] at this;omega
    · omega
   obtain ⟨k,hk⟩:∃ k,bl c+k=53:=⟨53-bl c,by omega⟩
   have hgx:=hw.gx k hk;obtain ⟨E,hE⟩:∃ E:Nat,E=bl c+1:=⟨_,rfl⟩;have hd:bw false E g=E*4503599627370496+g:=by unfold bw;simp
   have hv:val Ieee.double (bw false E g)=c*2^53:=by
    rw [hd,val_plain E g (by omega) hg,hgx,Nat.mul_assoc,←Nat.pow_add,show k+(E-1)=53 by omega]
   have:=ldexp_sub (bw false e g) e g (bw false E g) c (-1074) (-1074+((e:Int)-1023)) (-1074+((e:Int)-1023)+53) ((E:Int)*4503599627370496) w (by rw [hb];omega) (by omega) (by omega) he0 (by omega) hg z0 HI HN HZ e1 mc rfl (by omega) (by omega) rfl (by omega) (by omega) (by omega) (by omega) (by omega) (join_exp E g (by omega) hg) (mul_small _ c (by rw [hd];omega) (by omega) h0 hv _)
   simpa using this
theorem Ldexp_any (c e g:Nat) (x:Int) (w:World) (hw:Whole c e g) (h0:0<c) (h1:c≤9007199254740992) (hx0:-1074≤x) (hx1:x≤971) (hn:x=-1074∨4503599627370496≤c) :
 Calls Tryd.prog 5 #[.float .f64 (bw false e g),.int .i64 x] w fun r w'=>r=.returned (.float .f64 ((x+1074).toNat*4503599627370496+c))∧w'=w:=by
 have H:=hid (ldexp_any c e g x w hw h0 h1 hx0 hx1 hn);generalize bw false e g=b at *;generalize (x+1074).toNat*4503599627370496+c=d at *;clear hn hw;go_enter Tryd.func5,Tryd.ntmps5
 go_wp2_with fail
 refine H.out.mono ?_;rintro r w1 ⟨rfl,rfl⟩;go_wp2;go_ret;exact ⟨rfl,rfl⟩
theorem ldexp_nought (x:Int) (w:World):Calls Tryd.prog 15 #[.float .f64 0,.int .i64 x] w fun r w'=>r=.returned (.float .f64 0)∧w'=w:=by
 have z0:(FloatKind.f64.format.order 0 0==some .eq)=true:=eq_zero false 0 0 (by omega) (by omega)
 go_enter Tryd.func15,Tryd.ntmps15;go_wp2;go_ret;exact ⟨rfl,rfl⟩
theorem Ldexp_nought (x:Int) (w:World):Calls Tryd.prog 5 #[.float .f64 0,.int .i64 x] w fun r w'=>r=.returned (.float .f64 0)∧w'=w:=by
 have H:=hid (ldexp_nought x w);go_enter Tryd.func5,Tryd.ntmps5
 go_wp2_with fail
 refine H.out.mono ?_;rintro r w1 ⟨rfl,rfl⟩;go_wp2;go_ret;exact ⟨rfl,rfl⟩
end B
section
open Go.RowKit
def Pk (w:World) (g:Nat) (f:Int) (e:Int) (t:Bool) (m:Int):Prop:=w.heap[g]?=some (.cells #[.int .u64 f,.int .i64 e,.bool t,.int .i64 m] 101 (0,0))
theorem Pk.lt {w:World}{g:Nat}{f e:Int}{t:Bool}{m:Int}(h:Pk w g f e t m):g<w.heap.size:=(Array.getElem?_eq_some_iff.1 h).1
theorem Pk.below {w w':World}{g:Nat}{f e:Int}{t:Bool}{m:Int}(h:Pk w g f e t m) (hb:Below w.heap.size w w'):Pk w' g f e t m:=by
 unfold Pk;rw [hb.block g h.lt];exact h
theorem Pk.facts {w:World}{g:Nat}{f e:Int}{t:Bool}{m:Int}(h:Pk w g f e t m) :
 w.cell? ⟨g,0,none⟩=some (.int .u64 f)∧w.cell? ⟨g,1,none⟩=some (.int .i64 e)∧w.cell? ⟨g,2,none⟩=some (.bool t)∧w.cell? ⟨g,3,none⟩=some (.int .i64 m) ∧
 w.frozen? ⟨g,0,none⟩=false∧w.frozen? ⟨g,1,none⟩=false∧w.frozen? ⟨g,2,none⟩=false∧w.frozen? ⟨g,3,none⟩=false:=by
 unfold Pk at h;simp [World.cell?,World.frozen?,h]
def Wk (w:World) (g:Nat) (a b c:Int):Prop:=w.heap[g]?=some (.cells #[.int .i64 a,.int .i64 b,.int .i64 c] 84 (0,0))
theorem Wk.facts {w:World}{g:Nat}{a b c:Int}(h:Wk w g a b c):w.cell? ⟨g,0,none⟩=some (.int .i64 a)∧w.cell? ⟨g,1,none⟩=some (.int .i64 b)∧w.cell? ⟨g,2,none⟩=some (.int .i64 c):=by
 unfold Wk at h;simp [World.cell?,h]
theorem placed_begin (w:World) (n:Bool) (v:Value) (e a b c:Int) (W:World) (hW:W=((w.alloc (.cells #[.bool n,v,.int .i64 e] 64)).alloc (.cells #[.int .i64 a,.int .i64 b,.int .i64 c] 84)).alloc (.cells #[.int .u64 0,.int .i64 0,.bool false,.int .i64 0] 101)) :
 Below w.heap.size w W∧W.heap.size=w.heap.size+3∧Dk W w.heap.size n v e∧Wk W (w.heap.size+1) a b c∧Pk W (w.heap.size+1+1) 0 0 false 0:=by
 subst hW;refine ⟨((below_alloc w _).alloc (by simp) _).alloc (by simp;omega) _,by simp,((Dk.new w n v e).alloc _).alloc _,?_,?_⟩
 · unfold Wk
   rw [Below.heap_alloc _ _ _ (by simp)]
   have:=heap_alloc_new (w.alloc (.cells #[.bool n,v,.int .i64 e] 64)) (.cells #[.int .i64 a,.int .i64 b,.int .i64 c] 84);simpa using this
 · have:=heap_alloc_new ((w.alloc (.cells #[.bool n,v,.int .i64 e] 64)).alloc (.cells #[.int .i64 a,.int .i64 b,.int .i64 c] 84)) (.cells #[.int .u64 0,.int .i64 0,.bool false,.int .i64 0] 101)
   unfold Pk;simpa using this
def plc (dg:Nat) (least top:Int) (X:Nat) (e:Int):Nat×Int×Bool×Int :=
 if top<e+bl X then (2^dg-1,top-dg,false,1)
 else
  let ex:=max (e+bl X-dg) least
  let off:=ex-e
  if off≤0 then (X*2^(-off).toNat,ex,true,-1)
  else (X/2^off.toNat,ex,false,if off=1 then 0 else if X/2^(off-1).toNat%2=1 then 1 else -1)
abbrev st4 (w:World) (g:Nat) (x y z t:Value):World:=(((w.setCell ⟨g,0,none⟩ x).setCell ⟨g,1,none⟩ y).setCell ⟨g,2,none⟩ z).setCell ⟨g,3,none⟩ t
theorem Pk.set {w:World}{g:Nat}{f e:Int}{t:Bool}{m:Int}(h:Pk w g f e t m) (f' e':Int) (t':Bool) (m':Int):Pk (st4 w g (.int .u64 f') (.int .i64 e') (.bool t') (.int .i64 m')) g f' e' t' m':=by
 unfold Pk at h ⊢;simp [st4,World.setCell,Array.getElem?_modify,h]
theorem Pk.drew {w:World}{g:Nat}{f e:Int}{t:Bool}{m:Int}(h:Pk w g f e t m):Pk w.drew g f e t m:=h
theorem Pk.alloc {w:World}{g:Nat}{f e:Int}{t:Bool}{m:Int}(h:Pk w g f e t m) (o:Obj):Pk (w.alloc o) g f e t m:=h.below (below_alloc w o)
theorem placed_res (W:World) (g:Nat) (f e:Int) (t:Bool) (m:Int) (tmps:Array Value) (ht:tmps[4]?.getD undef=.pointer (some ⟨g,0,none⟩)) (D:Pk W g f e t m) :
 (results Tryd.f54 tmps).run Tryd.prog W=.ok (.agg #[.int .u64 f,.int .i64 e,.bool t,.int .i64 m]) W:=by
 obtain ⟨x0,x1,x2,x3,xf0,xf1,xf2,xf3⟩:=D.facts;simp [results,Tryd.results54,ht,go_sem,x0,x1,x2,x3]
theorem placed_far64 {w:World}{a:Option Addr}{l c:Nat}(n:Bool) (X:Nat) (e:Int) (b:Nat) (he0:-1048576≤e) (he1:e≤1048576) (hb:b≤262144) (hfar:1024<e+(b:Int))
 (HL:Hid (∀ u,Below w.heap.size w u→Calls Tryd.prog 56 #[.slice a l c] u fun r w'=>r=.returned (.int .i64 (b:Nat))∧w'=u)) :
 Calls Tryd.prog 54 #[.agg #[.bool n,.slice a l c,.int .i64 e],.agg #[.int .i64 53,.int .i64 (-1074),.int .i64 1024]] w fun r w'=>r=.returned (.agg #[.int .u64 9007199254740991,.int .i64 971,.bool false,.int .i64 1])∧Below w.heap.size w w':=by
 obtain ⟨W1,hW1⟩:∃ W,W=((w.alloc (.cells #[.bool n,.slice a l c,.int .i64 e] 64)).alloc (.cells #[.int .i64 53,.int .i64 (-1074),.int .i64 1024] 84)).alloc (.cells #[.int .u64 0,.int .i64 0,.bool false,.int .i64 0] 101):=⟨_,rfl⟩;obtain ⟨hB,hz1,DD,DW,DP⟩:=placed_begin w n (.slice a l c) e 53 (-1074) 1024 W1 hW1;have H1:=hid (HL.out W1 hB);obtain ⟨x0,x1,x2,xf0,xf1,xf2⟩:=DD.facts;obtain ⟨y0,y1,y2⟩:=DW.facts;obtain ⟨p0,p1,p2,p3,pf0,pf1,pf2,pf3⟩:=DP.facts;have F0:=qsd (show Fin w.heap.size (w.heap.size+3) w W1 (.slice none 0 0) 0 from ⟨Nt.nil _ _,hB,by omega⟩)
 have SB:=(qsd (ai hB (ai hz1 DP)));clear hB hz1 DD DW DP HL;go_enter Tryd.func54,Tryd.ntmps54
 go_wp2_with fail
 rw [←hW1];clear hW1;refine H1.out.mono ?_;rintro r ww ⟨rfl,hw⟩;rw [hw];clear hw ww H1;go_wp2
 go_region
 all_goals (
  go_wp2;refine bodyPost_ret (placed_res _ (w.heap.size+1+1) 9007199254740991 971 false 1 _ rfl (by repeat (with_reducible first | exact SB.out.2.2 | refine Pk.drew ?_ | refine Pk.set (f:=0) (e:=0) (t:=false) (m:=0) ?_ _ _ _ _))) rfl ⟨rfl,?_⟩
  refine Fin.bel (m:=w.heap.size+3) (v:=.slice none 0 0) (X:=0) ?_
  repeat (with_reducible first | exact F0.out | refine Fin.drew ?_ | refine Fin.alloc ?_ _ | refine Fin.set ?_ _ _ _ (by omega) (by omega)))
theorem placed_64one {w:World}{a:Option Addr}{l c:Nat}(n:Bool) (e ex off:Int) (b F:Nat) (he0:-1048576≤e) (he1:e≤1048576) (hb:b≤262144) (hF:F<18446744073709551616) (lF:(ws F).length≤100) (hnf:e+(b:Int)≤1024)
 (hmx:max (e+(b:Int)-53) (-1074)=ex) (eof:ex-e=off) (hex0:-2000≤ex) (hex1:ex≤2000) (hof0:-2000000≤off) (hof1:off≤2000000) (tt:Bool) (htt:decide (off≤0)=tt) (ho:(off==1)=true)
 (HL:Hid (∀ u,Below w.heap.size w u→Calls Tryd.prog 56 #[.slice a l c] u fun r w'=>r=.returned (.int .i64 (b:Nat))∧w'=u))
 (HS:Hid (∀ u,Below w.heap.size w u→Calls Tryd.prog 67 #[.slice a l c,.int .i64 (-off)] u fun r w'=>∃ v,r=.returned (.tuple #[v,.int .i64 0])∧Nt u.heap.size w' v F∧Below u.heap.size u w'))
 (HM:Hid (∀ (u:World) (p:Option Addr) (q:Nat),Arg u p (ws F).length q (ws F)→Calls Tryd.prog 68 #[.slice p (ws F).length q] u fun r w'=>r=.returned (.tuple #[.int .u64 (F:Nat),.int .i64 0])∧w'=u)) :
 Calls Tryd.prog 54 #[.agg #[.bool n,.slice a l c,.int .i64 e],.agg #[.int .i64 53,.int .i64 (-1074),.int .i64 1024]] w fun r w'=>r=.returned (.agg #[.int .u64 (F:Nat),.int .i64 ex,.bool tt,.int .i64 0])∧Below w.heap.size w w':=by
 obtain ⟨W1,hW1⟩:∃ W,W=((w.alloc (.cells #[.bool n,.slice a l c,.int .i64 e] 64)).alloc (.cells #[.int .i64 53,.int .i64 (-1074),.int .i64 1024] 84)).alloc (.cells #[.int .u64 0,.int .i64 0,.bool false,.int .i64 0] 101):=⟨_,rfl⟩;obtain ⟨hB,hz1,DD,DW,DP⟩:=placed_begin w n (.slice a l c) e 53 (-1074) 1024 W1 hW1;have H1:=hid (HL.out W1 hB);have H2:=hid (HS.out W1 hB);obtain ⟨x0,x1,x2,xf0,xf1,xf2⟩:=DD.facts;obtain ⟨y0,y1,y2⟩:=DW.facts;have SB:=(qsd (ai hB (ai hz1 (ai DD DP))));clear hB hz1 DD DW DP HL HS;go_enter Tryd.func54,Tryd.ntmps54
 go_wp2_with fail
 rw [←hW1];clear hW1;refine H1.out.mono ?_;rintro r ww ⟨rfl,hw⟩;rw [hw];clear hw ww H1
 go_wp2_with fail
 try simp only [hmx,eof]
 refine H2.out.mono ?_;rintro r u1 ⟨v,rfl,hN,hbb⟩;obtain ⟨a1,c1,rfl,A1⟩:=hN.arg (by omega)
 obtain ⟨hB,hz1,DD,DP⟩:=SB.out;have H3:=hid (HM.out u1 a1 c1 A1);obtain ⟨z0,z1,z2,zf0,zf1,zf2⟩:=(DD.below hbb).facts;have DP1:=DP.below hbb;obtain ⟨p0,p1,p2,p3,pf0,pf1,pf2,pf3⟩:=DP1.facts;have F0:=qsd (show Fin w.heap.size (w.heap.size+3) w u1 (.slice none 0 0) 0 from ⟨Nt.nil _ _,hB.trans (hbb.mono (by omega)),by have:=hbb.size;omega⟩)
 have hz:w.heap.size+1+1<u1.heap.size:=by have:=hbb.size;omega
 have hz':w.heap.size<u1.heap.size:=by omega
 have SP:=qsd DP1;clear hN hbb A1 hB hz1 DD DP DP1 H2 HM SB
 go_wp2_with fail
 try simp only [hmx,eof]
 refine H3.out.mono ?_;rintro r ww ⟨rfl,hw⟩;rw [hw];clear hw ww H3;go_wp2;refine bodyPost_ret (placed_res _ (w.heap.size+1+1) (F:Nat) ex tt 0 _ rfl (by repeat (with_reducible first | exact SP.out | refine Pk.alloc ?_ _ | refine Pk.drew ?_ | refine Pk.set (f:=0) (e:=0) (t:=false) (m:=0) ?_ _ _ _ _))) rfl ⟨rfl,?_⟩
 refine Fin.bel (m:=w.heap.size+3) (v:=.slice none 0 0) (X:=0) ?_
 repeat (with_reducible first | exact F0.out | refine Fin.drew ?_ | refine Fin.alloc ?_ _ | refine Fin.set ?_ _ _ _ (by omega) (by omega))
theorem placed_64bt {w:World}{a:Option Addr}{l c:Nat}(n:Bool) (e ex off:Int) (b F:Nat) (he0:-1048576≤e) (he1:e≤1048576) (hb:b≤262144) (hF:F<18446744073709551616) (lF:(ws F).length≤100) (hnf:e+(b:Int)≤1024)
 (hmx:max (e+(b:Int)-53) (-1074)=ex) (eof:ex-e=off) (hex0:-2000≤ex) (hex1:ex≤2000) (hof0:-2000000≤off) (hof1:off≤2000000) (tt:Bool) (htt:decide (off≤0)=tt) (ho:(off==1)=false)
 (HL:Hid (∀ u,Below w.heap.size w u→Calls Tryd.prog 56 #[.slice a l c] u fun r w'=>r=.returned (.int .i64 (b:Nat))∧w'=u))
 (HS:Hid (∀ u,Below w.heap.size w u→Calls Tryd.prog 67 #[.slice a l c,.int .i64 (-off)] u fun r w'=>∃ v,r=.returned (.tuple #[v,.int .i64 0])∧Nt u.heap.size w' v F∧Below u.heap.size u w'))
 (HM:Hid (∀ (u:World) (p:Option Addr) (q:Nat),Arg u p (ws F).length q (ws F)→Calls Tryd.prog 68 #[.slice p (ws F).length q] u fun r w'=>r=.returned (.tuple #[.int .u64 (F:Nat),.int .i64 0])∧w'=u))
 (HB:Hid (∀ u,Below w.heap.size w u→Calls Tryd.prog 69 #[.slice a l c,.int .i64 (off-1)] u fun r w'=>r=.returned (.bool true)∧w'=u)) :
 Calls Tryd.prog 54 #[.agg #[.bool n,.slice a l c,.int .i64 e],.agg #[.int .i64 53,.int .i64 (-1074),.int .i64 1024]] w fun r w'=>r=.returned (.agg #[.int .u64 (F:Nat),.int .i64 ex,.bool tt,.int .i64 1])∧Below w.heap.size w w':=by
 obtain ⟨W1,hW1⟩:∃ W,W=((w.alloc (.cells #[.bool n,.slice a l c,.int .i64 e] 64)).alloc (.cells #[.int .i64 53,.int .i64 (-1074),.int .i64 1024] 84)).alloc (.cells #[.int .u64 0,.int .i64 0,.bool false,.int .i64 0] 101):=⟨_,rfl⟩;obtain ⟨hB,hz1,DD,DW,DP⟩:=placed_begin w n (.slice a l c) e 53 (-1074) 1024 W1 hW1;have H1:=hid (HL.out W1 hB);have H2:=hid (HS.out W1 hB);obtain ⟨x0,x1,x2,xf0,xf1,xf2⟩:=DD.facts;obtain ⟨y0,y1,y2⟩:=DW.facts;have SB:=(qsd (ai hB (ai hz1 (ai DD DP))));clear hB hz1 DD DW DP HL HS;go_enter Tryd.func54,Tryd.ntmps54
 go_wp2_with fail
 rw [←hW1];clear hW1;refine H1.out.mono ?_;rintro r ww ⟨rfl,hw⟩;rw [hw];clear hw ww H1
 go_wp2_with fail
 try simp only [hmx,eof]
 refine H2.out.mono ?_;rintro r u1 ⟨v,rfl,hN,hbb⟩;obtain ⟨a1,c1,rfl,A1⟩:=hN.arg (by omega)
 obtain ⟨hB,hz1,DD,DP⟩:=SB.out;have H3:=hid (HM.out u1 a1 c1 A1);obtain ⟨z0,z1,z2,zf0,zf1,zf2⟩:=(DD.below hbb).facts;have DP1:=DP.below hbb;obtain ⟨p0,p1,p2,p3,pf0,pf1,pf2,pf3⟩:=DP1.facts;have F0:=qsd (show Fin w.heap.size (w.heap.size+3) w u1 (.slice none 0 0) 0 from ⟨Nt.nil _ _,hB.trans (hbb.mono (by omega)),by have:=hbb.size;omega⟩)
 have hz:w.heap.size+1+1<u1.heap.size:=by have:=hbb.size;omega
 have hz':w.heap.size<u1.heap.size:=by omega
 have SP:=qsd DP1;clear hN hbb A1 hB hz1 DD DP DP1 H2 HM SB
 go_wp2_with fail
 try simp only [hmx,eof]
 refine H3.out.mono ?_;rintro r ww ⟨rfl,hw⟩;rw [hw];clear hw ww H3;have H4:=hid (HB.out (u1.alloc (.cells #[.int .u64 (F:Nat),.int .i64 ex,.bool tt,.int .i64 (-1)] 101)) (F0.out.bel.alloc F0.out.size _));clear HB
 go_wp2_with fail
 try simp only [hmx,eof,htt]
 refine H4.out.mono ?_;rintro r ww ⟨rfl,hw⟩;rw [hw];clear hw ww H4;go_wp2;refine bodyPost_ret (placed_res _ (w.heap.size+1+1) (F:Nat) ex tt 1 _ rfl (by repeat (with_reducible first | exact SP.out | refine Pk.alloc ?_ _ | refine Pk.drew ?_ | refine Pk.set (f:=0) (e:=0) (t:=false) (m:=0) ?_ _ _ _ _))) rfl ⟨rfl,?_⟩
 refine Fin.bel (m:=w.heap.size+3) (v:=.slice none 0 0) (X:=0) ?_
 repeat (with_reducible first | exact F0.out | refine Fin.drew ?_ | refine Fin.alloc ?_ _ | refine Fin.set ?_ _ _ _ (by omega) (by omega))
theorem placed_64bf {w:World}{a:Option Addr}{l c:Nat}(n:Bool) (e ex off:Int) (b F:Nat) (he0:-1048576≤e) (he1:e≤1048576) (hb:b≤262144) (hF:F<18446744073709551616) (lF:(ws F).length≤100) (hnf:e+(b:Int)≤1024)
 (hmx:max (e+(b:Int)-53) (-1074)=ex) (eof:ex-e=off) (hex0:-2000≤ex) (hex1:ex≤2000) (hof0:-2000000≤off) (hof1:off≤2000000) (tt:Bool) (htt:decide (off≤0)=tt) (ho:(off==1)=false)
 (HL:Hid (∀ u,Below w.heap.size w u→Calls Tryd.prog 56 #[.slice a l c] u fun r w'=>r=.returned (.int .i64 (b:Nat))∧w'=u))
 (HS:Hid (∀ u,Below w.heap.size w u→Calls Tryd.prog 67 #[.slice a l c,.int .i64 (-off)] u fun r w'=>∃ v,r=.returned (.tuple #[v,.int .i64 0])∧Nt u.heap.size w' v F∧Below u.heap.size u w'))
 (HM:Hid (∀ (u:World) (p:Option Addr) (q:Nat),Arg u p (ws F).length q (ws F)→Calls Tryd.prog 68 #[.slice p (ws F).length q] u fun r w'=>r=.returned (.tuple #[.int .u64 (F:Nat),.int .i64 0])∧w'=u))
 (HB:Hid (∀ u,Below w.heap.size w u→Calls Tryd.prog 69 #[.slice a l c,.int .i64 (off-1)] u fun r w'=>r=.returned (.bool false)∧w'=u)) :
 Calls Tryd.prog 54 #[.agg #[.bool n,.slice a l c,.int .i64 e],.agg #[.int .i64 53,.int .i64 (-1074),.int .i64 1024]] w fun r w'=>r=.returned (.agg #[.int .u64 (F:Nat),.int .i64 ex,.bool tt,.int .i64 (-1)])∧Below w.heap.size w w':=by
 obtain ⟨W1,hW1⟩:∃ W,W=((w.alloc (.cells #[.bool n,.slice a l c,.int .i64 e] 64)).alloc (.cells #[.int .i64 53,.int .i64 (-1074),.int .i64 1024] 84)).alloc (.cells #[.int .u64 0,.int .i64 0,.bool false,.int .i64 0] 101):=⟨_,rfl⟩;obtain ⟨hB,hz1,DD,DW,DP⟩:=placed_begin w n (.slice a l c) e 53 (-1074) 1024 W1 hW1;have H1:=hid (HL.out W1 hB);have H2:=hid (HS.out W1 hB);obtain ⟨x0,x1,x2,xf0,xf1,xf2⟩:=DD.facts;obtain ⟨y0,y1,y2⟩:=DW.facts;have SB:=(qsd (ai hB (ai hz1 (ai DD DP))));clear hB hz1 DD DW DP HL HS;go_enter Tryd.func54,Tryd.ntmps54
 go_wp2_with fail
 rw [←hW1];clear hW1;refine H1.out.mono ?_;rintro r ww ⟨rfl,hw⟩;rw [hw];clear hw ww H1
 go_wp2_with fail
 try simp only [hmx,eof]
 refine H2.out.mono ?_;rintro r u1 ⟨v,rfl,hN,hbb⟩;obtain ⟨a1,c1,rfl,A1⟩:=hN.arg (by omega)
 obtain ⟨hB,hz1,DD,DP⟩:=SB.out;have H3:=hid (HM.out u1 a1 c1 A1);obtain ⟨z0,z1,z2,zf0,zf1,zf2⟩:=(DD.below hbb).facts;have DP1:=DP.below hbb;obtain ⟨p0,p1,p2,p3,pf0,pf1,pf2,pf3⟩:=DP1.facts;have F0:=qsd (show Fin w.heap.size (w.heap.size+3) w u1 (.slice none 0 0) 0 from ⟨Nt.nil _ _,hB.trans (hbb.mono (by omega)),by have:=hbb.size;omega⟩)
 have hz:w.heap.size+1+1<u1.heap.size:=by have:=hbb.size;omega
 have hz':w.heap.size<u1.heap.size:=by omega
 have SP:=qsd DP1;clear hN hbb A1 hB hz1 DD DP DP1 H2 HM SB
 go_wp2_with fail
 try simp only [hmx,eof]
 refine H3.out.mono ?_;rintro r ww ⟨rfl,hw⟩;rw [hw];clear hw ww H3;have H4:=hid (HB.out (u1.alloc (.cells #[.int .u64 (F:Nat),.int .i64 ex,.bool tt,.int .i64 (-1)] 101)) (F0.out.bel.alloc F0.out.size _));clear HB
 go_wp2_with fail
 try simp only [hmx,eof,htt]
 refine H4.out.mono ?_;rintro r ww ⟨rfl,hw⟩;rw [hw];clear hw ww H4;go_wp2;refine bodyPost_ret (placed_res _ (w.heap.size+1+1) (F:Nat) ex tt (-1) _ rfl (by repeat (with_reducible first | exact SP.out | refine Pk.alloc ?_ _ | refine Pk.drew ?_ | refine Pk.set (f:=0) (e:=0) (t:=false) (m:=0) ?_ _ _ _ _))) rfl ⟨rfl,?_⟩
 refine Fin.bel (m:=w.heap.size+3) (v:=.slice none 0 0) (X:=0) ?_
 repeat (with_reducible first | exact F0.out | refine Fin.drew ?_ | refine Fin.alloc ?_ _ | refine Fin.set ?_ _ _ _ (by omega) (by omega))
end
section
open Go.RowKit
theorem small_ws {w:World}{p:Option Addr}{q F:Nat}(hF:F<18446744073709551616) (hA:Arg w p (ws F).length q (ws F)) :
 Calls Tryd.prog 68 #[.slice p (ws F).length q] w fun r w'=>r=.returned (.tuple #[.int .u64 (F:Nat),.int .i64 0])∧w'=w:=by
 have:=small_any (ws F) p (ws F).length q w.heap.size w hA.len hA.cap (by have:=hA.big;omega) hA.wf hA.rd
 rw [val_ws] at this;unfold smallV at this;rw [if_pos hF] at this;exact this
theorem plc_facts (X:Nat) (e:Int) (hX:X≠0) (he0:-1048576≤e) (he1:e≤1048576) :
 (plc 53 (-1074) 1024 X e).1≤9007199254740991∧-1074≤(plc 53 (-1074) 1024 X e).2.1∧(plc 53 (-1074) 1024 X e).2.1≤971∧((plc 53 (-1074) 1024 X e).2.1=-1074∨4503599627370496≤(plc 53 (-1074) 1024 X e).1):=by
 have hb:=bl_pos X hX;have h1:=bl_lt X;have h2:=bl_ge X hX;have e53:(2:Nat)^53=9007199254740992:=rfl;have e52:(2:Nat)^52=4503599627370496:=rfl;unfold plc
 by_cases hf:1024<e+(bl X:Int)
 · rw [if_pos hf]
   refine ⟨by simp,by simp,by simp,.inr (by simp)⟩
 · rw [if_neg hf]
   simp only;obtain ⟨ex,hex⟩:∃ ex,max (e+(bl X:Int)-((53:Nat):Int)) (-1074)=ex:=⟨_,rfl⟩;rw [hex]
   by_cases ho:ex-e≤0
   · rw [if_pos ho]
     obtain ⟨k,hk⟩:∃ k:Nat,(-(ex-e)).toNat=k:=⟨_,rfl⟩;rw [hk];have hub:X*2^k<2^(bl X+k):=by rw [Nat.pow_add];exact Nat.mul_lt_mul_of_pos_right h1 (Nat.two_pow_pos k)
     have hm:2^(bl X+k)≤2^53:=Nat.pow_le_pow_right (by omega) (by omega)
     refine ⟨by simp only;omega,by simp only;omega,by simp only;omega,?_⟩
     by_cases hl:ex=-1074
     · exact .inl hl
     · right
       have hlb:2^(bl X-1)*2^k≤X*2^k:=Nat.mul_le_mul_right _ h2;rw [←Nat.pow_add,show bl X-1+k=52 by omega] at hlb
       simp only;omega
   · rw [if_neg ho]
     obtain ⟨k,hk⟩:∃ k:Nat,(ex-e).toNat=k:=⟨_,rfl⟩;rw [hk]
     have hub:X/2^k<2^53:=by
      rw [Nat.div_lt_iff_lt_mul (Nat.two_pow_pos k),←Nat.pow_add];exact Nat.lt_of_lt_of_le h1 (Nat.pow_le_pow_right (by omega) (by omega))
     refine ⟨by simp only;omega,by simp only;omega,by simp only;omega,?_⟩
     by_cases hl:ex=-1074
     · exact .inl hl
     · right
       have hlb:2^52≤X/2^k:=by
        rw [Nat.le_div_iff_mul_le (Nat.two_pow_pos k),←Nat.pow_add,show 52+k=bl X-1 by omega]
        exact h2
       simp only;omega
theorem shift_down (X:Nat) (k:Nat) (hX:X≠0) (hl:bl X≤262144) (h0:0<k):shiftS X (-(k:Int))=(X/2^k,0):=by
 unfold shiftS;rw [if_neg (notLG hl),if_neg hX,if_pos (by omega),show (- -(k:Int)).toNat=k by omega]
theorem placed_any {w:World}{a:Option Addr}{l c:Nat}{X:Nat}(hA:Arg w a l c (ws X)) (n:Bool) (e:Int) (he0:-1048576≤e) (he1:e≤1048576) (hX:X≠0) (hl:bl X≤262144) :
 Calls Tryd.prog 54 #[.agg #[.bool n,.slice a l c,.int .i64 e],.agg #[.int .i64 53,.int .i64 (-1074),.int .i64 1024]] w fun r w' =>
  r=.returned (.agg #[.int .u64 ((plc 53 (-1074) 1024 X e).1:Nat),.int .i64 (plc 53 (-1074) 1024 X e).2.1,.bool (plc 53 (-1074) 1024 X e).2.2.1,.int .i64 (plc 53 (-1074) 1024 X e).2.2.2])∧Below w.heap.size w w':=by
 have pf:=plc_facts X e hX he0 he1
 have HL:Hid (∀ u,Below w.heap.size w u→Calls Tryd.prog 56 #[.slice a l c] u fun r w'=>r=.returned (.int .i64 (bl X:Nat))∧w'=u):=by
  intro u hu;have A:=hA.below hu;have:=len_any (ws X) a l c u.heap.size u A.len A.cap (by have:=A.big;omega) A.wf A.rd
  rw [val_ws] at this;exact this
 have hb:=bl_pos X hX
 by_cases hf:1024<e+(bl X:Int)
 · have hp:plc 53 (-1074) 1024 X e=(9007199254740991,971,false,1):=by unfold plc;rw [if_pos hf];rfl
   rw [hp];exact placed_far64 n X e (bl X) he0 he1 hl hf HL
 · obtain ⟨ex,hex⟩:∃ ex,max (e+(bl X:Int)-53) (-1074)=ex:=⟨_,rfl⟩
   obtain ⟨off,hof⟩:∃ off,ex-e=off:=⟨_,rfl⟩;have hexb:-2000≤ex∧ex≤2000:=by omega
   have hp:plc 53 (-1074) 1024 X e=if off≤0 then (X*2^(-off).toNat,ex,true,-1) else (X/2^off.toNat,ex,false,if off=1 then 0 else if X/2^(off-1).toNat%2=1 then 1 else -1):=by
    unfold plc;rw [if_neg hf];simp only;rw [show ((53:Nat):Int)=53 from rfl,hex,hof]
   obtain ⟨F,hFe⟩:∃ F,(plc 53 (-1074) 1024 X e).1=F:=⟨_,rfl⟩;have hF:F≤9007199254740991:=by rw [←hFe];exact pf.1
   have lF:(ws F).length≤100:=by have:=ws_len_bl F;have:=B.bl_le53' F hF;omega
   have hsh:shiftS X (-off)=(F,0):=by
    rw [←hFe,hp]
    by_cases ho:off≤0
    · rw [if_pos ho,shift_up X (-off) (by omega) hX hl,if_neg (by omega)]
    · obtain ⟨k,hk⟩:∃ k:Nat,off=(k:Int):=⟨off.toNat,by omega⟩
      rw [if_neg ho,hk,shift_down X k hX hl (by omega),Int.toNat_natCast]
   have HS:Hid (∀ u,Below w.heap.size w u→Calls Tryd.prog 67 #[.slice a l c,.int .i64 (-off)] u fun r w'=>∃ v,r=.returned (.tuple #[v,.int .i64 0])∧Nt u.heap.size w' v F∧Below u.heap.size u w'):=by
    intro u hu;have A:=hA.below hu;exact Shift_arg (-off) A (by rw [val_ws];exact hsh) (by omega) (by omega)
   have HM:Hid (∀ (u:World) (p:Option Addr) (q:Nat),Arg u p (ws F).length q (ws F)→Calls Tryd.prog 68 #[.slice p (ws F).length q] u fun r w'=>r=.returned (.tuple #[.int .u64 (F:Nat),.int .i64 0])∧w'=u):=fun u p q hA=>small_ws (by omega) hA
   have HB:∀ t:Bool,(if off-1<0 then false else decide (X/2^(off-1).toNat%2=1))=t→Hid (∀ u,Below w.heap.size w u→Calls Tryd.prog 69 #[.slice a l c,.int .i64 (off-1)] u fun r w'=>r=.returned (.bool t)∧w'=u):=by
    intro t ht u hu;have A:=hA.below hu
    by_cases h0:off-1<0
    · rw [if_pos h0] at ht;subst ht;exact bit_neg a l c (off-1) u h0
    · rw [if_neg h0] at ht
      obtain ⟨k,hk⟩:∃ k:Nat,off-1=(k:Int):=⟨(off-1).toNat,by omega⟩
      have:=bit_any (ws X) a l c u.heap.size k u A.len A.wf A.rd (by omega)
      rw [val_ws] at this;rw [hk] at ht ⊢;rw [Int.toNat_natCast] at ht;rw [ht] at this;exact this
   rw [hFe]
   by_cases h1:off=1
   · have:=placed_64one n e ex off (bl X) F he0 he1 hl (by omega) lF (by omega) hex hof hexb.1 hexb.2 (by omega) (by omega) false (decide_eq_false (by omega)) (by simp [h1]) HL HS HM
     rw [hp,if_neg (by omega)]
     simp only [h1,if_true];exact this
   · have h1':(off==1)=false:=by simp [h1]
     by_cases ho:off≤0
     · have:=placed_64bf n e ex off (bl X) F he0 he1 hl (by omega) lF (by omega) hex hof hexb.1 hexb.2 (by omega) (by omega) true (decide_eq_true ho) h1' HL HS HM (HB false (by rw [if_pos (by omega)]))
       rw [hp,if_pos ho];exact this
     · rw [hp,if_neg ho]
       simp only [if_neg h1]
       by_cases hbt:X/2^(off-1).toNat%2=1
       · have:=placed_64bt n e ex off (bl X) F he0 he1 hl (by omega) lF (by omega) hex hof hexb.1 hexb.2 (by omega) (by omega) false (decide_eq_false ho) h1' HL HS HM (HB true (by rw [if_neg (by omega)];exact decide_eq_true hbt))
         rw [if_pos hbt];exact this
       · have:=placed_64bf n e ex off (bl X) F he0 he1 hl (by omega) lF (by omega) hex hof hexb.1 hexb.2 (by omega) (by omega) false (decide_eq_false ho) h1' HL HS HM (HB false (by rw [if_neg (by omega)];exact decide_eq_false hbt))
         rw [if_neg hbt];exact this
def outS (mode:Int) (F:Nat) (mid:Int) (n:Bool):Bool :=
 if mode=0 then decide (0<mid) || (decide (mid=0)&&decide (F%2=1)) else if mode=2 then !n else if mode=3 then n else if mode=4 then decide (0≤mid) else false
end
section
open Go.RowKit
theorem and_one64 (z:Nat) (h:z<18446744073709551616):bits BinOp.and IntKind.u64 (z:Int) 1=((z%2:Nat):Int):=by
 have h:=B.bits_mask1 z h;exact h
theorem out_even1 (F:Nat) (ex:Int) (t:Bool) (n:Bool) (w:World)  :
 Calls Tryd.prog 55 #[.agg #[.int .u64 (F:Nat),.int .i64 ex,.bool t,.int .i64 1],.int .i64 0,.bool n] w fun r w'=>r=.returned (.bool true)∧Below w.heap.size w w':=by
 have HB:=qsd (show Below w.heap.size w (w.alloc (.cells #[.int .u64 (F:Nat),.int .i64 ex,.bool t,.int .i64 1] 101)) from below_alloc w _)
 go_enter Tryd.func55,Tryd.ntmps55;go_wp2
 all_goals go_ret
 all_goals exact ⟨rfl,HB.out⟩
theorem out_even0 (F:Nat) (ex:Int) (t:Bool) (n:Bool) (w:World) (b:Bool) (hb:(bits BinOp.and IntKind.u64 (F:Int) 1==1)=b) :
 Calls Tryd.prog 55 #[.agg #[.int .u64 (F:Nat),.int .i64 ex,.bool t,.int .i64 0],.int .i64 0,.bool n] w fun r w'=>r=.returned (.bool b)∧Below w.heap.size w w':=by
 have HB:=qsd (show Below w.heap.size w (w.alloc (.cells #[.int .u64 (F:Nat),.int .i64 ex,.bool t,.int .i64 0] 101)) from below_alloc w _)
 go_enter Tryd.func55,Tryd.ntmps55;go_wp2
 all_goals go_ret
 all_goals exact ⟨rfl,HB.out⟩
theorem out_evenm (F:Nat) (ex:Int) (t:Bool) (n:Bool) (w:World)  :
 Calls Tryd.prog 55 #[.agg #[.int .u64 (F:Nat),.int .i64 ex,.bool t,.int .i64 (-1)],.int .i64 0,.bool n] w fun r w'=>r=.returned (.bool false)∧Below w.heap.size w w':=by
 have HB:=qsd (show Below w.heap.size w (w.alloc (.cells #[.int .u64 (F:Nat),.int .i64 ex,.bool t,.int .i64 (-1)] 101)) from below_alloc w _)
 go_enter Tryd.func55,Tryd.ntmps55;go_wp2
 all_goals go_ret
 all_goals exact ⟨rfl,HB.out⟩
theorem out_zero (F:Nat) (ex:Int) (t:Bool) (mid:Int) (n:Bool) (w:World)  :
 Calls Tryd.prog 55 #[.agg #[.int .u64 (F:Nat),.int .i64 ex,.bool t,.int .i64 mid],.int .i64 1,.bool n] w fun r w'=>r=.returned (.bool false)∧Below w.heap.size w w':=by
 have HB:=qsd (show Below w.heap.size w (w.alloc (.cells #[.int .u64 (F:Nat),.int .i64 ex,.bool t,.int .i64 mid] 101)) from below_alloc w _)
 go_enter Tryd.func55,Tryd.ntmps55;go_wp2
 all_goals go_ret
 all_goals exact ⟨rfl,HB.out⟩
theorem out_up (F:Nat) (ex:Int) (t:Bool) (mid:Int) (n:Bool) (w:World)  :
 Calls Tryd.prog 55 #[.agg #[.int .u64 (F:Nat),.int .i64 ex,.bool t,.int .i64 mid],.int .i64 2,.bool n] w fun r w'=>r=.returned (.bool (!n))∧Below w.heap.size w w':=by
 have HB:=qsd (show Below w.heap.size w (w.alloc (.cells #[.int .u64 (F:Nat),.int .i64 ex,.bool t,.int .i64 mid] 101)) from below_alloc w _)
 go_enter Tryd.func55,Tryd.ntmps55;go_wp2
 all_goals go_ret
 all_goals exact ⟨rfl,HB.out⟩
theorem out_down (F:Nat) (ex:Int) (t:Bool) (mid:Int) (n:Bool) (w:World)  :
 Calls Tryd.prog 55 #[.agg #[.int .u64 (F:Nat),.int .i64 ex,.bool t,.int .i64 mid],.int .i64 3,.bool n] w fun r w'=>r=.returned (.bool n)∧Below w.heap.size w w':=by
 have HB:=qsd (show Below w.heap.size w (w.alloc (.cells #[.int .u64 (F:Nat),.int .i64 ex,.bool t,.int .i64 mid] 101)) from below_alloc w _)
 go_enter Tryd.func55,Tryd.ntmps55;go_wp2
 all_goals go_ret
 all_goals exact ⟨rfl,HB.out⟩
theorem out_away (F:Nat) (ex:Int) (t:Bool) (mid:Int) (n:Bool) (w:World) (b:Bool) (hb:decide (0≤mid)=b) :
 Calls Tryd.prog 55 #[.agg #[.int .u64 (F:Nat),.int .i64 ex,.bool t,.int .i64 mid],.int .i64 4,.bool n] w fun r w'=>r=.returned (.bool b)∧Below w.heap.size w w':=by
 have HB:=qsd (show Below w.heap.size w (w.alloc (.cells #[.int .u64 (F:Nat),.int .i64 ex,.bool t,.int .i64 mid] 101)) from below_alloc w _)
 go_enter Tryd.func55,Tryd.ntmps55;go_wp2
 all_goals go_ret
 all_goals exact ⟨rfl,HB.out⟩
theorem goesOut_any (F:Nat) (ex:Int) (t:Bool) (mid mode:Int) (n:Bool) (w:World) (hF:F<18446744073709551616) (hm:mid=-1∨mid=0∨mid=1) (h0:0≤mode) (h4:mode≤4) :
 Calls Tryd.prog 55 #[.agg #[.int .u64 (F:Nat),.int .i64 ex,.bool t,.int .i64 mid],.int .i64 mode,.bool n] w fun r w'=>r=.returned (.bool (outS mode F mid n))∧Below w.heap.size w w':=by
 have hc:mode=0∨mode=1∨mode=2∨mode=3∨mode=4:=by omega
 rcases hc with rfl|rfl|rfl|rfl|rfl
 · rcases hm with rfl | rfl | rfl
   · exact out_evenm F ex t n w
   · have e:(bits BinOp.and IntKind.u64 (F:Int) 1==1)=outS 0 F 0 n:=by
      rw [and_one64 F hF];unfold outS
      rcases Nat.mod_two_eq_zero_or_one F with h|h <;> simp [h]
     exact out_even0 F ex t n w _ e
   · exact out_even1 F ex t n w
 · exact out_zero F ex t mid n w
 · exact out_up F ex t mid n w
 · exact out_down F ex t mid n w
 · exact out_away F ex t mid n w _ rfl
end
end Go.Proofs.YtaofncmoehebmaaDoor
