import Derived.Test.YtflkmfdlpfimcaaGreatDoorW40x
import Derived.Test.YtflkmfdlpfimcaaGreatDoorW10x
import Derived.Laws.BitsAllLaws
import Derived.WalkLawsBesides
import Derived.Deep.RegionWith
import Derived.Laws.StructEq
import Derived.BigQuiet
set_option linter.unusedVariables false
set_option linter.unusedSimpArgs false
set_option maxHeartbeats 16000000
set_option maxRecDepth 20000
namespace Go.Proofs.YtflkmfdlpfimcaaGreatDoor
section
open Go.RowKit
theorem ws_getD (Y i:Nat):(ws Y).getD i 0=Y/pw i%4294967296:=by
 induction i generalizing Y with
 | zero =>
   by_cases h:Y=0
   · subst h;simp [ws_zero]
   · rw [ws_pos Y h,pw_zero];simp
 | succ i ih =>
   by_cases h:Y=0
   · subst h;simp [ws_zero]
   · rw [ws_pos Y h,pw_succ,←Nat.div_div_eq_div_mul,←ih]
     simp
theorem win_word (X low i:Nat):win X ((low:Int)+32*(i:Int))=(ws (X/2^low)).getD i 0:=by
 rw [ws_getD,Nat.div_div_eq_div_mul];unfold win;rw [if_neg (by omega),show ((low:Int)+32*(i:Int)).toNat=low+32*i by omega,Nat.pow_add,Nat.pow_mul]
 rfl
theorem part_set (Ys:List Nat) (k:Nat) (hk:k<Ys.length) :
 (Ys.take k++List.replicate (Ys.length-k) 0).set k (Ys.getD k 0)=Ys.take (k+1)++List.replicate (Ys.length-(k+1)) 0:=by
 apply List.ext_getElem?
 intro j;rw [List.getElem?_set]
 by_cases hj:k=j
 · subst hj
   rw [if_pos rfl,if_pos (by simp;omega),List.getElem?_append_left (by simp;omega)]
   simp [List.getD_eq_getElem?_getD,hk]
 · rw [if_neg hj]
   by_cases h1:j<k
   · rw [List.getElem?_append_left (by simp;omega),List.getElem?_append_left (by simp;omega)]
     simp [h1,show j<k+1 by omega]
   · rw [List.getElem?_append_right (by simp;omega),List.getElem?_append_right (by simp;omega)]
     simp only [List.getElem?_replicate,List.length_take]
     congr 1
     simp only [eq_iff_iff];omega
theorem odd_any {w:World}{a:Option Addr}{n c:Nat}{xs:List Nat}(h1:Arg w a n c xs) (low size:Nat) (hle:low≤size) (hsz:size≤1125899906842624) (hlen:(size-low+31)/32=(ws (val xs/2^low)).length) :
 Calls Tryz.prog 144 #[.slice a n c,.int .i64 (low:Nat),.int .i64 (size:Nat)] w fun r w'=>∃ v,r=.returned v∧Nt w.heap.size w' v (val xs/2^low)∧Below w.heap.size w w':=by
 obtain ⟨m,hm⟩:∃ m,m=(size-low+31)/32:=⟨_,rfl⟩;rw [←hm] at hlen;have e1:((size:Int)-low+32-1)/32=(m:Int):=by omega
 have hmb:m≤35184372088832:=by omega
 obtain ⟨W1,hW1⟩:∃ W,W=w.alloc (.cells (madeCells #[.int .u32 0] m) 91):=⟨_,rfl⟩;have hO1:Own W1 w.heap.size (List.replicate m 0):=by rw [hW1];exact Own.made w m
 have hB1:Below w.heap.size w W1:=by rw [hW1];exact (Below.refl _ _).alloc (Nat.le_refl _) _
 have hmk:=make_words (m:Int) m rfl (by omega) w
 rw [←hW1] at hmk;have A1:=h1.below hB1;obtain ⟨g,hg⟩:∃ g,g=w.heap.size:=⟨_,rfl⟩;rw [←hg] at hO1 hmk;obtain ⟨Ys,hYs⟩:∃ Ys,ws (val xs/2^low)=Ys:=⟨_,rfl⟩;have hYw:Wf Ys:=hYs ▸ wf_ws _;rw [hYs] at hlen
 have WN:Hid (∀ wr,But g W1 wr→∀ i:Nat,i<m→Calls Tryz.prog 178 #[.slice a n c,.int .i64 ((low:Int)+32*(i:Int))] wr fun r w'=>r=.returned (.int .u32 ((Ys.getD i 0:Nat):Int))∧w'=wr):=by
  intro wr hb i hi;have hR:Rd w.heap.size wr a xs:=(h1.rd.below hB1).but hb (by rw [hg] at *;have:=hB1.size;omega) (by omega)
  have:=window_any xs a n c w.heap.size ((low:Int)+32*(i:Int)) wr h1.len (by have:=h1.big;omega) h1.wf hR (by omega) (by omega)
  rw [win_word,hYs] at this;exact this
 have HR:=(qsd (ai hB1 (ai hg (ai hYs (ai hYw hlen)))))
 have HO:Hid (Own W1 g (Ys.take 0++List.replicate (Ys.length-0) 0)):=by
  rw [←hlen];exact hid (by simpa using hO1)
 clear hm h1 hO1 hB1 A1 hg hYs hYw hW1 hlen;go_enter Tryz.func144,Tryz.ntmps144;go_wp2
 go_loopg [18] m (fun gk iv wr=>∃ (k:Nat),gk+k=m∧iv=.int .i64 (k:Nat)∧Hid (Own wr g (Ys.take k++List.replicate (Ys.length-k) 0))∧Aside (But g W1 wr))
 case atStart=>exact ⟨0,by omega,rfl,HO,But.refl _ _⟩
 case round =>
  clear HO e1;obtain ⟨k,hgk,rfl,HM,HA⟩:=hrel
  by_cases hk:k<m
  · have hlen:=HR.out.2.2.2.2
    have hgc:=HM.out.cell k (by simp;omega)
    have hgf:=HM.out.frozen k;obtain ⟨old,hold⟩:∃ o:Nat,(Ys.take k++List.replicate (Ys.length-k) 0).getD k 0=o:=⟨_,rfl⟩;rw [hold] at hgc;obtain ⟨y,hy⟩:∃ y:Nat,Ys.getD k 0=y:=⟨_,rfl⟩;have W2:=hid (WN.out wr HA.out k hk);rw [hy] at W2;have HY:=qsd hy;clear hlen hold hy
    go_wp2_with fail
    refine W2.out.mono ?_;rintro r w2 ⟨rfl,rfl⟩;go_wp2
    go_roundg (gk-1)
    case measure=>omega
    case rel =>
     refine ⟨k+1,by omega,by first | go_num | (congr 1;omega),?_,HA.out.set _ _⟩
     rw [←part_set Ys k (by have:=HR.out.2.2.2.2;omega),HY.out]
     exact HM.out.set _ _
  · obtain rfl:k=m:=by omega
    go_wp2;go_ret;obtain ⟨hB1,hg,hYs,hYw,hlen⟩:=HR.out;have hO:=HM.out;rw [hlen,List.take_length,Nat.sub_self,List.replicate_zero,List.append_nil] at hO;have hN:=Nt.ofOwn hO (lo:=w.heap.size) (by omega) hYw (by unfold maxLen;omega)
    have e2:nl Ys=Ys.length:=by rw [←hYs];exact nl_ws _
    rw [e2,←hYs,val_ws] at hN;rw [hlen,←hYs];exact ⟨_,rfl,hN,But.below hB1 HA.out hB1.size (by omega)⟩
def DAns (lo:Nat) (w:World) (r:Ending) (o:Option (Bool×Nat×Int)):Prop :=
 ∃ v,r=.returned (.tuple #[.agg #[.bool (dN o),v,.int .i64 (dE o)],.int .i64 (erS o)])∧Nt lo w v (dX o)
theorem bcell {W w1:World}(hb:Below W.heap.size W w1):(∀ b o,b<W.heap.size→w1.cell? ⟨b,o,none⟩=W.cell? ⟨b,o,none⟩)∧(∀ b o,b<W.heap.size→w1.frozen? ⟨b,o,none⟩=W.frozen? ⟨b,o,none⟩) :=
 ⟨fun b o h=>hb.cell (p:=⟨b,o,none⟩) h,fun b o h=>hb.frozen (p:=⟨b,o,none⟩) h⟩
theorem ws_len_bl (X:Nat):(ws X).length=(bl X+31)/32:=by
 by_cases h:X=0
 · subst h;simp [ws_zero,bl_zero]
 · have h1:=len_bl X ((ws X).length-1) _ rfl
   have h2:=len_bl X (ws X).length _ rfl;have h3:(ws X).length≠0:=fun e=>h ((ws_len_zero X).1 e)
   omega
theorem mk_len (X:Nat) (h:X≠0):(bl X-lo X+31)/32=(ws (X/2^lo X)).length:=by
 obtain ⟨m,_,_,hb⟩:=odd_part X h;rw [ws_len_bl]
 congr 2
 omega
theorem set3_but (g:Nat) (w:World) (x y z:Value):But g w (((w.setCell ⟨g,0,none⟩ x).setCell ⟨g,1,none⟩ y).setCell ⟨g,2,none⟩ z):=(((But.refl g w).set _ _).set _ _).set _ _
theorem laid3 {w W1 w2:World}{v:Value}{Y:Nat}(hB:Below w.heap.size w W1) (hs:w.heap.size<W1.heap.size) (hN:Nt W1.heap.size w2 v Y) (hb:Below W1.heap.size W1 w2) (x y z:Value) :
 Nt w.heap.size (((w2.setCell ⟨w.heap.size,0,none⟩ x).setCell ⟨w.heap.size,1,none⟩ y).setCell ⟨w.heap.size,2,none⟩ z) v Y∧Below w.heap.size w (((w2.setCell ⟨w.heap.size,0,none⟩ x).setCell ⟨w.heap.size,1,none⟩ y).setCell ⟨w.heap.size,2,none⟩ z) :=
 ⟨(hN.but (set3_but _ _ _ _ _) hs).mono (by omega),But.below (hB.trans (hb.mono (by omega))) (set3_but _ _ _ _ _) (by have:=hb.size;omega) (Nat.le_refl _)⟩
theorem Make_any {w:World}{a:Option Addr}{n c:Nat}{xs:List Nat}(h1:Arg w a n c xs) (hT:Tab w) (neg:Bool) (e:Int) (he0:-9223372036854775808≤e) (he1:e≤9223372036854775807) :
 Calls Tryz.prog 98 #[.bool neg,.slice a n c,.int .i64 e] w fun r w'=>DAns w.heap.size w' r (mkS neg (val xs) e)∧Below w.heap.size w w':=by
 obtain ⟨W1,hW1⟩:∃ W,W=w.alloc (.cells #[.bool false,.slice none 0 0,.int .i64 0] 37):=⟨_,rfl⟩;have hB1:Below w.heap.size w W1:=by rw [hW1];exact (Below.refl _ _).alloc (Nat.le_refl _) _
 have A1:=h1.below hB1;have hT1:=hT.belows hB1;have hbig:=h1.big;have H1:=hid (len_any xs a n c W1.heap.size W1 A1.len A1.cap (by omega) A1.wf A1.rd)
 have H2:=hid (low_any xs a n c W1.heap.size W1 A1.len (by omega) A1.wf A1.rd hT1)
 have hbl:bl (val xs)≤32*n:=by
  have:=val_lt xs h1.wf;rw [←h1.len] at this;exact bl_pw _ _ this
 obtain ⟨X,hX⟩:∃ X,val xs=X:=⟨_,rfl⟩;rw [hX] at H1 H2 hbl ⊢;obtain ⟨b,hb⟩:∃ b,bl X=b:=⟨_,rfl⟩;obtain ⟨l,hl⟩:∃ l,lo X=l:=⟨_,rfl⟩;rw [hb] at H1 hbl;rw [hl] at H2;unfold mkS;rw [hb,hl]
 have hlb:l≤b:=by
  by_cases h0:X=0
  · subst h0;rw [lo_zero] at hl;omega
  · obtain ⟨m,_,_,hbb⟩:=odd_part X h0
    omega
 have HB:=qsd hB1;have SZ:W1.heap.size=w.heap.size+1:=by rw [hW1];simp
 by_cases h0:X=0
 · have hb0:b=0:=by rw [←hb,h0,bl_zero]
   subst hb0;rw [if_pos h0];clear hb hl hX h0 hB1 A1 hT1 hT h1 hlb hbl SZ;subst hW1;go_enter Tryz.func98,Tryz.ntmps98
   go_wp2_with fail
   refine H1.out.mono ?_;rintro r w1 ⟨rfl,rfl⟩
   go_wp2_with fail
   refine H2.out.mono ?_;rintro r w1 ⟨rfl,rfl⟩;go_wp2;refine bodyPost_ret (v:=.tuple #[.agg #[.bool false,.slice none 0 0,.int .i64 0],.int .i64 0]) (by simp [results,Tryz.results98,go_sem]) rfl ⟨⟨_,rfl,Nt.nil _ _⟩,HB.out⟩
 · rw [if_neg h0]
   have hb0:((b:Int)==0)=false:=by have:=bl_pos X h0;simp;omega
   have hOD:=odd_any A1 l b hlb (by omega) (by rw [hX,←hb,←hl];exact mk_len X h0)
   rw [hX] at hOD;have H3:=hid hOD
   by_cases h2:262144<b-l
   · rw [if_pos (.inl h2)]
     have h2':(262144:Int)<(b:Int)-l:=by omega
     clear hb hl hX h0 hB1 A1 hT1 hT h1 SZ H3 h2 hOD;subst hW1;go_enter Tryz.func98,Tryz.ntmps98
     go_wp2_with fail
     refine H1.out.mono ?_;rintro r w1 ⟨rfl,rfl⟩
     go_wp2_with fail
     refine H2.out.mono ?_;rintro r w1 ⟨rfl,rfl⟩;go_wp2;refine bodyPost_ret (v:=.tuple #[.agg #[.bool false,.slice none 0 0,.int .i64 0],.int .i64 2]) (by simp [results,Tryz.results98,go_sem]) rfl ⟨⟨_,rfl,Nt.nil _ _⟩,HB.out⟩
   · have h2':decide ((262144:Int)<(b:Int)-l)=false:=decide_eq_false (by omega)
     by_cases h3:1048576-(l:Int)<e
     · rw [if_pos (.inr (.inl h3))]
       clear hb hl hX h0 hB1 A1 hT1 hT h1 SZ H3 h2 hOD;subst hW1;go_enter Tryz.func98,Tryz.ntmps98
       go_wp2_with fail
       refine H1.out.mono ?_;rintro r w1 ⟨rfl,rfl⟩
       go_wp2_with fail
       refine H2.out.mono ?_;rintro r w1 ⟨rfl,rfl⟩;go_wp2;refine bodyPost_ret (v:=.tuple #[.agg #[.bool false,.slice none 0 0,.int .i64 0],.int .i64 2]) (by simp [results,Tryz.results98,go_sem]) rfl ⟨⟨_,rfl,Nt.nil _ _⟩,HB.out⟩
     · have h3':decide (1048576-(l:Int)<e)=false:=decide_eq_false h3
       by_cases h4:e < -1048576-(l:Int)
       · rw [if_pos (.inr (.inr h4))]
         clear hb hl hX h0 hB1 A1 hT1 hT h1 SZ H3 h2 hOD;subst hW1;go_enter Tryz.func98,Tryz.ntmps98
         go_wp2_with fail
         refine H1.out.mono ?_;rintro r w1 ⟨rfl,rfl⟩
         go_wp2_with fail
         refine H2.out.mono ?_;rintro r w1 ⟨rfl,rfl⟩;go_wp2;refine bodyPost_ret (v:=.tuple #[.agg #[.bool false,.slice none 0 0,.int .i64 0],.int .i64 2]) (by simp [results,Tryz.results98,go_sem]) rfl ⟨⟨_,rfl,Nt.nil _ _⟩,HB.out⟩
       · have h4':decide (e < -1048576-(l:Int))=false:=decide_eq_false h4
         rw [if_neg (by omega)]
         obtain ⟨Y,hY⟩:∃ Y,X/2^l=Y:=⟨_,rfl⟩;rw [hY] at H3 ⊢;have hs:(ws Y).length≤35184372088832:=by rw [←hY,←hl,←mk_len X h0];omega
         have h5:e+l≤1048576:=by omega
         have h6:-1048576≤e+l:=by omega
         clear hb hl hX h0 hB1 A1 hT1 hT h1 hOD h2 h3 h4;subst hW1;go_enter Tryz.func98,Tryz.ntmps98
         go_wp2_with fail
         refine H1.out.mono ?_;rintro r w1 ⟨rfl,rfl⟩
         go_wp2_with fail
         refine H2.out.mono ?_;rintro r w1 ⟨rfl,rfl⟩
         go_wp2_with fail
         refine H3.out.mono ?_;rintro r w2 ⟨v,rfl,hN,hb⟩;obtain ⟨a2,c2,rfl,_⟩:=hN.arg hs;obtain ⟨hc,hf⟩:=bcell hb;have HN:=(qsd (ai hN hb));have hz:=hb.size;clear hN hb;go_wp2;obtain ⟨q1,q2⟩:=laid3 HB.out (by simp) HN.out.1 HN.out.2 (.bool neg) (.slice a2 (ws Y).length c2) (.int .i64 (e+l))
         exact bodyPost_ret (v:=.tuple #[.agg #[.bool neg,.slice a2 (ws Y).length c2,.int .i64 (e+l)],.int .i64 0]) (by simp [results,Tryz.results98,go_sem,hc]) rfl ⟨⟨_,rfl,q1⟩,q2⟩
end
section
open Go.RowKit
def FAns (lo:Nat) (w:World) (r:Ending) (o:Option (Bool×Nat×Int)):Prop :=
 ∃ v,r=.returned (.tuple #[.agg #[.bool (dN o),v,.int .i64 (dE o)],.bool o.isSome])∧Nt lo w v (dX o)
theorem moved_low {w:World}{v:Value}{X lo':Nat}(hN:Nt lo' w v X) (hX:X≠0) (hl:(ws X).length≤2000000) :
 Calls Tryz.prog 91 #[v,.int .i64 (-(lo X:Int))] w fun r w'=>∃ v,r=.returned v∧Nt w.heap.size w' v (X/2^lo X)∧Below w.heap.size w w':=by
 have hb:=lo_lt X hX (ws X).length (ws_len_lt X);have h:=moved_any hN (-(lo X:Int)) (by omega) (by omega) hX hl
 have e:(if -(lo X:Int)<0 then X/2^(- -(lo X:Int)).toNat else X*2^(-(lo X:Int)).toNat)=X/2^lo X:=by
  by_cases h0:lo X=0
  · rw [h0];simp
  · rw [if_pos (by omega),show (- -(lo X:Int)).toNat=lo X by omega]
 rw [e] at h;exact h
theorem rForm_any {w:World}{a:Option Addr}{n c:Nat}{xs:List Nat}(h1:Arg w a n c xs) (hn:n≤2000000) (neg:Bool) (e:Int) (he0:-9223372036854775808≤e) (he1:e≤9223372036854775807) :
 Calls Tryz.prog 47 #[.bool neg,.slice a n c,.int .i64 e] w fun r w'=>FAns w.heap.size w' r (mkS neg (val xs) e)∧Below w.heap.size w w':=by
 have hB1:Below w.heap.size w (w.alloc (.cells #[.bool false,.slice none 0 0,.int .i64 0] 37)):=below_alloc w _;obtain ⟨X,hX⟩:∃ X,val xs=X:=⟨_,rfl⟩;have H1:=hid (rNorm_arg (h1.below hB1) hX);rw [hX];have hXp:X<pw n:=by rw [←hX,h1.len];exact val_lt xs h1.wf
 have hXl:(ws X).length≤2000000:=by have:=(ws_len_le X n).2 hXp;omega
 have HB:=qsd hB1;clear h1 hX hB1 hXp;unfold mkS
 by_cases h0:X=0
 · rw [if_pos h0]
   have hl0:(ws X).length=0:=by rw [h0,ws_zero];rfl
   go_enter Tryz.func47,Tryz.ntmps47
   go_wp2_with fail
   refine H1.out.mono ?_;rintro r w2 ⟨v,rfl,hN,hb⟩;obtain ⟨a2,c2,rfl,_⟩:=hN.arg (by omega)
   obtain ⟨hc,hf⟩:=bcell hb;have HN:=(qsd (ai hN hb));have hz:=hb.size;clear hN hb;rw [hl0];go_wp2;obtain ⟨q1,q2⟩:=laid3 HB.out (by simp) HN.out.1 HN.out.2 (.bool false) (.slice none 0 0) (.int .i64 0)
   exact bodyPost_ret (v:=.tuple #[.agg #[.bool false,.slice none 0 0,.int .i64 0],.bool true]) (by simp [results,Tryz.results47,go_sem,hc]) rfl ⟨⟨_,rfl,Nt.nil _ _⟩,q2⟩
 · rw [if_neg h0]
   have hlo:=lo_lt X h0 (ws X).length (ws_len_lt X);have hml:=mk_len X h0;have hbl:=bl_pos X h0
   have hL0:((((ws X).length:Nat):Int)==0)=false:=by
    have:(ws X).length≠0:=fun e=>h0 ((ws_len_zero X).1 e)
    exact beq_eq_false_iff_ne.2 (by omega)
   have H2:Hid (∀ (a2:Option Addr) (c2:Nat) (u:World),Arg u a2 (ws X).length c2 (ws X)→Calls Tryz.prog 90 #[.slice a2 (ws X).length c2] u fun r w'=>r=.returned (.int .i64 (lo X:Nat))∧w'=u):=by
    intro a2 c2 u A;have:=rLow_any (ws X) a2 (ws X).length c2 u.heap.size u A.len (by omega) A.wf A.rd
    rw [val_ws] at this;exact this
   have H3:Hid (∀ (lo':Nat) (v:Value) (u:World),Nt lo' u v X→Calls Tryz.prog 91 #[v,.int .i64 (-(lo X:Int))] u fun r w'=>∃ v,r=.returned v∧Nt u.heap.size w' v (X/2^lo X)∧Below u.heap.size u w') :=
    fun lo' v u hN=>moved_low hN h0 hXl
   obtain ⟨l,hl⟩:∃ l,lo X=l:=⟨_,rfl⟩;obtain ⟨b,hb⟩:∃ b,bl X=b:=⟨_,rfl⟩;obtain ⟨Y,hY⟩:∃ Y,X/2^l=Y:=⟨_,rfl⟩;rw [hl] at H2 H3 hlo hml;rw [hb] at hml hbl;rw [hY] at H3 hml;rw [hl,hb,hY];have hYl:(ws Y).length≤2000000:=by rw [←hY];have:=ws_len_mono (Nat.div_le_self X (2^l));omega
   by_cases h3:1048576-(l:Int)<e∨e < -1048576-(l:Int)
   · rw [if_pos (.inr h3)]
     clear hml hbl hY hl hb h0
     by_cases g1:1048576<e
     · clear h3
       go_enter Tryz.func47,Tryz.ntmps47
       go_wp2_with fail
       refine H1.out.mono ?_;rintro r w2 ⟨v,rfl,hN,hb⟩;obtain ⟨a2,c2,rfl,A2⟩:=hN.arg (by omega)
       obtain ⟨hc,hf⟩:=bcell hb;have HN:=(qsd (ai hN hb));have hz:=hb.size;have H2':=hid (H2.out a2 c2 w2 A2);clear hN hb A2
       go_wp2_with fail
       refine (Calls.mono H2'.out) ?_;rintro r w3 ⟨rfl,rfl⟩;go_wp2;obtain ⟨q1,q2⟩:=laid3 HB.out (by simp) HN.out.1 HN.out.2 (.bool false) (.slice none 0 0) (.int .i64 0)
       exact bodyPost_ret (v:=.tuple #[.agg #[.bool false,.slice none 0 0,.int .i64 0],.bool false]) (by simp [results,Tryz.results47,go_sem,hc]) rfl ⟨⟨_,rfl,Nt.nil _ _⟩,q2⟩
     · have g1':decide (1048576<e)=false:=decide_eq_false g1
       by_cases g2:1048576<e+(l:Int)
       · clear h3
         go_enter Tryz.func47,Tryz.ntmps47
         go_wp2_with fail
         refine H1.out.mono ?_;rintro r w2 ⟨v,rfl,hN,hb⟩;obtain ⟨a2,c2,rfl,A2⟩:=hN.arg (by omega)
         obtain ⟨hc,hf⟩:=bcell hb;have HN:=(qsd (ai hN hb));have hz:=hb.size;have H2':=hid (H2.out a2 c2 w2 A2);clear hN hb A2
         go_wp2_with fail
         refine (Calls.mono H2'.out) ?_;rintro r w3 ⟨rfl,rfl⟩;go_wp2;obtain ⟨q1,q2⟩:=laid3 HB.out (by simp) HN.out.1 HN.out.2 (.bool false) (.slice none 0 0) (.int .i64 0)
         exact bodyPost_ret (v:=.tuple #[.agg #[.bool false,.slice none 0 0,.int .i64 0],.bool false]) (by simp [results,Tryz.results47,go_sem,hc]) rfl ⟨⟨_,rfl,Nt.nil _ _⟩,q2⟩
       · have g2':decide (1048576<e+(l:Int))=false:=decide_eq_false g2
         have g3:e+(l:Int) < -1048576:=by omega
         clear h3;go_enter Tryz.func47,Tryz.ntmps47
         go_wp2_with fail
         refine H1.out.mono ?_;rintro r w2 ⟨v,rfl,hN,hb⟩;obtain ⟨a2,c2,rfl,A2⟩:=hN.arg (by omega)
         obtain ⟨hc,hf⟩:=bcell hb;have HN:=(qsd (ai hN hb));have hz:=hb.size;have H2':=hid (H2.out a2 c2 w2 A2);clear hN hb A2
         go_wp2_with fail
         refine (Calls.mono H2'.out) ?_;rintro r w3 ⟨rfl,rfl⟩;go_wp2;obtain ⟨q1,q2⟩:=laid3 HB.out (by simp) HN.out.1 HN.out.2 (.bool false) (.slice none 0 0) (.int .i64 0)
         exact bodyPost_ret (v:=.tuple #[.agg #[.bool false,.slice none 0 0,.int .i64 0],.bool false]) (by simp [results,Tryz.results47,go_sem,hc]) rfl ⟨⟨_,rfl,Nt.nil _ _⟩,q2⟩
   · have g1':decide (1048576<e)=false:=decide_eq_false (by omega)
     have g2':decide (1048576<e+(l:Int))=false:=decide_eq_false (by omega)
     have g3':decide (e+(l:Int) < -1048576)=false:=decide_eq_false (by omega)
     have g4:e+(l:Int)≤1048576:=by omega
     have g5:-1048576≤e+(l:Int):=by omega
     have hdec:(262144<b-l)↔8192<(ws Y).length:=by omega
     by_cases h4:262144<b-l
     · rw [if_pos (.inl h4)]
       have h5:8192<(ws Y).length:=hdec.1 h4;clear hml hbl hY hl hb h0 h3 hdec h4;go_enter Tryz.func47,Tryz.ntmps47
       go_wp2_with fail
       refine H1.out.mono ?_;rintro r w2 ⟨v,rfl,hN,hb⟩;obtain ⟨a2,c2,rfl,A2⟩:=hN.arg (by omega)
       have hz:=hb.size;have H2':=hid (H2.out a2 c2 w2 A2);have H3':=hid (H3.out _ _ w2 hN);have HN:=(qsd (ai hN hb));clear hN hb A2
       go_wp2_with fail
       refine (Calls.mono H2'.out) ?_;rintro r w3 ⟨rfl,rfl⟩
       go_wp2_with fail
       refine (Calls.mono H3'.out) ?_;rintro r w4 ⟨v4,rfl,hN4,hb4⟩;obtain ⟨a4,c4,rfl,_⟩:=hN4.arg (by omega)
       have hb:=HN.out.2.trans (hb4.mono hz);have hN5:=hN4.mono hz;obtain ⟨hc,hf⟩:=bcell hb;have HN:=(qsd (ai hN5 hb));clear hN4 hb4 hb hN5;go_wp2;obtain ⟨q1,q2⟩:=laid3 HB.out (by simp) HN.out.1 HN.out.2 (.bool false) (.slice none 0 0) (.int .i64 0)
       exact bodyPost_ret (v:=.tuple #[.agg #[.bool false,.slice none 0 0,.int .i64 0],.bool false]) (by simp [results,Tryz.results47,go_sem,hc]) rfl ⟨⟨_,rfl,Nt.nil _ _⟩,q2⟩
     · rw [if_neg (by omega)]
       have h5:(ws Y).length≤8192:=by omega
       clear hml hbl hY hl hb h0 h3 hdec h4;go_enter Tryz.func47,Tryz.ntmps47
       go_wp2_with fail
       refine H1.out.mono ?_;rintro r w2 ⟨v,rfl,hN,hb⟩;obtain ⟨a2,c2,rfl,A2⟩:=hN.arg (by omega)
       have hz:=hb.size;have H2':=hid (H2.out a2 c2 w2 A2);have H3':=hid (H3.out _ _ w2 hN);have HN:=(qsd (ai hN hb));clear hN hb A2
       go_wp2_with fail
       refine (Calls.mono H2'.out) ?_;rintro r w3 ⟨rfl,rfl⟩
       go_wp2_with fail
       refine (Calls.mono H3'.out) ?_;rintro r w4 ⟨v4,rfl,hN4,hb4⟩;obtain ⟨a4,c4,rfl,_⟩:=hN4.arg (by omega)
       have hb:=HN.out.2.trans (hb4.mono hz);have hN5:=hN4.mono hz;obtain ⟨hc,hf⟩:=bcell hb;have HN:=(qsd (ai hN5 hb));clear hN4 hb4 hb hN5;go_wp2;obtain ⟨q1,q2⟩:=laid3 HB.out (by simp) HN.out.1 HN.out.2 (.bool neg) (.slice a4 (ws Y).length c4) (.int .i64 (e+l))
       exact bodyPost_ret (v:=.tuple #[.agg #[.bool neg,.slice a4 (ws Y).length c4,.int .i64 (e+l)],.bool true]) (by simp [results,Tryz.results47,go_sem,hc]) rfl ⟨⟨_,rfl,q1⟩,q2⟩
end
section
open Go.RowKit
theorem But.setC {g:Nat}(w:World) (i:Nat) (u:Value):But g w (w.setCell ⟨g,i,none⟩ u):=(But.refl g w).set _ _
theorem Nt.setC {lo:Nat}{w:World}{v:Value}{X:Nat}(h:Nt lo w v X) (b i:Nat) (u:Value) (hb:b<lo):Nt lo (w.setCell ⟨b,i,none⟩ u) v X:=h.but (But.setC w i u) hb
theorem Nt.allocC {lo:Nat}{w:World}{v:Value}{X:Nat}(h:Nt lo w v X) (o:Obj):Nt lo (w.alloc o) v X:=h.below (below_alloc w o)
theorem Below.setC {lo:Nat}{w0 w:World}(h:Below lo w0 w) (b i:Nat) (u:Value) (hb:lo≤b) (hs:lo≤w.heap.size):Below lo w0 (w.setCell ⟨b,i,none⟩ u):=But.below h (But.setC w i u) hs hb
structure Fin (lo m:Nat) (w0 w:World) (v:Value) (X:Nat):Prop where
 nt:Nt m w v X
 bel:Below lo w0 w
 size:lo≤w.heap.size
theorem Fin.set {lo m:Nat}{w0 w:World}{v:Value}{X:Nat}(H:Fin lo m w0 w v X) (b i:Nat) (u:Value) (h1:lo≤b) (h2:b<m):Fin lo m w0 (w.setCell ⟨b,i,none⟩ u) v X :=
 ⟨H.nt.setC b i u h2,Below.setC H.bel b i u h1 H.size,by simpa [World.setCell] using H.size⟩
theorem Fin.alloc {lo m:Nat}{w0 w:World}{v:Value}{X:Nat}(H:Fin lo m w0 w v X) (o:Obj):Fin lo m w0 (w.alloc o) v X :=
 ⟨H.nt.allocC o,H.bel.alloc H.size o,by have:=H.size;simp;omega⟩
theorem Fin.of {lo:Nat}{w0 W1 w2:World}{v:Value}{X:Nat}(k:Nat) (hB:Below lo w0 W1) (hk:W1.heap.size=lo+k) (hN:Nt W1.heap.size w2 v X) (hb:Below W1.heap.size W1 w2):Fin lo (lo+k) w0 w2 v X :=
 ⟨hk ▸ hN,hB.trans (hb.mono (by omega)),by have:=hb.size;omega⟩
theorem Fin.dans {lo m:Nat}{w0 w:World}{n:Bool}{v:Value}{X:Nat}{e:Int}{k:Value}(H:Fin lo m w0 w v X) (h:lo≤m) :
 (∃ v',Ending.returned (.tuple #[.agg #[.bool n,v,.int .i64 e],k])=.returned (.tuple #[.agg #[.bool n,v',.int .i64 e],k])∧Nt lo w v' X)∧Below lo w0 w:=⟨⟨v,rfl,H.nt.mono h⟩,H.bel⟩
end
namespace B
theorem lt_f64 (s t:Bool) (e f u v:Nat) (he:e<2048) (hf:f<4503599627370496) (hu:u<2048) (hv:v<4503599627370496) :
 (FloatKind.f64.format.order (bw s e f) (bw t u v)==some .lt)=(!odd e f&&(!odd u v&&decide (pl s e f<pl t u v))):=by
 rw [ord s t e f u v he hf hu hv]
 cases odd e f <;> cases odd u v <;> simp
 by_cases h:pl s e f<pl t u v
 · rw [Int.compare_eq_lt.2 h];simp [h]
 · rw [decide_eq_false h]
   by_cases h2:pl t u v<pl s e f
   · rw [Int.compare_eq_gt.2 h2];rfl
   · rw [Int.compare_eq_eq.2 (by omega)];rfl
theorem gt_f64 (s t:Bool) (e f u v:Nat) (he:e<2048) (hf:f<4503599627370496) (hu:u<2048) (hv:v<4503599627370496) :
 (FloatKind.f64.format.order (bw s e f) (bw t u v)==some .gt)=(!odd e f&&(!odd u v&&decide (pl t u v<pl s e f))):=by
 rw [ord s t e f u v he hf hu hv]
 cases odd e f <;> cases odd u v <;> simp
 by_cases h:pl t u v<pl s e f
 · rw [Int.compare_eq_gt.2 h];simp [h]
 · rw [decide_eq_false h]
   by_cases h2:pl s e f<pl t u v
   · rw [Int.compare_eq_lt.2 h2];rfl
   · rw [Int.compare_eq_eq.2 (by omega)];rfl
theorem eq_f64 (s t:Bool) (e f u v:Nat) (he:e<2048) (hf:f<4503599627370496) (hu:u<2048) (hv:v<4503599627370496) :
 (FloatKind.f64.format.order (bw s e f) (bw t u v)==some .eq)=(!odd e f&&(!odd u v&&decide (pl s e f=pl t u v))):=by
 rw [ord s t e f u v he hf hu hv]
 cases odd e f <;> cases odd u v <;> simp
 by_cases h:pl s e f<pl t u v
 · rw [Int.compare_eq_lt.2 h,decide_eq_false (by omega)];rfl
 · by_cases h2:pl t u v<pl s e f
   · rw [Int.compare_eq_gt.2 h2,decide_eq_false (by omega)];rfl
   · rw [Int.compare_eq_eq.2 (by omega),decide_eq_true (by omega)];rfl
theorem odd_lt (e f:Nat) (h:e<2047):odd e f=false:=by
 have:(e==2047)=false:=by simp;omega
 simp [odd,this]
theorem odd_zero (e:Nat):odd e 0=false:=by simp [odd]
theorem zero_bw:bw false 0 0=0:=rfl
theorem max_bw:bw false 2046 4503599627370495=9218868437227405311:=rfl
theorem gt_max (s:Bool) (e f:Nat) (he:e<2048) (hf:f<4503599627370496) :
 (FloatKind.f64.format.order (bw s e f) 9218868437227405311==some .gt)=(!s&&(e==2047&&f==0)):=by
 have h:=gt_f64 s false e f 2046 4503599627370495 he hf (by omega) (by omega)
 rw [max_bw] at h;rw [h,odd_lt 2046 _ (by omega)]
 cases ho:odd e f
 · have:=not_odd e f ho
   rw [Bool.eq_iff_iff]
   cases s <;> simp [pl,sg] <;> omega
 · obtain ⟨h1,h2⟩:=is_odd e f ho
   have h3:(f==0)=false:=by simp [h2]
   simp [h1,h3]
theorem eq_zero (s:Bool) (e f:Nat) (he:e<2048) (hf:f<4503599627370496) :
 (FloatKind.f64.format.order (bw s e f) 0==some .eq)=(e==0&&f==0):=by
 have h:=eq_f64 s false e f 0 0 he hf (by omega) (by omega)
 rw [zero_bw] at h;rw [h,odd_lt 0 _ (by omega)]
 cases ho:odd e f
 · rw [Bool.eq_iff_iff]
   cases s <;> simp [pl,sg] <;> omega
 · obtain ⟨h1,h2⟩:=is_odd e f ho
   have h3:(e==0)=false:=by simp [h1]
   simp [h3]
theorem lt_zero (s:Bool) (e f:Nat) (he:e<2048) (hf:f<4503599627370496) (ho:odd e f=false) (hz:(e==0&&f==0)=false) :
 (FloatKind.f64.format.order (bw s e f) 0==some .lt)=s:=by
 have h:=lt_f64 s false e f 0 0 he hf (by omega) (by omega)
 rw [zero_bw] at h;rw [h,odd_lt 0 _ (by omega),ho]
 have hz':¬ (e=0∧f=0):=by rintro ⟨rfl,rfl⟩;simp at hz
 rw [Bool.eq_iff_iff]
 cases s <;> simp [pl,sg] <;> omega
theorem abs_bw (s:Bool) (e f:Nat) (he:e<2048) (hf:f<4503599627370496):bits .andNot .u64 ((bw s e f:Nat):Int) 9223372036854775808=(bw false e f:Int):=by
 have h:=u64_andNot_nat (bw s e f) 9223372036854775808 (bw_lt s e f he hf) (by omega)
 rw [show (((9223372036854775808:Nat)):Int)=9223372036854775808 from rfl] at h
 rw [h,show 18446744073709551615-9223372036854775808=2^63-1 from rfl,Nat.and_two_pow_sub_one_eq_mod]
 congr 1
 unfold bw;cases s <;> simp only [Bool.toNat_true,Bool.toNat_false] <;> omega
end B
section
open Go.RowKit
open Go.Proofs.YtflkmfdlpfimcaaGreatDoor.B (f64bits f64frombits bw)
attribute [local go_sem] f64bits f64frombits
def kn (a:Int):Bool:=decide (0≤a)&&decide (a≤2)
def may (a b:Int):Bool:=kn a&&kn b
def ct (a:Int):Bool:=decide (0≤a)&&decide (a≤1099511627776)
theorem known_any (a:Int) (w:World):Calls Tryz.prog 157 #[.int .i64 a] w fun r w'=>r=.returned (.bool (kn a))∧w'=w:=by
 unfold kn
 by_cases h:0≤a
 · have hd:decide (0≤a)=true:=decide_eq_true h
   rw [hd];go_enter Tryz.func157,Tryz.ntmps157;go_wp2;go_ret;exact ⟨by first | rfl | simp,rfl⟩
 · have hd:decide (0≤a)=false:=decide_eq_false h
   rw [hd];go_enter Tryz.func157,Tryz.ntmps157;go_wp2;go_ret;exact ⟨by first | rfl | simp,rfl⟩
theorem countable_any (a:Int) (w:World):Calls Tryz.prog 159 #[.int .i64 a] w fun r w'=>r=.returned (.bool (ct a))∧w'=w:=by
 unfold ct
 by_cases h:0≤a
 · have hd:decide (0≤a)=true:=decide_eq_true h
   rw [hd];go_enter Tryz.func159,Tryz.ntmps159;go_wp2;go_ret;exact ⟨by first | rfl | simp,rfl⟩
 · have hd:decide (0≤a)=false:=decide_eq_false h
   rw [hd];go_enter Tryz.func159,Tryz.ntmps159;go_wp2;go_ret;exact ⟨by first | rfl | simp,rfl⟩
theorem May_any (a b:Int) (w:World):Calls Tryz.prog 118 #[.agg #[.int .i64 a,.int .i64 b]] w fun r w'=>r=.returned (.bool (may a b))∧Below w.heap.size w w':=by
 unfold may
 rcases ha:kn a with _|_
 · have H:=hid (fun w=>ha ▸ known_any a w)
   clear ha;go_enter Tryz.func118,Tryz.ntmps118
   go_wp2_with fail
   refine (H.out _).mono ?_;rintro r w1 ⟨rfl,rfl⟩;go_wp2;go_ret;exact ⟨rfl,(Below.refl _ _).alloc (Nat.le_refl _) _⟩
 · have H:=hid (fun w=>ha ▸ known_any a w)
   have H2:=hid (fun w=>known_any b w)
   obtain ⟨kb,hkb⟩:∃ k,kn b=k:=⟨_,rfl⟩;rw [hkb] at H2 ⊢;clear ha hkb;go_enter Tryz.func118,Tryz.ntmps118
   go_wp2_with fail
   refine (H.out _).mono ?_;rintro r w1 ⟨rfl,rfl⟩
   go_wp2_with fail
   refine (H2.out _).mono ?_;rintro r w1 ⟨rfl,rfl⟩;go_wp2;go_ret;exact ⟨by first | rfl | simp,(Below.refl _ _).alloc (Nat.le_refl _) _⟩
theorem mInf_up (w:World):Calls Tryz.prog 124 #[.int .i64 1] w fun r w'=>r=.returned (.float .f64 9218868437227405312)∧w'=w:=by
 go_enter Tryz.func124,Tryz.ntmps124;go_wp2;go_ret;exact ⟨rfl,rfl⟩
theorem mInf_down (w:World):Calls Tryz.prog 124 #[.int .i64 (-1)] w fun r w'=>r=.returned (.float .f64 18442240474082181120)∧w'=w:=by
 go_enter Tryz.func124,Tryz.ntmps124;go_wp2;go_ret;exact ⟨rfl,rfl⟩
open Go.RowKit
open Go.Proofs.YtflkmfdlpfimcaaGreatDoor.B (f64bits f64frombits bw bcell)
attribute [local go_sem] f64bits f64frombits
def snd (n u d m p a:Int):Bool:=ct n&&ct u&&ct d&&(ct m&&ct p&&ct a)&&decide (n+u+d+m+p≤a)
theorem ct_true {n:Int}(h:ct n=true):0≤n∧n≤1099511627776:=by unfold ct at h;simpa using h
theorem ct_five {n u d m p:Int}(i:Nat) (hi:i<5) (h:ct ([n,u,d,m,p].getD i 0)=false) (a:Int):snd n u d m p a=false:=by
 unfold snd;obtain rfl|rfl|rfl|rfl|rfl:i=0∨i=1∨i=2∨i=3∨i=4:=by omega
 all_goals (simp at h;simp [h])
def ps (L:List Int) (i:Nat):Int:=(L.take i).sum
theorem ps_succ (L:List Int) (i:Nat) (h:i<L.length):ps L (i+1)=ps L i+L.getD i 0:=by
 unfold ps;rw [List.take_succ_eq_append_getElem h,List.sum_append,List.getD_eq_getElem?_getD,List.getElem?_eq_getElem h];simp
theorem sound_any (n u d m p a:Int) (w:World):Calls Tryz.prog 122 #[.agg #[.int .i64 n,.int .i64 u,.int .i64 d,.int .i64 m,.int .i64 p,.int .i64 a]] w fun r w'=>r=.returned (.bool (snd n u d m p a))∧Below w.heap.size w w':=by
 obtain ⟨L,hL⟩:∃ L:List Int,L=[n,u,d,m,p]:=⟨_,rfl⟩;have hlen:L.length=5:=by rw [hL];rfl
 have HL:=(qsd (ai hL hlen));obtain ⟨W,hW⟩:∃ W,W=(w.alloc (.cells #[.int .i64 n,.int .i64 u,.int .i64 d,.int .i64 m,.int .i64 p,.int .i64 a] 99)).alloc (.cells #[.int .i64 n,.int .i64 u,.int .i64 d,.int .i64 m,.int .i64 p] 164):=⟨_,rfl⟩
 have hcell:∀ i,i<5→W.cell? ⟨w.heap.size+1,i,none⟩=some (.int .i64 (L.getD i 0)):=by
  intro i hi;have h1:=heap_alloc_new (w.alloc (.cells #[.int .i64 n,.int .i64 u,.int .i64 d,.int .i64 m,.int .i64 p,.int .i64 a] 99)) (.cells #[.int .i64 n,.int .i64 u,.int .i64 d,.int .i64 m,.int .i64 p] 164);rw [←hW] at h1;simp only [World.size_alloc] at h1;subst hL;simp only [World.cell?,h1];obtain rfl|rfl|rfl|rfl|rfl:i=0∨i=1∨i=2∨i=3∨i=4:=by omega
  all_goals simp
 have ha5:W.cell? ⟨w.heap.size,5,none⟩=some (.int .i64 a):=by rw [hW];simp [go_sem]
 have hbel:Below w.heap.size w W:=by rw [hW];exact ((Below.refl _ _).alloc (Nat.le_refl _) _).alloc (by simp) _
 have HC:=(qsd (ai hcell (ai hbel (ai hW ha5))));clear hL hlen hcell hbel hW ha5;have HA:=hid (countable_any a);go_enter Tryz.func122,Tryz.ntmps122;go_wp2
 go_loopg [4,17] 5 (fun gk sv iv wr=>∃ i:Nat,gk+i=5∧sv=.int .i64 (ps L i)∧iv=.int .i64 (i:Nat)∧wr=W∧Aside (∀ j,j<i→ct (L.getD j 0)=true)∧0≤ps L i∧ps L i≤(i:Int)*1099511627776)
 case atStart=>exact ⟨0,rfl,rfl,rfl,by rw [HC.out.2.2.1],fun j hj=>absurd hj (by omega),by simp [ps],by simp [ps]⟩
 case round =>
  obtain ⟨i,hi,rfl,rfl,rfl,HT,hp0,hp1⟩:=hrel;obtain ⟨hcell,hbel,hW,ha5⟩:=HC.out
  by_cases hi5:i=5
  · obtain rfl:gk=0:=by omega
    subst hi5
    have hs:snd n u d m p a=(ct a&&decide (ps L 5≤a)):=by
     have h0:=HT.out 0 (by omega)
     have h1:=HT.out 1 (by omega)
     have h2:=HT.out 2 (by omega)
     have h3:=HT.out 3 (by omega)
     have h4:=HT.out 4 (by omega)
     have e:=HL.out.1;subst e;have e2:ps [n,u,d,m,p] 5=n+u+d+m+p:=by simp [ps];omega
     rw [e2];simp at h0 h1 h2 h3 h4;unfold snd;rw [h0,h1,h2,h3,h4];simp
    obtain ⟨q,hq⟩:∃ q,ps L 5=q:=⟨_,rfl⟩;rw [hq] at hp0 hp1 hs ⊢;have HS:=qsd hs;clear hcell hW hs hq
    rcases ha:ct a with _|_
    · rw [ha] at HA HS
      clear ha
      go_wp2_with fail
      refine (HA.out _).mono ?_;rintro r w1 ⟨rfl,rfl⟩;go_wp2;go_ret;exact ⟨by rw [HS.out];first | rfl | simp,hbel⟩
    · rw [ha] at HA HS
      clear ha
      go_wp2_with fail
      refine (HA.out _).mono ?_;rintro r w1 ⟨rfl,rfl⟩;go_wp2;go_ret;exact ⟨by rw [HS.out];first | rfl | simp,hbel⟩
  · have hil:i<5:=by omega
    have hci:=hcell i hil;have HK:=hid (countable_any (L.getD i 0));have hps:=ps_succ L i (by rw [HL.out.2];exact hil)
    obtain ⟨x,hx⟩:∃ x,L.getD i 0=x:=⟨_,rfl⟩;rw [hx] at hci HK hps
    rcases hc:ct x with _|_
    · rw [hc] at HK
      have HS:Aside (snd n u d m p a=false):=by
       have h1:=hc;rw [←hx,HL.out.1] at h1;exact ct_five i hil h1 a
      have HB:=qsd hbel;clear hcell hbel hW ha5 hps hx hc hi5 HC HL
      go_wp2_with fail
      refine (HK.out _).mono ?_;rintro r w1 ⟨rfl,rfl⟩;go_wp2;go_ret;exact ⟨by rw [HS.out];rfl,HB.out⟩
    · rw [hc] at HK
      have hb:=ct_true hc;obtain ⟨q,hq⟩:∃ q,ps L i=q:=⟨_,rfl⟩;obtain ⟨q2,hq2⟩:∃ q,ps L (i+1)=q:=⟨_,rfl⟩;rw [hq,hq2] at hps;rw [hq] at hp0 hp1 ⊢;have hq3:q+x=q2:=hps.symm
      have hq4:0≤q2∧q2≤((i:Int)+1)*1099511627776:=by
       have:((i:Int)+1)*1099511627776=(i:Int)*1099511627776+1099511627776:=by omega
       omega
      have hq5:q2≤9223372036854775807:=by omega
      have hq6:-9223372036854775808≤q2:=by omega
      have HR:=(qsd (ai hq2 (ai hq4 (ai hx (ai hc hq3)))));clear hcell hbel hW ha5 hps hx hc hi5 HC hq2 hq hp0 hp1 hb hq4
      go_wp2_with fail
      refine (HK.out _).mono ?_;rintro r w1 ⟨rfl,rfl⟩;go_wp2
      go_roundg (5-(i+1))
      case measure=>omega
      case rel =>
       obtain ⟨hq2,hq4,hx,hc,hq3⟩:=HR.out;refine ⟨i+1,by omega,?_,by first | go_num | (congr 1;omega),rfl,?_,by rw [hq2];exact hq4.1,by rw [hq2];have:=hq4.2;push_cast;exact this⟩
       · first | (rw [hq2];done) | (rw [hq2,←hq3];done)
       · intro j hj
         by_cases hji:j=i
         · subst hji;rw [hx];exact hc
         · exact HT.out j (by omega)
def vd (ok:Bool) (n u d a b:Int):Nat×Bool :=
 if ok=false then (0,false) else if 0<n∧a=0 then (9221120237041090560,true) else if ¬ b=0 then (0,false)
 else if 0<u∧0<d then (9221120237041090560,true) else if 0<u then (9218868437227405312,true) else if 0<d then (18442240474082181120,true) else (0,false)
end
section
open Go.RowKit
open Go.Proofs.YtflkmfdlpfimcaaGreatDoor.B (f64bits f64frombits bw bcell)
attribute [local go_sem] f64bits f64frombits
theorem Verdict_any (n u d m p l a b:Int) (w:World):Calls Tryz.prog 79 #[.agg #[.int .i64 n,.int .i64 u,.int .i64 d,.int .i64 m,.int .i64 p,.int .i64 l],.agg #[.int .i64 a,.int .i64 b]] w fun r w'=>r=.returned (.tuple #[.float .f64 (vd (snd n u d m p l&&may a b) n u d a b).1,.bool (vd (snd n u d m p l&&may a b) n u d a b).2])∧Below w.heap.size w w':=by
 have HS:=hid (sound_any n u d m p l);have HM:=hid (May_any a b);have HN:=hid (B.nan_any);have HU:=hid (mInf_up);have HD:=hid (mInf_down)
 rcases hs:snd n u d m p l with _|_
 · rw [hs] at HS
   rw [Bool.false_and];have hv:vd false n u d a b=(0,false):=by unfold vd;rw [if_pos rfl]
   rw [hv];clear hs hv;go_enter Tryz.func79,Tryz.ntmps79
   go_wp2_with fail
   refine (HS.out _).mono ?_;rintro r w1 ⟨rfl,hb1⟩;have hz1:=hb1.size;simp at hz1;obtain ⟨hc1,hf1⟩:=bcell hb1;have B1:=qsd hb1;clear hb1;go_wp2
   go_ret2
   exact ⟨by first | rfl | simp,(((Below.refl _ w).alloc (Nat.le_refl _) _).alloc (by simp) _).trans (B1.out.mono (by simp;omega))⟩
 rcases hm:may a b with _|_
 · rw [hs] at HS
   rw [hm] at HM;have hv:vd (true&&false) n u d a b=(0,false):=if_pos rfl;rw [hv];clear hs hm hv;go_enter Tryz.func79,Tryz.ntmps79
   go_wp2_with fail
   refine (HS.out _).mono ?_;rintro r w1 ⟨rfl,hb1⟩;have hz1:=hb1.size;simp at hz1;obtain ⟨hc1,hf1⟩:=bcell hb1;have B1:=qsd hb1;clear hb1
   go_wp2_with fail
   refine (HM.out _).mono ?_;rintro r w2 ⟨rfl,hb2⟩;have hz2:=hb2.size;obtain ⟨hc2,hf2⟩:=bcell hb2;have hc3:∀ b o,b<w.heap.size+1+1→w2.cell? ⟨b,o,none⟩=w1.cell? ⟨b,o,none⟩:=fun b o h=>hc2 b o (by omega)
   have B2:=qsd hb2;clear hb2 hc2 hf2;go_wp2
   go_ret2
   exact ⟨by first | rfl | simp,((((Below.refl _ w).alloc (Nat.le_refl _) _).alloc (by simp) _).trans (B1.out.mono (by simp;omega))).trans (B2.out.mono (by omega))⟩
 rw [hs] at HS;rw [hm] at HM;rw [Bool.true_and];clear hs hm
 have way1:0<n→a=0→Calls Tryz.prog 79 #[.agg #[.int .i64 n,.int .i64 u,.int .i64 d,.int .i64 m,.int .i64 p,.int .i64 l],.agg #[.int .i64 a,.int .i64 b]] w fun r w'=>r=.returned (.tuple #[.float .f64 (vd true n u d a b).1,.bool (vd true n u d a b).2])∧Below w.heap.size w w':=by
  intro p1 p2;have hv:vd true n u d a b=(9221120237041090560,true):=by unfold vd;rw [if_neg (by decide),if_pos ⟨p1,p2⟩]
  rw [hv];clear hv;have q1:0<n:=p1;have q2:a=0:=p2;subst q2;go_enter Tryz.func79,Tryz.ntmps79
  go_wp2_with fail
  refine (HS.out _).mono ?_;rintro r w1 ⟨rfl,hb1⟩;have hz1:=hb1.size;simp at hz1;obtain ⟨hc1,hf1⟩:=bcell hb1;have B1:=qsd hb1;clear hb1
  go_wp2_with fail
  refine (HM.out _).mono ?_;rintro r w2 ⟨rfl,hb2⟩;have hz2:=hb2.size;obtain ⟨hc2,hf2⟩:=bcell hb2;have hc3:∀ b o,b<w.heap.size+1+1→w2.cell? ⟨b,o,none⟩=w1.cell? ⟨b,o,none⟩:=fun b o h=>hc2 b o (by omega)
  have B2:=qsd hb2;clear hb2 hc2 hf2
  go_wp2_with fail
  refine (HN.out _).mono ?_;rintro r w3 ⟨rfl,rfl⟩;go_wp2
  go_ret2
  exact ⟨by first | rfl | simp,((((Below.refl _ w).alloc (Nat.le_refl _) _).alloc (by simp) _).trans (B1.out.mono (by simp;omega))).trans (B2.out.mono (by omega))⟩
 have way2:0<n→¬ (a=0)→¬ (b=0)→Calls Tryz.prog 79 #[.agg #[.int .i64 n,.int .i64 u,.int .i64 d,.int .i64 m,.int .i64 p,.int .i64 l],.agg #[.int .i64 a,.int .i64 b]] w fun r w'=>r=.returned (.tuple #[.float .f64 (vd true n u d a b).1,.bool (vd true n u d a b).2])∧Below w.heap.size w w':=by
  intro p1 p2 p3;have hv:vd true n u d a b=(0,false):=by unfold vd;rw [if_neg (by decide),if_neg (fun h=>p2 h.2),if_pos p3]
  rw [hv];clear hv;have q1:0<n:=p1;have q2:(a==0)=false:=by rw [beq_eq_false_iff_ne];exact p2
  have q3:(b==0)=false:=by rw [beq_eq_false_iff_ne];exact p3
  go_enter Tryz.func79,Tryz.ntmps79
  go_wp2_with fail
  refine (HS.out _).mono ?_;rintro r w1 ⟨rfl,hb1⟩;have hz1:=hb1.size;simp at hz1;obtain ⟨hc1,hf1⟩:=bcell hb1;have B1:=qsd hb1;clear hb1
  go_wp2_with fail
  refine (HM.out _).mono ?_;rintro r w2 ⟨rfl,hb2⟩;have hz2:=hb2.size;obtain ⟨hc2,hf2⟩:=bcell hb2;have hc3:∀ b o,b<w.heap.size+1+1→w2.cell? ⟨b,o,none⟩=w1.cell? ⟨b,o,none⟩:=fun b o h=>hc2 b o (by omega)
  have B2:=qsd hb2;clear hb2 hc2 hf2;go_wp2
  go_ret2
  exact ⟨by first | rfl | simp,((((Below.refl _ w).alloc (Nat.le_refl _) _).alloc (by simp) _).trans (B1.out.mono (by simp;omega))).trans (B2.out.mono (by omega))⟩
 have way3:0<n→¬ (a=0)→b=0→0<u→0<d→Calls Tryz.prog 79 #[.agg #[.int .i64 n,.int .i64 u,.int .i64 d,.int .i64 m,.int .i64 p,.int .i64 l],.agg #[.int .i64 a,.int .i64 b]] w fun r w'=>r=.returned (.tuple #[.float .f64 (vd true n u d a b).1,.bool (vd true n u d a b).2])∧Below w.heap.size w w':=by
  intro p1 p2 p3 p4 p5;have hv:vd true n u d a b=(9221120237041090560,true):=by unfold vd;rw [if_neg (by decide),if_neg (fun h=>p2 h.2),if_neg (not_not_intro p3),if_pos ⟨p4,p5⟩]
  rw [hv];clear hv;have q1:0<n:=p1;have q2:(a==0)=false:=by rw [beq_eq_false_iff_ne];exact p2
  have q3:b=0:=p3;have q4:0<u:=p4;have q5:0<d:=p5;subst q3;go_enter Tryz.func79,Tryz.ntmps79
  go_wp2_with fail
  refine (HS.out _).mono ?_;rintro r w1 ⟨rfl,hb1⟩;have hz1:=hb1.size;simp at hz1;obtain ⟨hc1,hf1⟩:=bcell hb1;have B1:=qsd hb1;clear hb1
  go_wp2_with fail
  refine (HM.out _).mono ?_;rintro r w2 ⟨rfl,hb2⟩;have hz2:=hb2.size;obtain ⟨hc2,hf2⟩:=bcell hb2;have hc3:∀ b o,b<w.heap.size+1+1→w2.cell? ⟨b,o,none⟩=w1.cell? ⟨b,o,none⟩:=fun b o h=>hc2 b o (by omega)
  have B2:=qsd hb2;clear hb2 hc2 hf2
  go_wp2_with fail
  refine (HN.out _).mono ?_;rintro r w3 ⟨rfl,rfl⟩;go_wp2
  go_ret2
  exact ⟨by first | rfl | simp,((((Below.refl _ w).alloc (Nat.le_refl _) _).alloc (by simp) _).trans (B1.out.mono (by simp;omega))).trans (B2.out.mono (by omega))⟩
 have way4:0<n→¬ (a=0)→b=0→0<u→¬ (0<d)→Calls Tryz.prog 79 #[.agg #[.int .i64 n,.int .i64 u,.int .i64 d,.int .i64 m,.int .i64 p,.int .i64 l],.agg #[.int .i64 a,.int .i64 b]] w fun r w'=>r=.returned (.tuple #[.float .f64 (vd true n u d a b).1,.bool (vd true n u d a b).2])∧Below w.heap.size w w':=by
  intro p1 p2 p3 p4 p5;have hv:vd true n u d a b=(9218868437227405312,true):=by unfold vd;rw [if_neg (by decide),if_neg (fun h=>p2 h.2),if_neg (not_not_intro p3),if_neg (fun h=>p5 h.2),if_pos p4]
  rw [hv];clear hv;have q1:0<n:=p1;have q2:(a==0)=false:=by rw [beq_eq_false_iff_ne];exact p2
  have q3:b=0:=p3;have q4:0<u:=p4;have q5:decide (0<d)=false:=decide_eq_false p5;subst q3;go_enter Tryz.func79,Tryz.ntmps79
  go_wp2_with fail
  refine (HS.out _).mono ?_;rintro r w1 ⟨rfl,hb1⟩;have hz1:=hb1.size;simp at hz1;obtain ⟨hc1,hf1⟩:=bcell hb1;have B1:=qsd hb1;clear hb1
  go_wp2_with fail
  refine (HM.out _).mono ?_;rintro r w2 ⟨rfl,hb2⟩;have hz2:=hb2.size;obtain ⟨hc2,hf2⟩:=bcell hb2;have hc3:∀ b o,b<w.heap.size+1+1→w2.cell? ⟨b,o,none⟩=w1.cell? ⟨b,o,none⟩:=fun b o h=>hc2 b o (by omega)
  have B2:=qsd hb2;clear hb2 hc2 hf2
  go_wp2_with fail
  refine (HU.out _).mono ?_;rintro r w3 ⟨rfl,rfl⟩;go_wp2
  go_ret2
  exact ⟨by first | rfl | simp,((((Below.refl _ w).alloc (Nat.le_refl _) _).alloc (by simp) _).trans (B1.out.mono (by simp;omega))).trans (B2.out.mono (by omega))⟩
 have way5:0<n→¬ (a=0)→b=0→¬ (0<u)→0<d→Calls Tryz.prog 79 #[.agg #[.int .i64 n,.int .i64 u,.int .i64 d,.int .i64 m,.int .i64 p,.int .i64 l],.agg #[.int .i64 a,.int .i64 b]] w fun r w'=>r=.returned (.tuple #[.float .f64 (vd true n u d a b).1,.bool (vd true n u d a b).2])∧Below w.heap.size w w':=by
  intro p1 p2 p3 p4 p5;have hv:vd true n u d a b=(18442240474082181120,true):=by unfold vd;rw [if_neg (by decide),if_neg (fun h=>p2 h.2),if_neg (not_not_intro p3),if_neg (fun h=>p4 h.1),if_neg p4,if_pos p5]
  rw [hv];clear hv;have q1:0<n:=p1;have q2:(a==0)=false:=by rw [beq_eq_false_iff_ne];exact p2
  have q3:b=0:=p3;have q4:decide (0<u)=false:=decide_eq_false p4;have q5:0<d:=p5;subst q3;go_enter Tryz.func79,Tryz.ntmps79
  go_wp2_with fail
  refine (HS.out _).mono ?_;rintro r w1 ⟨rfl,hb1⟩;have hz1:=hb1.size;simp at hz1;obtain ⟨hc1,hf1⟩:=bcell hb1;have B1:=qsd hb1;clear hb1
  go_wp2_with fail
  refine (HM.out _).mono ?_;rintro r w2 ⟨rfl,hb2⟩;have hz2:=hb2.size;obtain ⟨hc2,hf2⟩:=bcell hb2;have hc3:∀ b o,b<w.heap.size+1+1→w2.cell? ⟨b,o,none⟩=w1.cell? ⟨b,o,none⟩:=fun b o h=>hc2 b o (by omega)
  have B2:=qsd hb2;clear hb2 hc2 hf2
  go_wp2_with fail
  refine (HD.out _).mono ?_;rintro r w3 ⟨rfl,rfl⟩;go_wp2
  go_ret2
  exact ⟨by first | rfl | simp,((((Below.refl _ w).alloc (Nat.le_refl _) _).alloc (by simp) _).trans (B1.out.mono (by simp;omega))).trans (B2.out.mono (by omega))⟩
 have way6:0<n→¬ (a=0)→b=0→¬ (0<u)→¬ (0<d)→Calls Tryz.prog 79 #[.agg #[.int .i64 n,.int .i64 u,.int .i64 d,.int .i64 m,.int .i64 p,.int .i64 l],.agg #[.int .i64 a,.int .i64 b]] w fun r w'=>r=.returned (.tuple #[.float .f64 (vd true n u d a b).1,.bool (vd true n u d a b).2])∧Below w.heap.size w w':=by
  intro p1 p2 p3 p4 p5;have hv:vd true n u d a b=(0,false):=by unfold vd;rw [if_neg (by decide),if_neg (fun h=>p2 h.2),if_neg (not_not_intro p3),if_neg (fun h=>p4 h.1),if_neg p4,if_neg p5]
  rw [hv];clear hv;have q1:0<n:=p1;have q2:(a==0)=false:=by rw [beq_eq_false_iff_ne];exact p2
  have q3:b=0:=p3;have q4:decide (0<u)=false:=decide_eq_false p4;have q5:decide (0<d)=false:=decide_eq_false p5;subst q3;go_enter Tryz.func79,Tryz.ntmps79
  go_wp2_with fail
  refine (HS.out _).mono ?_;rintro r w1 ⟨rfl,hb1⟩;have hz1:=hb1.size;simp at hz1;obtain ⟨hc1,hf1⟩:=bcell hb1;have B1:=qsd hb1;clear hb1
  go_wp2_with fail
  refine (HM.out _).mono ?_;rintro r w2 ⟨rfl,hb2⟩;have hz2:=hb2.size;obtain ⟨hc2,hf2⟩:=bcell hb2;have hc3:∀ b o,b<w.heap.size+1+1→w2.cell? ⟨b,o,none⟩=w1.cell? ⟨b,o,none⟩:=fun b o h=>hc2 b o (by omega)
  have B2:=qsd hb2;clear hb2 hc2 hf2;go_wp2
  go_ret2
  exact ⟨by first | rfl | simp,((((Below.refl _ w).alloc (Nat.le_refl _) _).alloc (by simp) _).trans (B1.out.mono (by simp;omega))).trans (B2.out.mono (by omega))⟩
 have way7:¬ (0<n)→¬ (b=0)→Calls Tryz.prog 79 #[.agg #[.int .i64 n,.int .i64 u,.int .i64 d,.int .i64 m,.int .i64 p,.int .i64 l],.agg #[.int .i64 a,.int .i64 b]] w fun r w'=>r=.returned (.tuple #[.float .f64 (vd true n u d a b).1,.bool (vd true n u d a b).2])∧Below w.heap.size w w':=by
  intro p1 p3;have hv:vd true n u d a b=(0,false):=by unfold vd;rw [if_neg (by decide),if_neg (fun h=>p1 h.1),if_pos p3]
  rw [hv];clear hv;have q1:decide (0<n)=false:=decide_eq_false p1;have q3:(b==0)=false:=by rw [beq_eq_false_iff_ne];exact p3
  go_enter Tryz.func79,Tryz.ntmps79
  go_wp2_with fail
  refine (HS.out _).mono ?_;rintro r w1 ⟨rfl,hb1⟩;have hz1:=hb1.size;simp at hz1;obtain ⟨hc1,hf1⟩:=bcell hb1;have B1:=qsd hb1;clear hb1
  go_wp2_with fail
  refine (HM.out _).mono ?_;rintro r w2 ⟨rfl,hb2⟩;have hz2:=hb2.size;obtain ⟨hc2,hf2⟩:=bcell hb2;have hc3:∀ b o,b<w.heap.size+1+1→w2.cell? ⟨b,o,none⟩=w1.cell? ⟨b,o,none⟩:=fun b o h=>hc2 b o (by omega)
  have B2:=qsd hb2;clear hb2 hc2 hf2;go_wp2
  go_ret2
  exact ⟨by first | rfl | simp,((((Below.refl _ w).alloc (Nat.le_refl _) _).alloc (by simp) _).trans (B1.out.mono (by simp;omega))).trans (B2.out.mono (by omega))⟩
 have way8:¬ (0<n)→b=0→0<u→0<d→Calls Tryz.prog 79 #[.agg #[.int .i64 n,.int .i64 u,.int .i64 d,.int .i64 m,.int .i64 p,.int .i64 l],.agg #[.int .i64 a,.int .i64 b]] w fun r w'=>r=.returned (.tuple #[.float .f64 (vd true n u d a b).1,.bool (vd true n u d a b).2])∧Below w.heap.size w w':=by
  intro p1 p3 p4 p5;have hv:vd true n u d a b=(9221120237041090560,true):=by unfold vd;rw [if_neg (by decide),if_neg (fun h=>p1 h.1),if_neg (not_not_intro p3),if_pos ⟨p4,p5⟩]
  rw [hv];clear hv;have q1:decide (0<n)=false:=decide_eq_false p1;have q3:b=0:=p3;have q4:0<u:=p4;have q5:0<d:=p5;subst q3;go_enter Tryz.func79,Tryz.ntmps79
  go_wp2_with fail
  refine (HS.out _).mono ?_;rintro r w1 ⟨rfl,hb1⟩;have hz1:=hb1.size;simp at hz1;obtain ⟨hc1,hf1⟩:=bcell hb1;have B1:=qsd hb1;clear hb1
  go_wp2_with fail
  refine (HM.out _).mono ?_;rintro r w2 ⟨rfl,hb2⟩;have hz2:=hb2.size;obtain ⟨hc2,hf2⟩:=bcell hb2;have hc3:∀ b o,b<w.heap.size+1+1→w2.cell? ⟨b,o,none⟩=w1.cell? ⟨b,o,none⟩:=fun b o h=>hc2 b o (by omega)
  have B2:=qsd hb2;clear hb2 hc2 hf2
  go_wp2_with fail
  refine (HN.out _).mono ?_;rintro r w3 ⟨rfl,rfl⟩;go_wp2
  go_ret2
  exact ⟨by first | rfl | simp,((((Below.refl _ w).alloc (Nat.le_refl _) _).alloc (by simp) _).trans (B1.out.mono (by simp;omega))).trans (B2.out.mono (by omega))⟩
 have way9:¬ (0<n)→b=0→0<u→¬ (0<d)→Calls Tryz.prog 79 #[.agg #[.int .i64 n,.int .i64 u,.int .i64 d,.int .i64 m,.int .i64 p,.int .i64 l],.agg #[.int .i64 a,.int .i64 b]] w fun r w'=>r=.returned (.tuple #[.float .f64 (vd true n u d a b).1,.bool (vd true n u d a b).2])∧Below w.heap.size w w':=by
  intro p1 p3 p4 p5;have hv:vd true n u d a b=(9218868437227405312,true):=by unfold vd;rw [if_neg (by decide),if_neg (fun h=>p1 h.1),if_neg (not_not_intro p3),if_neg (fun h=>p5 h.2),if_pos p4]
  rw [hv];clear hv;have q1:decide (0<n)=false:=decide_eq_false p1;have q3:b=0:=p3;have q4:0<u:=p4;have q5:decide (0<d)=false:=decide_eq_false p5;subst q3;go_enter Tryz.func79,Tryz.ntmps79
  go_wp2_with fail
  refine (HS.out _).mono ?_;rintro r w1 ⟨rfl,hb1⟩;have hz1:=hb1.size;simp at hz1;obtain ⟨hc1,hf1⟩:=bcell hb1;have B1:=qsd hb1;clear hb1
  go_wp2_with fail
  refine (HM.out _).mono ?_;rintro r w2 ⟨rfl,hb2⟩;have hz2:=hb2.size;obtain ⟨hc2,hf2⟩:=bcell hb2;have hc3:∀ b o,b<w.heap.size+1+1→w2.cell? ⟨b,o,none⟩=w1.cell? ⟨b,o,none⟩:=fun b o h=>hc2 b o (by omega)
  have B2:=qsd hb2;clear hb2 hc2 hf2
  go_wp2_with fail
  refine (HU.out _).mono ?_;rintro r w3 ⟨rfl,rfl⟩;go_wp2
  go_ret2
  exact ⟨by first | rfl | simp,((((Below.refl _ w).alloc (Nat.le_refl _) _).alloc (by simp) _).trans (B1.out.mono (by simp;omega))).trans (B2.out.mono (by omega))⟩
 have way10:¬ (0<n)→b=0→¬ (0<u)→0<d→Calls Tryz.prog 79 #[.agg #[.int .i64 n,.int .i64 u,.int .i64 d,.int .i64 m,.int .i64 p,.int .i64 l],.agg #[.int .i64 a,.int .i64 b]] w fun r w'=>r=.returned (.tuple #[.float .f64 (vd true n u d a b).1,.bool (vd true n u d a b).2])∧Below w.heap.size w w':=by
  intro p1 p3 p4 p5;have hv:vd true n u d a b=(18442240474082181120,true):=by unfold vd;rw [if_neg (by decide),if_neg (fun h=>p1 h.1),if_neg (not_not_intro p3),if_neg (fun h=>p4 h.1),if_neg p4,if_pos p5]
  rw [hv];clear hv;have q1:decide (0<n)=false:=decide_eq_false p1;have q3:b=0:=p3;have q4:decide (0<u)=false:=decide_eq_false p4;have q5:0<d:=p5;subst q3;go_enter Tryz.func79,Tryz.ntmps79
  go_wp2_with fail
  refine (HS.out _).mono ?_;rintro r w1 ⟨rfl,hb1⟩;have hz1:=hb1.size;simp at hz1;obtain ⟨hc1,hf1⟩:=bcell hb1;have B1:=qsd hb1;clear hb1
  go_wp2_with fail
  refine (HM.out _).mono ?_;rintro r w2 ⟨rfl,hb2⟩;have hz2:=hb2.size;obtain ⟨hc2,hf2⟩:=bcell hb2;have hc3:∀ b o,b<w.heap.size+1+1→w2.cell? ⟨b,o,none⟩=w1.cell? ⟨b,o,none⟩:=fun b o h=>hc2 b o (by omega)
  have B2:=qsd hb2;clear hb2 hc2 hf2
  go_wp2_with fail
  refine (HD.out _).mono ?_;rintro r w3 ⟨rfl,rfl⟩;go_wp2
  go_ret2
  exact ⟨by first | rfl | simp,((((Below.refl _ w).alloc (Nat.le_refl _) _).alloc (by simp) _).trans (B1.out.mono (by simp;omega))).trans (B2.out.mono (by omega))⟩
 have way11:¬ (0<n)→b=0→¬ (0<u)→¬ (0<d)→Calls Tryz.prog 79 #[.agg #[.int .i64 n,.int .i64 u,.int .i64 d,.int .i64 m,.int .i64 p,.int .i64 l],.agg #[.int .i64 a,.int .i64 b]] w fun r w'=>r=.returned (.tuple #[.float .f64 (vd true n u d a b).1,.bool (vd true n u d a b).2])∧Below w.heap.size w w':=by
  intro p1 p3 p4 p5;have hv:vd true n u d a b=(0,false):=by unfold vd;rw [if_neg (by decide),if_neg (fun h=>p1 h.1),if_neg (not_not_intro p3),if_neg (fun h=>p4 h.1),if_neg p4,if_neg p5]
  rw [hv];clear hv;have q1:decide (0<n)=false:=decide_eq_false p1;have q3:b=0:=p3;have q4:decide (0<u)=false:=decide_eq_false p4;have q5:decide (0<d)=false:=decide_eq_false p5;subst q3;go_enter Tryz.func79,Tryz.ntmps79
  go_wp2_with fail
  refine (HS.out _).mono ?_;rintro r w1 ⟨rfl,hb1⟩;have hz1:=hb1.size;simp at hz1;obtain ⟨hc1,hf1⟩:=bcell hb1;have B1:=qsd hb1;clear hb1
  go_wp2_with fail
  refine (HM.out _).mono ?_;rintro r w2 ⟨rfl,hb2⟩;have hz2:=hb2.size;obtain ⟨hc2,hf2⟩:=bcell hb2;have hc3:∀ b o,b<w.heap.size+1+1→w2.cell? ⟨b,o,none⟩=w1.cell? ⟨b,o,none⟩:=fun b o h=>hc2 b o (by omega)
  have B2:=qsd hb2;clear hb2 hc2 hf2;go_wp2
  go_ret2
  exact ⟨by first | rfl | simp,((((Below.refl _ w).alloc (Nat.le_refl _) _).alloc (by simp) _).trans (B1.out.mono (by simp;omega))).trans (B2.out.mono (by omega))⟩
 by_cases p1:0<n
 · by_cases p2:a=0
   · exact way1 p1 p2
   · by_cases p3:b=0
     · by_cases p4:0<u <;> by_cases p5:0<d
       · exact way3 p1 p2 p3 p4 p5
       · exact way4 p1 p2 p3 p4 p5
       · exact way5 p1 p2 p3 p4 p5
       · exact way6 p1 p2 p3 p4 p5
     · exact way2 p1 p2 p3
 · by_cases p3:b=0
   · by_cases p4:0<u <;> by_cases p5:0<d
     · exact way8 p1 p3 p4 p5
     · exact way9 p1 p3 p4 p5
     · exact way10 p1 p3 p4 p5
     · exact way11 p1 p3 p4 p5
   · exact way7 p1 p3
end
section
open Go.RowKit
theorem form_any {w:World}{a:Option Addr}{n c:Nat}{xs:List Nat}(h1:Arg w a n c xs) (hT:Tab w) (neg:Bool) (e:Int) (he0:-9223372036854775808≤e) (he1:e≤9223372036854775807) :
 Calls Tryz.prog 141 #[.agg #[.bool neg,.slice a n c,.int .i64 e]] w fun r w'=>DAns w.heap.size w' r (mkS neg (val xs) e)∧Below w.heap.size w w':=by
 have HB:=qsd (show Below w.heap.size w ((w.alloc (.cells #[.bool neg,.slice a n c,.int .i64 e] 37)).alloc (.cells #[.bool false,.slice none 0 0,.int .i64 0] 37)) from (((Below.refl _ _).alloc (Nat.le_refl _) _).alloc (by simp) _))
 have H1:=hid (Make_any (h1.below HB.out) (hT.belows HB.out) neg e he0 he1);have hl:=mkS_len neg (val xs) e;obtain ⟨o,ho⟩:∃ o,mkS neg (val xs) e=o:=⟨_,rfl⟩;rw [ho] at H1 hl ⊢;unfold DAns at H1 ⊢;obtain ⟨dn,hdn⟩:∃ d,dN o=d:=⟨_,rfl⟩;obtain ⟨X,hdx⟩:∃ d,dX o=d:=⟨_,rfl⟩;obtain ⟨de,hde⟩:∃ d,dE o=d:=⟨_,rfl⟩;obtain ⟨er,her⟩:∃ d,erS o=d:=⟨_,rfl⟩;rw [hdn,hdx,hde,her] at H1 ⊢;rw [hdx] at hl;clear h1 ho hdn hdx hde her hT he0 he1;go_enter Tryz.func141,Tryz.ntmps141
 go_wp2_with fail
 refine H1.out.mono ?_;rintro r w2 ⟨⟨v,rfl,hN⟩,hb⟩;obtain ⟨a2,c2,rfl,_⟩:=hN.arg (by omega)
 obtain ⟨hc,hf⟩:=bcell hb;have HF:=qsd (Fin.of 2 HB.out (by simp) hN hb)
 have hz:w.heap.size+1<w2.heap.size:=by have:=hb.size;simp at this;omega
 clear hN hb;go_wp2;exact bodyPost_ret (v:=.tuple #[.agg #[.bool dn,.slice a2 (ws X).length c2,.int .i64 de],.int .i64 er]) (by simp [results,Tryz.results141,go_sem,hc]) rfl (Fin.dans (m:=w.heap.size+2) (by repeat (first | exact HF.out | refine Fin.alloc ?_ _ | refine Fin.set ?_ _ _ _ (by omega) (by omega))) (by omega))
def DVal (lo:Nat) (w:World) (r:Ending) (o:Option (Bool×Nat×Int)):Prop :=
 ∃ v,r=.returned (.agg #[.bool (dN o),v,.int .i64 (dE o)])∧Nt lo w v (dX o)
theorem Fin.dval {lo m:Nat}{w0 w:World}{n:Bool}{v:Value}{X:Nat}{e:Int}(H:Fin lo m w0 w v X) (h:lo≤m) :
 (∃ v',Ending.returned (.agg #[.bool n,v,.int .i64 e])=.returned (.agg #[.bool n,v',.int .i64 e])∧Nt lo w v' X)∧Below lo w0 w:=⟨⟨v,rfl,H.nt.mono h⟩,H.bel⟩
theorem turned_any (a:Option Addr) (n c:Nat) (neg:Bool) (e:Int) (w:World) :
 Calls Tryz.prog 135 #[.agg #[.bool neg,.slice a n c,.int .i64 e]] w fun r w'=>r=.returned (.agg #[.bool (!neg),.slice a n c,.int .i64 e])∧Below w.heap.size w w':=by
 go_enter Tryz.func135,Tryz.ntmps135;go_wp2;exact bodyPost_ret (v:=.agg #[.bool (!neg),.slice a n c,.int .i64 e]) (by simp [results,Tryz.results135,go_sem]) rfl ⟨rfl,by repeat (first | exact Below.refl _ _ | refine Below.alloc ?_ (by first | omega | simp) _ | refine Below.setC ?_ _ _ _ (by omega) (by simp))⟩
theorem Neg_any {w:World}{a:Option Addr}{n c:Nat}{xs:List Nat}(h1:Arg w a n c xs) (hT:Tab w) (neg:Bool) (e:Int) (he0:-9223372036854775808≤e) (he1:e≤9223372036854775807) :
 Calls Tryz.prog 94 #[.agg #[.bool neg,.slice a n c,.int .i64 e]] w fun r w'=>DVal w.heap.size w' r (mkS (!neg) (val xs) e)∧Below w.heap.size w w':=by
 have HB:=qsd (show Below w.heap.size w ((w.alloc (.cells #[.bool neg,.slice a n c,.int .i64 e] 37)).alloc (.cells #[.bool false,.slice none 0 0,.int .i64 0] 37)) from (((Below.refl _ _).alloc (Nat.le_refl _) _).alloc (by simp) _))
 have T1:=hid (turned_any a n c neg e ((w.alloc (.cells #[.bool neg,.slice a n c,.int .i64 e] 37)).alloc (.cells #[.bool false,.slice none 0 0,.int .i64 0] 37)))
 have F1:Hid (∀ u,Below w.heap.size w u→Calls Tryz.prog 141 #[.agg #[.bool (!neg),.slice a n c,.int .i64 e]] u fun r w'=>DAns u.heap.size w' r (mkS (!neg) (val xs) e)∧Below u.heap.size u w') :=
  fun u hu=>form_any (h1.below hu) (hT.belows hu) (!neg) e he0 he1
 have hl:=mkS_len (!neg) (val xs) e;obtain ⟨o,ho⟩:∃ o,mkS (!neg) (val xs) e=o:=⟨_,rfl⟩;rw [ho] at F1 hl ⊢;unfold DAns at F1;unfold DVal;obtain ⟨dn,hdn⟩:∃ d,dN o=d:=⟨_,rfl⟩;obtain ⟨X,hdx⟩:∃ d,dX o=d:=⟨_,rfl⟩;obtain ⟨de,hde⟩:∃ d,dE o=d:=⟨_,rfl⟩;obtain ⟨er,her⟩:∃ d,erS o=d:=⟨_,rfl⟩;rw [hdn,hdx,hde,her] at F1;rw [hdn,hdx,hde];rw [hdx] at hl;clear h1 ho hdn hdx hde her hT he0 he1;go_enter Tryz.func94,Tryz.ntmps94
 go_wp2_with fail
 refine T1.out.mono ?_;rintro r w1 ⟨rfl,hb1⟩;have hbw:=HB.out.trans (hb1.mono (by simp;omega))
 have H1:=hid (F1.out w1 hbw);have hz1:w.heap.size+2≤w1.heap.size:=by have:=hb1.size;simp at this;omega
 have SB1:=(qsd (ai hb1 hbw));clear hb1 hbw
 go_wp2_with fail
 refine H1.out.mono ?_;rintro r w2 ⟨⟨v,rfl,hN⟩,hb⟩;obtain ⟨a2,c2,rfl,_⟩:=hN.arg (by omega)
 have hbb:=SB1.out.1.trans (hb.mono (by simp;omega))
 obtain ⟨hc,hf⟩:=bcell hbb;have HF:=qsd (show Fin w.heap.size (w.heap.size+2) w w2 (.slice a2 (ws X).length c2) X from ⟨hN.mono hz1,SB1.out.2.trans (hb.mono (by omega)),by have:=hb.size;omega⟩)
 have hz:w.heap.size+1<w2.heap.size:=by have:=hb.size;omega
 clear hN hb hbb;go_wp2;exact bodyPost_ret (v:=.agg #[.bool dn,.slice a2 (ws X).length c2,.int .i64 de]) (by simp [results,Tryz.results94,go_sem,hc,hz]) rfl (Fin.dval (m:=w.heap.size+2) (by repeat (first | exact HF.out | refine Fin.alloc ?_ _ | refine Fin.set ?_ _ _ _ (by omega) (by omega))) (by omega))
end
namespace B
open Go.RowKit
attribute [local go_sem] f64bits f64frombits
theorem eqParts (a c:Bool) (k l x y f g:Int) (w:World):(Op.equalIn 10000 150 (.agg #[.bool a,.int .i64 k,.int .i64 x,.int .u64 f]) (.agg #[.bool c,.int .i64 l,.int .i64 y,.int .u64 g])).run Tryz.prog w=.ok (a==c&&(k==l&&(x==y&&f==g))) w:=by
 have u3:=Tryz.underlying3;have u4:=Tryz.underlying4;have u23:=Tryz.underlying42;have hS:Tryz.prog.underlying 150=some (.struct (Tryz.prog.fieldsOf 150)):=by kernel_rfl
 have hp:Tryz.prog.stoodInHeld 150=false:=by kernel_rfl
 rw [show (10000:Nat)=9999+1 from rfl,run_equalIn_agg w 9999 150 _ _ hS hp]
 simp only [Program.fieldsOf,Tryz.underlying150]
 go_simp
 by_cases h1:a=c <;> by_cases h2:k=l <;> by_cases h3:x=y <;> by_cases h4:f=g <;> simp [h1,h2,h3,h4]
attribute [local go_sem] eqParts
theorem fld0 (a:Bool) (k x f:Int) (w:World):(Instr.field 150 (.agg #[.bool a,.int .i64 k,.int .i64 x,.int .u64 f]) 0).run Tryz.prog w=.ok (.bool a) w:=by kernel_rfl
theorem fld1 (a:Bool) (k x f:Int) (w:World):(Instr.field 150 (.agg #[.bool a,.int .i64 k,.int .i64 x,.int .u64 f]) 1).run Tryz.prog w=.ok (.int .i64 k) w:=by kernel_rfl
theorem fld2 (a:Bool) (k x f:Int) (w:World):(Instr.field 150 (.agg #[.bool a,.int .i64 k,.int .i64 x,.int .u64 f]) 2).run Tryz.prog w=.ok (.int .i64 x) w:=by kernel_rfl
theorem fld3 (a:Bool) (k x f:Int) (w:World):(Instr.field 150 (.agg #[.bool a,.int .i64 k,.int .i64 x,.int .u64 f]) 3).run Tryz.prog w=.ok (.int .u64 f) w:=by kernel_rfl
attribute [local go_sem] fld0 fld1 fld2 fld3
end B
namespace B
open Go.RowKit
attribute [local go_sem] f64bits f64frombits
theorem abs_any (s:Bool) (e f:Nat) (he:e<2048) (hf:f<4503599627370496) (w:World) :
 Calls Tryz.prog 140 #[.float .f64 (bw s e f)] w fun r w'=>r=.returned (.float .f64 (bw false e f))∧w'=w:=by
 have h1:=abs_bw s e f he hf;go_enter Tryz.func140,Tryz.ntmps140;go_wp2;go_ret;exact ⟨rfl,rfl⟩
end B
section
open Go.RowKit
attribute [local go_sem] B.eqParts B.fld0 B.fld1 B.fld2 B.fld3
def ofR (s:Bool) (e f:Nat):Option (Bool×Nat×Int):=if e=2047 then none else mkS s (if e=0 then f else f+4503599627370496) (if e=0 then -1074 else (e:Int)-1075)
def ofE (e:Nat):Int:=if e=2047 then 30 else 0
def OAns (lo:Nat) (w:World) (r:Ending) (o:Option (Bool×Nat×Int)) (er:Int):Prop :=
 ∃ v,r=.returned (.tuple #[.agg #[.bool (dN o),v,.int .i64 (dE o)],.int .i64 er])∧Nt lo w v (dX o)
theorem bl_le53 (X:Nat) (h:X<9007199254740992):bl X≤53:=by
 by_cases h0:X=0
 · subst h0;rw [bl_zero];omega
 · have:=(Nat.pow_lt_pow_iff_right (a:=2) (by omega)).1 (Nat.lt_of_le_of_lt (bl_ge X h0) (show X<2^53 from h))
   omega
theorem of_some (s:Bool) (X:Nat) (x:Int) (hX:X<9007199254740992) (h0:-1100≤x) (h1:x≤1000):∃ d,mkS s X x=some d:=by
 unfold mkS
 by_cases h:X=0
 · rw [if_pos h];exact ⟨_,rfl⟩
 · rw [if_neg h]
   obtain ⟨m,_,_,hb⟩:=odd_part X h;have:=bl_le53 X hX;rw [if_neg (by omega)]
   exact ⟨_,rfl⟩
theorem of_core (s:Bool) (b:Nat) (F:Nat) (k x:Int) (w:World) (hT:Tab w) (hF:F<9007199254740992) (hx0:-1100≤x) (hx1:x≤1000)
 (HA:Hid (∀ u,Calls Tryz.prog 140 #[.float .f64 b] u fun r w'=>r=.returned (.float .f64 (b%9223372036854775808))∧w'=u))
 (HS:Hid (∀ u,Calls Tryz.prog 139 #[.float .f64 (b%9223372036854775808)] u fun r w'=>r=.returned (.agg #[.bool false,.int .i64 k,.int .i64 x,.int .u64 (F:Nat)])∧Below u.heap.size u w'))
 (H0:Hid (∀ u,Calls Tryz.prog 139 #[.float .f64 0] u fun r w'=>r=.returned (.agg #[.bool false,.int .i64 0,.int .i64 (-1074),.int .u64 0])∧Below u.heap.size u w'))
 (hlt:(FloatKind.f64.format.order b 0==some .lt)=s) (k0:(k==0)=false) (k3:(k==3)=false) (k4:(k==4)=false) :
 Calls Tryz.prog 92 #[.float .f64 b] w fun r w'=>DAns w.heap.size w' r (mkS s F x)∧Below w.heap.size w w':=by
 generalize hb2:b%9223372036854775808=b2 at *;clear hb2;have HO:Hid (∀ u,Calls Tryz.prog 99 #[.int .u64 (F:Nat)] u fun r w'=>∃ v,r=.returned v∧Nt u.heap.size w' v F∧Below u.heap.size u w'):=fun u=>of_any F u (by omega)
 have HM:Hid (∀ (u:World) (a:Option Addr) (c:Nat),Tab u→Arg u a (ws F).length c (ws F)→Calls Tryz.prog 98 #[.bool s,.slice a (ws F).length c,.int .i64 x] u fun r w'=>DAns u.heap.size w' r (mkS s F x)∧Below u.heap.size u w'):=by
  intro u a c hTu hA;have:=Make_any hA hTu s x (by omega) (by omega)
  rw [val_ws] at this;exact this
 have hFl:(ws F).length≤100:=by have:=ws_len_bl F;have:=bl_le53 F hF;omega
 have hl:=mkS_len s F x;obtain ⟨o,ho⟩:∃ o,mkS s F x=o:=⟨_,rfl⟩;rw [ho] at HM hl ⊢;unfold DAns at HM ⊢;obtain ⟨dn,hdn⟩:∃ d,dN o=d:=⟨_,rfl⟩;obtain ⟨X,hdx⟩:∃ d,dX o=d:=⟨_,rfl⟩;obtain ⟨de,hde⟩:∃ d,dE o=d:=⟨_,rfl⟩;obtain ⟨er,her⟩:∃ d,erS o=d:=⟨_,rfl⟩;rw [hdn,hdx,hde,her] at HM ⊢;rw [hdx] at hl;have HT:=qsd hT;clear ho hdn hdx hde her hT hF hx0 hx1;go_enter Tryz.func92,Tryz.ntmps92
 go_wp2_with fail
 refine (Calls.mono (HA.out _)) ?_;rintro r w1 ⟨rfl,rfl⟩
 go_wp2_with fail
 refine (Calls.mono (HS.out _)) ?_;rintro r w2 ⟨rfl,hb⟩;obtain ⟨hc,hf⟩:=bcell hb;have hz:w.heap.size<w2.heap.size:=by have:=hb.size;simp at this;omega
 have hbw:Below w.heap.size w w2:=((Below.refl _ _).alloc (Nat.le_refl _) _).trans (hb.mono (by simp))
 have SB:=qsd hbw;clear hb hbw;obtain ⟨W2,hW2⟩:∃ W,W=w2.alloc (.cells #[.bool false,.int .i64 k,.int .i64 x,.int .u64 (F:Nat)] 150):=⟨_,rfl⟩;have hbW:Below w.heap.size w W2:=by rw [hW2];exact SB.out.alloc (by omega) _
 have P:W2.heap[w2.heap.size]?=some (.cells #[.bool false,.int .i64 k,.int .i64 x,.int .u64 (F:Nat)] 150 (0,0)):=by rw [hW2,heap_alloc_new]
 have p0:W2.cell? ⟨w2.heap.size,0,none⟩=some (.bool false):=by simp [World.cell?,P]
 have p1:W2.cell? ⟨w2.heap.size,1,none⟩=some (.int .i64 k):=by simp [World.cell?,P]
 have p2:W2.cell? ⟨w2.heap.size,2,none⟩=some (.int .i64 x):=by simp [World.cell?,P]
 have p3:W2.cell? ⟨w2.heap.size,3,none⟩=some (.int .u64 (F:Nat)):=by simp [World.cell?,P]
 have r0:W2.cell? ⟨w.heap.size,0,none⟩=some (.bool false):=by rw [hW2];go_simp
 have r1:W2.cell? ⟨w.heap.size,1,none⟩=some (.slice none 0 0):=by rw [hW2];go_simp
 have r2:W2.cell? ⟨w.heap.size,2,none⟩=some (.int .i64 0):=by rw [hW2];go_simp
 have f0:W2.frozen? ⟨w.heap.size,0,none⟩=false:=by rw [hW2];go_simp
 have f1:W2.frozen? ⟨w.heap.size,1,none⟩=false:=by rw [hW2];go_simp
 have f2:W2.frozen? ⟨w.heap.size,2,none⟩=false:=by rw [hW2];go_simp
 have hz2:w2.heap.size<W2.heap.size:=by rw [hW2];simp
 have hz3:w.heap.size<W2.heap.size:=by omega
 have SW:=qsd hbW
 go_wp2_with fail
 rw [←hW2];clear hW2 hbW P hc hf SB
 go_region_with (go_at_call 139;refine (H0.out _).mono ?_;rintro r w3 ⟨rfl,hb3⟩;have hb4:Below W2.heap.size W2 w3:=(by first | exact hb3 | exact ((Below.refl _ W2).drew).trans (hb3.mono (Nat.le_refl _)));obtain ⟨hc,hf⟩:=bcell hb4;have S3:=qsd hb4;clear hb3 hb4)
 all_goals (
  go_wp2_with fail
  have hz4:w2.heap.size<w3.heap.size:=by have:=S3.out.size;omega
  have hz5:w.heap.size<w3.heap.size:=by have:=S3.out.size;omega
  go_region_with (first
   | (go_at_call 99
      refine (HO.out _).mono ?_;rintro r w4 ⟨v4,rfl,hN,hb⟩;obtain ⟨a4,c4,rfl,A4⟩:=hN.arg (by omega)
      have hb34:Below w3.heap.size w3 w4:=(by first | exact hb | exact ((Below.refl _ w3).drew).trans (hb.mono (Nat.le_refl _)))
      have T4:Tab w4:=(HT.out.belows SW.out).belows (S3.out.trans (hb34.mono S3.out.size));obtain ⟨hc4,hf4⟩:=bcell hb34;have hz6:w.heap.size<w4.heap.size:=by have:=hb34.size;omega
      have S4:=(qsd (ai hb34 (ai A4 T4)));clear hN hb hb34 A4 T4)
   | (go_at_call 98
      refine (HM.out _ a4 c4 (by first | exact S4.out.2.2 | exact S4.out.2.2) (by first | exact S4.out.2.1 | exact Arg.drew' S4.out.2.1)).mono ?_
      rintro r w5 ⟨⟨v5,rfl,hN⟩,hb⟩;obtain ⟨a5,c5,rfl,_⟩:=hN.arg (by omega)
      have hb45:Below w4.heap.size w4 w5:=(by first | exact hb | exact ((Below.refl _ w4).drew).trans (hb.mono (Nat.le_refl _)))
      obtain ⟨hc5,hf5⟩:=bcell hb45;have HF:=qsd (show Fin w.heap.size w4.heap.size w w5 (.slice a5 (ws X).length c5) X from ⟨hN,((SW.out.trans (S3.out.mono (by omega))).trans (S4.out.1.mono (by omega))).trans (hb45.mono (by omega)),by have:=hb45.size;omega⟩)
      clear hN hb hb45))
  all_goals (
   go_wp2;exact bodyPost_ret (v:=.tuple #[.agg #[.bool dn,.slice a5 (ws X).length c5,.int .i64 de],.int .i64 er]) (by simp [results,Tryz.results92,go_sem,hc5,hc4,hc,hz6,hz5,hz3,r0,r1,r2]) rfl (Fin.dans (m:=w4.heap.size) (by repeat (first | exact HF.out | refine Fin.alloc ?_ _ | refine Fin.set ?_ _ _ _ (by omega) (by omega))) (by omega))))
theorem of_nought (b b2:Nat) (w:World)
 (HA:Hid (∀ u,Calls Tryz.prog 140 #[.float .f64 b] u fun r w'=>r=.returned (.float .f64 b2)∧w'=u))
 (HS:Hid (∀ u,Calls Tryz.prog 139 #[.float .f64 b2] u fun r w'=>r=.returned (.agg #[.bool false,.int .i64 0,.int .i64 (-1074),.int .u64 0])∧Below u.heap.size u w'))
 (H0:Hid (∀ u,Calls Tryz.prog 139 #[.float .f64 0] u fun r w'=>r=.returned (.agg #[.bool false,.int .i64 0,.int .i64 (-1074),.int .u64 0])∧Below u.heap.size u w')) :
 Calls Tryz.prog 92 #[.float .f64 b] w fun r w'=>r=.returned (.tuple #[.agg #[.bool false,.slice none 0 0,.int .i64 0],.int .i64 0])∧Below w.heap.size w w':=by
 go_enter Tryz.func92,Tryz.ntmps92
 go_wp2_with fail
 refine (Calls.mono (HA.out _)) ?_;rintro r w1 ⟨rfl,rfl⟩
 go_wp2_with fail
 refine (Calls.mono (HS.out _)) ?_;rintro r w2 ⟨rfl,hb⟩;obtain ⟨hc,hf⟩:=bcell hb;have hz:w.heap.size<w2.heap.size:=by have:=hb.size;simp at this;omega
 have hbw:Below w.heap.size w w2:=((Below.refl _ _).alloc (Nat.le_refl _) _).trans (hb.mono (by simp))
 have SB:=qsd hbw;clear hb hbw;obtain ⟨W2,hW2⟩:∃ W,W=w2.alloc (.cells #[.bool false,.int .i64 0,.int .i64 (-1074),.int .u64 0] 150):=⟨_,rfl⟩;have hbW:Below w.heap.size w W2:=by rw [hW2];exact SB.out.alloc (by omega) _
 have P:W2.heap[w2.heap.size]?=some (.cells #[.bool false,.int .i64 0,.int .i64 (-1074),.int .u64 0] 150 (0,0)):=by rw [hW2,heap_alloc_new]
 have p0:W2.cell? ⟨w2.heap.size,0,none⟩=some (.bool false):=by simp [World.cell?,P]
 have p1:W2.cell? ⟨w2.heap.size,1,none⟩=some (.int .i64 0):=by simp [World.cell?,P]
 have p2:W2.cell? ⟨w2.heap.size,2,none⟩=some (.int .i64 (-1074)):=by simp [World.cell?,P]
 have p3:W2.cell? ⟨w2.heap.size,3,none⟩=some (.int .u64 0):=by simp [World.cell?,P]
 have r0:W2.cell? ⟨w.heap.size,0,none⟩=some (.bool false):=by rw [hW2];go_simp
 have r1:W2.cell? ⟨w.heap.size,1,none⟩=some (.slice none 0 0):=by rw [hW2];go_simp
 have r2:W2.cell? ⟨w.heap.size,2,none⟩=some (.int .i64 0):=by rw [hW2];go_simp
 have f0:W2.frozen? ⟨w.heap.size,0,none⟩=false:=by rw [hW2];go_simp
 have f1:W2.frozen? ⟨w.heap.size,1,none⟩=false:=by rw [hW2];go_simp
 have f2:W2.frozen? ⟨w.heap.size,2,none⟩=false:=by rw [hW2];go_simp
 have hz2:w2.heap.size<W2.heap.size:=by rw [hW2];simp
 have hz3:w.heap.size<W2.heap.size:=by omega
 have SW:=qsd hbW
 go_wp2_with fail
 rw [←hW2];clear hW2 hbW P hc hf SB
 go_region_with (go_at_call 139;refine (H0.out _).mono ?_;rintro r w3 ⟨rfl,hb3⟩;have hb4:Below W2.heap.size W2 w3:=(by first | exact hb3 | exact ((Below.refl _ W2).drew).trans (hb3.mono (Nat.le_refl _)));obtain ⟨hc,hf⟩:=bcell hb4;have S3:=qsd hb4;clear hb3 hb4)
 all_goals (
  go_wp2;have hbf:=SW.out.trans (S3.out.mono (by omega))
  have hzf:w.heap.size≤w3.heap.size:=by have:=S3.out.size;omega
  exact bodyPost_ret (v:=.tuple #[.agg #[.bool false,.slice none 0 0,.int .i64 0],.int .i64 0]) (by simp [results,Tryz.results92,go_sem,hc,hz3,r0,r1,r2]) rfl ⟨rfl,Below.setC (Below.setC (Below.setC hbf _ _ _ (Nat.le_refl _) hzf) _ _ _ (Nat.le_refl _) (by simpa [World.setCell] using hzf)) _ _ _ (Nat.le_refl _) (by simpa [World.setCell] using hzf)⟩)
theorem of_wild (b b2:Nat) (k:Int) (w:World) (hk:k=3∨k=4)
 (HA:Hid (∀ u,Calls Tryz.prog 140 #[.float .f64 b] u fun r w'=>r=.returned (.float .f64 b2)∧w'=u))
 (HS:Hid (∀ u,Calls Tryz.prog 139 #[.float .f64 b2] u fun r w'=>r=.returned (.agg #[.bool false,.int .i64 k,.int .i64 0,.int .u64 0])∧Below u.heap.size u w'))
 (H0:Hid (∀ u,Calls Tryz.prog 139 #[.float .f64 0] u fun r w'=>r=.returned (.agg #[.bool false,.int .i64 0,.int .i64 (-1074),.int .u64 0])∧Below u.heap.size u w')) :
 Calls Tryz.prog 92 #[.float .f64 b] w fun r w'=>r=.returned (.tuple #[.agg #[.bool false,.slice none 0 0,.int .i64 0],.int .i64 30])∧Below w.heap.size w w':=by
 have k0:(k==0)=false:=by rcases hk with rfl | rfl <;> rfl
 go_enter Tryz.func92,Tryz.ntmps92
 go_wp2_with fail
 refine (Calls.mono (HA.out _)) ?_;rintro r w1 ⟨rfl,rfl⟩
 go_wp2_with fail
 refine (Calls.mono (HS.out _)) ?_;rintro r w2 ⟨rfl,hb⟩;obtain ⟨hc,hf⟩:=bcell hb;have hz:w.heap.size<w2.heap.size:=by have:=hb.size;simp at this;omega
 have hbw:Below w.heap.size w w2:=((Below.refl _ _).alloc (Nat.le_refl _) _).trans (hb.mono (by simp))
 have SB:=qsd hbw;clear hb hbw;obtain ⟨W2,hW2⟩:∃ W,W=w2.alloc (.cells #[.bool false,.int .i64 k,.int .i64 0,.int .u64 0] 150):=⟨_,rfl⟩;have hbW:Below w.heap.size w W2:=by rw [hW2];exact SB.out.alloc (by omega) _
 have P:W2.heap[w2.heap.size]?=some (.cells #[.bool false,.int .i64 k,.int .i64 0,.int .u64 0] 150 (0,0)):=by rw [hW2,heap_alloc_new]
 have p0:W2.cell? ⟨w2.heap.size,0,none⟩=some (.bool false):=by simp [World.cell?,P]
 have p1:W2.cell? ⟨w2.heap.size,1,none⟩=some (.int .i64 k):=by simp [World.cell?,P]
 have p2:W2.cell? ⟨w2.heap.size,2,none⟩=some (.int .i64 0):=by simp [World.cell?,P]
 have p3:W2.cell? ⟨w2.heap.size,3,none⟩=some (.int .u64 0):=by simp [World.cell?,P]
 have r0:W2.cell? ⟨w.heap.size,0,none⟩=some (.bool false):=by rw [hW2];go_simp
 have r1:W2.cell? ⟨w.heap.size,1,none⟩=some (.slice none 0 0):=by rw [hW2];go_simp
 have r2:W2.cell? ⟨w.heap.size,2,none⟩=some (.int .i64 0):=by rw [hW2];go_simp
 have f0:W2.frozen? ⟨w.heap.size,0,none⟩=false:=by rw [hW2];go_simp
 have f1:W2.frozen? ⟨w.heap.size,1,none⟩=false:=by rw [hW2];go_simp
 have f2:W2.frozen? ⟨w.heap.size,2,none⟩=false:=by rw [hW2];go_simp
 have hz2:w2.heap.size<W2.heap.size:=by rw [hW2];simp
 have hz3:w.heap.size<W2.heap.size:=by omega
 have SW:=qsd hbW
 go_wp2_with fail
 rw [←hW2];clear hW2 hbW P hc hf SB
 go_region_with (go_at_call 139;refine (H0.out _).mono ?_;rintro r w3 ⟨rfl,hb3⟩;have hb4:Below W2.heap.size W2 w3:=(by first | exact hb3 | exact ((Below.refl _ W2).drew).trans (hb3.mono (Nat.le_refl _)));obtain ⟨hc,hf⟩:=bcell hb4;have S3:=qsd hb4;clear hb3 hb4)
 all_goals (
  have hbf:=qsd (SW.out.trans (S3.out.mono (by omega)))
  have hzf:w.heap.size≤w3.heap.size:=by have:=S3.out.size;omega
  rcases hk with rfl|rfl
  all_goals (
   go_wp2;exact bodyPost_ret (v:=.tuple #[.agg #[.bool false,.slice none 0 0,.int .i64 0],.int .i64 30]) (by simp [results,Tryz.results92,go_sem,hc,hz3,r0,r1,r2]) rfl ⟨rfl,Below.setC (Below.setC (Below.setC hbf.out _ _ _ (Nat.le_refl _) hzf) _ _ _ (Nat.le_refl _) (by simpa [World.setCell] using hzf)) _ _ _ (Nat.le_refl _) (by simpa [World.setCell] using hzf)⟩))
theorem Of_any (s:Bool) (e f:Nat) (he:e<2048) (hf:f<4503599627370496) (w:World) (hT:Tab w) :
 Calls Tryz.prog 92 #[.float .f64 (B.bw s e f)] w fun r w'=>OAns w.heap.size w' r (ofR s e f) (ofE e)∧Below w.heap.size w w':=by
 have HA:Hid (∀ u,Calls Tryz.prog 140 #[.float .f64 (B.bw s e f)] u fun r w'=>r=.returned (.float .f64 (B.bw false e f))∧w'=u):=fun u=>B.abs_any s e f he hf u
 have HS:∀ u,Calls Tryz.prog 139 #[.float .f64 (B.bw false e f)] u fun r w'=>r=.returned (.agg #[.bool (B.ng false e f),.int .i64 (B.cls e f),.int .i64 (B.xp e),.int .u64 (B.fr e f)])∧Below u.heap.size u w':=fun u=>B.Split_any false e f he hf u
 have H0:Hid (∀ u,Calls Tryz.prog 139 #[.float .f64 0] u fun r w'=>r=.returned (.agg #[.bool false,.int .i64 0,.int .i64 (-1074),.int .u64 0])∧Below u.heap.size u w'):=fun u=>B.Split_any false 0 0 (by omega) (by omega) u
 have hng:B.ng false e f=false:=by unfold B.ng;split <;> rfl
 rw [hng] at HS;unfold ofR ofE
 by_cases h7:e=2047
 · rw [if_pos h7,if_pos h7]
   have h2:B.xp e=0∧B.fr e f=0:=by unfold B.xp B.fr;rw [if_pos h7,if_pos h7];exact ⟨rfl,rfl⟩
   rw [h2.1,h2.2] at HS;have hk:B.cls e f=3∨B.cls e f=4:=by unfold B.cls;rw [if_pos h7];split <;> simp
   exact (of_wild _ _ _ w hk HA (hid HS) H0).mono fun r w' ⟨h1,h3⟩=>⟨⟨_,h1,Nt.nil _ _⟩,h3⟩
 · rw [if_neg h7,if_neg h7]
   have hx:B.xp e=(if e=0 then -1074 else (e:Int)-1075):=by unfold B.xp;rw [if_neg h7]
   have hfr:B.fr e f=(((if e=0 then f else f+4503599627370496:Nat)):Int):=by unfold B.fr;rw [if_neg h7];split <;> simp
   rw [hx,hfr] at HS
   by_cases h0:e=0∧f=0
   · obtain ⟨rfl,rfl⟩:=h0
     rw [show B.cls 0 0=0 from rfl] at HS
     simp only [if_pos,Int.ofNat_zero] at HS;rw [if_pos rfl,mkS_zero];exact (of_nought _ _ w HA (hid HS) H0).mono fun r w' ⟨h1,h3⟩=>⟨⟨_,h1,Nt.nil _ _⟩,h3⟩
   · have hcl:B.cls e f=1∨B.cls e f=2:=by
      unfold B.cls;rw [if_neg h7]
      by_cases h1:e=0
      · rw [if_pos h1,if_neg (fun h=>h0 ⟨h1,h⟩)];simp
      · rw [if_neg h1];simp
     obtain ⟨F,hF⟩:∃ F:Nat,(if e=0 then f else f+4503599627370496:Nat)=F:=⟨_,rfl⟩
     obtain ⟨x,hxx⟩:∃ x:Int,(if e=0 then -1074 else (e:Int)-1075)=x:=⟨_,rfl⟩
     have hFb:F<9007199254740992:=by rw [←hF];split <;> omega
     have hxb:-1100≤x∧x≤1000:=by rw [←hxx];split <;> omega
     rw [hF,hxx] at HS ⊢;have ho:B.odd e f=false:=by unfold B.odd;simp [h7]
     have hz:(e==0&&f==0)=false:=by
      cases h1:(e==0&&f==0)
      · rfl
      · exact absurd (by simpa using h1) h0
     have hb2:B.bw false e f=B.bw s e f%9223372036854775808:=by
      have h1:=B.bw_mod s e f he hf;have h2:(B.bw false e f:Int)=(e:Int)*4503599627370496+f:=by unfold B.bw;simp
      omega
     rw [hb2] at HA HS;obtain ⟨d,hd⟩:=of_some s F x hFb hxb.1 hxb.2;have:=of_core s (B.bw s e f) F (B.cls e f) x w hT hFb hxb.1 hxb.2 HA (hid HS) H0 (B.lt_zero s e f he hf ho hz) (by rcases hcl with h | h <;> rw [h] <;> rfl) (by rcases hcl with h | h <;> rw [h] <;> rfl) (by rcases hcl with h | h <;> rw [h] <;> rfl)
     refine this.mono fun r w' ⟨⟨v,h1,h2⟩,h3⟩=>⟨⟨v,?_,h2⟩,h3⟩
     rw [h1,hd];rfl
end
end Go.Proofs.YtflkmfdlpfimcaaGreatDoor
