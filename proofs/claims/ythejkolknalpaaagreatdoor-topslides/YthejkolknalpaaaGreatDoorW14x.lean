import Derived.Test.YthejkolknalpaaaGreatDoorM1x
import Derived.Deep.OwnRows
import Derived.BigQuiet
import Derived.Deep.RegionWith
set_option linter.unusedVariables false
set_option linter.unusedSimpArgs false
set_option maxHeartbeats 16000000
set_option maxRecDepth 20000
namespace Go.Proofs.YthejkolknalpaaaGreatDoor
section
open Go.RowKit
def Tab (w:World):Prop:=∀ j,j<32→w.cell? ⟨1,j,none⟩=some (.int .u8 (Lib.deBruijn32tab.getD j 0))
theorem Tab.below {B:Nat}{w w':World}(h:Tab w) (hb:Below B w w') (hB:1<B):Tab w':=fun j hj=>(hb.cell (p:=⟨1,j,none⟩) hB).trans (h j hj)
theorem Tab.pos {w:World}(h:Tab w):1<w.heap.size:=World.block_lt_of_cell? w ⟨1,0,none⟩ (h 0 (by decide))
theorem Tab.belows {w w':World}(h:Tab w) (hb:Below w.heap.size w w'):Tab w':=h.below hb h.pos
theorem tz_core (x k idx:Nat) (w:World) (hx0:((x:Int)==0)=false)
 (key:bits BinOp.and IntKind.u32 (x:Int) (-(x:Int)%4294967296)*125613361%4294967296/134217728=(idx:Int))
 (hi:idx<32) (hk:k<32) (hcell:w.cell? ⟨1,idx,none⟩=some (.int .u8 k)) :
 Calls Tryz.prog 127 #[.int .u32 x] w fun e w'=>e=.returned (.int .i64 k)∧w'=w:=by
 go_enter Tryz.func127,Tryz.ntmps127
 go_wp2_with (simp only [key])
 go_ret;exact ⟨rfl,rfl⟩
theorem tz_key (x a:Nat) (hx:x<4294967296) (hx0:x≠0) (hlow:x &&& (4294967296-x)=a) :
 bits BinOp.and IntKind.u32 (x:Int) (-(x:Int)%4294967296)*125613361%4294967296/134217728=((a*125613361%4294967296/134217728:Nat):Int):=by
 rw [show -(x:Int)%4294967296=((4294967296-x:Nat):Int) by omega,and32 x _ hx (by omega),hlow]
 omega
theorem tz_any (x:Nat) (hx:x<4294967296) (hx0:x≠0) (w:World) (hT:Tab w) :
 Calls Tryz.prog 127 #[.int .u32 (x:Int)] w fun e w'=>e=.returned (.int .i64 (Lib.ctz 32 x:Nat))∧w'=w:=by
 obtain ⟨hlow,hk⟩:=Lib.lowest_bit 32 x hx0 hx;obtain ⟨hi,htab⟩:=Lib.deBruijn32_at _ hk;have hcell:=hT _ hi;rw [htab] at hcell;exact tz_core x _ _ w (by simp;omega) (tz_key x _ hx hx0 hlow) hi hk hcell
def lo (n:Nat):Nat:=if h:n=0 then 0 else if n%2=1 then 0 else lo (n/2)+1
termination_by n
decreasing_by omega
theorem lo_zero:lo 0=0:=by rw [lo];simp
theorem lo_odd (m:Nat):lo (2*m+1)=0:=by rw [lo];simp
theorem lo_eq (i m:Nat):lo (2^i*(2*m+1))=i:=by
 induction i with
 | zero=>rw [Nat.pow_zero,Nat.one_mul];exact lo_odd m
 | succ i ih =>
   have h:2^(i+1)*(2*m+1)=2*(2^i*(2*m+1)):=by rw [Nat.pow_succ];grind
   have hp:0<2^i*(2*m+1):=Nat.mul_pos (Nat.two_pow_pos i) (by omega)
   rw [h,lo,dif_neg (by omega),if_neg (by omega),Nat.mul_div_cancel_left _ (by decide),ih]
theorem lo_words (xs:List Nat) (k:Nat) (hx:Wf xs) (hk:k<xs.length) (h0:sg xs 0 k=0) (hw:xs.getD k 0≠0):lo (val xs)=32*k+Lib.ctz 32 (xs.getD k 0):=by
 have hl:=hx.get k;obtain ⟨m,hm,hc⟩:=Lib.ctzFrom_spec 32 (xs.getD k 0) (by omega) hl
 have hcz:Lib.ctz 32 (xs.getD k 0)=Lib.ctzFrom 32 (xs.getD k 0):=by simp only [Lib.ctz,if_neg hw]
 rw [hcz];obtain ⟨c,hc'⟩:∃ c,Lib.ctzFrom 32 (xs.getD k 0)=c:=⟨_,rfl⟩;rw [hc'] at hm hc ⊢;have e:=val_take_drop xs k (by omega)
 rw [←sg_val_take,h0,Nat.zero_add,val_drop_succ xs k hk,hm] at e
 have e2:4294967296=2^c*(2*2^(31-c)):=by
  rw [←Nat.mul_assoc,Nat.mul_comm (2^c) 2,Nat.mul_assoc,←Nat.pow_add,show c+(31-c)=31 by omega]
 have e3:val xs=2^(32*k+c)*(2*(m+2^(31-c)*val (xs.drop (k+1)))+1):=by
  rw [e,Nat.pow_add,Nat.pow_mul];have:(2^32:Nat)^k=pw k:=rfl;rw [this];have:4294967296*val (xs.drop (k+1))=2^c*(2*2^(31-c))*val (xs.drop (k+1)):=by rw [←e2]
  rw [this]
  grind
 rw [e3,lo_eq]
theorem low_any (xs:List Nat) (ao:Option Addr) (n cap B:Nat) (w:World) (hn:n=xs.length) (hm:n≤70368744177664) (hx:Wf xs) (hR:Rd B w ao xs) (hT:Tab w) :
 Calls Tryz.prog 97 #[.slice ao n cap] w fun r w'=>r=.returned (.int .i64 (lo (val xs):Nat))∧w'=w:=by
 have HT:=(hid hT);have HR:=(qsd (ai hR (ai hn hx)));clear hR hn hx hT;go_enter Tryz.func97,Tryz.ntmps97;go_wp2
 go_loopg [7] n (fun gk i wr=>∃ k:Nat,gk+k=n∧i=.int .i64 (k:Nat)∧wr=w∧Aside (sg xs 0 k=0))
 case atStart=>exact ⟨0,by omega,rfl,rfl,sg_zero _ _⟩
 case round =>
  obtain ⟨k,hgk,rfl,rfl,HA⟩:=hrel
  by_cases hk:k<n
  · obtain ⟨hR,hn,hx⟩:=HR.out
    obtain ⟨b,boff,hbB,rfl,hbc⟩:=hR (by intro e;subst e;simp at hn;omega)
    have hbk:=hbc k (by omega)
    obtain ⟨x,hxx⟩:∃ x:Nat,xs.getD k 0=x:=⟨_,rfl⟩;have hxl:x<4294967296:=hxx ▸ hx.get _;rw [hxx] at hbk
    by_cases h0:x=0
    · subst h0
      have HX:=(qsd hxx);clear hxx hR hn hx hbc;go_wp2
      go_roundg (gk-1)
      case measure=>omega
      case rel =>
       obtain ⟨hR,hn,hx⟩:=HR.out;refine ⟨k+1,by omega,by go_num,rfl,?_⟩
       have h1:=HA.out;rw [Aside,sg_succ xs 0 k (by omega),Nat.zero_add,HX.out,h1]
       omega
    · have hz:=lo_words xs k hx (by omega) HA.out (by rw [hxx];exact h0)
      rw [hxx] at hz;obtain ⟨hc,hc32⟩:=Lib.lowest_bit 32 x h0 hxl;have H:=hid (tz_any x hxl h0 wr HT.out);obtain ⟨c,hcc⟩:∃ c,Lib.ctz 32 x=c:=⟨_,rfl⟩;rw [hcc] at H hz hc32;have HZ:=(qsd hz);clear hxx hR hn hx hbc hc hz hcc
      go_wp2_with fail
      refine H.out.mono ?_;rintro r w1 ⟨rfl,rfl⟩;go_wp2;go_ret;rw [HZ.out];exact ⟨congrArg (fun z=>Ending.returned (Value.int IntKind.i64 z)) (by omega),rfl⟩
  · obtain rfl:k=n:=by omega
    obtain ⟨hR,hn,hx⟩:=HR.out;have h1:=HA.out;have h2:val xs=0:=by rw [←sg_all,←hn];exact h1
    have H2:=(qsd h2);clear hR hn hx h1 h2 HA HR;go_wp2;go_ret;rw [H2.out,lo_zero];exact ⟨rfl,rfl⟩
theorem make_words (z:Int) (n:Nat) (hz:z=(n:Int)) (hn:n≤70368744177664) (w:World) :
 (Instr.makeSlice 65 (.int .i64 z) (.int .i64 z)).run Tryz.prog w=.ok (.slice (some ⟨w.heap.size,0,none⟩) n n) (w.alloc (.cells (madeCells #[.int .u32 0] n) 89)):=by
 subst hz;exact run_make_row' 65 89 (.int .u32 0) 4 Tryz.underlying65 Tryz.info89 rfl .i64 .i64 n (by omega) (by omega) w
theorem Own.made (w:World) (n:Nat):Own (w.alloc (.cells (madeCells #[.int .u32 0] n) 89)) w.heap.size (List.replicate n 0):=by
 unfold Own;have h1:=heap_alloc_new w (.cells (madeCells #[.int .u32 0] n) 89);rw [h1]
 congr 2
 apply Array.toList_inj.1
 rw [toList_madeCells_one];simp [U]
theorem Rd.drop {B:Nat}{w:World}{b off:Nat}{xs:List Nat}(h:Rd B w (some ⟨b,off,none⟩) xs) (k:Nat):Rd B w (some ⟨b,off+k,none⟩) (xs.drop k):=by
 intro hx;have hx':xs≠[]:=by intro e;subst e;simp at hx
 obtain ⟨b',off',hlt,e,hc⟩:=h hx'
 cases e
 refine ⟨b,off+k,hlt,rfl,fun i hi=>?_⟩
 simp only [List.length_drop] at hi;rw [Nat.add_assoc,hc (k+i) (by omega)]
 simp [List.getD_eq_getElem?_getD]
theorem copy_words (w:World) (g dLen dCap:Nat) (ao:Option Addr) (sLen sCap B:Nat) (ty:TypeId)
 (L xs:List Nat) (hO:Own w g L) (hL:dLen≤L.length) (hx:sLen=xs.length) (hR:Rd B w ao xs) (hle:sLen≤dLen) :
 ∃ w',(Builtin.copy_ #[65,65] ty #[.slice (some ⟨g,0,none⟩) dLen dCap,.slice ao sLen sCap]).run Tryz.prog w=.ok (.int .i64 (sLen:Int)) w'∧Own w' g (xs++L.drop sLen)∧But g w w':=by
 subst hx;have hmin:Nat.min xs.length dLen=xs.length:=Nat.min_eq_left hle
 by_cases h0:xs=[]
 · subst h0
   exact ⟨w,run_copy_none (P:=Tryz.prog) w 65 65 ty 89 _ _ _ _ _ _ Tryz.underlying65 (by kernel_rfl) (by simp at hmin ⊢),by simpa using hO,But.refl _ _⟩
 · obtain ⟨b,off,hlt,rfl,hc⟩:=hR h0
   have hadd:∀ j,(⟨b,off,none⟩:Addr).add j=⟨b,off+j,none⟩:=by intro j;unfold Addr.add;split <;> simp_all
   have hrun:=run_copy_row (P:=Tryz.prog) w 65 65 ty 89 g 0 dLen dCap ⟨b,off,none⟩ xs.length sCap (L.map U).toArray 89 (xs.map U) Tryz.underlying65 (by kernel_rfl) hO (by rw [hmin];simp) (by
    intro j v hv;rw [hadd]
    have hj:j<xs.length:=by
     have:=(List.getElem?_eq_some_iff.1 hv).1;simpa using this
    rw [hc j hj];simp [hj,U] at hv;simp [hj,←hv]) (by simp;omega) (by
    intro v hv;obtain ⟨n,_,rfl⟩:=List.mem_map.1 hv
    rfl)
   refine ⟨w.setRow g (((xs++L.drop xs.length).map U)).toArray,?_,setRow_heap w g _ _ 89 _ hO,⟨rfl,rfl,rfl,by simp [World.setRow],fun k _ hk=>setRow_other w g k _ hk⟩⟩
   simpa [List.map_append,List.map_drop,goInt] using hrun
theorem norm_any (xs:List Nat) (ao:Option Addr) (n cap B:Nat) (w:World) (hn:n=xs.length) (hc:n≤cap) (hm:n≤70368744177664) (hx:Wf xs) (hR:Rd B w ao xs) (hB:B≤w.heap.size) :
 Calls Tryz.prog 165 #[.slice ao n cap] w fun r w'=>r=.returned (.slice (some ⟨w.heap.size,0,none⟩) (ws (val xs)).length (ws (val xs)).length)∧Own w' w.heap.size (ws (val xs))∧Below w.heap.size w w':=by
 have H:=hid (trim_any xs ao n cap B w hn hc (by omega) hR)
 have hl:nl xs≤n:=by rw [hn];exact nl_le xs
 obtain ⟨k,hk⟩:∃ k,nl xs=k:=⟨_,rfl⟩;have HF:Aside (xs.take k=ws (val xs)):=by rw [←hk];exact form_eq xs hx
 have HR:Aside (Rd B w ao (xs.take k)∧k=(xs.take k).length):=⟨hR.take k,by rw [List.length_take];omega⟩
 rw [hk] at H hl;rw [←HF.out];have hmk:=make_words (k:Int) k rfl (by omega)
 have HO:=Own.made w k;have HO2:Hid (Own (w.alloc (.cells (madeCells #[.int .u32 0] k) 89)) w.heap.size (List.replicate k 0)):=HO;clear hk hR hn hx HO;go_enter Tryz.func165,Tryz.ntmps165
 go_wp2_with fail
 refine H.out.mono ?_;rintro r w1 ⟨rfl,rfl⟩;obtain ⟨w2,hcp,hO2,hbut⟩:=copy_words _ w1.heap.size k k ao k cap B 3 (List.replicate k 0) (xs.take k) HO2.out (by simp) HR.out.2 (HR.out.1.below ((Below.refl _ _).alloc hB _)) (Nat.le_refl _)
 have HH:=hid (ai hO2 hbut);clear hO2 hbut HO2;go_wp2;go_ret;obtain ⟨hO2,hbut⟩:=HH.out;rw [←HR.out.2];refine ⟨rfl,by simpa using hO2,But.below ((Below.refl _ _).alloc (Nat.le_refl _) _) hbut (by simp) (Nat.le_refl _)⟩
theorem form_top (xs:List Nat) (hx:Wf xs) (k:Nat) (hk:nl xs=k+1):val xs=sg xs 0 k+pw k*xs.getD k 0∧sg xs 0 k<pw k∧xs.getD k 0≠0∧k<xs.length:=by
 have hl:=nl_le xs;have h1:=val_form xs hx;rw [hk,val_take_succ xs k (by omega),←sg_val_take] at h1
 have h2:=nl_last xs (by omega)
 rw [hk,Nat.add_sub_cancel] at h2;exact ⟨h1.symm,sg_lt xs 0 k hx (by omega),h2,by omega⟩
theorem bl_words (xs:List Nat) (hx:Wf xs) (k:Nat) (hk:nl xs=k+1):bl (val xs)=32*k+bl (xs.getD k 0):=by
 obtain ⟨e,hlt,h0,hl⟩:=form_top xs hx k hk;obtain ⟨t,ht⟩:∃ t,xs.getD k 0=t:=⟨_,rfl⟩;rw [ht] at e h0 ⊢;obtain ⟨c,hc⟩:∃ c,bl t=c+1:=⟨bl t-1,by have:=bl_pos t h0;omega⟩
 have h1:=bl_ge t h0;have h2:=bl_lt t;rw [hc] at h1 h2 ⊢;rw [Nat.add_sub_cancel] at h1;have p1:2^(32*k+c)=pw k*2^c:=pw_two k c;have p2:2^(32*k+c+1)=pw k*2^(c+1):=by rw [Nat.add_assoc,pw_two]
 have:=bl_eq (val xs) (32*k+c) (by
  rw [p1,e];have:=Nat.mul_le_mul_left (pw k) h1
  omega) (by
  rw [p2,e];have:pw k*(t+1)≤pw k*2^(c+1):=Nat.mul_le_mul_left (pw k) (by omega)
  rw [Nat.mul_add] at this
  omega)
 omega
theorem len_any (xs:List Nat) (ao:Option Addr) (n cap B:Nat) (w:World) (hn:n=xs.length) (hc:n≤cap) (hm:n≤70368744177664) (hx:Wf xs) (hR:Rd B w ao xs) :
 Calls Tryz.prog 66 #[.slice ao n cap] w fun r w'=>r=.returned (.int .i64 (bl (val xs):Nat))∧w'=w:=by
 have H:=hid (trim_any xs ao n cap B w hn hc (by omega) hR)
 have hl:=nl_le xs
 rcases hk:nl xs with _|k
 · rw [(nl_zero_iff xs).1 hk,bl_zero]
   rw [hk] at H;clear hk hl hn hx hR;go_enter Tryz.func66,Tryz.ntmps66
   go_wp2_with fail
   refine H.out.mono ?_;rintro r w1 ⟨rfl,rfl⟩;go_wp2;go_ret;exact ⟨rfl,rfl⟩
 · rw [bl_words xs hx k hk]
   rw [hk] at H hl;obtain ⟨e,hlt,h0,hl2⟩:=form_top xs hx k hk;obtain ⟨b,off,hB,rfl,hcell⟩:=hR (by intro e;subst e;simp at hl)
   have hck:=hcell k hl2;obtain ⟨t,ht⟩:∃ t,xs.getD k 0=t:=⟨_,rfl⟩;have htl:t<4294967296:=ht ▸ hx.get k;rw [ht] at hck ⊢;have H2:=hid (len32_any t w htl);have hb:=bl_le32 t htl;obtain ⟨c,hc'⟩:∃ c,bl t=c:=⟨_,rfl⟩;rw [hc'] at H2 hb ⊢;have hkn:k<n:=by omega
   clear hk hl hn hx hR e hlt h0 hl2 hcell ht hc';go_enter Tryz.func66,Tryz.ntmps66
   go_wp2_with fail
   refine H.out.mono ?_;rintro r w1 ⟨rfl,rfl⟩
   go_wp2_with fail
   refine H2.out.mono ?_;rintro r w1 ⟨rfl,rfl⟩;go_wp2;go_ret;exact ⟨congrArg (fun z=>Ending.returned (Value.int IntKind.i64 z)) (by omega),rfl⟩
theorem of_any (x:Nat) (w:World) (hx:x<18446744073709551616) :
 Calls Tryz.prog 103 #[.int .u64 (x:Int)] w fun r w'=>∃ v,r=.returned v∧Nt w.heap.size w' v x∧Below w.heap.size w w':=by
 obtain ⟨a,ha⟩:∃ a,a=x%4294967296:=⟨_,rfl⟩;obtain ⟨b,hb⟩:∃ b,b=x/4294967296:=⟨_,rfl⟩;have e1:(x:Int)%4294967296=(a:Int):=by omega
 have e2:(x:Int)/4294967296=(b:Int):=by omega
 have hx2:(x:Int)<18446744073709551616:=by omega
 have hO:Own (w.alloc (.cells #[.int .u32 (a:Int),.int .u32 (b:Int)] 89)) w.heap.size [a,b]:=by
  unfold Own;rw [heap_alloc_new];rfl
 have hW:Wf [a,b]:=Wf.cons (by omega) (Wf.cons (by omega) Wf.nil)
 have hv:val [a,b]=x:=by simp only [val];omega
 have T:=hid (trim_any [a,b] (some ⟨w.heap.size,0,none⟩) 2 2 (w.heap.size+1) _ rfl (by omega) (by omega) (by simpa using Rd.ofOwn hO 0 2))
 have HH:=(qsd (ai hO (ai hW hv)));clear hO hW hv ha hb hx;go_enter Tryz.func103,Tryz.ntmps103
 go_wp2_with fail
 refine T.out.mono ?_;rintro r w1 ⟨rfl,rfl⟩;go_wp2;go_ret;obtain ⟨hO,hW,hv⟩:=HH.out;refine ⟨_,rfl,?_,(Below.refl _ _).alloc (Nat.le_refl _) _⟩;have N:=Nt.ofOwn (lo:=w.heap.size) hO (Nat.le_refl _) hW (by simp [maxLen])
 rw [hv] at N;exact N
theorem Own.but {w w':World}{g k:Nat}{L:List Nat}(h:Own w k L) (hb:But g w w') (hk:k≠g):Own w' k L:=by
 have:=h.lt;unfold Own at h ⊢;rw [hb.block k this hk];exact h
def Apart (v1 v2:Value):Prop:=∀ g,v1.ownBlock=some g→v2.ownBlock≠some g
theorem Nt.lt {lo:Nat}{w:World}{v:Value}{X:Nat}(h:Nt lo w v X):∀ g,v.ownBlock=some g→lo≤g∧g<w.heap.size:=fun g hg=>World.ownsRow.lt h g hg
theorem apart_of {lo m hi:Nat}{w w2:World}{v1 v2:Value}{X Y:Nat}(h1:Nt lo w v1 X) (h2:Nt m w2 v2 Y) (hm:w.heap.size≤m):Apart v1 v2:=by
 intro g hg e;have a:=(h1.lt g hg).2;have b:=(h2.lt g e).1;omega
theorem apart_nil (v:Value):Apart (.slice none 0 0) v:=by intro g hg;simp [Value.ownBlock] at hg
theorem div_ring (p b q V o a c:Nat):b*p*q*V+(a+p*(o*V+c))=p*(o+b*q)*V+(a+p*c):=by grind
theorem val_low (M:List Nat) (i k d:Nat) (hd:M.length=i+k+d) (hz:sg M (i+k) d=0):val M=sg M 0 i+pw i*sg M i k:=by
 have h1:=sg_all M;rw [hd] at h1;have h2:=sg_add M 0 (i+k) d (by omega)
 have h3:=sg_add M 0 i k (by omega)
 rw [Nat.zero_add] at h2 h3;rw [hz,Nat.mul_zero,Nat.add_zero] at h2;rw [←h1,h2,h3]
theorem sg_put (Q:List Nat) (i r o:Nat) (hQ:i+1+r=Q.length):sg (Q.set i o) i (r+1)=o+4294967296*sg Q (i+1) r:=by
 have h1:=sg_front (Q.set i o) i r (by simp;omega)
 have h2:=getD_set_same Q i o (by omega)
 have h3:=sg_set_below Q (i+1) r i o (by omega) (by omega)
 rw [h2,h3] at h1;exact h1
theorem low_lt (a p s V:Nat) (h1:a<p) (h2:s<V):a+p*s<p*V:=by
 have h:p*(s+1)≤p*V:=Nat.mul_le_mul_left _ h2;rw [Nat.mul_add,Nat.mul_one] at h;omega
theorem div_step (M M2 Q:List Nat) (i m r V o X:Nat) (hM:Wf M) (hi:i+(m+1)≤M.length) (ho:Out M M2 i (m+1))
 (hinv:X=pw (i+1)*sg Q (i+1) r*V+val M) (hz:sg M (i+(m+1)) (M.length-(i+(m+1)))=0) (hQ:i+1+r=Q.length)
 (hs:sg M i (m+1)=o*V+sg M2 i (m+1)) (hlt:sg M2 i (m+1)<V) :
 X=pw i*sg (Q.set i o) i (r+1)*V+val M2∧val M2<pw i*V:=by
 obtain ⟨d,hd⟩:∃ d,d=M.length-(i+(m+1)):=⟨_,rfl⟩;rw [←hd] at hz;have hl:M2.length=M.length:=ho.1;have e1:=val_low M i (m+1) d (by omega) hz
 have hz2:sg M2 (i+(m+1)) d=0:=by rw [ho.above (i+(m+1)) d (by omega) (by omega)];exact hz
 have e2:=val_low M2 i (m+1) d (by omega) hz2
 have e3:sg M2 0 i=sg M 0 i:=ho.below 0 i (by omega) (by omega)
 have e4:=sg_put Q i r o hQ;have h1:=sg_lt M 0 i hM (by omega)
 rw [e3] at e2;rw [hs] at e1;refine ⟨?_,by rw [e2];exact low_lt _ _ _ _ h1 hlt⟩
 rw [hinv,e1,e2,e4,pw_succ];exact div_ring _ _ _ _ _ _ _
theorem div_head (M:List Nat) (i m V:Nat) (hM:Wf M) (hi:i+(m+1)≤M.length) (hV:V<pw m) (hlt:val M<pw (i+1)*V) :
 sg M (i+(m+1)) (M.length-(i+(m+1)))=0∧sg M i (m+1)<V*4294967296:=by
 obtain ⟨d,hd⟩:∃ d,M.length=i+(m+1)+d:=⟨M.length-(i+(m+1)),by omega⟩
 have e1:val M=sg M 0 i+pw i*(sg M i (m+1)+pw (m+1)*sg M (i+(m+1)) d):=by
  rw [←sg_all M,hd,show i+(m+1)+d=i+(m+1+d) by omega,sg_add M 0 i (m+1+d) (by omega),Nat.zero_add,sg_add M i (m+1) d (by omega)]
 rw [hd,Nat.add_sub_cancel_left];obtain ⟨S,hS⟩:∃ S,sg M i (m+1)+pw (m+1)*sg M (i+(m+1)) d=S:=⟨_,rfl⟩;rw [hS] at e1
 have h1:S<4294967296*V:=by
  by_cases h:S<4294967296*V
  · exact h
  · exfalso
    have:pw i*(4294967296*V)≤pw i*S:=Nat.mul_le_mul_left _ (by omega)
    have e:pw (i+1)*V=pw i*(4294967296*V):=by rw [pw_succ,Nat.mul_comm 4294967296,Nat.mul_assoc]
    omega
 have h2:4294967296*V<pw (m+1):=by rw [pw_succ];exact Nat.mul_lt_mul_of_pos_left hV (by decide)
 constructor
 · rcases Nat.eq_zero_or_pos (sg M (i+(m+1)) d) with h | h
   · exact h
   · exfalso
     have:pw (m+1)*1≤pw (m+1)*sg M (i+(m+1)) d:=Nat.mul_le_mul_left _ h;omega
 · rw [Nat.mul_comm];omega
theorem up_form (Y m z:Nat) (hY:Y≠0) (h1:pw (m-1)*2^(31-z)≤Y) (h2:Y<pw (m-1)*2^(32-z)) (hz:z<32) (hm:0<m) :
 (ws (Y*2^z)).length=m∧Y*2^z<pw m∧2147483648≤(ws (Y*2^z)).getD (m-1) 0:=by
 obtain ⟨k,rfl⟩:∃ k,m=k+1:=⟨m-1,by omega⟩
 rw [Nat.add_sub_cancel] at h1 h2 ⊢
 have a1:pw k*2147483648≤Y*2^z:=by
  have:=Nat.mul_le_mul_right (2^z) h1;rw [Nat.mul_assoc,←Nat.pow_add,show 31-z+z=31 by omega] at this
  exact this
 have a2:Y*2^z<pw (k+1):=by
  have:=Nat.mul_lt_mul_of_pos_right h2 (Nat.two_pow_pos z);rw [Nat.mul_assoc,←Nat.pow_add,show 32-z+z=32 by omega] at this
  rw [pw_succ,Nat.mul_comm 4294967296];exact this
 have hp:=pw_pos k;have hl:=ws_len_eq (Y*2^z) k (by omega) a2
 refine ⟨hl,a2,?_⟩;have hw:=wf_ws (Y*2^z);have hv:=val_ws (Y*2^z);rw [←sg_all,hl,sg_succ _ 0 k (by omega),Nat.zero_add] at hv
 have hs:=sg_lt (ws (Y*2^z)) 0 k hw (by omega)
 by_cases h:2147483648≤(ws (Y*2^z)).getD k 0
 · exact h
 · exfalso
   have:pw k*((ws (Y*2^z)).getD k 0+1)≤pw k*2147483648:=Nat.mul_le_mul_left _ (by omega)
   rw [Nat.mul_add] at this;omega
theorem div_end (X Y P q r:Nat) (hP:0<P) (h:X*P=q*(Y*P)+r) (hr:r<Y*P):q=X/Y∧r/P=X%Y:=by
 have hY:0<Y:=by
  rcases Nat.eq_zero_or_pos Y with e|e
  · subst e;rw [Nat.zero_mul] at hr;omega
  · exact e
 have hq:X*P/(Y*P)=q:=by
  rw [h,Nat.add_comm,Nat.add_mul_div_right _ _ (Nat.mul_pos hY hP),Nat.div_eq_of_lt hr,Nat.zero_add]
 have hm:X*P%(Y*P)=r:=by
  rw [h,Nat.add_comm,Nat.add_mul_mod_self_right,Nat.mod_eq_of_lt hr]
 rw [Nat.mul_div_mul_right _ _ hP] at hq;rw [Nat.mul_mod_mul_right] at hm;exact ⟨hq.symm,by rw [←hm,Nat.mul_div_cancel _ hP]⟩
theorem up_any (xs:List Nat) (ao:Option Addr) (n cap B by' words rest:Nat) (w:World) (hn:n=xs.length) (hc:n≤cap) (hby:by'=32*words+rest) (hrest:rest<32) (hbig:words+n≤70368744177663)
 (hx:Wf xs) (hR:Rd B w ao xs) (hB:B≤w.heap.size) :
 Calls Tryz.prog 155 #[.slice ao n cap,.int .i64 (by':Nat)] w fun r w'=>∃ v,r=.returned v∧Nt w.heap.size w' v (val xs*2^by')∧Below w.heap.size w w':=by
 obtain ⟨W1,hW1⟩:∃ W,W=w.alloc (.cells (madeCells #[.int .u32 0] (words+n+1)) 89):=⟨_,rfl⟩;have hO1:Own W1 w.heap.size (List.replicate (words+n+1) 0):=by rw [hW1];exact Own.made w _
 have hB1:Below w.heap.size w W1:=by rw [hW1];exact (Below.refl _ _).alloc (Nat.le_refl _) _
 have hmk:=make_words ((words:Int)+n+1) (words+n+1) (by omega) (by omega) w
 rw [←hW1] at hmk;have hR1:Rd B W1 ao xs:=hR.below (hB1.mono hB);have e1:(by':Int)/32=(words:Int):=by omega
 have e2:(by':Int)%32=(rest:Int):=by omega
 obtain ⟨g,hg⟩:∃ g,g=w.heap.size:=⟨_,rfl⟩;rw [←hg] at hO1 hmk hB1 hB;have HR:=(qsd (ai hR1 (ai hx (ai hn (ai hB1 (ai hg hby))))));have HO:=hid hO1;clear hn hx hR hO1 hB1 hW1 hR1 hg hby;go_enter Tryz.func155,Tryz.ntmps155;go_wp2
 go_loopg [23] n (fun gk i wr=>∃ (k:Nat) (M:List Nat),gk+k=n∧i=.int .i64 (k:Nat) ∧
  Hid (Own wr g M)∧Aside (Wf M∧M.length=words+n+1∧sg M 0 words=0∧M.getD (words+k) 0<2^rest∧sg M words (k+1)=sg xs 0 k*2^rest∧But g W1 wr))
 case atStart=>exact ⟨0,_,by omega,rfl,HO,Wf.zeros _,by simp,sg_zeros _ _ _,by rw [getD_zeros];exact Nat.two_pow_pos _,by rw [sg_zeros,sg_zero];simp,But.refl _ _⟩
 case round =>
  obtain ⟨k,M,hgk,rfl,HM,HA⟩:=hrel
  by_cases hk:k<n
  · obtain ⟨hR,hx,hn,hB1,hg,hby⟩:=HR.out
    obtain ⟨hMw,hMl,hM0,hMt,hMs,hbut⟩:=HA.out;have hW1s:g≤W1.heap.size:=by have:=hB1.size;omega
    obtain ⟨b,boff,hbB,rfl,hbc⟩:=hR (by intro e;subst e;simp at hn;omega)
    have hbk:wr.cell? ⟨b,boff+k,none⟩=some (.int .u32 ((xs.getD k 0:Nat):Int)):=by
     have h1:=hbut.block b (World.block_lt_of_cell? W1 ⟨b,boff+k,none⟩ (hbc k (by omega))) (by omega)
     exact (World.cell?_of_block (a:=⟨b,boff+k,none⟩) h1).trans (hbc k (by omega))
    obtain ⟨y,hy⟩:∃ y:Nat,xs.getD k 0=y:=⟨_,rfl⟩;have hyl:y<4294967296:=hy ▸ hx.get _;rw [hy] at hbk;have hgc:=HM.out.cell (words+k) (by omega)
    have hgf:=HM.out.frozen (words+k);have hgf2:=HM.out.frozen (words+k+1);have hgc2:=HM.out.cell (words+k+1) (by omega)
    obtain ⟨x,hxx⟩:∃ x:Nat,M.getD (words+k) 0=x:=⟨_,rfl⟩;have hxl:x<4294967296:=hxx ▸ hMw.get _;rw [hxx] at hgc;obtain ⟨t,ht⟩:∃ t:Nat,t=y*2^rest:=⟨_,rfl⟩;have htl:t<18446744073709551616:=by rw [ht];exact up_lt y rest hyl hrest
    have e3:IntKind.u64.wrap ((y:Int)*2^rest)=(t:Int):=by
     have ec:(y:Int)*2^rest=(t:Int):=by rw [ht,Int.natCast_mul,Int.natCast_pow];rfl
     rw [ec];exact wrap_u64n _ (by omega) (by omega)
    obtain ⟨s,hs⟩:∃ s:Nat,s=x+t%4294967296:=⟨_,rfl⟩;obtain ⟨d,hd⟩:∃ d:Nat,d=t/4294967296:=⟨_,rfl⟩;have e4':x ||| (t%4294967296)=s:=by rw [hs,ht];exact or_low x y rest hrest (by rw [←hxx];exact hMt)
    have e4:bits BinOp.or IntKind.u32 (x:Int) ((t:Int)%4294967296)=(s:Int):=by
     have:=or32 x (t%4294967296) hxl (by omega)
     rw [e4'] at this;rw [←this];simp
    have e5:(t:Int)/4294967296=(d:Int):=by omega
    have htl':(t:Int)<18446744073709551616:=by omega
    have hsl:s<4294967296:=by rw [←e4'];exact Nat.or_lt_two_pow (n:=32) hxl (by omega)
    have HX:=(qsd (ai hy (ai hn (ai hxx (ai ht (ai hs (ai hd hsl)))))));clear hy hxx hR hx hn hB1 hg hMw hMl hM0 hMt hMs hbut hbc hW1s hby ht hs hd htl e4' hsl;go_wp2
    go_roundg (gk-1)
    case measure=>omega
    case rel =>
     obtain ⟨hy,hn,hxx,ht,hs,hd,hsl⟩:=HX.out;obtain ⟨hMw,hMl,hM0,hMt,hMs,hbut⟩:=HA.out;have hdl:d<2^rest:=by rw [hd,ht];exact up_top y rest hyl
     have h2:=two_pow_lt rest hrest;refine ⟨k+1,(M.set (words+k) s).set (words+k+1) d,by omega,by go_num,(HM.out.set _ _).set _ _,(hMw.set _ _ hsl).set _ _ (by omega),by simp [hMl],?_,?_,?_,(hbut.set _ _).set _ _⟩
     · rw [sg_set_above _ _ _ _ _ (by omega) (by simp;omega),sg_set_above _ _ _ _ _ (by omega) (by omega)];exact hM0
     · rw [show words+(k+1)=words+k+1 by omega,getD_set_same _ _ _ (by simp;omega)];exact hdl
     · have e1:=sg_set_last (M.set (words+k) s) words (k+1) d (by simp;omega)
       rw [show words+(k+1)=words+k+1 by omega] at e1
       rw [e1,sg_set_last _ _ _ _ (by omega),sg_succ xs 0 k (by omega),Nat.zero_add,hy,pw_succ]
       rw [sg_succ _ _ _ (by omega),hxx] at hMs
       exact up_step (pw k) _ x t 0 _ s d y _ hMs ht hs hd
  · obtain rfl:k=n:=by omega
    obtain ⟨hMw,hMl,hM0,hMt,hMs,hbut⟩:=HA.out;have T:=hid (trim_any M (some ⟨g,0,none⟩) (words+k+1) (words+k+1) (g+1) wr hMl.symm (Nat.le_refl _) (by omega) (by simpa [hMl,List.take_of_length_le] using Rd.ofOwn HM.out 0 (words+k+1)))
    clear hMw hMl hM0 hMt hMs hbut
    go_wp2_with fail
    refine T.out.mono ?_;rintro r w1 ⟨rfl,rfl⟩;go_wp2;go_ret;obtain ⟨hR,hx,hn,hB1,hg,hby⟩:=HR.out;obtain ⟨hMw,hMl,hM0,hMt,hMs,hbut⟩:=HA.out;have e3:sg xs 0 k=val xs:=by rw [hn];exact sg_all xs
    have e4:val M=val xs*2^by':=by
     rw [←sg_all M,hMl,show words+k+1=words+(k+1) by omega,sg_add M 0 words (k+1) (by omega),hM0,Nat.zero_add,Nat.zero_add,hMs,e3,hby,pw_two]
     grind
    refine ⟨_,rfl,?_,?_⟩
    · have N:=Nt.ofOwn (lo:=g) HM.out (Nat.le_refl _) hMw (by rw [hMl];unfold maxLen;omega)
      rw [←e4,←hg];rw [hMl] at N;exact N
    · rw [←hg]
      exact But.below hB1 hbut (by have:=hB1.size;omega) (Nat.le_refl _)
theorem or64_join2 (l x:Nat) (hl:l<4294967296) (hx:x<4294967296):bits BinOp.or IntKind.u64 (x:Int) ((l:Int)*4294967296)=((x+l*4294967296:Nat):Int):=by
 have e:((l:Int)*4294967296)=((l*4294967296:Nat):Int):=by simp only [Int.natCast_mul];rfl
 rw [e,bits_or_u64_nat _ _ (by omega) (by omega)]
 have:=Nat.two_pow_add_eq_or_of_lt (i:=32) (b:=x) (by omega) l
 have e2:2^32*l=l*4294967296:=by rw [Nat.mul_comm]
 rw [e2] at this;rw [Nat.or_comm,←this,Nat.add_comm]
theorem down_word (L:List Nat) (i rest:Nat) (hL:Wf L) (hr:rest<32) (hi:i<L.length) :
 (val L/2^rest/pw i)%4294967296=((L.getD i 0+L.getD (i+1) 0*4294967296)/2^rest)%4294967296:=by
 have h1:val L/2^rest/pw i=val (L.drop i)/2^rest:=by
  rw [Nat.div_div_eq_div_mul,Nat.mul_comm,←Nat.div_div_eq_div_mul,val_take_drop L i (by omega)]
  have:=val_lt (L.take i) (hL.take i);rw [List.length_take,Nat.min_eq_left (by omega)] at this
  rw [Nat.add_mul_div_left _ _ (pw_pos i),Nat.div_eq_of_lt this,Nat.zero_add]
 rw [h1,val_drop_succ L i hi]
 obtain ⟨R,hR⟩:∃ R,val (L.drop (i+1))=L.getD (i+1) 0+4294967296*R:=by
  by_cases h:i+1<L.length
  · exact ⟨_,val_drop_succ L (i+1) h⟩
  · refine ⟨0,?_⟩
    rw [List.drop_of_length_le (by omega),List.getD_eq_getElem?_getD,List.getElem?_eq_none (by omega)]
    rfl
 rw [hR]
 have e:L.getD i 0+4294967296*(L.getD (i+1) 0+4294967296*R)=(L.getD i 0+L.getD (i+1) 0*4294967296)+2^rest*(4294967296*(2^(32-rest)*R)):=by
  have:=two_pow_rest rest hr;have:2^rest*(4294967296*(2^(32-rest)*R))=4294967296*(4294967296*R):=by rw [←this];grind
  rw [this];omega
 rw [e,Nat.add_mul_div_left _ _ (Nat.two_pow_pos _),Nat.add_mul_mod_self_left]
theorem low_step (V p:Nat) (hp:0<p):V%p+p*(V/p%4294967296)=V%(4294967296*p):=by
 rw [Nat.mul_comm 4294967296,Nat.mod_mul]
theorem down_any (xs:List Nat) (ao:Option Addr) (n cap B by' words rest:Nat) (w:World) (hn:n=xs.length) (hc:n≤cap) (hby:by'=32*words+rest) (hrest:rest<32) (hbig:n≤70368744177663) (hby2:by'≤9223372036854775807)
 (hx:Wf xs) (hR:Rd B w ao xs) (hB:B≤w.heap.size) :
 Calls Tryz.prog 154 #[.slice ao n cap,.int .i64 (by':Nat)] w fun r w'=>∃ v,r=.returned v∧Nt w.heap.size w' v (val xs/2^by')∧Below w.heap.size w w':=by
 have e1:(by':Int)/32=(words:Int):=by omega
 have e2:(by':Int)%32=(rest:Int):=by omega
 by_cases hw:n≤words
 · have hv:val xs/2^by'=0:=by
    have h1:=val_lt xs hx;rw [←hn] at h1
    have h2:pw n≤2^by':=by
     rw [hby,pw_two];have:=pw_mono hw;have:=Nat.mul_le_mul this (Nat.two_pow_pos rest);omega
    exact Nat.div_eq_of_lt (by omega)
   rw [hv];clear hv hn hx hR hby;go_enter Tryz.func154,Tryz.ntmps154;go_wp2;go_ret;exact ⟨_,rfl,Nt.nil _ _,Below.refl _ _⟩
 · have hwn:words<n:=by omega
   obtain ⟨b,boff,hbB,rfl,hbc⟩:=hR (by intro e;subst e;simp at hn;omega)
   obtain ⟨k0,hk0⟩:∃ k0,k0=n-words:=⟨_,rfl⟩;obtain ⟨W1,hW1⟩:∃ W,W=w.alloc (.cells (madeCells #[.int .u32 0] (n-words)) 89):=⟨_,rfl⟩;have hO1:Own W1 w.heap.size (List.replicate (n-words) 0):=by rw [hW1];exact Own.made w _
   have hB1:Below w.heap.size w W1:=by rw [hW1];exact (Below.refl _ _).alloc (Nat.le_refl _) _
   have hmk:=make_words ((n:Int)-words) (n-words) (by omega) (by omega) w
   rw [←hW1] at hmk;obtain ⟨W2,hcp,hO2,hb2⟩:=copy_words W1 w.heap.size (n-words) (n-words) (some ⟨b,boff+words,none⟩) (n-words) (cap-words) B 3 (List.replicate (n-words) 0) (xs.drop words) hO1 (by simp) (by simp;omega) ((hR.below (hB1.mono hB)).drop words) (by omega)
   have ed:(List.replicate (n-words) 0).drop (n-words)=([]:List Nat):=by simp
   rw [ed,List.append_nil] at hO2;clear ed;have hB2:Below w.heap.size w W2:=But.below hB1 hb2 hB1.size (Nat.le_refl _);obtain ⟨g,hg⟩:∃ g,g=w.heap.size:=⟨_,rfl⟩;rw [←hg] at hO2 hmk hB2 hB hcp;obtain ⟨L,hL⟩:∃ L,L=xs.drop words:=⟨_,rfl⟩;have hLl:L.length=n-words:=by rw [hL];simp;omega
   have hLw:Wf L:=by rw [hL];exact hx.drop words
   rw [←hL] at hO2;have HR:=(qsd (ai hLw (ai hLl (ai hn (ai hB2 (ai hg (ai hby hL)))))));have hxw:=hid hx;have HO:=hid hO2;clear hn hx hR hO1 hB1 hW1 hg hby hO2 hB2 hL hLl hLw hb2 hbc hk0;go_enter Tryz.func154,Tryz.ntmps154;go_wp2
   go_loopg [30] (n-words) (fun gk i wr=>∃ (k:Nat) (M:List Nat),gk+k=n-words∧i=.int .i64 (k:Nat) ∧
    Hid (Own wr g M)∧Aside (Wf M∧M.length=n-words∧(∀ j,k≤j→M.getD j 0=L.getD j 0)∧sg M 0 k=val L/2^rest%pw k∧But g W2 wr))
   case atStart=>exact ⟨0,_,by omega,rfl,HO,HR.out.1,HR.out.2.1,fun _ _=>rfl,by rw [sg_zero,pw_zero,Nat.mod_one],But.refl _ _⟩
   case round =>
    obtain ⟨k,M,hgk,rfl,HM,HA⟩:=hrel
    by_cases hk:k<n-words
    · obtain ⟨hLw,hLl,hn,hB2,hg,hby,hL⟩:=HR.out
      obtain ⟨hMw,hMl,hMr,hMs,hbut⟩:=HA.out;have hgc:=HM.out.cell k (by omega)
      have hgf:=HM.out.frozen k;obtain ⟨x,hxx⟩:∃ x:Nat,M.getD k 0=x:=⟨_,rfl⟩;have hxl:x<4294967296:=hxx ▸ hMw.get _;rw [hxx] at hgc
      by_cases hk1:k+1<n-words
      · have hgc1:=HM.out.cell (k+1) (by omega)
        obtain ⟨y,hyy⟩:∃ y:Nat,M.getD (k+1) 0=y:=⟨_,rfl⟩;have hyl:y<4294967296:=hyy ▸ hMw.get _;rw [hyy] at hgc1;obtain ⟨t,ht⟩:∃ t:Nat,t=x+y*4294967296:=⟨_,rfl⟩;have e3:bits BinOp.or IntKind.u64 (x:Int) ((y:Int)*4294967296)=(t:Int):=by rw [or64_join2 y x hyl hxl,ht]
        obtain ⟨s,hs⟩:∃ s:Nat,s=t/2^rest%4294967296:=⟨_,rfl⟩;have e4:(t:Int)/2^rest%4294967296=(s:Int):=by rw [hs];simp
        have hs2:s=(L.getD k 0+L.getD (k+1) 0*4294967296)/2^rest%4294967296:=by
         rw [hs,ht,←hxx,←hyy,hMr k (by omega),hMr (k+1) (by omega)]
        have hsl:s<4294967296:=by omega
        have HX:=(qsd (ai hs2 hsl));clear hxx hyy hLw hLl hn hB2 hg hby hL hMw hMl hMr hMs hbut hs hs2 hsl ht;go_wp2
        go_roundg (gk-1)
        case measure=>omega
        case rel =>
         obtain ⟨hLw,hLl,hn,hB2,hg,hby,hL⟩:=HR.out;obtain ⟨hMw,hMl,hMr,hMs,hbut⟩:=HA.out;obtain ⟨hs,hsl⟩:=HX.out;refine ⟨k+1,M.set k s,by omega,by go_num,HM.out.set _ _,hMw.set _ _ hsl,by simp [hMl],fun j hj=>?_,?_,hbut.set _ _⟩
         · rw [getD_set_ne _ _ _ _ (by omega)];exact hMr j (by omega)
         · have e1:=sg_set_last M 0 k s (by omega)
           rw [Nat.zero_add] at e1;rw [e1,hMs,hs,←down_word L k rest hLw hrest (by omega),pw_succ]
           exact low_step _ _ (pw_pos k)
      · obtain ⟨s,hs⟩:∃ s:Nat,s=x/2^rest:=⟨_,rfl⟩
        have e4:(x:Int)/2^rest=(s:Int):=by rw [hs];simp
        have hsx:s≤x:=by rw [hs];exact Nat.div_le_self _ _
        have hs2:s=(L.getD k 0+L.getD (k+1) 0*4294967296)/2^rest%4294967296:=by
         have:L.getD (k+1) 0=0:=by rw [List.getD_eq_getElem?_getD,List.getElem?_eq_none (by omega)];rfl
         rw [this,Nat.zero_mul,Nat.add_zero,←hMr k (by omega),hxx,←hs]
         omega
        have hsl:s<4294967296:=by omega
        have HX:=(qsd (ai hs2 hsl));have e5:(s:Int)%4294967296=(s:Int):=by omega
        clear hxx hLw hLl hn hB2 hg hby hL hMw hMl hMr hMs hbut hs hs2;go_wp2
        go_roundg (gk-1)
        case measure=>omega
        case rel =>
         obtain ⟨hLw,hLl,hn,hB2,hg,hby,hL⟩:=HR.out;obtain ⟨hMw,hMl,hMr,hMs,hbut⟩:=HA.out;obtain ⟨hs,hsl⟩:=HX.out;refine ⟨k+1,M.set k s,by omega,by go_num,HM.out.set _ _,hMw.set _ _ hsl,by simp [hMl],fun j hj=>?_,?_,hbut.set _ _⟩
         · rw [getD_set_ne _ _ _ _ (by omega)];exact hMr j (by omega)
         · have e1:=sg_set_last M 0 k s (by omega)
           rw [Nat.zero_add] at e1;rw [e1,hMs,hs,←down_word L k rest hLw hrest (by omega),pw_succ]
           exact low_step _ _ (pw_pos k)
    · obtain rfl:k=n-words:=by omega
      obtain ⟨hMw,hMl,hMr,hMs,hbut⟩:=HA.out;have T:=hid (trim_any M (some ⟨g,0,none⟩) (n-words) (n-words) (g+1) wr hMl.symm (Nat.le_refl _) (by omega) (by simpa [hMl,List.take_of_length_le] using Rd.ofOwn HM.out 0 (n-words)))
      clear hMw hMl hMr hMs hbut
      go_wp2_with fail
      refine T.out.mono ?_;rintro r w1 ⟨rfl,rfl⟩;go_wp2;go_ret;obtain ⟨hLw,hLl,hn,hB2,hg,hby,hL⟩:=HR.out;obtain ⟨hMw,hMl,hMr,hMs,hbut⟩:=HA.out
      have e4:val M=val xs/2^by':=by
       have h1:val L<pw (n-words):=by rw [←hLl];exact val_lt L hLw
       have h2:val L/2^rest<pw (n-words):=Nat.lt_of_le_of_lt (Nat.div_le_self _ _) h1;rw [Nat.mod_eq_of_lt h2] at hMs;rw [←sg_all M,hMl,hMs,hby,pw_two,←Nat.div_div_eq_div_mul]
       congr 1
       have h3:=val_take_drop xs words (by omega)
       have h4:val (xs.take words)<pw words:=by
        have:(xs.take words).length=words:=by rw [List.length_take];omega
        have h5:Wf xs:=hxw.out;have:=val_lt _ (h5.take words);rwa [‹(xs.take words).length=words›] at this
       rw [h3,Nat.add_mul_div_left _ _ (pw_pos words),Nat.div_eq_of_lt h4,Nat.zero_add,hL]
      refine ⟨_,rfl,?_,?_⟩
      · have N:=Nt.ofOwn (lo:=g) HM.out (Nat.le_refl _) hMw (by rw [hMl];unfold maxLen;omega)
        rw [←e4,←hg];rw [hMl] at N;exact N
      · rw [←hg]
        exact But.below hB2 hbut (by have:=hB2.size;omega) (Nat.le_refl _)
def Two (lo:Nat) (w:World) (r:Ending) (X Y:Nat):Prop:=∃ v u,r=.returned (.tuple #[v,u])∧Nt lo w v X∧Nt lo w u Y∧Apart v u
theorem div_less (xs ys:List Nat) (ao bo:Option Addr) (n cap m capb B:Nat) (w:World) (hn:n=xs.length) (hm:m=ys.length) (hnm:n<m) (hc:n≤cap) (hbig:n≤35184372088833)
 (hx:Wf xs) (hy:Wf ys) (htop:ys.getD (m-1) 0≠0) (hR:Rd B w ao xs) (hB:B≤w.heap.size) :
 Calls Tryz.prog 157 #[.slice ao n cap,.slice bo m capb] w fun r w'=>Two w.heap.size w' r (val xs/val ys) (val xs%val ys)∧Below w.heap.size w w':=by
 have hlt:val xs<val ys:=by
  have h1:=val_lt xs hx
  have h2:pw (m-1)≤val ys:=by
   have e:=sg_succ ys 0 (m-1) (by omega)
   rw [Nat.zero_add,show m-1+1=ys.length by omega,sg_all] at e
   have:=Nat.mul_le_mul_left (pw (m-1)) (show 1≤ys.getD (m-1) 0 by omega)
   omega
  have h3:=pw_mono (show xs.length≤m-1 by omega)
  omega
 have N:=hid (norm_any xs ao n cap B w hn hc (by omega) hx hR hB)
 have HL:=(qsd hlt);have hlen:Hid ((ws (val xs)).length≤n):=by rw [←nl_eq_length xs hx,hn];exact nl_le xs
 clear hn hm hx hy htop hR hlt;go_enter Tryz.func157,Tryz.ntmps157
 go_wp2_with fail
 refine N.out.mono ?_;rintro r w1 ⟨rfl,hO,hb⟩;have HO:=(qsd (ai hO hb));clear hO hb N;go_wp2
 go_ret2
 obtain ⟨hO,hb⟩:=HO.out;rw [Nat.div_eq_of_lt HL.out,Nat.mod_eq_of_lt HL.out];refine ⟨⟨_,_,rfl,Nt.nil _ _,?_,apart_nil _⟩,hb⟩
 have T:=Nt.ofOwn (lo:=w.heap.size) hO (Nat.le_refl _) (wf_ws _) (by
  have:(ws (val xs)).length≤35184372088833:=by
   have h:=hlen.out;omega
  unfold maxLen;omega)
 rw [val_ws,nl_ws] at T;exact T
theorem div_one (xs ys:List Nat) (ao bo:Option Addr) (n cap capb B:Nat) (w:World) (hn:n=xs.length) (hm:1=ys.length) (hnm:1≤n) (hc:n≤cap) (hcb:1≤capb) (hbig:n≤35184372088833)
 (hx:Wf xs) (hy:Wf ys) (htop:ys.getD 0 0≠0) (hR:Rd B w ao xs) (hS:Rd B w bo ys) (hB:B≤w.heap.size) :
 Calls Tryz.prog 157 #[.slice ao n cap,.slice bo 1 capb] w fun r w'=>Two w.heap.size w' r (val xs/val ys) (val xs%val ys)∧Below w.heap.size w w':=by
 have N:=hid (norm_any xs ao n cap B w hn hc (by omega) hx hR hB)
 have hlen:(ws (val xs)).length≤n:=by rw [←nl_eq_length xs hx,hn];exact nl_le xs
 obtain ⟨b,boff,hbB,rfl,hbc⟩:=hS (by intro e;subst e;simp at hm)
 have hb0:=hbc 0 (by omega)
 rw [Nat.add_zero] at hb0
 have hv:val ys=ys.getD 0 0:=by
  rw [←sg_all ys,←hm,show (1:Nat)=0+1 from rfl,sg_succ ys 0 0 (by omega),sg_zero,pw_zero];simp
 have hyl:=hy.get 0;obtain ⟨y,hyy⟩:∃ y,ys.getD 0 0=y:=⟨_,rfl⟩;rw [hyy] at hb0 hv hyl htop;rw [hv];obtain ⟨k,hk⟩:∃ k,(ws (val xs)).length=k:=⟨_,rfl⟩;rw [hk] at N hlen;obtain ⟨X,hX⟩:∃ X,val xs=X:=⟨_,rfl⟩;rw [hX] at N hk ⊢;have HH:=(qsd (ai hk hX));clear hn hm hx hy hR hS hbc hv hyy hk hX;go_enter Tryz.func157,Tryz.ntmps157
 go_wp2_with fail
 refine N.out.mono ?_;rintro r w1 ⟨rfl,hO,hb⟩;have hb1:w1.cell? ⟨b,boff,none⟩=some (.int .u32 (y:Int)):=(hb.cell (p:=⟨b,boff,none⟩) (by exact Nat.lt_of_lt_of_le hbB hB)).trans hb0
 have C:=hid (cut_any (ws X) w.heap.size 0 k k y w1 hO (by rw [HH.out.1];omega) (Nat.le_refl _) (by omega) (wf_ws X) hyl (by omega))
 have H1:=(qsd hb);clear hO hb N hb0
 go_wp2_with fail
 refine C.out.mono ?_;rintro r w2 ⟨M,c,rfl,hcy,hO2,hM,hout,hsum,hbut⟩;have hl:M.length=k:=by rw [hout.1];exact HH.out.1
 have T:=hid (trim_any M (some ⟨w.heap.size,0,none⟩) k k (w.heap.size+1) w2 hl.symm (Nat.le_refl _) (by omega) (by simpa [hl,List.take_of_length_le] using Rd.ofOwn hO2 0 k))
 have H2:=(qsd (ai hO2 (ai hM (ai hout (ai hsum (ai hbut hl))))));clear hO2 hM hout hsum hbut hl C hb1
 go_wp2_with fail
 refine T.out.mono ?_;rintro r w3 ⟨rfl,rfl⟩;have F:=hid (of_any c w3 (by omega))
 clear T
 go_wp2_with fail
 refine F.out.mono ?_;rintro r w4 ⟨vr,rfl,hN4,hb4⟩;have H4:=(qsd (ai hN4 hb4));clear hN4 hb4 F;go_wp2
 go_ret2
 obtain ⟨hO2,hM,hout,hsum,hbut,hl⟩:=H2.out;obtain ⟨hN4,hb4⟩:=H4.out;have hb:=H1.out
 have hs2:X=val M*y+c:=by
  have e1:sg (ws X) 0 k=X:=by rw [←HH.out.1,sg_all,val_ws]
  have e2:sg M 0 k=val M:=by rw [←hl,sg_all]
  rw [e1,e2] at hsum;exact hsum
 have hq:X/y=val M:=by rw [hs2,Nat.add_comm,Nat.add_mul_div_right _ _ (by omega),Nat.div_eq_of_lt hcy,Nat.zero_add]
 have hr:X%y=c:=by rw [hs2,Nat.add_comm,Nat.add_mul_mod_self_right,Nat.mod_eq_of_lt hcy]
 rw [hq,hr];have hsz:w.heap.size≤w3.heap.size:=Nat.le_trans hb.size hbut.size;have Q:=Nt.ofOwn (lo:=w.heap.size) hO2 (Nat.le_refl _) hM (by rw [hl];unfold maxLen;omega)
 rw [hl] at Q;refine ⟨⟨_,_,rfl,Q.below hb4,hN4.mono hsz,apart_of (hi:=0) Q hN4 (Nat.le_refl _)⟩,?_⟩;exact (But.below hb hbut hb.size (Nat.le_refl _)).trans (hb4.mono hsz)
theorem div_start (X Y n m z:Nat) (hX:X<pw n) (hY:pw (m-1)*2^(31-z)≤Y) (hz:z<32) (hm:0<m) (hnm:m≤n):X*2^z<pw (n-m+1)*(Y*2^z):=by
 have h1:pw n=pw (n-m+1)*pw (m-1):=by rw [←pw_add];congr 1;omega
 have h2:pw n≤pw (n-m+1)*Y:=by
  have h3:pw (m-1)*1≤pw (m-1)*2^(31-z):=Nat.mul_le_mul_left _ (Nat.two_pow_pos _);rw [h1];exact Nat.mul_le_mul_left _ (by omega)
 have h3:X*2^z<pw (n-m+1)*Y*2^z:=Nat.mul_lt_mul_of_pos_right (by omega) (Nat.two_pow_pos z)
 rw [Nat.mul_assoc] at h3;exact h3
theorem lead_facts (ys:List Nat) (m:Nat) (hm:m=ys.length) (hy:Wf ys) (hm0:0<m) (htop:ys.getD (m-1) 0≠0) :
 ∃ z,z=32-bl (ys.getD (m-1) 0)∧z<32∧val ys≠0∧pw (m-1)*2^(31-z)≤val ys∧val ys<pw (m-1)*2^(32-z):=by
 have hl:=hy.get (m-1);have h1:=bl_le32 _ hl;have h2:=bl_pos _ htop;have h3:=bl_ge _ htop;have h4:=bl_lt (ys.getD (m-1) 0);have e:=sg_succ ys 0 (m-1) (by omega)
 rw [Nat.zero_add,show m-1+1=ys.length by omega,sg_all] at e
 have h5:=sg_lt ys 0 (m-1) hy (by omega)
 generalize ys.getD (m-1) 0=t at *;have hp:=pw_pos (m-1);have h6:pw (m-1)*2^(bl t-1)≤pw (m-1)*t:=Nat.mul_le_mul_left _ h3;have h7:pw (m-1)*(t+1)≤pw (m-1)*2^bl t:=Nat.mul_le_mul_left _ h4;rw [Nat.mul_add,Nat.mul_one] at h7;have h8:pw (m-1)*1≤pw (m-1)*t:=Nat.mul_le_mul_left _ (by omega)
 refine ⟨32-bl t,rfl,by omega,by omega,?_,?_⟩
 · rw [show 31-(32-bl t)=bl t-1 by omega];omega
 · rw [show 32-(32-bl t)=bl t by omega];omega
theorem div_long (xs ys:List Nat) (ao bo:Option Addr) (n cap m capb B:Nat) (w:World) (hn:n=xs.length) (hm:m=ys.length) (hm2:2≤m) (hnm:m≤n) (hc:n≤cap) (hcb:m≤capb) (hbig:n≤35184372088833)
 (hx:Wf xs) (hy:Wf ys) (htop:ys.getD (m-1) 0≠0) (hR:Rd B w ao xs) (hS:Rd B w bo ys) (hB:B≤w.heap.size) :
 Calls Tryz.prog 157 #[.slice ao n cap,.slice bo m capb] w fun r w'=>Two w.heap.size w' r (val xs/val ys) (val xs%val ys)∧Below w.heap.size w w':=by
 obtain ⟨z,hz,hz32,hY0,hY1,hY2⟩:=lead_facts ys m hm hy (by omega) htop
 obtain ⟨hVl,hVlt,hVt⟩:=up_form (val ys) m z hY0 hY1 hY2 hz32 (by omega)
 obtain ⟨b,boff,hbB,rfl,hbc⟩:=hS (by intro e;subst e;simp at hm;omega)
 have hbt:=hbc (m-1) (by omega)
 have htl:=hy.get (m-1);have L0:=lead32_any (ys.getD (m-1) 0) w htl;rw [←hz] at L0;have U1:=hid (up_any ys (some ⟨b,boff,none⟩) m capb B z 0 z w hm hcb (by omega) hz32 (by omega) hy hS hB)
 obtain ⟨t,ht⟩:∃ t,ys.getD (m-1) 0=t:=⟨_,rfl⟩;rw [ht] at hbt L0 htl;have L1:=hid L0;obtain ⟨V,hV⟩:∃ V,val ys*2^z=V:=⟨_,rfl⟩;rw [hV] at hVl hVlt hVt U1
 have hX2:val xs*2^z<pw (n+1):=by
  have h1:=val_lt xs hx;rw [←hn] at h1;have h2:=two_pow_lt z hz32;have h3:val xs*2^z≤pw n*2147483648:=Nat.mul_le_mul (by omega) h2
  have h4:pw n*2147483648<pw (n+1):=by rw [pw_succ,Nat.mul_comm];exact Nat.mul_lt_mul_of_pos_right (by decide) (pw_pos n)
  omega
 have hXl:=(ws_len_le _ _).2 hX2;have hst:=div_start (val xs) (val ys) n m z (by rw [hn];exact val_lt xs hx) hY1 hz32 (by omega) hnm
 rw [hV] at hst;have HST:=(qsd hst);have HH:=(qsd (ai hn (ai hm (ai hx (ai hy (ai hR (ai hS (ai hVl (ai hVlt (ai hVt (ai hV (ai hY0 hXl))))))))))));clear hst;clear L0 hn hm hx hy htop hR hS hz hY0 hY1 hY2 hVl hVlt hVt hV hX2 hXl hbc ht;have hm1:(1:Int)≤(m:Int):=by omega
 have hmne:((m:Int)==1)=false:=by simp;omega
 go_enter Tryz.func157,Tryz.ntmps157
 go_wp2_with fail
 refine L1.out.mono ?_;rintro r w0 ⟨rfl,rfl⟩
 go_wp2_with fail
 refine U1.out.mono ?_;rintro r w1 ⟨vv,rfl,hN1,hb1⟩;obtain ⟨hn,hm,hx,hy,hR,hS,hVl,hVlt,hVt,hV,hY0,hXl⟩:=HH.out;obtain ⟨av,cv,rfl,hcv,hcm,hRv⟩:=hN1.shape;rw [hVl] at *;obtain ⟨gu,hgu⟩:∃ gu,gu=w1.heap.size:=⟨_,rfl⟩;obtain ⟨W2,hW2⟩:∃ W,W=w1.alloc (.cells (madeCells #[.int .u32 0] (n+1)) 89):=⟨_,rfl⟩;have hO2:Own W2 gu (List.replicate (n+1) 0):=by rw [hW2,hgu];exact Own.made w1 _
 have hB2:Below gu w1 W2:=by rw [hW2,hgu];exact (Below.refl _ _).alloc (Nat.le_refl _) _
 have hmk:=make_words ((n:Int)+1) (n+1) (by omega) (by omega) w1
 rw [←hW2,←hgu] at hmk;have hs1:=hb1.size;have hs2:=hB2.size;have hg2:=hO2.lt;have U2:=hid (up_any xs ao n cap B z 0 z W2 hn hc (by omega) hz32 (by omega) hx ((hR.below (hb1.mono hB)).below (hB2.mono (by omega))) (by omega))
 have H1:=(qsd (ai hN1 (ai hb1 (ai hRv (ai hO2 (ai hB2 (ai hgu hg2)))))));clear hn hm hx hy hR hS hVl hVlt hVt hV hY0 hXl hN1 hb1 hRv hO2 hB2 hW2 hs1 hs2 L1 U1 hbt hg2 hgu
 go_wp2_with fail
 refine U2.out.mono ?_;rintro r W3 ⟨va,rfl,hN3,hb3⟩;obtain ⟨aa,ca,rfl,hca,hcam,hRa⟩:=hN3.shape;obtain ⟨hn,hm,hx,hy,hR,hS,hVl,hVlt,hVt,hV,hY0,hXl⟩:=HH.out;obtain ⟨hN1,hb1,hRv,hO2,hB2,hgu',hg2⟩:=H1.out;obtain ⟨W4,hcp,hO4,hb4⟩:=copy_words W3 gu (n+1) (n+1) aa (ws (val xs*2^z)).length ca W3.heap.size 3 (List.replicate (n+1) 0) (ws (val xs*2^z)) (hO2.below hb3 hg2) (by simp) rfl hRa hXl
 obtain ⟨gq,hgq⟩:∃ g,g=W4.heap.size:=⟨_,rfl⟩;obtain ⟨W5,hW5⟩:∃ W,W=W4.alloc (.cells (madeCells #[.int .u32 0] (n-m+1)) 89):=⟨_,rfl⟩;have hO5:Own W5 gq (List.replicate (n-m+1) 0):=by rw [hW5,hgq];exact Own.made W4 _
 have hmk5:=make_words ((n:Int)-m+1) (n-m+1) (by omega) (by omega) W4
 rw [←hW5,←hgq] at hmk5;obtain ⟨L,hL⟩:∃ L,L=ws (val xs*2^z)++(List.replicate (n+1) 0).drop (ws (val xs*2^z)).length:=⟨_,rfl⟩;rw [←hL] at hO4;have hLl:L.length=n+1:=by rw [hL,List.length_append,List.length_drop,List.length_replicate];omega
 have hLw:Wf L:=by rw [hL,List.drop_replicate];exact (wf_ws _).append (Wf.zeros _)
 have hLv:val L=val xs*2^z:=by rw [hL,val_append,val_ws,List.drop_replicate,val_zeros];simp
 have hs3:=hb3.size;have hs4:=hb4.size;have hguq:gu<gq:=by rw [hgq];have:=hO4.lt;omega
 have hbW5:Below gu w1 W5:=by
  rw [hW5];have a1:Below gu w1 W3:=hB2.trans (hb3.mono (by omega))
  have a2:Below gu w1 W4:=But.below a1 hb4 (by omega) (Nat.le_refl _)
  exact a2.alloc (by omega) _
 have hOu5:Own W5 gu L:=by rw [hW5];exact hO4.alloc _
 have H2:=(qsd (ai hO5 (ai hOu5 (ai hLl (ai hLw (ai hLv (ai hguq hbW5)))))));have hgq1:gu<gq:=hguq;clear hn hm hx hy hR hS hVl hVlt hVt hV hY0 hXl hN1 hb1 hRv hO2 hB2 hgu' hg2 hN3 hb3 hRa hO4 hb4 hgq hW5 hO5 hL hLl hLw hLv hs3 hs4 hbW5 hOu5 U2 hguq hca hcam;have hca2:m≤cv:=by omega
 have e5:((n-m:Nat):Int)=(n:Int)-m:=by omega
 go_wp2
 go_loopg [10] (n-m+1) (fun k i wr=>∃ (M Q:List Nat),k≤n-m+1∧i=.int .i64 ((k:Int)-1)∧Hid (Own wr gu M)∧Hid (Own wr gq Q) ∧
  Aside (Wf M∧Wf Q∧M.length=n+1∧Q.length=n-m+1∧val L=pw k*sg Q k (n-m+1-k)*V+val M∧val M<pw k*V∧Below gu w1 wr))
 case atStart =>
  obtain ⟨hO5,hOu5,hLl,hLw,hLv,hguq,hbW5⟩:=H2.out;refine ⟨L,List.replicate (n-m+1) 0,Nat.le_refl _,?_,hOu5,hO5,hLw,Wf.zeros _,hLl,by simp,?_,?_,hbW5⟩
  · first | rfl | (congr 1;omega)
  · rw [Nat.sub_self,sg_zero];simp
  · rw [hLv];exact HST.out
 case round =>
  obtain ⟨M,Q,hk,rfl,HM,HQ,HA⟩:=hrel
  by_cases hk0:gk=0
  · subst hk0
    obtain ⟨hMw,hQw,hMl,hQl,hinv,hMlt,hbel⟩:=HA.out;have T1:=hid (trim_any Q (some ⟨gq,0,none⟩) (n-m+1) (n-m+1) (gq+1) wr hQl.symm (Nat.le_refl _) (by omega) (by simpa [hQl,List.take_of_length_le] using Rd.ofOwn HQ.out 0 (n-m+1)))
    have T2:=hid (trim_any M (some ⟨gu,0,none⟩) (n+1) (n+1) (gu+1) wr hMl.symm (Nat.le_refl _) (by omega) (by simpa [hMl,List.take_of_length_le] using Rd.ofOwn HM.out 0 (n+1)))
    have hnlM:=nl_le M
    have hRM:Rd (gu+1) wr (some ⟨gu,0,none⟩) (M.take (nl M)):=by
     have:=Rd.ofOwn HM.out 0 (nl M);simpa using this
    have D:=hid (down_any (M.take (nl M)) (some ⟨gu,0,none⟩) (nl M) (n+1) (gu+1) z 0 z wr (by rw [List.length_take,Nat.min_eq_left hnlM]) (by omega) (by omega) hz32 (by omega) (by omega) (hMw.take _) hRM (by have:=HM.out.lt;omega))
    rw [val_form M hMw] at D;clear hMw hQw hMl hQl hinv hMlt hbel hnlM hRM
    go_wp2_with fail
    refine T1.out.mono ?_;rintro r wt1 ⟨rfl,rfl⟩
    go_wp2_with fail
    refine T2.out.mono ?_;rintro r wt2 ⟨rfl,rfl⟩
    go_wp2_with fail
    refine D.out.mono ?_;rintro r wd ⟨vr,rfl,hNr,hbr⟩;have HD:=(qsd (ai hNr hbr));clear hNr hbr T1 T2 D;go_wp2
    go_ret2
    obtain ⟨hNr,hbr⟩:=HD.out;obtain ⟨hn,hm,hx,hy,hR,hS,hVl,hVlt,hVt,hV,hY0,hXl⟩:=HH.out;obtain ⟨hN1,hb1,hRv,hO2,hB2,hgu',hg2⟩:=H1.out;obtain ⟨hO5,hOu5,hLl,hLw,hLv,hguq,hbW5⟩:=H2.out;obtain ⟨hMw,hQw,hMl,hQl,hinv,hMlt,hbel⟩:=HA.out;rw [pw_zero,Nat.one_mul] at hMlt hinv;rw [Nat.sub_zero,←hQl,sg_all,hLv,←hV] at hinv;rw [←hV] at hMlt;obtain ⟨hq,hr⟩:=div_end (val xs) (val ys) (2^z) (val Q) (val M) (Nat.two_pow_pos z) hinv hMlt;rw [←hq,←hr];have hsz:w0.heap.size≤gu:=by rw [hgu'];exact hb1.size
    have NQ:=Nt.ofOwn (lo:=w0.heap.size) HQ.out (by omega) hQw (by rw [hQl];unfold maxLen;omega)
    rw [hQl] at NQ;have hwr:gu≤wt2.heap.size:=by have:=HM.out.lt;omega
    refine ⟨⟨_,_,rfl,NQ.below hbr,hNr.mono (by omega),apart_of (hi:=0) NQ hNr (Nat.le_refl _)⟩,?_⟩
    exact ((hb1.trans (hbel.mono hsz))).trans (hbr.mono (by omega))
  · obtain ⟨i,rfl⟩:∃ i,gk=i+1:=⟨gk-1,by omega⟩
    obtain ⟨hn,hm,hx,hy,hR,hS,hVl,hVlt,hVt,hV,hY0,hXl⟩:=HH.out;obtain ⟨hN1,hb1,hRv,hO2,hB2,hgu',hg2⟩:=H1.out;obtain ⟨hMw,hQw,hMl,hQl,hinv,hMlt,hbel⟩:=HA.out;obtain ⟨k,hk2⟩:∃ k,m=k+2:=⟨m-2,by omega⟩
    obtain ⟨hz0,hhead⟩:=div_head M i m V hMw (by omega) hVlt hMlt
    have T:=hid (takeOut_any M (ws V) gu i (n+1-i) av m cv gu wr k hk2 HM.out (by omega) (by omega) (by omega) (by omega) hMw (wf_ws V) ((hgu' ▸ hRv).below hbel) (Nat.le_refl _)
     (by rw [show k+1=m-1 by omega];exact hVt) (by rw [show k+3=m+1 by omega,val_ws];exact hhead))
    have hik:(i:Int)<(n:Int)-m+1:=by omega
    have HI:=(qsd (ai hz0 hk2));clear hn hm hx hy hR hS hVl hVlt hVt hV hY0 hXl hN1 hb1 hRv hO2 hB2 hgu' hg2 hMw hQw hMl hQl hinv hMlt hbel hz0 hhead hk2 hk0
    go_wp2_with fail
    rw [show i+m+1-i=m+1 by omega]
    refine T.out.mono ?_;rintro r w2 ⟨o,M2,rfl,ho,hOM2,hM2w,hout,hsum,hlt2,hbut⟩;have hQ2:=HQ.out.but hbut (by omega)
    have hqc:=hQ2.cell i (by rw [HA.out.2.2.2.1];omega)
    have hqf:=hQ2.frozen i;have HJ:=(qsd (ai ho (ai hOM2 (ai hM2w (ai hout (ai hsum (ai hlt2 (ai hbut hQ2))))))));clear ho hOM2 hM2w hout hsum hlt2 hbut hQ2 T;go_wp2
    go_roundg i
    case measure=>omega
    case rel =>
     obtain ⟨ho,hOM2,hM2w,hout,hsum,hlt2,hbut,hQ2⟩:=HJ.out;obtain ⟨hMw,hQw,hMl,hQl,hinv,hMlt,hbel⟩:=HA.out;obtain ⟨hz0,hk2⟩:=HI.out;rw [val_ws] at hsum hlt2;have hQr:i+1+(n-m+1-(i+1))=Q.length:=by omega
     obtain ⟨hX,hlt3⟩:=div_step M M2 Q i m (n-m+1-(i+1)) V o (val L) hMw (by omega) hout hinv hz0 hQr hsum hlt2
     refine ⟨M2,Q.set i o,by omega,by first | go_num | (congr 1;omega),hOM2.setOther (by simp;omega) _,hQ2.set i o,hM2w,hQw.set _ _ ho,by rw [hout.1,hMl],by simp [hQl],?_,hlt3,(But.below hbel hbut (by have:=HM.out.lt;omega) (Nat.le_refl _)).setCell (by simp;omega) _⟩
     rw [show n-m+1-i=n-m+1-(i+1)+1 by omega]
     exact hX
theorem val_snoc0 (xs:List Nat):sg (xs++[0]) 0 xs.length=val xs:=by simp [sg]
theorem wf_snoc0 {xs:List Nat}(h:Wf xs):Wf (xs++[0]):=h.append (by intro x hx;simp at hx;omega)
theorem zeros_last (n:Nat):(List.replicate (n+1) 0).drop n=[0]:=by rw [List.drop_replicate,Nat.add_sub_cancel_left];rfl
theorem add_ge (xs ys:List Nat) (ao bo:Option Addr) (n cap m capb B:Nat) (w:World) (hn:n=xs.length) (hm:m=ys.length) (hnm:m≤n) (hc:n≤cap) (hcb:m≤capb) (hbig:n≤35184372088833)
 (hx:Wf xs) (hy:Wf ys) (hR:Rd B w ao xs) (hS:Rd B w bo ys) (hB:B≤w.heap.size) :
 Calls Tryz.prog 156 #[.slice ao n cap,.slice bo m capb] w fun r w'=>∃ v,r=.returned v∧Nt w.heap.size w' v (val xs+val ys)∧Below w.heap.size w w':=by
 obtain ⟨W1,hW1⟩:∃ W,W=w.alloc (.cells (madeCells #[.int .u32 0] (n+1)) 89):=⟨_,rfl⟩;have hO1:Own W1 w.heap.size (List.replicate (n+1) 0):=by rw [hW1];exact Own.made w (n+1)
 have hB1:Below w.heap.size w W1:=by rw [hW1];exact (Below.refl _ _).alloc (Nat.le_refl _) _
 obtain ⟨W2,hcp,hO2,hb2⟩:=copy_words W1 w.heap.size (n+1) (n+1) ao n cap B 3 (List.replicate (n+1) 0) xs hO1 (by simp) hn (hR.below (hB1.mono hB)) (by omega)
 rw [zeros_last] at hO2;have hB2:Below w.heap.size w W2:=But.below hB1 hb2 hB1.size (Nat.le_refl _);have H:=hid (addTo_any (xs++[0]) ys w.heap.size 0 n (n+1) bo m capb B W2 hO2 (by simp;omega) hm (by omega) (by omega) (by omega) (wf_snoc0 hx) hy (hS.below (hB2.mono hB)) hB)
 have hmk:=make_words ((n:Int)+1) (n+1) (by omega) (by omega) w
 rw [←hW1] at hmk;have HH:=(qsd (ai hn (ai hm (ai hx (ai hB2 hB)))));clear hn hm hx hy hR hS hO1 hB1 hO2 hb2 hB2 hB hW1;go_enter Tryz.func156,Tryz.ntmps156
 go_wp2_with fail
 refine H.out.mono ?_;rintro r W3 ⟨M,c,rfl,hc1,hO3,hM,hout,hsum,hbut⟩;obtain ⟨hn,hm,hx,hB2,hB⟩:=HH.out;have hl:M.length=n+1:=by rw [hout.1];simp;omega
 have hcl:=hO3.cell n (by omega)
 have hfr:=hO3.frozen n;have hO4:=hO3.set n c;have T:=hid (trim_any (M.set n c) (some ⟨w.heap.size,0,none⟩) (n+1) (n+1) (w.heap.size+1) _ (by simp [hl]) (Nat.le_refl _) (by omega) (by simpa [hl,List.take_of_length_le] using Rd.ofOwn hO4 0 (n+1)))
 have HI:=(qsd (ai hc1 (ai hO4 (ai hM (ai hsum (ai hbut hl))))));clear hn hm hx hB2 hB hc1 hO3 hM hout hsum hbut hO4 H hl
 go_wp2_with fail
 refine T.out.mono ?_;rintro r w1 ⟨rfl,rfl⟩;go_wp2;go_ret;obtain ⟨hn,hm,hx,hB2,hB⟩:=HH.out;obtain ⟨hc1,hO4,hM,hsum,hbut,hl⟩:=HI.out
 have hv:val (M.set n c)=val xs+val ys:=by
  have e:val (M.set n c)=sg (M.set n c) 0 (n+1):=by rw [←sg_all];simp [hl]
  have e2:=sg_set_last M 0 n c (by omega)
  rw [Nat.zero_add] at e2;rw [e,e2];rw [hn,val_snoc0,←hn] at hsum;rw [Nat.mul_comm c] at hsum;exact hsum
 refine ⟨_,rfl,?_,But.below hB2 (hbut.set n _) hB2.size (Nat.le_refl _)⟩;have N:=Nt.ofOwn (lo:=w.heap.size) hO4 (Nat.le_refl _) (hM.set _ _ (by omega)) (by simp [hl];unfold maxLen;omega)
 rw [hv] at N;simpa [hl] using N
theorem add_lt (xs ys:List Nat) (ao bo:Option Addr) (n cap m capb B:Nat) (w:World) (hn:n=xs.length) (hm:m=ys.length) (hnm:m<n) (hc:n≤cap) (hcb:m≤capb) (hbig:n≤35184372088833)
 (hx:Wf xs) (hy:Wf ys) (hR:Rd B w ao xs) (hS:Rd B w bo ys) (hB:B≤w.heap.size) :
 Calls Tryz.prog 156 #[.slice bo m capb,.slice ao n cap] w fun r w'=>∃ v,r=.returned v∧Nt w.heap.size w' v (val xs+val ys)∧Below w.heap.size w w':=by
 obtain ⟨W1,hW1⟩:∃ W,W=w.alloc (.cells (madeCells #[.int .u32 0] (n+1)) 89):=⟨_,rfl⟩;have hO1:Own W1 w.heap.size (List.replicate (n+1) 0):=by rw [hW1];exact Own.made w (n+1)
 have hB1:Below w.heap.size w W1:=by rw [hW1];exact (Below.refl _ _).alloc (Nat.le_refl _) _
 obtain ⟨W2,hcp,hO2,hb2⟩:=copy_words W1 w.heap.size (n+1) (n+1) ao n cap B 3 (List.replicate (n+1) 0) xs hO1 (by simp) hn (hR.below (hB1.mono hB)) (by omega)
 rw [zeros_last] at hO2;have hB2:Below w.heap.size w W2:=But.below hB1 hb2 hB1.size (Nat.le_refl _);have H:=hid (addTo_any (xs++[0]) ys w.heap.size 0 n (n+1) bo m capb B W2 hO2 (by simp;omega) hm (by omega) (by omega) (by omega) (wf_snoc0 hx) hy (hS.below (hB2.mono hB)) hB)
 have hmk:=make_words ((n:Int)+1) (n+1) (by omega) (by omega) w
 rw [←hW1] at hmk;have HH:=(qsd (ai hn (ai hm (ai hx (ai hB2 hB)))));clear hn hm hx hy hR hS hO1 hB1 hO2 hb2 hB2 hB hW1;go_enter Tryz.func156,Tryz.ntmps156
 go_wp2_with fail
 refine H.out.mono ?_;rintro r W3 ⟨M,c,rfl,hc1,hO3,hM,hout,hsum,hbut⟩;obtain ⟨hn,hm,hx,hB2,hB⟩:=HH.out;have hl:M.length=n+1:=by rw [hout.1];simp;omega
 have hcl:=hO3.cell n (by omega)
 have hfr:=hO3.frozen n;have hO4:=hO3.set n c;have T:=hid (trim_any (M.set n c) (some ⟨w.heap.size,0,none⟩) (n+1) (n+1) (w.heap.size+1) _ (by simp [hl]) (Nat.le_refl _) (by omega) (by simpa [hl,List.take_of_length_le] using Rd.ofOwn hO4 0 (n+1)))
 have HI:=(qsd (ai hc1 (ai hO4 (ai hM (ai hsum (ai hbut hl))))));clear hn hm hx hB2 hB hc1 hO3 hM hout hsum hbut hO4 H hl
 go_wp2_with fail
 refine T.out.mono ?_;rintro r w1 ⟨rfl,rfl⟩;go_wp2;go_ret;obtain ⟨hn,hm,hx,hB2,hB⟩:=HH.out;obtain ⟨hc1,hO4,hM,hsum,hbut,hl⟩:=HI.out
 have hv:val (M.set n c)=val xs+val ys:=by
  have e:val (M.set n c)=sg (M.set n c) 0 (n+1):=by rw [←sg_all];simp [hl]
  have e2:=sg_set_last M 0 n c (by omega)
  rw [Nat.zero_add] at e2;rw [e,e2];rw [hn,val_snoc0,←hn] at hsum;rw [Nat.mul_comm c] at hsum;exact hsum
 refine ⟨_,rfl,?_,But.below hB2 (hbut.set n _) hB2.size (Nat.le_refl _)⟩;have N:=Nt.ofOwn (lo:=w.heap.size) hO4 (Nat.le_refl _) (hM.set _ _ (by omega)) (by simp [hl];unfold maxLen;omega)
 rw [hv] at N;simpa [hl] using N
theorem add_any (xs ys:List Nat) (ao bo:Option Addr) (n cap m capb B:Nat) (w:World) (hn:n=xs.length) (hm:m=ys.length) (hc:n≤cap) (hcb:m≤capb) (hbig:n≤35184372088833) (hbig2:m≤35184372088833)
 (hx:Wf xs) (hy:Wf ys) (hR:Rd B w ao xs) (hS:Rd B w bo ys) (hB:B≤w.heap.size) :
 Calls Tryz.prog 156 #[.slice ao n cap,.slice bo m capb] w fun r w'=>∃ v,r=.returned v∧Nt w.heap.size w' v (val xs+val ys)∧Below w.heap.size w w':=by
 by_cases h:m≤n
 · exact add_ge xs ys ao bo n cap m capb B w hn hm h hc hcb hbig hx hy hR hS hB
 · have:=add_lt ys xs bo ao m capb n cap B w hm hn (by omega) hcb hc hbig2 hy hx hS hR hB
   rw [Nat.add_comm] at this;exact this
theorem div_any (xs ys:List Nat) (ao bo:Option Addr) (n cap m capb B:Nat) (w:World) (hn:n=xs.length) (hm:m=ys.length) (hm0:0<m) (hc:n≤cap) (hcb:m≤capb) (hbig:n≤35184372088833)
 (hx:Wf xs) (hy:Wf ys) (htop:ys.getD (m-1) 0≠0) (hR:Rd B w ao xs) (hS:Rd B w bo ys) (hB:B≤w.heap.size) :
 Calls Tryz.prog 157 #[.slice ao n cap,.slice bo m capb] w fun r w'=>Two w.heap.size w' r (val xs/val ys) (val xs%val ys)∧Below w.heap.size w w':=by
 by_cases h1:n<m
 · exact div_less xs ys ao bo n cap m capb B w hn hm h1 hc hbig hx hy htop hR hB
 · by_cases h2:m=1
   · subst h2
     exact div_one xs ys ao bo n cap capb B w hn hm (by omega) hc hcb hbig hx hy htop hR hS hB
   · exact div_long xs ys ao bo n cap m capb B w hn hm (by omega) (by omega) hc hcb hbig hx hy htop hR hS hB
theorem ws_top (X:Nat) (h:X≠0):(ws X).getD ((ws X).length-1) 0≠0:=by
 have h1:nl (ws X)≠0:=by rw [nl_ws];intro e;exact h ((ws_len_zero X).1 e)
 have:=nl_last (ws X) h1;rwa [nl_ws] at this
theorem ws_len_mono {X Y:Nat}(h:X≤Y):(ws X).length≤(ws Y).length:=(ws_len_le X _).2 (Nat.lt_of_le_of_lt h (ws_len_lt Y))
theorem ws_one:ws 1=[1]:=by rw [ws_pos 1 (by omega),show 1/4294967296=0 from rfl,ws_zero]
theorem sub_any (xs bs:List Nat) (ao bo:Option Addr) (n cap m capb B:Nat) (w:World) (hn:n=xs.length) (hm:m=bs.length) (hmn:m≤n) (hc:n≤cap) (hcb:m≤capb) (hbig:n≤35184372088833)
 (hx:Wf xs) (hb:Wf bs) (hle:val bs≤val xs) (hR0:Rd B w ao xs) (hS:Rd B w bo bs) (hB:B≤w.heap.size) :
 Calls Tryz.prog 159 #[.slice ao n cap,.slice bo m capb] w fun r w'=>∃ v,r=.returned v∧Nt w.heap.size w' v (val xs-val bs)∧Below w.heap.size w w':=by
 obtain ⟨W1,hW1⟩:∃ W,W=w.alloc (.cells (madeCells #[.int .u32 0] n) 89):=⟨_,rfl⟩;have hO1:Own W1 w.heap.size (List.replicate n 0):=by rw [hW1];exact Own.made w n
 have hB1:Below w.heap.size w W1:=by rw [hW1];exact (Below.refl _ _).alloc (Nat.le_refl _) _
 obtain ⟨W2,hcp,hO2,hb2⟩:=copy_words W1 w.heap.size n n ao n cap B 3 (List.replicate n 0) xs hO1 (by simp) hn (hR0.below (hB1.mono hB)) (by omega)
 rw [List.drop_of_length_le (by simp),List.append_nil] at hO2
 have hB2:Below w.heap.size w W2:=But.below hB1 hb2 hB1.size (Nat.le_refl _);have hmk:=make_words (n:Int) n rfl (by omega) w
 rw [←hW1] at hmk;have hR:Rd B W2 bo bs:=hS.below (hB2.mono hB);obtain ⟨g,hg⟩:∃ g,g=w.heap.size:=⟨_,rfl⟩;rw [←hg] at hO2 hcp hmk hB2 hB;have HR:=(qsd (ai hR (ai hm (ai hb (ai hx (ai hn (ai hle (ai hB2 hg))))))));have HO:=hid hO2;have HA32:Hid (∀ x y c s d w,_→_→_→_→_→_):=sub32_nat;clear hn hm hx hb hR0 hS hO1 hB1 hO2 hb2 hB2 hW1 hle hR hg;go_enter Tryz.func159,Tryz.ntmps159;go_wp2
 go_loopg [6,18] m (fun gk c i wr=>∃ (k cv:Nat) (M:List Nat),gk+k=m∧c=.int .u32 (cv:Nat)∧cv≤1∧i=.int .i64 (k:Nat) ∧
  Hid (Own wr g M)∧Aside (Wf M∧Out xs M 0 k∧sg M 0 k+sg bs 0 k=sg xs 0 k+cv*pw k∧But g W2 wr))
 case atStart=>exact ⟨0,0,xs,by omega,rfl,by omega,rfl,HO,HR.out.2.2.2.1,Out.refl _ _ _,by simp [sg_zero],But.refl _ _⟩
 case round =>
  obtain ⟨k,cv,M,hgk,rfl,hcv,rfl,HM,HA⟩:=hrel
  by_cases hk:k<m
  · obtain ⟨hR,hm,hb,hx,hn,hle,hB2,hg⟩:=HR.out
    obtain ⟨hMw,hMo,hMs,hbut⟩:=HA.out;obtain ⟨b,boff,hbB,rfl,hbc⟩:=hR (by intro e;subst e;simp at hm;omega)
    have hbk:wr.cell? ⟨b,boff+k,none⟩=some (.int .u32 ((bs.getD k 0:Nat):Int)):=by
     have h1:=hbut.block b (World.block_lt_of_cell? W2 ⟨b,boff+k,none⟩ (hbc k (by omega))) (by omega)
     exact (World.cell?_of_block (a:=⟨b,boff+k,none⟩) h1).trans (hbc k (by omega))
    have hgc:=HM.out.cell k (by rw [hMo.1];omega)
    have hgf:=HM.out.frozen k;obtain ⟨x,hxx⟩:∃ x:Nat,M.getD k 0=x:=⟨_,rfl⟩;obtain ⟨y,hy⟩:∃ y:Nat,bs.getD k 0=y:=⟨_,rfl⟩;have hxl:x<4294967296:=hxx ▸ hMw.get _;have hyl:y<4294967296:=hy ▸ hb.get _;rw [hxx] at hgc;rw [hy] at hbk;obtain ⟨s,hs⟩:∃ s:Nat,(s:Int)=((x:Int)-y-cv)%4294967296:=⟨(((x:Int)-y-cv)%4294967296).toNat,by omega⟩
    obtain ⟨d,hd⟩:∃ d:Nat,d=if x<y+cv then 1 else 0:=⟨_,rfl⟩
    have HX:=(qsd (ai hxx (ai hy (ai hs hd))));clear hxx hy hs hd hR hm hb hx hn hle hB2 hg hMw hMo hMs hbut hbc
    go_wp2_with fail
    refine (HA32.out x y cv s d _ hxl hyl hcv HX.out.2.2.1 HX.out.2.2.2).mono ?_;rintro r w1 ⟨rfl,rfl⟩;go_wp2
    go_roundg (gk-1)
    case measure=>omega
    case rel =>
     obtain ⟨hxx,hy,hs,hd⟩:=HX.out;obtain ⟨hR,hm,hb,hx,hn,hle,hB2,hg⟩:=HR.out;obtain ⟨hMw,hMo,hMs,hbut⟩:=HA.out;have hd1:d≤1:=by rw [hd];split <;> omega
     have hsum:s+y+cv=x+d*4294967296:=by rw [hd];split <;> omega
     refine ⟨k+1,d,M.set k s,by omega,rfl,hd1,by go_num,HM.out.set _ _,hMw.set _ _ (by omega),(hMo.mono (by omega)).set _ _ (by omega) (by omega),?_,hbut.set _ _⟩
     have e1:=sg_set_last M 0 k s (by rw [hMo.1];omega)
     rw [Nat.zero_add] at e1;rw [e1,sg_succ xs 0 k (by omega),sg_succ bs 0 k (by omega),Nat.zero_add,hy,pw_succ]
     have e:xs.getD k 0=x:=by rw [←hxx];exact (hMo.2 _ (by omega)).symm
     rw [e];exact borrow_step _ _ _ _ _ _ _ _ _ hMs hsum
  · obtain rfl:k=m:=by omega
    have HA2:Aside (Wf M∧Out xs M 0 k∧sg M 0 k+val bs=sg xs 0 k+cv*pw k∧But g W2 wr):=by
     obtain ⟨hR,hm,hb,hx,hn,hle,hB2,hg⟩:=HR.out;obtain ⟨hMw,hMo,hMs,hbut⟩:=HA.out;refine ⟨hMw,hMo,?_,hbut⟩;rw [←hMs,hm,sg_all]
    clear HA hgk HO hk;go_wp2
    go_loopg [6,9] (n-k+1) (fun g2 c i w2=>∃ (j cv:Nat) (M:List Nat),g2+j=n+1∧k≤j∧j≤n∧c=.int .u32 (cv:Nat)∧cv≤1∧i=.int .i64 (j:Nat) ∧
     Hid (Own w2 g M)∧Aside (Wf M∧Out xs M 0 j∧sg M 0 j+val bs=sg xs 0 j+cv*pw j∧But g W2 w2))
    case atStart=>exact ⟨k,cv,M,by omega,Nat.le_refl _,hmn,rfl,hcv,rfl,HM,HA2.out⟩
    case round =>
     clear HM HA2 hcv;obtain ⟨j,cv,M,hgj,hkj,hjn,rfl,hcv,rfl,HM,HA⟩:=hrel
     by_cases h0:cv=0
     · subst h0
       obtain ⟨hR,hm,hb,hx,hn,hle,hB2,hg⟩:=HR.out;obtain ⟨hMw,hMo,hMs,hbut⟩:=HA.out;have hl:M.length=n:=by rw [hMo.1,hn]
       have T:=hid (trim_any M (some ⟨g,0,none⟩) n n (g+1) wr hl.symm (Nat.le_refl _) (by omega) (by simpa [hl,List.take_of_length_le] using Rd.ofOwn HM.out 0 n))
       clear hR hm hb hx hn hle hB2 hg hMw hMo hMs hbut
       go_wp2_with fail
       refine T.out.mono ?_;rintro r w1 ⟨rfl,rfl⟩;go_wp2;go_ret;obtain ⟨hR,hm,hb,hx,hn,hle,hB2,hg⟩:=HR.out;obtain ⟨hMw,hMo,hMs,hbut⟩:=HA.out;rw [Nat.zero_mul,Nat.add_zero] at hMs;have hv:=seg_rest2 (n:=n) hjn (by omega) hMo hMs
       have e1:sg M 0 n=val M:=by rw [←hl];exact sg_all M
       have e2:sg xs 0 n=val xs:=by rw [hn];exact sg_all xs
       rw [e1,e2] at hv;refine ⟨_,rfl,?_,?_⟩
       · have N:=Nt.ofOwn (lo:=g) HM.out (Nat.le_refl _) hMw (by rw [hl];unfold maxLen;omega)
         rw [show val xs-val bs=val M by omega,←hg]
         rw [hl] at N;exact N
       · rw [←hg]
         exact But.below hB2 hbut (by have:=hB2.size;omega) (Nat.le_refl _)
     · obtain rfl:cv=1:=by omega
       obtain ⟨hR,hm,hb,hx,hn,hle,hB2,hg⟩:=HR.out;obtain ⟨hMw,hMo,hMs,hbut⟩:=HA.out
       have hj:j<n:=by
        by_cases hj:j=n
        · exfalso
          subst hj;have h1:=sg_lt M 0 j hMw (by rw [hMo.1];omega)
          have e2:sg xs 0 j=val xs:=by rw [hn];exact sg_all xs
          omega
        · omega
       have hgc:=HM.out.cell j (by rw [hMo.1];omega)
       have hgf:=HM.out.frozen j;obtain ⟨x,hxx⟩:∃ x:Nat,M.getD j 0=x:=⟨_,rfl⟩;have hxl:x<4294967296:=hxx ▸ hMw.get _;rw [hxx] at hgc;obtain ⟨s,hs⟩:∃ s:Nat,(s:Int)=((x:Int)-(0:Nat)-(1:Nat))%4294967296:=⟨(((x:Int)-(0:Nat)-(1:Nat))%4294967296).toNat,by omega⟩
       obtain ⟨d,hd⟩:∃ d:Nat,d=if x<0+1 then 1 else 0:=⟨_,rfl⟩
       have HX:=(qsd (ai hxx (ai hs hd)));clear hxx hs hd hR hm hb hx hn hle hB2 hg hMw hMo hMs hbut h0
       go_wp2_with fail
       refine (HA32.out x 0 1 s d _ hxl (by omega) (by omega) HX.out.2.1 HX.out.2.2).mono ?_
       rintro r w1 ⟨rfl,rfl⟩;go_wp2
       go_roundg (gk-1)
       case measure=>omega
       case rel =>
        obtain ⟨hxx,hs,hd⟩:=HX.out;obtain ⟨hR,hm,hb,hx,hn,hle,hB2,hg⟩:=HR.out;obtain ⟨hMw,hMo,hMs,hbut⟩:=HA.out;have hd1:d≤1:=by rw [hd];split <;> omega
        have hsum:s+0+1=x+d*4294967296:=by rw [hd];split <;> omega
        refine ⟨j+1,d,M.set j s,by omega,by omega,by omega,rfl,hd1,by go_num,HM.out.set _ _,hMw.set _ _ (by omega),(hMo.mono (by omega)).set _ _ (by omega) (by omega),?_,hbut.set _ _⟩
        have e1:=sg_set_last M 0 j s (by rw [hMo.1];omega)
        rw [Nat.zero_add] at e1;rw [e1,sg_succ xs 0 j (by omega),Nat.zero_add,pw_succ]
        have e:xs.getD j 0=x:=by rw [←hxx];exact (hMo.2 _ (by omega)).symm
        rw [e];have:=borrow_step (pw j) _ _ _ _ x 0 s d hMs hsum;omega
theorem addTimes_any (L bs:List Nat) (g off n cap:Nat) (ao:Option Addr) (m capb B q:Nat) (w:World)
 (hO:Own w g L) (hoff:off+n≤L.length) (hm:m=bs.length) (hmn:m≤n) (hcap:n≤cap) (hbig:n≤4611686018427387904) (hL:Wf L) (hb:Wf bs) (hR:Rd B w ao bs) (hB:B≤g) (hq:q<4294967296) :
 Calls Tryz.prog 160 #[.slice (some ⟨g,off,none⟩) n cap,.slice ao m capb,.int .u32 (q:Nat)] w fun r w' =>
  ∃ M c,r=.returned (.int .u32 (c:Nat))∧c<4294967296∧Own w' g M∧Wf M∧Out L M off m∧sg M off m+c*pw m=sg L off m+val bs*q∧But g w w':=by
 have HR:Aside (Rd B w ao bs∧m=bs.length∧Wf bs∧Wf L∧off+n≤L.length):=⟨hR,hm,hb,hL,hoff⟩;have HO:Hid (Own w g L):=hO;clear hR hm hb hL hO hoff;go_enter Tryz.func160,Tryz.ntmps160;go_wp2
 go_loopg [7,13] m (fun gk c i wr=>∃ (k cv:Nat) (M:List Nat),gk+k=m∧c=.int .u64 (cv:Nat)∧cv<4294967296∧i=.int .i64 (k:Nat) ∧
  Hid (Own wr g M)∧Aside (Wf M∧Out L M off k∧sg M off k+cv*pw k=sg L off k+sg bs 0 k*q∧But g w wr))
 case atStart=>exact ⟨0,0,L,by omega,rfl,by omega,rfl,HO,HR.out.2.2.2.1,Out.refl _ _ _,by simp [sg_zero],But.refl _ _⟩
 case round =>
  obtain ⟨k,cv,M,hgk,rfl,hcv,rfl,HM,HA⟩:=hrel
  by_cases hk:k<m
  · obtain ⟨hR,hm,hb,hL,hoff⟩:=HR.out
    obtain ⟨hMw,hMo,hMs,hbut⟩:=HA.out;obtain ⟨b,boff,hbB,rfl,hbc⟩:=hR (by intro e;subst e;simp at hm;omega)
    have hbk:wr.cell? ⟨b,boff+k,none⟩=some (.int .u32 ((bs.getD k 0:Nat):Int)):=by
     have h1:=hbut.block b (World.block_lt_of_cell? w ⟨b,boff+k,none⟩ (hbc k (by omega))) (by omega)
     exact (World.cell?_of_block (a:=⟨b,boff+k,none⟩) h1).trans (hbc k (by omega))
    have hgc:=HM.out.cell (off+k) (by rw [hMo.1];omega)
    have hgf:=HM.out.frozen (off+k);obtain ⟨x,hx⟩:∃ x:Nat,M.getD (off+k) 0=x:=⟨_,rfl⟩;obtain ⟨y,hy⟩:∃ y:Nat,bs.getD k 0=y:=⟨_,rfl⟩;have hxl:x<4294967296:=hx ▸ hMw.get _;have hyl:y<4294967296:=hy ▸ hb.get _;rw [hx] at hgc;rw [hy] at hbk;have hp0:=mul_bound y q hyl hq;have hp2:(y:Int)*(q:Int)≤18446744065119617025:=by rw [←Int.natCast_mul];omega
    have hp1:0≤(y:Int)*(q:Int):=by rw [←Int.natCast_mul];omega
    obtain ⟨s,hs⟩:∃ s:Nat,s=(y*q+x+cv)%4294967296:=⟨_,rfl⟩;obtain ⟨d,hd⟩:∃ d:Nat,d=(y*q+x+cv)/4294967296:=⟨_,rfl⟩;have e0:((y*q+x+cv:Nat):Int)=(y:Int)*q+x+cv:=by simp only [Int.natCast_add,Int.natCast_mul]
    have e1:((y:Int)*q+x+cv)%4294967296=(s:Int):=by rw [←e0];omega
    have e2:((y:Int)*q+x+cv)/4294967296=(d:Int):=by rw [←e0];omega
    have HX:Aside (M.getD (off+k) 0=x∧bs.getD k 0=y∧s+d*4294967296=y*q+x+cv∧s<4294967296∧d<4294967296):=⟨hx,hy,by omega,by omega,by omega⟩
    clear hx hy hs hd hR hm hb hL hoff hMw hMo hMs hbut hbc e0 hp0;go_wp2
    go_roundg (gk-1)
    case measure=>omega
    case rel =>
     obtain ⟨hx,hy,he,hs,hd⟩:=HX.out;obtain ⟨hR,hm,hb,hL,hoff⟩:=HR.out;obtain ⟨hMw,hMo,hMs,hbut⟩:=HA.out;refine ⟨k+1,d,M.set (off+k) s,by omega,rfl,hd,by go_num,HM.out.set _ _,hMw.set _ _ hs,(hMo.mono (by omega)).set _ _ (by omega) (by omega),?_,hbut.set _ _⟩
     rw [sg_set_last _ _ _ _ (by rw [hMo.1];omega),sg_succ L off k (by omega),sg_succ bs 0 k (by omega),Nat.zero_add,hy,pw_succ]
     have e:L.getD (off+k) 0=x:=by rw [←hx];exact (hMo.2 _ (by omega)).symm
     rw [e];exact times_step _ _ _ _ _ _ _ _ _ _ hMs he
  · obtain rfl:k=m:=by omega
    go_wp2;go_ret;obtain ⟨hR,hm,hb,hL,hoff⟩:=HR.out;obtain ⟨hMw,hMo,hMs,hbut⟩:=HA.out;refine ⟨M,cv,rfl,hcv,HM.out,hMw,hMo,?_,hbut⟩;rw [hMs,hm,sg_all]
theorem mul_step (p V b x r q c:Nat) (h:V+p*r=b*q):V+p*(r+q*x)=(b+p*x)*q:=by grind
theorem mul_any (xs bs:List Nat) (ao bo:Option Addr) (n cap m capb B:Nat) (w:World) (hn:n=xs.length) (hm:m=bs.length) (hc:n≤cap) (hcb:m≤capb) (hbig:n+m≤70368744177664)
 (hx:Wf xs) (hb:Wf bs) (hR:Rd B w ao xs) (hS:Rd B w bo bs) (hB:B≤w.heap.size) :
 Calls Tryz.prog 146 #[.slice ao n cap,.slice bo m capb] w fun r w'=>∃ v,r=.returned v∧Nt w.heap.size w' v (val xs*val bs)∧Below w.heap.size w w':=by
 obtain ⟨W1,hW1⟩:∃ W,W=w.alloc (.cells (madeCells #[.int .u32 0] (n+m)) 89):=⟨_,rfl⟩;have hO1:Own W1 w.heap.size (List.replicate (n+m) 0):=by rw [hW1];exact Own.made w (n+m)
 have hB1:Below w.heap.size w W1:=by rw [hW1];exact (Below.refl _ _).alloc (Nat.le_refl _) _
 have hmk:=make_words ((n:Int)+m) (n+m) (by omega) (by omega) w
 rw [←hW1] at hmk;have hR1:Rd B W1 ao xs:=hR.below (hB1.mono hB);have hS1:Rd B W1 bo bs:=hS.below (hB1.mono hB);obtain ⟨g,hg⟩:∃ g,g=w.heap.size:=⟨_,rfl⟩;rw [←hg] at hO1 hmk hB1 hB;have HR:=(qsd (ai hR1 (ai hS1 (ai hm (ai hb (ai hx (ai hn (ai hB1 hg))))))));have HO:=hid hO1;clear hn hm hx hb hR hS hO1 hB1 hW1 hR1 hS1 hg;go_enter Tryz.func146,Tryz.ntmps146;go_wp2
 go_loopg [16] n (fun gk i wr=>∃ (k:Nat) (M:List Nat),gk+k=n∧i=.int .i64 (k:Nat) ∧
  Hid (Own wr g M)∧Aside (Wf M∧M.length=n+m∧sg M 0 (k+m)=sg xs 0 k*val bs∧But g W1 wr))
 case atStart=>exact ⟨0,_,by omega,rfl,HO,Wf.zeros _,by simp,by rw [sg_zeros,sg_zero];simp,But.refl _ _⟩
 case round =>
  obtain ⟨k,M,hgk,rfl,HM,HA⟩:=hrel
  by_cases hk:k<n
  · obtain ⟨hR,hS,hm,hb,hx,hn,hB1,hg⟩:=HR.out
    obtain ⟨hMw,hMl,hMs,hbut⟩:=HA.out;have hW1s:g≤W1.heap.size:=by have:=hB1.size;omega
    obtain ⟨b,boff,hbB,rfl,hbc⟩:=hR (by intro e;subst e;simp at hn;omega)
    have hbk:wr.cell? ⟨b,boff+k,none⟩=some (.int .u32 ((xs.getD k 0:Nat):Int)):=by
     have h1:=hbut.block b (World.block_lt_of_cell? W1 ⟨b,boff+k,none⟩ (hbc k (by omega))) (by omega)
     exact (World.cell?_of_block (a:=⟨b,boff+k,none⟩) h1).trans (hbc k (by omega))
    obtain ⟨y,hy⟩:∃ y:Nat,xs.getD k 0=y:=⟨_,rfl⟩;have hyl:y<4294967296:=hy ▸ hx.get _;rw [hy] at hbk;have H:=hid (addTimes_any M bs g k m (n+m-k) bo m capb B y wr HM.out (by omega) hm (Nat.le_refl _) (by omega) (by omega) hMw hb (hS.but hbut (by omega) hB) hB hyl)
    have HX:=(qsd (ai hy hn));clear hy hR hS hm hb hx hn hB1 hg hMw hMl hMs hbut hbc hW1s
    go_wp2_with fail
    refine H.out.mono ?_;rintro r W3 ⟨M2,c,rfl,hc1,hO3,hM2,hout,hsum,hbut2⟩;obtain ⟨hMw,hMl,hMs,hbut⟩:=HA.out;have hgc:=hO3.cell (k+m) (by rw [hout.1];omega)
    have hgf:=hO3.frozen (k+m);have HI:=(qsd (ai hc1 (ai hO3 (ai hM2 (ai hout (ai hsum hbut2))))));clear hc1 hO3 hM2 hout hsum hbut2 hMw hMl hMs hbut H;go_wp2
    go_roundg (gk-1)
    case measure=>omega
    case rel =>
     obtain ⟨hy,hn⟩:=HX.out;obtain ⟨hMw,hMl,hMs,hbut⟩:=HA.out;obtain ⟨hc1,hO3,hM2,hout,hsum,hbut2⟩:=HI.out;refine ⟨k+1,M2.set (k+m) c,by omega,by go_num,hO3.set _ _,hM2.set _ _ hc1,by simp [hout.1,hMl],?_,(hbut.trans hbut2).set _ _⟩
     have e1:=sg_set_last M2 0 (k+m) c (by rw [hout.1];omega)
     rw [Nat.zero_add] at e1;have e2:=sg_add M2 0 k m (by rw [hout.1];omega)
     have e3:=sg_add M 0 k m (by omega)
     rw [Nat.zero_add] at e2 e3;have e4:=hout.below 0 k (by omega) (by omega)
     rw [show k+1+m=k+m+1 by omega,e1,e2,e4,sg_succ xs 0 k (by omega),Nat.zero_add,hy,pw_add]
     rw [e3] at hMs;rw [Nat.mul_comm c] at hsum;have:=mul_step (pw k) _ _ y _ _ c hMs;rw [←hsum] at this;rw [←this,Nat.mul_add,Nat.mul_assoc,Nat.add_assoc]
  · obtain rfl:k=n:=by omega
    obtain ⟨hMw,hMl,hMs,hbut⟩:=HA.out;have T:=hid (trim_any M (some ⟨g,0,none⟩) (k+m) (k+m) (g+1) wr hMl.symm (Nat.le_refl _) (by omega) (by simpa [hMl,List.take_of_length_le] using Rd.ofOwn HM.out 0 (k+m)))
    clear hMw hMl hMs hbut
    go_wp2_with fail
    refine T.out.mono ?_;rintro r w1 ⟨rfl,rfl⟩;go_wp2;go_ret;obtain ⟨hR,hS,hm,hb,hx,hn,hB1,hg⟩:=HR.out;obtain ⟨hMw,hMl,hMs,hbut⟩:=HA.out;have e1:sg M 0 (k+m)=val M:=by rw [←hMl];exact sg_all M
    have e2:sg xs 0 k=val xs:=by rw [hn];exact sg_all xs
    rw [e1,e2] at hMs;refine ⟨_,rfl,?_,?_⟩
    · have N:=Nt.ofOwn (lo:=g) HM.out (Nat.le_refl _) hMw (by rw [hMl];unfold maxLen;omega)
      rw [←hMs,←hg];rw [hMl] at N;exact N
    · rw [←hg]
      exact But.below hB1 hbut (by have:=hB1.size;omega) (Nat.le_refl _)
theorem cmp_words (xs ys:List Nat) (hx:Wf xs) (hy:Wf ys) (j d:Nat) (h1:j+1+d≤xs.length) (h2:j+1+d≤ys.length) (ht:sg xs (j+1) d=sg ys (j+1) d) (hlt:xs.getD j 0<ys.getD j 0) :
 sg xs 0 (j+1+d)<sg ys 0 (j+1+d):=by
 rw [sg_add xs 0 (j+1) d (by omega),sg_add ys 0 (j+1) d (by omega),Nat.zero_add,ht,sg_succ xs 0 j (by omega),sg_succ ys 0 j (by omega),Nat.zero_add]
 have h3:=sg_lt xs 0 j hx (by omega)
 have h4:pw j*(xs.getD j 0+1)≤pw j*ys.getD j 0:=Nat.mul_le_mul_left _ hlt;rw [Nat.mul_add] at h4;omega
theorem cmp_len (xs ys:List Nat) (hx:Wf xs) (hy:Wf ys) (h:nl xs<nl ys):val xs<val ys:=by
 rw [nl_eq_length xs hx,nl_eq_length ys hy] at h;have h1:=ws_len_lt (val xs);have h2:val ys≠0:=by intro e;rw [e,ws_zero] at h;simp at h
 have h3:=ws_len_ge (val ys) h2;have h4:=pw_mono (show (ws (val xs)).length≤(ws (val ys)).length-1 by omega)
 omega
theorem cmpI_lt {x y:Nat}(h:x<y):cmpI x y=-1:=by simp [cmpI,h]
theorem cmpI_gt {x y:Nat}(h:y<x):cmpI x y=1:=by simp [cmpI,h];omega
theorem cmpI_eq {x y:Nat}(h:x=y):cmpI x y=0:=by simp [cmpI,h]
theorem cmpI_congr {a b x y:Nat}(h1:a<b↔x<y) (h2:b<a↔y<x):cmpI a b=cmpI x y:=by simp [cmpI,h1,h2]
theorem cmp_any (xs ys:List Nat) (ao bo:Option Addr) (n cap m capb B:Nat) (w:World) (hn:n=xs.length) (hm:m=ys.length) (hc:n≤cap) (hcb:m≤capb) (hbig:n≤70368744177664) (hbig2:m≤70368744177664)
 (hx:Wf xs) (hy:Wf ys) (hR:Rd B w ao xs) (hS:Rd B w bo ys) :
 Calls Tryz.prog 158 #[.slice ao n cap,.slice bo m capb] w fun r w'=>r=.returned (.int .i64 (cmpI (val xs) (val ys)))∧Below w.heap.size w w':=by
 have H1:=hid (trim_any xs ao n cap B w hn hc (by omega) hR)
 have H2:=hid (trim_any ys bo m capb B w hm hcb (by omega) hS)
 have hl1:=nl_le xs;have hl2:=nl_le ys;have f1:=val_form xs hx;have f2:=val_form ys hy;rw [←sg_val_take] at f1 f2
 by_cases he:nl xs=nl ys
 · obtain ⟨k0,hk0⟩:∃ k,nl ys=k:=⟨_,rfl⟩
   rw [he] at H1 hl1 f1;rw [hk0] at H1 H2 hl1 hl2 f1 f2;have HR:=(qsd (ai hR (ai hS (ai hn (ai hm (ai hx (ai hy (ai hl1 (ai hl2 (ai f1 f2))))))))));have HC:Hid (∀ x y w,_):=compare_u;have hkn:k0≤n:=by omega
   have hkm:k0≤m:=by omega
   clear hR hS hn hm hx hy hl1 hl2 f1 f2 he hk0;go_enter Tryz.func158,Tryz.ntmps158
   go_wp2_with fail
   refine H1.out.mono ?_;rintro r w1 ⟨rfl,rfl⟩
   go_wp2_with fail
   refine H2.out.mono ?_;rintro r w1 ⟨rfl,rfl⟩;go_wp2
   go_loopg [5] k0 (fun k i wr=>k≤k0∧i=.int .i64 ((k:Int)-1)∧Hid (Below w1.heap.size w1 wr)∧Aside (sg xs k (k0-k)=sg ys k (k0-k)))
   case atStart=>exact ⟨Nat.le_refl _,rfl,Below.refl _ _,by rw [Nat.sub_self,sg_zero,sg_zero];exact rfl⟩
   case round =>
    obtain ⟨hk,rfl,HB,HA⟩:=hrel
    by_cases hk0:gk=0
    · subst hk0
      go_wp2;go_ret;obtain ⟨hR,hS,hn,hm,hx,hy,hl1,hl2,f1,f2⟩:=HR.out;have h:=HA.out;rw [Nat.sub_zero,f1,f2] at h;rw [cmpI_eq h];exact ⟨rfl,HB.out⟩
    · obtain ⟨k,rfl⟩:∃ k,gk=k+1:=⟨gk-1,by omega⟩
      obtain ⟨hR,hS,hn,hm,hx,hy,hl1,hl2,f1,f2⟩:=HR.out;obtain ⟨b,off,hB1,rfl,hc1⟩:=hR (by intro e;subst e;simp at hl1;omega)
      obtain ⟨b2,off2,hB2,rfl,hc2⟩:=hS (by intro e;subst e;simp at hl2;omega)
      have g1:wr.cell? ⟨b,off+k,none⟩=some (.int .u32 ((xs.getD k 0:Nat):Int)) :=
       (HB.out.cell (p:=⟨b,off+k,none⟩) (World.block_lt_of_cell? w1 ⟨b,off+k,none⟩ (hc1 k (by omega)))).trans (hc1 k (by omega))
      have g2:wr.cell? ⟨b2,off2+k,none⟩=some (.int .u32 ((ys.getD k 0:Nat):Int)) :=
       (HB.out.cell (p:=⟨b2,off2+k,none⟩) (World.block_lt_of_cell? w1 ⟨b2,off2+k,none⟩ (hc2 k (by omega)))).trans (hc2 k (by omega))
      obtain ⟨x,hxx⟩:∃ x:Nat,xs.getD k 0=x:=⟨_,rfl⟩;obtain ⟨y,hyy⟩:∃ y:Nat,ys.getD k 0=y:=⟨_,rfl⟩;rw [hxx] at g1;rw [hyy] at g2;have HX:=(qsd (ai hxx hyy));clear hR hS hn hm hx hy hl1 hl2 f1 f2 hc1 hc2 hxx hyy hk0
      by_cases hxy:x=y
      · subst hxy
        go_wp2
        go_region
        all_goals (
         go_wp2
         go_roundg k
         case measure=>omega
         case rel =>
          obtain ⟨hR,hS,hn,hm,hx,hy,hl1,hl2,f1,f2⟩:=HR.out;refine ⟨by omega,by first | go_num | (congr 1;omega),HB.out.drew,?_⟩
          have h:=HA.out;obtain ⟨r,hr⟩:∃ r,k0-k=r+1:=⟨k0-(k+1),by omega⟩
          rw [show k0-(k+1)=r by omega] at h
          rw [Aside,hr,sg_front xs k r (by omega),sg_front ys k r (by omega),h,HX.out.1,HX.out.2])
      · have hne:((x:Int)==(y:Int))=false:=by simp;omega
        have hki:(k:Int)<(k0:Int):=by omega
        have hki0:0≤(k:Int):=by omega
        have hki2:k<k0:=by omega
        go_wp2
        go_region
        all_goals (
         go_wp2
         go_region_with (go_at_call 170;refine (compare_u x y _).mono ?_;rintro r w2 ⟨rfl,rfl⟩))
        all_goals (
         go_wp2;go_ret;obtain ⟨hR,hS,hn,hm,hx,hy,hl1,hl2,f1,f2⟩:=HR.out;have h:=HA.out
         have e:cmpI (val xs) (val ys)=cmpI x y:=by
          rw [←f1,←f2];have hk2:k+1+(k0-(k+1))=k0:=by omega
          have t1:=cmp_words xs ys hx hy k (k0-(k+1)) (by omega) (by omega) h
          have t2:=cmp_words ys xs hy hx k (k0-(k+1)) (by omega) (by omega) h.symm
          rw [hk2,HX.out.1,HX.out.2] at t1 t2
          apply cmpI_congr <;> omega
         rw [e];exact ⟨rfl,by first | exact HB.out.drew.drew | exact HB.out.drew | skip⟩)
 · have e:cmpI (val xs) (val ys)=cmpI (nl xs) (nl ys):=by
    rcases Nat.lt_or_gt_of_ne he with h|h
    · rw [cmpI_lt h,cmpI_lt (cmp_len xs ys hx hy h)]
    · rw [cmpI_gt h,cmpI_gt (cmp_len ys xs hy hx h)]
   rw [e];obtain ⟨k1,hk1⟩:∃ k,nl xs=k:=⟨_,rfl⟩;obtain ⟨k2,hk2⟩:∃ k,nl ys=k:=⟨_,rfl⟩;rw [hk1] at H1 he ⊢;rw [hk2] at H2 he ⊢;have hne:((k1:Int)==(k2:Int))=false:=by simp;omega
   have hne2:¬ (k1:Int)=(k2:Int):=by omega
   have H3:=hid (compare_i k1 k2 w);clear hR hS hn hm hx hy hl1 hl2 f1 f2 hk1 hk2 e he;go_enter Tryz.func158,Tryz.ntmps158
   go_wp2_with fail
   refine H1.out.mono ?_;rintro r w1 ⟨rfl,rfl⟩
   go_wp2_with fail
   refine H2.out.mono ?_;rintro r w1 ⟨rfl,rfl⟩
   go_wp2_with fail
   refine H3.out.mono ?_;rintro r w1 ⟨rfl,rfl⟩;go_wp2;go_ret;exact ⟨rfl,Below.refl _ _⟩
end
end Go.Proofs.YthejkolknalpaaaGreatDoor
