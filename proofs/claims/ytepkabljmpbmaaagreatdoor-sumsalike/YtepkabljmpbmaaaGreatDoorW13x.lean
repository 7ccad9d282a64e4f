import Derived.Test.YtepkabljmpbmaaaGreatDoorBIeeex
import Derived.Lib.Strings
import Derived.Lib.Slices
import Derived.Lib.Small
import Derived.Lib.Walk
import Derived.Lib.BitFns
import Derived.Lib.Tables
import Derived.Lib.ItoaNum
import Derived.Lib.TrailingZeros
import Derived.Deep.OwnRows
import Derived.BigQuiet
import Derived.Deep.RegionWith
set_option linter.unusedVariables false
set_option linter.unusedSimpArgs false
set_option maxHeartbeats 16000000
set_option maxRecDepth 20000
namespace Go.Proofs.YtepkabljmpbmaaaGreatDoor
section
open Go.RowKit
def bl (n:Nat):Nat:=if n=0 then 0 else n.log2+1
theorem bl_zero:bl 0=0:=rfl
theorem bl_lt (n:Nat):n<2^bl n:=by
 unfold bl
 split
 · next h=>subst h;decide
 · exact Nat.lt_log2_self
theorem bl_ge (n:Nat) (h:n≠0):2^(bl n-1)≤n:=by
 unfold bl;rw [if_neg h];exact Nat.log2_self_le h
theorem bl_pos (n:Nat) (h:n≠0):0<bl n:=by unfold bl;rw [if_neg h];omega
theorem bl_eq (n k:Nat) (h1:2^k≤n) (h2:n<2^(k+1)):bl n=k+1:=by
 have hn:n≠0:=by have:=Nat.two_pow_pos k;omega
 have a:k<bl n:=(Nat.pow_lt_pow_iff_right (a:=2) (by decide)).1 (Nat.lt_of_le_of_lt h1 (bl_lt n));have b:bl n-1<k+1:=(Nat.pow_lt_pow_iff_right (a:=2) (by decide)).1 (Nat.lt_of_le_of_lt (bl_ge n hn) h2);omega
theorem bitLen_bl (x:Nat) (h:x<18446744073709551616):Lib.bitLen x=bl x:=by
 by_cases h0:x=0
 · subst h0;decide
 · obtain ⟨h1,h2,h3⟩:=Lib.bitLenAux_bounds 64 x h h0;obtain ⟨k,hk⟩:∃ k,Lib.bitLen x=k+1:=⟨Lib.bitLen x-1,by unfold Lib.bitLen;omega⟩;have hk':Lib.bitLenAux 64 x=k+1:=hk;rw [hk'] at h2 h3;rw [hk,bl_eq x k h2 h3]
theorem tab8 (n:Nat) (h:n<Lib.len8tab.size):(Lib.len8tab[n]'h).toNat=Lib.bitLen n:=by
 have hn:n<256:=by rw [Lib.len8tab_size] at h;exact h
 have e:=Lib.len8_eq ⟨n,hn⟩;simp only [Lib.len8,Int.toNat_natCast] at e;rw [getElem?_pos Lib.len8tab n h] at e;exact Int.natCast_inj.1 (by simpa using e)
theorem fin_len (x i:Int) (c:Nat) (hc:c≤56) (hi:i<256) (hs:Lib.bitLen x.toNat=c+Lib.bitLen i.toNat) (hh:i.toNat<Lib.len8tab.size) (hi0:0≤i) :
 wrap64 ((c:Int)+wrap64 ((Lib.len8tab[i.toNat]'hh).toNat:Int))=(Lib.bitLen x.toNat:Int):=by
 have l:=Lib.bitLen_le8 ⟨i.toNat,by omega⟩;simp only at l;rw [tab8,hs];unfold wrap64;omega
theorem fin_len0 (x:Int) (hi:x<256) (hi0:0≤x) (hh:x.toNat<Lib.len8tab.size) :
 wrap64 (wrap64 ((Lib.len8tab[x.toNat]'hh).toNat:Int))=(Lib.bitLen x.toNat:Int):=by
 have l:=Lib.bitLen_le8 ⟨x.toNat,by omega⟩;simp only at l;rw [tab8];unfold wrap64;omega
set_option maxRecDepth 100000 in
theorem len32_int (x:Int) (w:World) (h0:0≤x) (h1:x≤4294967295) :
 Calls Tryz.prog 135 #[.int .u32 x] w fun e w'=>e=.returned (.int .i64 (Lib.bitLen x.toNat))∧w'=w:=by
 have hsz:Lib.len8tab.size=256:=Lib.len8tab_size;go_enter Tryz.func135,Tryz.ntmps135;go_wp2
 all_goals (go_ret;refine ⟨congrArg (fun z=>Ending.returned (Value.int IntKind.i64 z)) ?_,rfl⟩)
 · exact fin_len x (x/65536/256) 24 (by omega) (by omega) (by rw [Lib.bitLen_shift24 x.toNat (by omega) (by omega),show (x/65536/256).toNat=x.toNat/16777216 by omega]) (by omega) (by omega)
 · exact fin_len x (x/65536) 16 (by omega) (by omega) (by rw [Lib.bitLen_shift16 x.toNat (by omega) (by omega),show (x/65536).toNat=x.toNat/65536 by omega]) (by omega) (by omega)
 · exact fin_len x (x/256) 8 (by omega) (by omega) (by rw [Lib.bitLen_shift8 x.toNat (by omega) (by omega),show (x/256).toNat=x.toNat/256 by omega]) (by omega) (by omega)
 · exact fin_len0 x (by omega) (by omega) (by omega)
theorem len32_any (x:Nat) (w:World) (h:x<4294967296):Calls Tryz.prog 135 #[.int .u32 (x:Int)] w fun e w'=>e=.returned (.int .i64 (bl x:Nat))∧w'=w:=by
 have:=len32_int x w (by omega) (by omega);rw [Int.toNat_natCast,bitLen_bl x (by omega)] at this;exact this
theorem bl_le32 (x:Nat) (h:x<4294967296):bl x≤32:=by
 by_cases h0:x=0
 · subst h0;decide
 · have:=bl_ge x h0;have:2^(bl x-1)<2^32:=by omega
   have:=(Nat.pow_lt_pow_iff_right (a:=2) (by decide)).1 this;omega
end
section
open Go.RowKit
def Tab (w:World):Prop:=∀ j,j<32→w.cell? ⟨1,j,none⟩=some (.int .u8 (Lib.deBruijn32tab.getD j 0))
theorem Tab.below {B:Nat}{w w':World}(h:Tab w) (hb:Below B w w') (hB:1<B):Tab w':=fun j hj=>(hb.cell (p:=⟨1,j,none⟩) hB).trans (h j hj)
theorem Tab.pos {w:World}(h:Tab w):1<w.heap.size:=World.block_lt_of_cell? w ⟨1,0,none⟩ (h 0 (by decide))
theorem Tab.belows {w w':World}(h:Tab w) (hb:Below w.heap.size w w'):Tab w':=h.below hb h.pos
theorem tz_core (x k idx:Nat) (w:World) (hx0:((x:Int)==0)=false)
 (key:bits BinOp.and IntKind.u32 (x:Int) (-(x:Int)%4294967296)*125613361%4294967296/134217728=(idx:Int))
 (hi:idx<32) (hk:k<32) (hcell:w.cell? ⟨1,idx,none⟩=some (.int .u8 k)) :
 Calls Tryz.prog 136 #[.int .u32 x] w fun e w'=>e=.returned (.int .i64 k)∧w'=w:=by
 go_enter Tryz.func136,Tryz.ntmps136
 go_wp2_with (simp only [key])
 go_ret;exact ⟨rfl,rfl⟩
theorem tz_key (x a:Nat) (hx:x<4294967296) (hx0:x≠0) (hlow:x &&& (4294967296-x)=a) :
 bits BinOp.and IntKind.u32 (x:Int) (-(x:Int)%4294967296)*125613361%4294967296/134217728=((a*125613361%4294967296/134217728:Nat):Int):=by
 rw [show -(x:Int)%4294967296=((4294967296-x:Nat):Int) by omega,and32 x _ hx (by omega),hlow];omega
theorem tz_any (x:Nat) (hx:x<4294967296) (hx0:x≠0) (w:World) (hT:Tab w) :
 Calls Tryz.prog 136 #[.int .u32 (x:Int)] w fun e w'=>e=.returned (.int .i64 (Lib.ctz 32 x:Nat))∧w'=w:=by
 obtain ⟨hlow,hk⟩:=Lib.lowest_bit 32 x hx0 hx;obtain ⟨hi,htab⟩:=Lib.deBruijn32_at _ hk;have hcell:=hT _ hi;rw [htab] at hcell;exact tz_core x _ _ w (by simp;omega) (tz_key x _ hx hx0 hlow) hi hk hcell
def lo (n:Nat):Nat:=if h:n=0 then 0 else if n%2=1 then 0 else lo (n/2)+1
termination_by n
decreasing_by omega
theorem lo_zero:lo 0=0:=by rw [lo];simp
theorem lo_odd (m:Nat):lo (2*m+1)=0:=by rw [lo];simp
theorem lo_eq (i m:Nat):lo (2^i*(2*m+1))=i:=by
 induction i with
 | zero=>rw [Nat.pow_zero,Nat.one_mul];exact lo_odd m
 | succ i ih =>
   have h:2^(i+1)*(2*m+1)=2*(2^i*(2*m+1)):=by rw [Nat.pow_succ];grind
   have hp:0<2^i*(2*m+1):=Nat.mul_pos (Nat.two_pow_pos i) (by omega);rw [h,lo,dif_neg (by omega),if_neg (by omega),Nat.mul_div_cancel_left _ (by decide),ih]
theorem lo_words (xs:List Nat) (k:Nat) (hx:Wf xs) (hk:k<xs.length) (h0:sg xs 0 k=0) (hw:xs.getD k 0≠0):lo (val xs)=32*k+Lib.ctz 32 (xs.getD k 0):=by
 have hl:=hx.get k;obtain ⟨m,hm,hc⟩:=Lib.ctzFrom_spec 32 (xs.getD k 0) (by omega) hl;have hcz:Lib.ctz 32 (xs.getD k 0)=Lib.ctzFrom 32 (xs.getD k 0):=by simp only [Lib.ctz,if_neg hw]
 rw [hcz];obtain ⟨c,hc'⟩:∃ c,Lib.ctzFrom 32 (xs.getD k 0)=c:=⟨_,rfl⟩;rw [hc'] at hm hc ⊢;have e:=val_take_drop xs k (by omega);rw [←sg_val_take,h0,Nat.zero_add,val_drop_succ xs k hk,hm] at e
 have e2:4294967296=2^c*(2*2^(31-c)):=by
  rw [←Nat.mul_assoc,Nat.mul_comm (2^c) 2,Nat.mul_assoc,←Nat.pow_add,show c+(31-c)=31 by omega]
 have e3:val xs=2^(32*k+c)*(2*(m+2^(31-c)*val (xs.drop (k+1)))+1):=by
  rw [e,Nat.pow_add,Nat.pow_mul];have:(2^32:Nat)^k=pw k:=rfl;rw [this];have:4294967296*val (xs.drop (k+1))=2^c*(2*2^(31-c))*val (xs.drop (k+1)):=by rw [←e2]
  rw [this]
  grind
 rw [e3,lo_eq]
theorem low_any (xs:List Nat) (ao:Option Addr) (n cap B:Nat) (w:World) (hn:n=xs.length) (hm:n≤70368744177664) (hx:Wf xs) (hR:Rd B w ao xs) (hT:Tab w) :
 Calls Tryz.prog 105 #[.slice ao n cap] w fun r w'=>r=.returned (.int .i64 (lo (val xs):Nat))∧w'=w:=by
 have HT:=(hid hT);have HR:=(qsd (ai hR (ai hn hx)));clear hR hn hx hT;go_enter Tryz.func105,Tryz.ntmps105;go_wp2
 go_loopg [7] n (fun gk i wr=>∃ k:Nat,gk+k=n∧i=.int .i64 (k:Nat)∧wr=w∧Aside (sg xs 0 k=0))
 case atStart=>exact ⟨0,by omega,rfl,rfl,sg_zero _ _⟩
 case round =>
  obtain ⟨k,hgk,rfl,rfl,HA⟩:=hrel
  by_cases hk:k<n
  · obtain ⟨hR,hn,hx⟩:=HR.out;obtain ⟨b,boff,hbB,rfl,hbc⟩:=hR (by intro e;subst e;simp at hn;omega);have hbk:=hbc k (by omega);obtain ⟨x,hxx⟩:∃ x:Nat,xs.getD k 0=x:=⟨_,rfl⟩;have hxl:x<4294967296:=hxx ▸ hx.get _;rw [hxx] at hbk
    by_cases h0:x=0
    · subst h0;have HX:=(qsd hxx);clear hxx hR hn hx hbc;go_wp2;go_roundg (gk-1)
      case measure=>omega
      case rel =>
       obtain ⟨hR,hn,hx⟩:=HR.out;refine ⟨k+1,by omega,by go_num,rfl,?_⟩;have h1:=HA.out;rw [Aside,sg_succ xs 0 k (by omega),Nat.zero_add,HX.out,h1];omega
    · have hz:=lo_words xs k hx (by omega) HA.out (by rw [hxx];exact h0);rw [hxx] at hz;obtain ⟨hc,hc32⟩:=Lib.lowest_bit 32 x h0 hxl;have H:=hid (tz_any x hxl h0 wr HT.out);obtain ⟨c,hcc⟩:∃ c,Lib.ctz 32 x=c:=⟨_,rfl⟩;rw [hcc] at H hz hc32;have HZ:=(qsd hz);clear hxx hR hn hx hbc hc hz hcc;go_wp2_with fail;refine H.out.mono ?_;rintro r w1 ⟨rfl,rfl⟩;go_wp2;go_ret;rw [HZ.out];exact ⟨congrArg (fun z=>Ending.returned (Value.int IntKind.i64 z)) (by omega),rfl⟩
  · obtain rfl:k=n:=by omega
    obtain ⟨hR,hn,hx⟩:=HR.out;have h1:=HA.out;have h2:val xs=0:=by rw [←sg_all,←hn];exact h1
    have H2:=(qsd h2);clear hR hn hx h1 h2 HA HR;go_wp2;go_ret;rw [H2.out,lo_zero];exact ⟨rfl,rfl⟩
end
section
open Go.RowKit
theorem make_words (z:Int) (n:Nat) (hz:z=(n:Int)) (hn:n≤70368744177664) (w:World) :
 (Instr.makeSlice 68 (.int .i64 z) (.int .i64 z)).run Tryz.prog w=.ok (.slice (some ⟨w.heap.size,0,none⟩) n n) (w.alloc (.cells (madeCells #[.int .u32 0] n) 81)):=by
 subst hz;exact run_make_row' 68 81 (.int .u32 0) 4 Tryz.underlying68 Tryz.info81 rfl .i64 .i64 n (by omega) (by omega) w
theorem Own.made (w:World) (n:Nat):Own (w.alloc (.cells (madeCells #[.int .u32 0] n) 81)) w.heap.size (List.replicate n 0):=by
 unfold Own;have h1:=heap_alloc_new w (.cells (madeCells #[.int .u32 0] n) 81);rw [h1];congr 2;apply Array.toList_inj.1;rw [toList_madeCells_one];simp [U]
theorem Rd.drop {B:Nat}{w:World}{b off:Nat}{xs:List Nat}(h:Rd B w (some ⟨b,off,none⟩) xs) (k:Nat):Rd B w (some ⟨b,off+k,none⟩) (xs.drop k):=by
 intro hx;have hx':xs≠[]:=by intro e;subst e;simp at hx
 obtain ⟨b',off',hlt,e,hc⟩:=h hx'
 cases e
 refine ⟨b,off+k,hlt,rfl,fun i hi=>?_⟩;simp only [List.length_drop] at hi;rw [Nat.add_assoc,hc (k+i) (by omega)];simp [List.getD_eq_getElem?_getD]
theorem copy_words (w:World) (g dLen dCap:Nat) (ao:Option Addr) (sLen sCap B:Nat) (ty:TypeId)
 (L xs:List Nat) (hO:Own w g L) (hL:dLen≤L.length) (hx:sLen=xs.length) (hR:Rd B w ao xs) (hle:sLen≤dLen) :
 ∃ w',(Builtin.copy_ #[68,68] ty #[.slice (some ⟨g,0,none⟩) dLen dCap,.slice ao sLen sCap]).run Tryz.prog w=.ok (.int .i64 (sLen:Int)) w'∧Own w' g (xs++L.drop sLen)∧But g w w':=by
 subst hx;have hmin:Nat.min xs.length dLen=xs.length:=Nat.min_eq_left hle
 by_cases h0:xs=[]
 · subst h0;exact ⟨w,run_copy_none (P:=Tryz.prog) w 68 68 ty 81 _ _ _ _ _ _ Tryz.underlying68 (by kernel_rfl) (by simp at hmin ⊢),by simpa using hO,But.refl _ _⟩
 · obtain ⟨b,off,hlt,rfl,hc⟩:=hR h0;have hadd:∀ j,(⟨b,off,none⟩:Addr).add j=⟨b,off+j,none⟩:=by intro j;unfold Addr.add;split <;> simp_all
   have hrun:=run_copy_row (P:=Tryz.prog) w 68 68 ty 81 g 0 dLen dCap ⟨b,off,none⟩ xs.length sCap (L.map U).toArray 81 (xs.map U) Tryz.underlying68 (by kernel_rfl) hO (by rw [hmin];simp) (by
    intro j v hv;rw [hadd]
    have hj:j<xs.length:=by
     have:=(List.getElem?_eq_some_iff.1 hv).1;simpa using this
    rw [hc j hj];simp [hj,U] at hv
    simp [hj,←hv]) (by simp;omega) (by
    intro v hv;obtain ⟨n,_,rfl⟩:=List.mem_map.1 hv
    rfl)
   refine ⟨w.setRow g (((xs++L.drop xs.length).map U)).toArray,?_,setRow_heap w g _ _ 81 _ hO,⟨rfl,rfl,rfl,by simp [World.setRow],fun k _ hk=>setRow_other w g k _ hk⟩⟩;simpa [List.map_append,List.map_drop,goInt] using hrun
end
section
open Go.RowKit
theorem two_pow_rest (rest:Nat) (h:rest<32):2^rest*2^(32-rest)=4294967296:=by
 rw [←Nat.pow_add,show rest+(32-rest)=32 by omega]
theorem or_low (x y rest:Nat) (hr:rest<32) (hx:x<2^rest):x ||| (y*2^rest%4294967296)=x+y*2^rest%4294967296:=by
 have e:y*2^rest%4294967296=2^rest*(y%2^(32-rest)):=by
  rw [←two_pow_rest rest hr,Nat.mul_comm y,Nat.mul_mod_mul_left]
 rw [e,Nat.or_comm,←Nat.two_pow_add_eq_or_of_lt hx,Nat.add_comm]
theorem up_top (y rest:Nat) (hy:y<4294967296):y*2^rest/4294967296<2^rest:=by
 rw [Nat.div_lt_iff_lt_mul (by decide),Nat.mul_comm];exact Nat.mul_lt_mul_of_pos_left hy (Nat.two_pow_pos _)
theorem two_pow_lt (rest:Nat) (h:rest<32):2^rest≤2147483648:=by
 have:2^rest≤2^31:=Nat.pow_le_pow_right (by decide) (by omega);omega
theorem up_lt (y rest:Nat) (hy:y<4294967296) (hr:rest<32):y*2^rest<18446744073709551616:=by
 have h:=two_pow_lt rest hr;have:y*2^rest≤4294967295*2147483648:=Nat.mul_le_mul (by omega) h;omega
theorem wrap_u64n (n:Int) (h0:0≤n) (h1:n<18446744073709551616):IntKind.u64.wrap n=n:=by
 rw [IntKind.wrap_u64];omega
theorem pw_two (words rest:Nat):2^(32*words+rest)=pw words*2^rest:=by
 rw [Nat.pow_add,Nat.pow_mul];rfl
theorem up_step (p S x t q b s d y r:Nat) (hS:S+p*x=b*r) (ht:t=y*r) (hs:s=x+t%4294967296) (hd:d=t/4294967296):S+p*s+4294967296*p*d=(b+p*y)*r:=by
 have e:t%4294967296+4294967296*d=t:=by rw [hd];exact Nat.mod_add_div _ _
 have e2:p*s+4294967296*p*d=p*x+p*t:=by
  have:p*(s+4294967296*d)=p*(x+t):=by rw [hs];congr 1;omega
  grind
 have e3:(b+p*y)*r=b*r+p*t:=by rw [ht];grind
 omega
end
section
open Go.RowKit
theorem form_top (xs:List Nat) (hx:Wf xs) (k:Nat) (hk:nl xs=k+1):val xs=sg xs 0 k+pw k*xs.getD k 0∧sg xs 0 k<pw k∧xs.getD k 0≠0∧k<xs.length:=by
 have hl:=nl_le xs;have h1:=val_form xs hx;rw [hk,val_take_succ xs k (by omega),←sg_val_take] at h1;have h2:=nl_last xs (by omega);rw [hk,Nat.add_sub_cancel] at h2;exact ⟨h1.symm,sg_lt xs 0 k hx (by omega),h2,by omega⟩
theorem bl_words (xs:List Nat) (hx:Wf xs) (k:Nat) (hk:nl xs=k+1):bl (val xs)=32*k+bl (xs.getD k 0):=by
 obtain ⟨e,hlt,h0,hl⟩:=form_top xs hx k hk;obtain ⟨t,ht⟩:∃ t,xs.getD k 0=t:=⟨_,rfl⟩;rw [ht] at e h0 ⊢;obtain ⟨c,hc⟩:∃ c,bl t=c+1:=⟨bl t-1,by have:=bl_pos t h0;omega⟩;have h1:=bl_ge t h0;have h2:=bl_lt t;rw [hc] at h1 h2 ⊢;rw [Nat.add_sub_cancel] at h1;have p1:2^(32*k+c)=pw k*2^c:=pw_two k c;have p2:2^(32*k+c+1)=pw k*2^(c+1):=by rw [Nat.add_assoc,pw_two]
 have:=bl_eq (val xs) (32*k+c) (by
  rw [p1,e];have:=Nat.mul_le_mul_left (pw k) h1
  omega) (by
  rw [p2,e];have:pw k*(t+1)≤pw k*2^(c+1):=Nat.mul_le_mul_left (pw k) (by omega);rw [Nat.mul_add] at this
  omega)
 omega
theorem len_any (xs:List Nat) (ao:Option Addr) (n cap B:Nat) (w:World) (hn:n=xs.length) (hc:n≤cap) (hm:n≤70368744177664) (hx:Wf xs) (hR:Rd B w ao xs) :
 Calls Tryz.prog 104 #[.slice ao n cap] w fun r w'=>r=.returned (.int .i64 (bl (val xs):Nat))∧w'=w:=by
 have H:=hid (trim_any xs ao n cap B w hn hc (by omega) hR);have hl:=nl_le xs;rcases hk:nl xs with _|k
 · rw [(nl_zero_iff xs).1 hk,bl_zero];rw [hk] at H;clear hk hl hn hx hR;go_enter Tryz.func104,Tryz.ntmps104;go_wp2_with fail;refine H.out.mono ?_;rintro r w1 ⟨rfl,rfl⟩;go_wp2;go_ret;exact ⟨rfl,rfl⟩
 · rw [bl_words xs hx k hk];rw [hk] at H hl;obtain ⟨e,hlt,h0,hl2⟩:=form_top xs hx k hk;obtain ⟨b,off,hB,rfl,hcell⟩:=hR (by intro e;subst e;simp at hl);have hck:=hcell k hl2;obtain ⟨t,ht⟩:∃ t,xs.getD k 0=t:=⟨_,rfl⟩;have htl:t<4294967296:=ht ▸ hx.get k;rw [ht] at hck ⊢;have H2:=hid (len32_any t w htl);have hb:=bl_le32 t htl;obtain ⟨c,hc'⟩:∃ c,bl t=c:=⟨_,rfl⟩;rw [hc'] at H2 hb ⊢;have hkn:k<n:=by omega
   clear hk hl hn hx hR e hlt h0 hl2 hcell ht hc';go_enter Tryz.func104,Tryz.ntmps104;go_wp2_with fail;refine H.out.mono ?_;rintro r w1 ⟨rfl,rfl⟩;go_wp2_with fail;refine H2.out.mono ?_;rintro r w1 ⟨rfl,rfl⟩;go_wp2;go_ret;exact ⟨congrArg (fun z=>Ending.returned (Value.int IntKind.i64 z)) (by omega),rfl⟩
theorem of_any (x:Nat) (w:World) (hx:x<18446744073709551616) :
 Calls Tryz.prog 102 #[.int .u64 (x:Int)] w fun r w'=>∃ v,r=.returned v∧Nt w.heap.size w' v x∧Below w.heap.size w w':=by
 obtain ⟨a,ha⟩:∃ a,a=x%4294967296:=⟨_,rfl⟩;obtain ⟨b,hb⟩:∃ b,b=x/4294967296:=⟨_,rfl⟩;have e1:(x:Int)%4294967296=(a:Int):=by omega
 have e2:(x:Int)/4294967296=(b:Int):=by omega
 have hx2:(x:Int)<18446744073709551616:=by omega
 have hO:Own (w.alloc (.cells #[.int .u32 (a:Int),.int .u32 (b:Int)] 81)) w.heap.size [a,b]:=by
  unfold Own;rw [heap_alloc_new];rfl
 have hW:Wf [a,b]:=Wf.cons (by omega) (Wf.cons (by omega) Wf.nil);have hv:val [a,b]=x:=by simp only [val];omega
 have T:=hid (trim_any [a,b] (some ⟨w.heap.size,0,none⟩) 2 2 (w.heap.size+1) _ rfl (by omega) (by omega) (by simpa using Rd.ofOwn hO 0 2));have HH:=(qsd (ai hO (ai hW hv)));clear hO hW hv ha hb hx;go_enter Tryz.func102,Tryz.ntmps102;go_wp2_with fail;refine T.out.mono ?_;rintro r w1 ⟨rfl,rfl⟩;go_wp2;go_ret;obtain ⟨hO,hW,hv⟩:=HH.out;refine ⟨_,rfl,?_,(Below.refl _ _).alloc (Nat.le_refl _) _⟩;have N:=Nt.ofOwn (lo:=w.heap.size) hO (Nat.le_refl _) hW (by simp [maxLen]);rw [hv] at N;exact N
end
section
open Go.RowKit
theorem Nt.lt {lo:Nat}{w:World}{v:Value}{X:Nat}(h:Nt lo w v X):∀ g,v.ownBlock=some g→lo≤g∧g<w.heap.size:=fun g hg=>World.ownsRow.lt h g hg
end
section
open Go.RowKit
theorem up_any (xs:List Nat) (ao:Option Addr) (n cap B by' words rest:Nat) (w:World) (hn:n=xs.length) (hc:n≤cap) (hby:by'=32*words+rest) (hrest:rest<32) (hbig:words+n≤70368744177663)
 (hx:Wf xs) (hR:Rd B w ao xs) (hB:B≤w.heap.size) :
 Calls Tryz.prog 114 #[.slice ao n cap,.int .i64 (by':Nat)] w fun r w'=>∃ v,r=.returned v∧Nt w.heap.size w' v (val xs*2^by')∧Below w.heap.size w w':=by
 obtain ⟨W1,hW1⟩:∃ W,W=w.alloc (.cells (madeCells #[.int .u32 0] (words+n+1)) 81):=⟨_,rfl⟩;have hO1:Own W1 w.heap.size (List.replicate (words+n+1) 0):=by rw [hW1];exact Own.made w _
 have hB1:Below w.heap.size w W1:=by rw [hW1];exact (Below.refl _ _).alloc (Nat.le_refl _) _
 have hmk:=make_words ((words:Int)+n+1) (words+n+1) (by omega) (by omega) w;rw [←hW1] at hmk;have hR1:Rd B W1 ao xs:=hR.below (hB1.mono hB);have e1:(by':Int)/32=(words:Int):=by omega
 have e2:(by':Int)%32=(rest:Int):=by omega
 obtain ⟨g,hg⟩:∃ g,g=w.heap.size:=⟨_,rfl⟩;rw [←hg] at hO1 hmk hB1 hB;have HR:=(qsd (ai hR1 (ai hx (ai hn (ai hB1 (ai hg hby))))));have HO:=hid hO1;clear hn hx hR hO1 hB1 hW1 hR1 hg hby;go_enter Tryz.func114,Tryz.ntmps114;go_wp2
 go_loopg [23] n (fun gk i wr=>∃ (k:Nat) (M:List Nat),gk+k=n∧i=.int .i64 (k:Nat) ∧
  Hid (Own wr g M)∧Aside (Wf M∧M.length=words+n+1∧sg M 0 words=0∧M.getD (words+k) 0<2^rest∧sg M words (k+1)=sg xs 0 k*2^rest∧But g W1 wr))
 case atStart=>exact ⟨0,_,by omega,rfl,HO,Wf.zeros _,by simp,sg_zeros _ _ _,by rw [getD_zeros];exact Nat.two_pow_pos _,by rw [sg_zeros,sg_zero];simp,But.refl _ _⟩
 case round =>
  obtain ⟨k,M,hgk,rfl,HM,HA⟩:=hrel
  by_cases hk:k<n
  · obtain ⟨hR,hx,hn,hB1,hg,hby⟩:=HR.out;obtain ⟨hMw,hMl,hM0,hMt,hMs,hbut⟩:=HA.out;have hW1s:g≤W1.heap.size:=by have:=hB1.size;omega
    obtain ⟨b,boff,hbB,rfl,hbc⟩:=hR (by intro e;subst e;simp at hn;omega)
    have hbk:wr.cell? ⟨b,boff+k,none⟩=some (.int .u32 ((xs.getD k 0:Nat):Int)):=by
     have h1:=hbut.block b (World.block_lt_of_cell? W1 ⟨b,boff+k,none⟩ (hbc k (by omega))) (by omega);exact (World.cell?_of_block (a:=⟨b,boff+k,none⟩) h1).trans (hbc k (by omega))
    obtain ⟨y,hy⟩:∃ y:Nat,xs.getD k 0=y:=⟨_,rfl⟩;have hyl:y<4294967296:=hy ▸ hx.get _;rw [hy] at hbk;have hgc:=HM.out.cell (words+k) (by omega);have hgf:=HM.out.frozen (words+k);have hgf2:=HM.out.frozen (words+k+1);have hgc2:=HM.out.cell (words+k+1) (by omega);obtain ⟨x,hxx⟩:∃ x:Nat,M.getD (words+k) 0=x:=⟨_,rfl⟩;have hxl:x<4294967296:=hxx ▸ hMw.get _;rw [hxx] at hgc;obtain ⟨t,ht⟩:∃ t:Nat,t=y*2^rest:=⟨_,rfl⟩;have htl:t<18446744073709551616:=by rw [ht];exact up_lt y rest hyl hrest
    have e3:IntKind.u64.wrap ((y:Int)*2^rest)=(t:Int):=by
     have ec:(y:Int)*2^rest=(t:Int):=by rw [ht,Int.natCast_mul,Int.natCast_pow];rfl
     rw [ec];exact wrap_u64n _ (by omega) (by omega)
    obtain ⟨s,hs⟩:∃ s:Nat,s=x+t%4294967296:=⟨_,rfl⟩;obtain ⟨d,hd⟩:∃ d:Nat,d=t/4294967296:=⟨_,rfl⟩;have e4':x ||| (t%4294967296)=s:=by rw [hs,ht];exact or_low x y rest hrest (by rw [←hxx];exact hMt)
    have e4:bits BinOp.or IntKind.u32 (x:Int) ((t:Int)%4294967296)=(s:Int):=by
     have:=or32 x (t%4294967296) hxl (by omega);rw [e4'] at this;rw [←this];simp
    have e5:(t:Int)/4294967296=(d:Int):=by omega
    have htl':(t:Int)<18446744073709551616:=by omega
    have hsl:s<4294967296:=by rw [←e4'];exact Nat.or_lt_two_pow (n:=32) hxl (by omega)
    have HX:=(qsd (ai hy (ai hn (ai hxx (ai ht (ai hs (ai hd hsl)))))));clear hy hxx hR hx hn hB1 hg hMw hMl hM0 hMt hMs hbut hbc hW1s hby ht hs hd htl e4' hsl;go_wp2;go_roundg (gk-1)
    case measure=>omega
    case rel =>
     obtain ⟨hy,hn,hxx,ht,hs,hd,hsl⟩:=HX.out;obtain ⟨hMw,hMl,hM0,hMt,hMs,hbut⟩:=HA.out;have hdl:d<2^rest:=by rw [hd,ht];exact up_top y rest hyl
     have h2:=two_pow_lt rest hrest;refine ⟨k+1,(M.set (words+k) s).set (words+k+1) d,by omega,by go_num,(HM.out.set _ _).set _ _,(hMw.set _ _ hsl).set _ _ (by omega),by simp [hMl],?_,?_,?_,(hbut.set _ _).set _ _⟩
     · rw [sg_set_above _ _ _ _ _ (by omega) (by simp;omega),sg_set_above _ _ _ _ _ (by omega) (by omega)];exact hM0
     · rw [show words+(k+1)=words+k+1 by omega,getD_set_same _ _ _ (by simp;omega)];exact hdl
     · have e1:=sg_set_last (M.set (words+k) s) words (k+1) d (by simp;omega);rw [show words+(k+1)=words+k+1 by omega] at e1;rw [e1,sg_set_last _ _ _ _ (by omega),sg_succ xs 0 k (by omega),Nat.zero_add,hy,pw_succ];rw [sg_succ _ _ _ (by omega),hxx] at hMs;exact up_step (pw k) _ x t 0 _ s d y _ hMs ht hs hd
  · obtain rfl:k=n:=by omega
    obtain ⟨hMw,hMl,hM0,hMt,hMs,hbut⟩:=HA.out;have T:=hid (trim_any M (some ⟨g,0,none⟩) (words+k+1) (words+k+1) (g+1) wr hMl.symm (Nat.le_refl _) (by omega) (by simpa [hMl,List.take_of_length_le] using Rd.ofOwn HM.out 0 (words+k+1)));clear hMw hMl hM0 hMt hMs hbut;go_wp2_with fail;refine T.out.mono ?_;rintro r w1 ⟨rfl,rfl⟩;go_wp2;go_ret;obtain ⟨hR,hx,hn,hB1,hg,hby⟩:=HR.out;obtain ⟨hMw,hMl,hM0,hMt,hMs,hbut⟩:=HA.out;have e3:sg xs 0 k=val xs:=by rw [hn];exact sg_all xs
    have e4:val M=val xs*2^by':=by
     rw [←sg_all M,hMl,show words+k+1=words+(k+1) by omega,sg_add M 0 words (k+1) (by omega),hM0,Nat.zero_add,Nat.zero_add,hMs,e3,hby,pw_two]
     grind
    refine ⟨_,rfl,?_,?_⟩
    · have N:=Nt.ofOwn (lo:=g) HM.out (Nat.le_refl _) hMw (by rw [hMl];unfold maxLen;omega);rw [←e4,←hg];rw [hMl] at N;exact N
    · rw [←hg];exact But.below hB1 hbut (by have:=hB1.size;omega) (Nat.le_refl _)
end
section
open Go.RowKit
theorem or64_join2 (l x:Nat) (hl:l<4294967296) (hx:x<4294967296):bits BinOp.or IntKind.u64 (x:Int) ((l:Int)*4294967296)=((x+l*4294967296:Nat):Int):=by
 have e:((l:Int)*4294967296)=((l*4294967296:Nat):Int):=by simp only [Int.natCast_mul];rfl
 rw [e,bits_or_u64_nat _ _ (by omega) (by omega)];have:=Nat.two_pow_add_eq_or_of_lt (i:=32) (b:=x) (by omega) l;have e2:2^32*l=l*4294967296:=by rw [Nat.mul_comm]
 rw [e2] at this;rw [Nat.or_comm,←this,Nat.add_comm]
theorem down_word (L:List Nat) (i rest:Nat) (hL:Wf L) (hr:rest<32) (hi:i<L.length) :
 (val L/2^rest/pw i)%4294967296=((L.getD i 0+L.getD (i+1) 0*4294967296)/2^rest)%4294967296:=by
 have h1:val L/2^rest/pw i=val (L.drop i)/2^rest:=by
  rw [Nat.div_div_eq_div_mul,Nat.mul_comm,←Nat.div_div_eq_div_mul,val_take_drop L i (by omega)];have:=val_lt (L.take i) (hL.take i);rw [List.length_take,Nat.min_eq_left (by omega)] at this;rw [Nat.add_mul_div_left _ _ (pw_pos i),Nat.div_eq_of_lt this,Nat.zero_add]
 rw [h1,val_drop_succ L i hi]
 obtain ⟨R,hR⟩:∃ R,val (L.drop (i+1))=L.getD (i+1) 0+4294967296*R:=by
  by_cases h:i+1<L.length
  · exact ⟨_,val_drop_succ L (i+1) h⟩
  · refine ⟨0,?_⟩;rw [List.drop_of_length_le (by omega),List.getD_eq_getElem?_getD,List.getElem?_eq_none (by omega)];rfl
 rw [hR]
 have e:L.getD i 0+4294967296*(L.getD (i+1) 0+4294967296*R)=(L.getD i 0+L.getD (i+1) 0*4294967296)+2^rest*(4294967296*(2^(32-rest)*R)):=by
  have:=two_pow_rest rest hr;have:2^rest*(4294967296*(2^(32-rest)*R))=4294967296*(4294967296*R):=by rw [←this];grind
  rw [this];omega
 rw [e,Nat.add_mul_div_left _ _ (Nat.two_pow_pos _),Nat.add_mul_mod_self_left]
theorem low_step (V p:Nat) (hp:0<p):V%p+p*(V/p%4294967296)=V%(4294967296*p):=by
 rw [Nat.mul_comm 4294967296,Nat.mod_mul]
theorem down_any (xs:List Nat) (ao:Option Addr) (n cap B by' words rest:Nat) (w:World) (hn:n=xs.length) (hc:n≤cap) (hby:by'=32*words+rest) (hrest:rest<32) (hbig:n≤70368744177663) (hby2:by'≤9223372036854775807)
 (hx:Wf xs) (hR:Rd B w ao xs) (hB:B≤w.heap.size) :
 Calls Tryz.prog 113 #[.slice ao n cap,.int .i64 (by':Nat)] w fun r w'=>∃ v,r=.returned v∧Nt w.heap.size w' v (val xs/2^by')∧Below w.heap.size w w':=by
 have e1:(by':Int)/32=(words:Int):=by omega
 have e2:(by':Int)%32=(rest:Int):=by omega
 by_cases hw:n≤words
 · have hv:val xs/2^by'=0:=by
    have h1:=val_lt xs hx;rw [←hn] at h1
    have h2:pw n≤2^by':=by
     rw [hby,pw_two];have:=pw_mono hw;have:=Nat.mul_le_mul this (Nat.two_pow_pos rest);omega
    exact Nat.div_eq_of_lt (by omega)
   rw [hv];clear hv hn hx hR hby;go_enter Tryz.func113,Tryz.ntmps113;go_wp2;go_ret;exact ⟨_,rfl,Nt.nil _ _,Below.refl _ _⟩
 · have hwn:words<n:=by omega
   obtain ⟨b,boff,hbB,rfl,hbc⟩:=hR (by intro e;subst e;simp at hn;omega);obtain ⟨k0,hk0⟩:∃ k0,k0=n-words:=⟨_,rfl⟩;obtain ⟨W1,hW1⟩:∃ W,W=w.alloc (.cells (madeCells #[.int .u32 0] (n-words)) 81):=⟨_,rfl⟩;have hO1:Own W1 w.heap.size (List.replicate (n-words) 0):=by rw [hW1];exact Own.made w _
   have hB1:Below w.heap.size w W1:=by rw [hW1];exact (Below.refl _ _).alloc (Nat.le_refl _) _
   have hmk:=make_words ((n:Int)-words) (n-words) (by omega) (by omega) w;rw [←hW1] at hmk;obtain ⟨W2,hcp,hO2,hb2⟩:=copy_words W1 w.heap.size (n-words) (n-words) (some ⟨b,boff+words,none⟩) (n-words) (cap-words) B 3 (List.replicate (n-words) 0) (xs.drop words) hO1 (by simp) (by simp;omega) ((hR.below (hB1.mono hB)).drop words) (by omega);have ed:(List.replicate (n-words) 0).drop (n-words)=([]:List Nat):=by simp
   rw [ed,List.append_nil] at hO2;clear ed;have hB2:Below w.heap.size w W2:=But.below hB1 hb2 hB1.size (Nat.le_refl _);obtain ⟨g,hg⟩:∃ g,g=w.heap.size:=⟨_,rfl⟩;rw [←hg] at hO2 hmk hB2 hB hcp;obtain ⟨L,hL⟩:∃ L,L=xs.drop words:=⟨_,rfl⟩;have hLl:L.length=n-words:=by rw [hL];simp;omega
   have hLw:Wf L:=by rw [hL];exact hx.drop words
   rw [←hL] at hO2;have HR:=(qsd (ai hLw (ai hLl (ai hn (ai hB2 (ai hg (ai hby hL)))))));have hxw:=hid hx;have HO:=hid hO2;clear hn hx hR hO1 hB1 hW1 hg hby hO2 hB2 hL hLl hLw hb2 hbc hk0;go_enter Tryz.func113,Tryz.ntmps113;go_wp2
   go_loopg [30] (n-words) (fun gk i wr=>∃ (k:Nat) (M:List Nat),gk+k=n-words∧i=.int .i64 (k:Nat) ∧
    Hid (Own wr g M)∧Aside (Wf M∧M.length=n-words∧(∀ j,k≤j→M.getD j 0=L.getD j 0)∧sg M 0 k=val L/2^rest%pw k∧But g W2 wr))
   case atStart=>exact ⟨0,_,by omega,rfl,HO,HR.out.1,HR.out.2.1,fun _ _=>rfl,by rw [sg_zero,pw_zero,Nat.mod_one],But.refl _ _⟩
   case round =>
    obtain ⟨k,M,hgk,rfl,HM,HA⟩:=hrel
    by_cases hk:k<n-words
    · obtain ⟨hLw,hLl,hn,hB2,hg,hby,hL⟩:=HR.out;obtain ⟨hMw,hMl,hMr,hMs,hbut⟩:=HA.out;have hgc:=HM.out.cell k (by omega);have hgf:=HM.out.frozen k;obtain ⟨x,hxx⟩:∃ x:Nat,M.getD k 0=x:=⟨_,rfl⟩;have hxl:x<4294967296:=hxx ▸ hMw.get _;rw [hxx] at hgc
      by_cases hk1:k+1<n-words
      · have hgc1:=HM.out.cell (k+1) (by omega);obtain ⟨y,hyy⟩:∃ y:Nat,M.getD (k+1) 0=y:=⟨_,rfl⟩;have hyl:y<4294967296:=hyy ▸ hMw.get _;rw [hyy] at hgc1;obtain ⟨t,ht⟩:∃ t:Nat,t=x+y*4294967296:=⟨_,rfl⟩;have e3:bits BinOp.or IntKind.u64 (x:Int) ((y:Int)*4294967296)=(t:Int):=by rw [or64_join2 y x hyl hxl,ht]
        obtain ⟨s,hs⟩:∃ s:Nat,s=t/2^rest%4294967296:=⟨_,rfl⟩;have e4:(t:Int)/2^rest%4294967296=(s:Int):=by rw [hs];simp
        have hs2:s=(L.getD k 0+L.getD (k+1) 0*4294967296)/2^rest%4294967296:=by
         rw [hs,ht,←hxx,←hyy,hMr k (by omega),hMr (k+1) (by omega)]
        have hsl:s<4294967296:=by omega
        have HX:=(qsd (ai hs2 hsl));clear hxx hyy hLw hLl hn hB2 hg hby hL hMw hMl hMr hMs hbut hs hs2 hsl ht;go_wp2;go_roundg (gk-1)
        case measure=>omega
        case rel =>
         obtain ⟨hLw,hLl,hn,hB2,hg,hby,hL⟩:=HR.out;obtain ⟨hMw,hMl,hMr,hMs,hbut⟩:=HA.out;obtain ⟨hs,hsl⟩:=HX.out;refine ⟨k+1,M.set k s,by omega,by go_num,HM.out.set _ _,hMw.set _ _ hsl,by simp [hMl],fun j hj=>?_,?_,hbut.set _ _⟩
         · rw [getD_set_ne _ _ _ _ (by omega)];exact hMr j (by omega)
         · have e1:=sg_set_last M 0 k s (by omega);rw [Nat.zero_add] at e1;rw [e1,hMs,hs,←down_word L k rest hLw hrest (by omega),pw_succ];exact low_step _ _ (pw_pos k)
      · obtain ⟨s,hs⟩:∃ s:Nat,s=x/2^rest:=⟨_,rfl⟩;have e4:(x:Int)/2^rest=(s:Int):=by rw [hs];simp
        have hsx:s≤x:=by rw [hs];exact Nat.div_le_self _ _
        have hs2:s=(L.getD k 0+L.getD (k+1) 0*4294967296)/2^rest%4294967296:=by
         have:L.getD (k+1) 0=0:=by rw [List.getD_eq_getElem?_getD,List.getElem?_eq_none (by omega)];rfl
         rw [this,Nat.zero_mul,Nat.add_zero,←hMr k (by omega),hxx,←hs];omega
        have hsl:s<4294967296:=by omega
        have HX:=(qsd (ai hs2 hsl));have e5:(s:Int)%4294967296=(s:Int):=by omega
        clear hxx hLw hLl hn hB2 hg hby hL hMw hMl hMr hMs hbut hs hs2;go_wp2;go_roundg (gk-1)
        case measure=>omega
        case rel =>
         obtain ⟨hLw,hLl,hn,hB2,hg,hby,hL⟩:=HR.out;obtain ⟨hMw,hMl,hMr,hMs,hbut⟩:=HA.out;obtain ⟨hs,hsl⟩:=HX.out;refine ⟨k+1,M.set k s,by omega,by go_num,HM.out.set _ _,hMw.set _ _ hsl,by simp [hMl],fun j hj=>?_,?_,hbut.set _ _⟩
         · rw [getD_set_ne _ _ _ _ (by omega)];exact hMr j (by omega)
         · have e1:=sg_set_last M 0 k s (by omega);rw [Nat.zero_add] at e1;rw [e1,hMs,hs,←down_word L k rest hLw hrest (by omega),pw_succ];exact low_step _ _ (pw_pos k)
    · obtain rfl:k=n-words:=by omega
      obtain ⟨hMw,hMl,hMr,hMs,hbut⟩:=HA.out;have T:=hid (trim_any M (some ⟨g,0,none⟩) (n-words) (n-words) (g+1) wr hMl.symm (Nat.le_refl _) (by omega) (by simpa [hMl,List.take_of_length_le] using Rd.ofOwn HM.out 0 (n-words)));clear hMw hMl hMr hMs hbut;go_wp2_with fail;refine T.out.mono ?_;rintro r w1 ⟨rfl,rfl⟩;go_wp2;go_ret;obtain ⟨hLw,hLl,hn,hB2,hg,hby,hL⟩:=HR.out;obtain ⟨hMw,hMl,hMr,hMs,hbut⟩:=HA.out
      have e4:val M=val xs/2^by':=by
       have h1:val L<pw (n-words):=by rw [←hLl];exact val_lt L hLw
       have h2:val L/2^rest<pw (n-words):=Nat.lt_of_le_of_lt (Nat.div_le_self _ _) h1;rw [Nat.mod_eq_of_lt h2] at hMs;rw [←sg_all M,hMl,hMs,hby,pw_two,←Nat.div_div_eq_div_mul];congr 1;have h3:=val_take_drop xs words (by omega)
       have h4:val (xs.take words)<pw words:=by
        have:(xs.take words).length=words:=by rw [List.length_take];omega
        have h5:Wf xs:=hxw.out;have:=val_lt _ (h5.take words);rwa [‹(xs.take words).length=words›] at this
       rw [h3,Nat.add_mul_div_left _ _ (pw_pos words),Nat.div_eq_of_lt h4,Nat.zero_add,hL]
      refine ⟨_,rfl,?_,?_⟩
      · have N:=Nt.ofOwn (lo:=g) HM.out (Nat.le_refl _) hMw (by rw [hMl];unfold maxLen;omega);rw [←e4,←hg];rw [hMl] at N;exact N
      · rw [←hg];exact But.below hB2 hbut (by have:=hB2.size;omega) (Nat.le_refl _)
end
section
open Go.RowKit
theorem val_snoc0 (xs:List Nat):sg (xs++[0]) 0 xs.length=val xs:=by simp [sg]
theorem wf_snoc0 {xs:List Nat}(h:Wf xs):Wf (xs++[0]):=h.append (by intro x hx;simp at hx;omega)
theorem zeros_last (n:Nat):(List.replicate (n+1) 0).drop n=[0]:=by rw [List.drop_replicate,Nat.add_sub_cancel_left];rfl
theorem add_ge (xs ys:List Nat) (ao bo:Option Addr) (n cap m capb B:Nat) (w:World) (hn:n=xs.length) (hm:m=ys.length) (hnm:m≤n) (hc:n≤cap) (hcb:m≤capb) (hbig:n≤35184372088833)
 (hx:Wf xs) (hy:Wf ys) (hR:Rd B w ao xs) (hS:Rd B w bo ys) (hB:B≤w.heap.size) :
 Calls Tryz.prog 138 #[.slice ao n cap,.slice bo m capb] w fun r w'=>∃ v,r=.returned v∧Nt w.heap.size w' v (val xs+val ys)∧Below w.heap.size w w':=by
 obtain ⟨W1,hW1⟩:∃ W,W=w.alloc (.cells (madeCells #[.int .u32 0] (n+1)) 81):=⟨_,rfl⟩;have hO1:Own W1 w.heap.size (List.replicate (n+1) 0):=by rw [hW1];exact Own.made w (n+1)
 have hB1:Below w.heap.size w W1:=by rw [hW1];exact (Below.refl _ _).alloc (Nat.le_refl _) _
 obtain ⟨W2,hcp,hO2,hb2⟩:=copy_words W1 w.heap.size (n+1) (n+1) ao n cap B 3 (List.replicate (n+1) 0) xs hO1 (by simp) hn (hR.below (hB1.mono hB)) (by omega);rw [zeros_last] at hO2;have hB2:Below w.heap.size w W2:=But.below hB1 hb2 hB1.size (Nat.le_refl _);have H:=hid (addTo_any (xs++[0]) ys w.heap.size 0 n (n+1) bo m capb B W2 hO2 (by simp;omega) hm (by omega) (by omega) (by omega) (wf_snoc0 hx) hy (hS.below (hB2.mono hB)) hB);have hmk:=make_words ((n:Int)+1) (n+1) (by omega) (by omega) w;rw [←hW1] at hmk;have HH:=(qsd (ai hn (ai hm (ai hx (ai hB2 hB)))));clear hn hm hx hy hR hS hO1 hB1 hO2 hb2 hB2 hB hW1;go_enter Tryz.func138,Tryz.ntmps138;go_wp2_with fail;refine H.out.mono ?_;rintro r W3 ⟨M,c,rfl,hc1,hO3,hM,hout,hsum,hbut⟩;obtain ⟨hn,hm,hx,hB2,hB⟩:=HH.out;have hl:M.length=n+1:=by rw [hout.1];simp;omega
 have hcl:=hO3.cell n (by omega);have hfr:=hO3.frozen n;have hO4:=hO3.set n c;have T:=hid (trim_any (M.set n c) (some ⟨w.heap.size,0,none⟩) (n+1) (n+1) (w.heap.size+1) _ (by simp [hl]) (Nat.le_refl _) (by omega) (by simpa [hl,List.take_of_length_le] using Rd.ofOwn hO4 0 (n+1)));have HI:=(qsd (ai hc1 (ai hO4 (ai hM (ai hsum (ai hbut hl))))));clear hn hm hx hB2 hB hc1 hO3 hM hout hsum hbut hO4 H hl;go_wp2_with fail;refine T.out.mono ?_;rintro r w1 ⟨rfl,rfl⟩;go_wp2;go_ret;obtain ⟨hn,hm,hx,hB2,hB⟩:=HH.out;obtain ⟨hc1,hO4,hM,hsum,hbut,hl⟩:=HI.out
 have hv:val (M.set n c)=val xs+val ys:=by
  have e:val (M.set n c)=sg (M.set n c) 0 (n+1):=by rw [←sg_all];simp [hl]
  have e2:=sg_set_last M 0 n c (by omega);rw [Nat.zero_add] at e2;rw [e,e2];rw [hn,val_snoc0,←hn] at hsum;rw [Nat.mul_comm c] at hsum;exact hsum
 refine ⟨_,rfl,?_,But.below hB2 (hbut.set n _) hB2.size (Nat.le_refl _)⟩;have N:=Nt.ofOwn (lo:=w.heap.size) hO4 (Nat.le_refl _) (hM.set _ _ (by omega)) (by simp [hl];unfold maxLen;omega);rw [hv] at N;simpa [hl] using N
theorem add_lt (xs ys:List Nat) (ao bo:Option Addr) (n cap m capb B:Nat) (w:World) (hn:n=xs.length) (hm:m=ys.length) (hnm:m<n) (hc:n≤cap) (hcb:m≤capb) (hbig:n≤35184372088833)
 (hx:Wf xs) (hy:Wf ys) (hR:Rd B w ao xs) (hS:Rd B w bo ys) (hB:B≤w.heap.size) :
 Calls Tryz.prog 138 #[.slice bo m capb,.slice ao n cap] w fun r w'=>∃ v,r=.returned v∧Nt w.heap.size w' v (val xs+val ys)∧Below w.heap.size w w':=by
 obtain ⟨W1,hW1⟩:∃ W,W=w.alloc (.cells (madeCells #[.int .u32 0] (n+1)) 81):=⟨_,rfl⟩;have hO1:Own W1 w.heap.size (List.replicate (n+1) 0):=by rw [hW1];exact Own.made w (n+1)
 have hB1:Below w.heap.size w W1:=by rw [hW1];exact (Below.refl _ _).alloc (Nat.le_refl _) _
 obtain ⟨W2,hcp,hO2,hb2⟩:=copy_words W1 w.heap.size (n+1) (n+1) ao n cap B 3 (List.replicate (n+1) 0) xs hO1 (by simp) hn (hR.below (hB1.mono hB)) (by omega);rw [zeros_last] at hO2;have hB2:Below w.heap.size w W2:=But.below hB1 hb2 hB1.size (Nat.le_refl _);have H:=hid (addTo_any (xs++[0]) ys w.heap.size 0 n (n+1) bo m capb B W2 hO2 (by simp;omega) hm (by omega) (by omega) (by omega) (wf_snoc0 hx) hy (hS.below (hB2.mono hB)) hB);have hmk:=make_words ((n:Int)+1) (n+1) (by omega) (by omega) w;rw [←hW1] at hmk;have HH:=(qsd (ai hn (ai hm (ai hx (ai hB2 hB)))));clear hn hm hx hy hR hS hO1 hB1 hO2 hb2 hB2 hB hW1;go_enter Tryz.func138,Tryz.ntmps138;go_wp2_with fail;refine H.out.mono ?_;rintro r W3 ⟨M,c,rfl,hc1,hO3,hM,hout,hsum,hbut⟩;obtain ⟨hn,hm,hx,hB2,hB⟩:=HH.out;have hl:M.length=n+1:=by rw [hout.1];simp;omega
 have hcl:=hO3.cell n (by omega);have hfr:=hO3.frozen n;have hO4:=hO3.set n c;have T:=hid (trim_any (M.set n c) (some ⟨w.heap.size,0,none⟩) (n+1) (n+1) (w.heap.size+1) _ (by simp [hl]) (Nat.le_refl _) (by omega) (by simpa [hl,List.take_of_length_le] using Rd.ofOwn hO4 0 (n+1)));have HI:=(qsd (ai hc1 (ai hO4 (ai hM (ai hsum (ai hbut hl))))));clear hn hm hx hB2 hB hc1 hO3 hM hout hsum hbut hO4 H hl;go_wp2_with fail;refine T.out.mono ?_;rintro r w1 ⟨rfl,rfl⟩;go_wp2;go_ret;obtain ⟨hn,hm,hx,hB2,hB⟩:=HH.out;obtain ⟨hc1,hO4,hM,hsum,hbut,hl⟩:=HI.out
 have hv:val (M.set n c)=val xs+val ys:=by
  have e:val (M.set n c)=sg (M.set n c) 0 (n+1):=by rw [←sg_all];simp [hl]
  have e2:=sg_set_last M 0 n c (by omega);rw [Nat.zero_add] at e2;rw [e,e2];rw [hn,val_snoc0,←hn] at hsum;rw [Nat.mul_comm c] at hsum;exact hsum
 refine ⟨_,rfl,?_,But.below hB2 (hbut.set n _) hB2.size (Nat.le_refl _)⟩;have N:=Nt.ofOwn (lo:=w.heap.size) hO4 (Nat.le_refl _) (hM.set _ _ (by omega)) (by simp [hl];unfold maxLen;omega);rw [hv] at N;simpa [hl] using N
theorem add_any (xs ys:List Nat) (ao bo:Option Addr) (n cap m capb B:Nat) (w:World) (hn:n=xs.length) (hm:m=ys.length) (hc:n≤cap) (hcb:m≤capb) (hbig:n≤35184372088833) (hbig2:m≤35184372088833)
 (hx:Wf xs) (hy:Wf ys) (hR:Rd B w ao xs) (hS:Rd B w bo ys) (hB:B≤w.heap.size) :
 Calls Tryz.prog 138 #[.slice ao n cap,.slice bo m capb] w fun r w'=>∃ v,r=.returned v∧Nt w.heap.size w' v (val xs+val ys)∧Below w.heap.size w w':=by
 by_cases h:m≤n
 · exact add_ge xs ys ao bo n cap m capb B w hn hm h hc hcb hbig hx hy hR hS hB
 · have:=add_lt ys xs bo ao m capb n cap B w hm hn (by omega) hcb hc hbig2 hy hx hS hR hB;rw [Nat.add_comm] at this;exact this
end
section
open Go.RowKit
theorem ws_len_mono {X Y:Nat}(h:X≤Y):(ws X).length≤(ws Y).length:=(ws_len_le X _).2 (Nat.lt_of_le_of_lt h (ws_len_lt Y))
theorem ws_one:ws 1=[1]:=by rw [ws_pos 1 (by omega),show 1/4294967296=0 from rfl,ws_zero]
end
section
open Go.RowKit
theorem sub_any (xs bs:List Nat) (ao bo:Option Addr) (n cap m capb B:Nat) (w:World) (hn:n=xs.length) (hm:m=bs.length) (hmn:m≤n) (hc:n≤cap) (hcb:m≤capb) (hbig:n≤35184372088833)
 (hx:Wf xs) (hb:Wf bs) (hle:val bs≤val xs) (hR0:Rd B w ao xs) (hS:Rd B w bo bs) (hB:B≤w.heap.size) :
 Calls Tryz.prog 141 #[.slice ao n cap,.slice bo m capb] w fun r w'=>∃ v,r=.returned v∧Nt w.heap.size w' v (val xs-val bs)∧Below w.heap.size w w':=by
 obtain ⟨W1,hW1⟩:∃ W,W=w.alloc (.cells (madeCells #[.int .u32 0] n) 81):=⟨_,rfl⟩;have hO1:Own W1 w.heap.size (List.replicate n 0):=by rw [hW1];exact Own.made w n
 have hB1:Below w.heap.size w W1:=by rw [hW1];exact (Below.refl _ _).alloc (Nat.le_refl _) _
 obtain ⟨W2,hcp,hO2,hb2⟩:=copy_words W1 w.heap.size n n ao n cap B 3 (List.replicate n 0) xs hO1 (by simp) hn (hR0.below (hB1.mono hB)) (by omega);rw [List.drop_of_length_le (by simp),List.append_nil] at hO2;have hB2:Below w.heap.size w W2:=But.below hB1 hb2 hB1.size (Nat.le_refl _);have hmk:=make_words (n:Int) n rfl (by omega) w;rw [←hW1] at hmk;have hR:Rd B W2 bo bs:=hS.below (hB2.mono hB);obtain ⟨g,hg⟩:∃ g,g=w.heap.size:=⟨_,rfl⟩;rw [←hg] at hO2 hcp hmk hB2 hB;have HR:=(qsd (ai hR (ai hm (ai hb (ai hx (ai hn (ai hle (ai hB2 hg))))))));have HO:=hid hO2;have HA32:Hid (∀ x y c s d w,_→_→_→_→_→_):=sub32_nat;clear hn hm hx hb hR0 hS hO1 hB1 hO2 hb2 hB2 hW1 hle hR hg;go_enter Tryz.func141,Tryz.ntmps141;go_wp2
 go_loopg [6,18] m (fun gk c i wr=>∃ (k cv:Nat) (M:List Nat),gk+k=m∧c=.int .u32 (cv:Nat)∧cv≤1∧i=.int .i64 (k:Nat) ∧
  Hid (Own wr g M)∧Aside (Wf M∧Out xs M 0 k∧sg M 0 k+sg bs 0 k=sg xs 0 k+cv*pw k∧But g W2 wr))
 case atStart=>exact ⟨0,0,xs,by omega,rfl,by omega,rfl,HO,HR.out.2.2.2.1,Out.refl _ _ _,by simp [sg_zero],But.refl _ _⟩
 case round =>
  obtain ⟨k,cv,M,hgk,rfl,hcv,rfl,HM,HA⟩:=hrel
  by_cases hk:k<m
  · obtain ⟨hR,hm,hb,hx,hn,hle,hB2,hg⟩:=HR.out;obtain ⟨hMw,hMo,hMs,hbut⟩:=HA.out;obtain ⟨b,boff,hbB,rfl,hbc⟩:=hR (by intro e;subst e;simp at hm;omega)
    have hbk:wr.cell? ⟨b,boff+k,none⟩=some (.int .u32 ((bs.getD k 0:Nat):Int)):=by
     have h1:=hbut.block b (World.block_lt_of_cell? W2 ⟨b,boff+k,none⟩ (hbc k (by omega))) (by omega);exact (World.cell?_of_block (a:=⟨b,boff+k,none⟩) h1).trans (hbc k (by omega))
    have hgc:=HM.out.cell k (by rw [hMo.1];omega);have hgf:=HM.out.frozen k;obtain ⟨x,hxx⟩:∃ x:Nat,M.getD k 0=x:=⟨_,rfl⟩;obtain ⟨y,hy⟩:∃ y:Nat,bs.getD k 0=y:=⟨_,rfl⟩;have hxl:x<4294967296:=hxx ▸ hMw.get _;have hyl:y<4294967296:=hy ▸ hb.get _;rw [hxx] at hgc;rw [hy] at hbk;obtain ⟨s,hs⟩:∃ s:Nat,(s:Int)=((x:Int)-y-cv)%4294967296:=⟨(((x:Int)-y-cv)%4294967296).toNat,by omega⟩;obtain ⟨d,hd⟩:∃ d:Nat,d=if x<y+cv then 1 else 0:=⟨_,rfl⟩
    have HX:=(qsd (ai hxx (ai hy (ai hs hd))));clear hxx hy hs hd hR hm hb hx hn hle hB2 hg hMw hMo hMs hbut hbc;go_wp2_with fail;refine (HA32.out x y cv s d _ hxl hyl hcv HX.out.2.2.1 HX.out.2.2.2).mono ?_;rintro r w1 ⟨rfl,rfl⟩;go_wp2;go_roundg (gk-1)
    case measure=>omega
    case rel =>
     obtain ⟨hxx,hy,hs,hd⟩:=HX.out;obtain ⟨hR,hm,hb,hx,hn,hle,hB2,hg⟩:=HR.out;obtain ⟨hMw,hMo,hMs,hbut⟩:=HA.out;have hd1:d≤1:=by rw [hd];split <;> omega
     have hsum:s+y+cv=x+d*4294967296:=by rw [hd];split <;> omega
     refine ⟨k+1,d,M.set k s,by omega,rfl,hd1,by go_num,HM.out.set _ _,hMw.set _ _ (by omega),(hMo.mono (by omega)).set _ _ (by omega) (by omega),?_,hbut.set _ _⟩;have e1:=sg_set_last M 0 k s (by rw [hMo.1];omega);rw [Nat.zero_add] at e1;rw [e1,sg_succ xs 0 k (by omega),sg_succ bs 0 k (by omega),Nat.zero_add,hy,pw_succ];have e:xs.getD k 0=x:=by rw [←hxx];exact (hMo.2 _ (by omega)).symm
     rw [e];exact borrow_step _ _ _ _ _ _ _ _ _ hMs hsum
  · obtain rfl:k=m:=by omega
    have HA2:Aside (Wf M∧Out xs M 0 k∧sg M 0 k+val bs=sg xs 0 k+cv*pw k∧But g W2 wr):=by
     obtain ⟨hR,hm,hb,hx,hn,hle,hB2,hg⟩:=HR.out;obtain ⟨hMw,hMo,hMs,hbut⟩:=HA.out;refine ⟨hMw,hMo,?_,hbut⟩;rw [←hMs,hm,sg_all]
    clear HA hgk HO hk;go_wp2
    go_loopg [6,9] (n-k+1) (fun g2 c i w2=>∃ (j cv:Nat) (M:List Nat),g2+j=n+1∧k≤j∧j≤n∧c=.int .u32 (cv:Nat)∧cv≤1∧i=.int .i64 (j:Nat) ∧
     Hid (Own w2 g M)∧Aside (Wf M∧Out xs M 0 j∧sg M 0 j+val bs=sg xs 0 j+cv*pw j∧But g W2 w2))
    case atStart=>exact ⟨k,cv,M,by omega,Nat.le_refl _,hmn,rfl,hcv,rfl,HM,HA2.out⟩
    case round =>
     clear HM HA2 hcv;obtain ⟨j,cv,M,hgj,hkj,hjn,rfl,hcv,rfl,HM,HA⟩:=hrel
     by_cases h0:cv=0
     · subst h0;obtain ⟨hR,hm,hb,hx,hn,hle,hB2,hg⟩:=HR.out;obtain ⟨hMw,hMo,hMs,hbut⟩:=HA.out;have hl:M.length=n:=by rw [hMo.1,hn]
       have T:=hid (trim_any M (some ⟨g,0,none⟩) n n (g+1) wr hl.symm (Nat.le_refl _) (by omega) (by simpa [hl,List.take_of_length_le] using Rd.ofOwn HM.out 0 n));clear hR hm hb hx hn hle hB2 hg hMw hMo hMs hbut;go_wp2_with fail;refine T.out.mono ?_;rintro r w1 ⟨rfl,rfl⟩;go_wp2;go_ret;obtain ⟨hR,hm,hb,hx,hn,hle,hB2,hg⟩:=HR.out;obtain ⟨hMw,hMo,hMs,hbut⟩:=HA.out;rw [Nat.zero_mul,Nat.add_zero] at hMs;have hv:=seg_rest2 (n:=n) hjn (by omega) hMo hMs;have e1:sg M 0 n=val M:=by rw [←hl];exact sg_all M
       have e2:sg xs 0 n=val xs:=by rw [hn];exact sg_all xs
       rw [e1,e2] at hv;refine ⟨_,rfl,?_,?_⟩
       · have N:=Nt.ofOwn (lo:=g) HM.out (Nat.le_refl _) hMw (by rw [hl];unfold maxLen;omega);rw [show val xs-val bs=val M by omega,←hg];rw [hl] at N;exact N
       · rw [←hg];exact But.below hB2 hbut (by have:=hB2.size;omega) (Nat.le_refl _)
     · obtain rfl:cv=1:=by omega
       obtain ⟨hR,hm,hb,hx,hn,hle,hB2,hg⟩:=HR.out;obtain ⟨hMw,hMo,hMs,hbut⟩:=HA.out
       have hj:j<n:=by
        by_cases hj:j=n
        · exfalso;subst hj;have h1:=sg_lt M 0 j hMw (by rw [hMo.1];omega);have e2:sg xs 0 j=val xs:=by rw [hn];exact sg_all xs
          omega
        · omega
       have hgc:=HM.out.cell j (by rw [hMo.1];omega);have hgf:=HM.out.frozen j;obtain ⟨x,hxx⟩:∃ x:Nat,M.getD j 0=x:=⟨_,rfl⟩;have hxl:x<4294967296:=hxx ▸ hMw.get _;rw [hxx] at hgc;obtain ⟨s,hs⟩:∃ s:Nat,(s:Int)=((x:Int)-(0:Nat)-(1:Nat))%4294967296:=⟨(((x:Int)-(0:Nat)-(1:Nat))%4294967296).toNat,by omega⟩;obtain ⟨d,hd⟩:∃ d:Nat,d=if x<0+1 then 1 else 0:=⟨_,rfl⟩
       have HX:=(qsd (ai hxx (ai hs hd)));clear hxx hs hd hR hm hb hx hn hle hB2 hg hMw hMo hMs hbut h0;go_wp2_with fail;refine (HA32.out x 0 1 s d _ hxl (by omega) (by omega) HX.out.2.1 HX.out.2.2).mono ?_;rintro r w1 ⟨rfl,rfl⟩;go_wp2;go_roundg (gk-1)
       case measure=>omega
       case rel =>
        obtain ⟨hxx,hs,hd⟩:=HX.out;obtain ⟨hR,hm,hb,hx,hn,hle,hB2,hg⟩:=HR.out;obtain ⟨hMw,hMo,hMs,hbut⟩:=HA.out;have hd1:d≤1:=by rw [hd];split <;> omega
        have hsum:s+0+1=x+d*4294967296:=by rw [hd];split <;> omega
        refine ⟨j+1,d,M.set j s,by omega,by omega,by omega,rfl,hd1,by go_num,HM.out.set _ _,hMw.set _ _ (by omega),(hMo.mono (by omega)).set _ _ (by omega) (by omega),?_,hbut.set _ _⟩;have e1:=sg_set_last M 0 j s (by rw [hMo.1];omega);rw [Nat.zero_add] at e1;rw [e1,sg_succ xs 0 j (by omega),Nat.zero_add,pw_succ];have e:xs.getD j 0=x:=by rw [←hxx];exact (hMo.2 _ (by omega)).symm
        rw [e];have:=borrow_step (pw j) _ _ _ _ x 0 s d hMs hsum;omega
end
section
open Go.RowKit
theorem addTimes_any (L bs:List Nat) (g off n cap:Nat) (ao:Option Addr) (m capb B q:Nat) (w:World)
 (hO:Own w g L) (hoff:off+n≤L.length) (hm:m=bs.length) (hmn:m≤n) (hcap:n≤cap) (hbig:n≤4611686018427387904) (hL:Wf L) (hb:Wf bs) (hR:Rd B w ao bs) (hB:B≤g) (hq:q<4294967296) :
 Calls Tryz.prog 146 #[.slice (some ⟨g,off,none⟩) n cap,.slice ao m capb,.int .u32 (q:Nat)] w fun r w' =>
  ∃ M c,r=.returned (.int .u32 (c:Nat))∧c<4294967296∧Own w' g M∧Wf M∧Out L M off m∧sg M off m+c*pw m=sg L off m+val bs*q∧But g w w':=by
 have HR:Aside (Rd B w ao bs∧m=bs.length∧Wf bs∧Wf L∧off+n≤L.length):=⟨hR,hm,hb,hL,hoff⟩;have HO:Hid (Own w g L):=hO;clear hR hm hb hL hO hoff;go_enter Tryz.func146,Tryz.ntmps146;go_wp2
 go_loopg [7,13] m (fun gk c i wr=>∃ (k cv:Nat) (M:List Nat),gk+k=m∧c=.int .u64 (cv:Nat)∧cv<4294967296∧i=.int .i64 (k:Nat) ∧
  Hid (Own wr g M)∧Aside (Wf M∧Out L M off k∧sg M off k+cv*pw k=sg L off k+sg bs 0 k*q∧But g w wr))
 case atStart=>exact ⟨0,0,L,by omega,rfl,by omega,rfl,HO,HR.out.2.2.2.1,Out.refl _ _ _,by simp [sg_zero],But.refl _ _⟩
 case round =>
  obtain ⟨k,cv,M,hgk,rfl,hcv,rfl,HM,HA⟩:=hrel
  by_cases hk:k<m
  · obtain ⟨hR,hm,hb,hL,hoff⟩:=HR.out;obtain ⟨hMw,hMo,hMs,hbut⟩:=HA.out;obtain ⟨b,boff,hbB,rfl,hbc⟩:=hR (by intro e;subst e;simp at hm;omega)
    have hbk:wr.cell? ⟨b,boff+k,none⟩=some (.int .u32 ((bs.getD k 0:Nat):Int)):=by
     have h1:=hbut.block b (World.block_lt_of_cell? w ⟨b,boff+k,none⟩ (hbc k (by omega))) (by omega);exact (World.cell?_of_block (a:=⟨b,boff+k,none⟩) h1).trans (hbc k (by omega))
    have hgc:=HM.out.cell (off+k) (by rw [hMo.1];omega);have hgf:=HM.out.frozen (off+k);obtain ⟨x,hx⟩:∃ x:Nat,M.getD (off+k) 0=x:=⟨_,rfl⟩;obtain ⟨y,hy⟩:∃ y:Nat,bs.getD k 0=y:=⟨_,rfl⟩;have hxl:x<4294967296:=hx ▸ hMw.get _;have hyl:y<4294967296:=hy ▸ hb.get _;rw [hx] at hgc;rw [hy] at hbk;have hp0:=mul_bound y q hyl hq;have hp2:(y:Int)*(q:Int)≤18446744065119617025:=by rw [←Int.natCast_mul];omega
    have hp1:0≤(y:Int)*(q:Int):=by rw [←Int.natCast_mul];omega
    obtain ⟨s,hs⟩:∃ s:Nat,s=(y*q+x+cv)%4294967296:=⟨_,rfl⟩;obtain ⟨d,hd⟩:∃ d:Nat,d=(y*q+x+cv)/4294967296:=⟨_,rfl⟩;have e0:((y*q+x+cv:Nat):Int)=(y:Int)*q+x+cv:=by simp only [Int.natCast_add,Int.natCast_mul]
    have e1:((y:Int)*q+x+cv)%4294967296=(s:Int):=by rw [←e0];omega
    have e2:((y:Int)*q+x+cv)/4294967296=(d:Int):=by rw [←e0];omega
    have HX:Aside (M.getD (off+k) 0=x∧bs.getD k 0=y∧s+d*4294967296=y*q+x+cv∧s<4294967296∧d<4294967296):=⟨hx,hy,by omega,by omega,by omega⟩;clear hx hy hs hd hR hm hb hL hoff hMw hMo hMs hbut hbc e0 hp0;go_wp2;go_roundg (gk-1)
    case measure=>omega
    case rel =>
     obtain ⟨hx,hy,he,hs,hd⟩:=HX.out;obtain ⟨hR,hm,hb,hL,hoff⟩:=HR.out;obtain ⟨hMw,hMo,hMs,hbut⟩:=HA.out;refine ⟨k+1,d,M.set (off+k) s,by omega,rfl,hd,by go_num,HM.out.set _ _,hMw.set _ _ hs,(hMo.mono (by omega)).set _ _ (by omega) (by omega),?_,hbut.set _ _⟩;rw [sg_set_last _ _ _ _ (by rw [hMo.1];omega),sg_succ L off k (by omega),sg_succ bs 0 k (by omega),Nat.zero_add,hy,pw_succ];have e:L.getD (off+k) 0=x:=by rw [←hx];exact (hMo.2 _ (by omega)).symm
     rw [e];exact times_step _ _ _ _ _ _ _ _ _ _ hMs he
  · obtain rfl:k=m:=by omega
    go_wp2;go_ret;obtain ⟨hR,hm,hb,hL,hoff⟩:=HR.out;obtain ⟨hMw,hMo,hMs,hbut⟩:=HA.out;refine ⟨M,cv,rfl,hcv,HM.out,hMw,hMo,?_,hbut⟩;rw [hMs,hm,sg_all]
end
section
open Go.RowKit
theorem mul_step (p V b x r q c:Nat) (h:V+p*r=b*q):V+p*(r+q*x)=(b+p*x)*q:=by grind
theorem mul_any (xs bs:List Nat) (ao bo:Option Addr) (n cap m capb B:Nat) (w:World) (hn:n=xs.length) (hm:m=bs.length) (hc:n≤cap) (hcb:m≤capb) (hbig:n+m≤70368744177664)
 (hx:Wf xs) (hb:Wf bs) (hR:Rd B w ao xs) (hS:Rd B w bo bs) (hB:B≤w.heap.size) :
 Calls Tryz.prog 133 #[.slice ao n cap,.slice bo m capb] w fun r w'=>∃ v,r=.returned v∧Nt w.heap.size w' v (val xs*val bs)∧Below w.heap.size w w':=by
 obtain ⟨W1,hW1⟩:∃ W,W=w.alloc (.cells (madeCells #[.int .u32 0] (n+m)) 81):=⟨_,rfl⟩;have hO1:Own W1 w.heap.size (List.replicate (n+m) 0):=by rw [hW1];exact Own.made w (n+m)
 have hB1:Below w.heap.size w W1:=by rw [hW1];exact (Below.refl _ _).alloc (Nat.le_refl _) _
 have hmk:=make_words ((n:Int)+m) (n+m) (by omega) (by omega) w;rw [←hW1] at hmk;have hR1:Rd B W1 ao xs:=hR.below (hB1.mono hB);have hS1:Rd B W1 bo bs:=hS.below (hB1.mono hB);obtain ⟨g,hg⟩:∃ g,g=w.heap.size:=⟨_,rfl⟩;rw [←hg] at hO1 hmk hB1 hB;have HR:=(qsd (ai hR1 (ai hS1 (ai hm (ai hb (ai hx (ai hn (ai hB1 hg))))))));have HO:=hid hO1;clear hn hm hx hb hR hS hO1 hB1 hW1 hR1 hS1 hg;go_enter Tryz.func133,Tryz.ntmps133;go_wp2
 go_loopg [16] n (fun gk i wr=>∃ (k:Nat) (M:List Nat),gk+k=n∧i=.int .i64 (k:Nat) ∧
  Hid (Own wr g M)∧Aside (Wf M∧M.length=n+m∧sg M 0 (k+m)=sg xs 0 k*val bs∧But g W1 wr))
 case atStart=>exact ⟨0,_,by omega,rfl,HO,Wf.zeros _,by simp,by rw [sg_zeros,sg_zero];simp,But.refl _ _⟩
 case round =>
  obtain ⟨k,M,hgk,rfl,HM,HA⟩:=hrel
  by_cases hk:k<n
  · obtain ⟨hR,hS,hm,hb,hx,hn,hB1,hg⟩:=HR.out;obtain ⟨hMw,hMl,hMs,hbut⟩:=HA.out;have hW1s:g≤W1.heap.size:=by have:=hB1.size;omega
    obtain ⟨b,boff,hbB,rfl,hbc⟩:=hR (by intro e;subst e;simp at hn;omega)
    have hbk:wr.cell? ⟨b,boff+k,none⟩=some (.int .u32 ((xs.getD k 0:Nat):Int)):=by
     have h1:=hbut.block b (World.block_lt_of_cell? W1 ⟨b,boff+k,none⟩ (hbc k (by omega))) (by omega);exact (World.cell?_of_block (a:=⟨b,boff+k,none⟩) h1).trans (hbc k (by omega))
    obtain ⟨y,hy⟩:∃ y:Nat,xs.getD k 0=y:=⟨_,rfl⟩;have hyl:y<4294967296:=hy ▸ hx.get _;rw [hy] at hbk;have H:=hid (addTimes_any M bs g k m (n+m-k) bo m capb B y wr HM.out (by omega) hm (Nat.le_refl _) (by omega) (by omega) hMw hb (hS.but hbut (by omega) hB) hB hyl);have HX:=(qsd (ai hy hn));clear hy hR hS hm hb hx hn hB1 hg hMw hMl hMs hbut hbc hW1s;go_wp2_with fail;refine H.out.mono ?_;rintro r W3 ⟨M2,c,rfl,hc1,hO3,hM2,hout,hsum,hbut2⟩;obtain ⟨hMw,hMl,hMs,hbut⟩:=HA.out;have hgc:=hO3.cell (k+m) (by rw [hout.1];omega);have hgf:=hO3.frozen (k+m);have HI:=(qsd (ai hc1 (ai hO3 (ai hM2 (ai hout (ai hsum hbut2))))));clear hc1 hO3 hM2 hout hsum hbut2 hMw hMl hMs hbut H;go_wp2;go_roundg (gk-1)
    case measure=>omega
    case rel =>
     obtain ⟨hy,hn⟩:=HX.out;obtain ⟨hMw,hMl,hMs,hbut⟩:=HA.out;obtain ⟨hc1,hO3,hM2,hout,hsum,hbut2⟩:=HI.out;refine ⟨k+1,M2.set (k+m) c,by omega,by go_num,hO3.set _ _,hM2.set _ _ hc1,by simp [hout.1,hMl],?_,(hbut.trans hbut2).set _ _⟩;have e1:=sg_set_last M2 0 (k+m) c (by rw [hout.1];omega);rw [Nat.zero_add] at e1;have e2:=sg_add M2 0 k m (by rw [hout.1];omega);have e3:=sg_add M 0 k m (by omega);rw [Nat.zero_add] at e2 e3;have e4:=hout.below 0 k (by omega) (by omega);rw [show k+1+m=k+m+1 by omega,e1,e2,e4,sg_succ xs 0 k (by omega),Nat.zero_add,hy,pw_add];rw [e3] at hMs;rw [Nat.mul_comm c] at hsum;have:=mul_step (pw k) _ _ y _ _ c hMs;rw [←hsum] at this;rw [←this,Nat.mul_add,Nat.mul_assoc,Nat.add_assoc]
  · obtain rfl:k=n:=by omega
    obtain ⟨hMw,hMl,hMs,hbut⟩:=HA.out;have T:=hid (trim_any M (some ⟨g,0,none⟩) (k+m) (k+m) (g+1) wr hMl.symm (Nat.le_refl _) (by omega) (by simpa [hMl,List.take_of_length_le] using Rd.ofOwn HM.out 0 (k+m)));clear hMw hMl hMs hbut;go_wp2_with fail;refine T.out.mono ?_;rintro r w1 ⟨rfl,rfl⟩;go_wp2;go_ret;obtain ⟨hR,hS,hm,hb,hx,hn,hB1,hg⟩:=HR.out;obtain ⟨hMw,hMl,hMs,hbut⟩:=HA.out;have e1:sg M 0 (k+m)=val M:=by rw [←hMl];exact sg_all M
    have e2:sg xs 0 k=val xs:=by rw [hn];exact sg_all xs
    rw [e1,e2] at hMs;refine ⟨_,rfl,?_,?_⟩
    · have N:=Nt.ofOwn (lo:=g) HM.out (Nat.le_refl _) hMw (by rw [hMl];unfold maxLen;omega);rw [←hMs,←hg];rw [hMl] at N;exact N
    · rw [←hg];exact But.below hB1 hbut (by have:=hB1.size;omega) (Nat.le_refl _)
end
section
open Go.RowKit
theorem cmp_words (xs ys:List Nat) (hx:Wf xs) (hy:Wf ys) (j d:Nat) (h1:j+1+d≤xs.length) (h2:j+1+d≤ys.length) (ht:sg xs (j+1) d=sg ys (j+1) d) (hlt:xs.getD j 0<ys.getD j 0) :
 sg xs 0 (j+1+d)<sg ys 0 (j+1+d):=by
 rw [sg_add xs 0 (j+1) d (by omega),sg_add ys 0 (j+1) d (by omega),Nat.zero_add,ht,sg_succ xs 0 j (by omega),sg_succ ys 0 j (by omega),Nat.zero_add];have h3:=sg_lt xs 0 j hx (by omega);have h4:pw j*(xs.getD j 0+1)≤pw j*ys.getD j 0:=Nat.mul_le_mul_left _ hlt;rw [Nat.mul_add] at h4;omega
theorem cmp_len (xs ys:List Nat) (hx:Wf xs) (hy:Wf ys) (h:nl xs<nl ys):val xs<val ys:=by
 rw [nl_eq_length xs hx,nl_eq_length ys hy] at h;have h1:=ws_len_lt (val xs);have h2:val ys≠0:=by intro e;rw [e,ws_zero] at h;simp at h
 have h3:=ws_len_ge (val ys) h2;have h4:=pw_mono (show (ws (val xs)).length≤(ws (val ys)).length-1 by omega);omega
theorem cmpI_lt {x y:Nat}(h:x<y):cmpI x y=-1:=by simp [cmpI,h]
theorem cmpI_gt {x y:Nat}(h:y<x):cmpI x y=1:=by simp [cmpI,h];omega
theorem cmpI_eq {x y:Nat}(h:x=y):cmpI x y=0:=by simp [cmpI,h]
theorem cmpI_congr {a b x y:Nat}(h1:a<b↔x<y) (h2:b<a↔y<x):cmpI a b=cmpI x y:=by simp [cmpI,h1,h2]
theorem cmp_any (xs ys:List Nat) (ao bo:Option Addr) (n cap m capb B:Nat) (w:World) (hn:n=xs.length) (hm:m=ys.length) (hc:n≤cap) (hcb:m≤capb) (hbig:n≤70368744177664) (hbig2:m≤70368744177664)
 (hx:Wf xs) (hy:Wf ys) (hR:Rd B w ao xs) (hS:Rd B w bo ys) :
 Calls Tryz.prog 117 #[.slice ao n cap,.slice bo m capb] w fun r w'=>r=.returned (.int .i64 (cmpI (val xs) (val ys)))∧Below w.heap.size w w':=by
 have H1:=hid (trim_any xs ao n cap B w hn hc (by omega) hR);have H2:=hid (trim_any ys bo m capb B w hm hcb (by omega) hS);have hl1:=nl_le xs;have hl2:=nl_le ys;have f1:=val_form xs hx;have f2:=val_form ys hy;rw [←sg_val_take] at f1 f2
 by_cases he:nl xs=nl ys
 · obtain ⟨k0,hk0⟩:∃ k,nl ys=k:=⟨_,rfl⟩;rw [he] at H1 hl1 f1;rw [hk0] at H1 H2 hl1 hl2 f1 f2;have HR:=(qsd (ai hR (ai hS (ai hn (ai hm (ai hx (ai hy (ai hl1 (ai hl2 (ai f1 f2))))))))));have HC:Hid (∀ x y w,_):=compare_u;have hkn:k0≤n:=by omega
   have hkm:k0≤m:=by omega
   clear hR hS hn hm hx hy hl1 hl2 f1 f2 he hk0;go_enter Tryz.func117,Tryz.ntmps117;go_wp2_with fail;refine H1.out.mono ?_;rintro r w1 ⟨rfl,rfl⟩;go_wp2_with fail;refine H2.out.mono ?_;rintro r w1 ⟨rfl,rfl⟩;go_wp2
   go_loopg [5] k0 (fun k i wr=>k≤k0∧i=.int .i64 ((k:Int)-1)∧Hid (Below w1.heap.size w1 wr)∧Aside (sg xs k (k0-k)=sg ys k (k0-k)))
   case atStart=>exact ⟨Nat.le_refl _,rfl,Below.refl _ _,by rw [Nat.sub_self,sg_zero,sg_zero];exact rfl⟩
   case round =>
    obtain ⟨hk,rfl,HB,HA⟩:=hrel
    by_cases hk0:gk=0
    · subst hk0;go_wp2;go_ret;obtain ⟨hR,hS,hn,hm,hx,hy,hl1,hl2,f1,f2⟩:=HR.out;have h:=HA.out;rw [Nat.sub_zero,f1,f2] at h;rw [cmpI_eq h];exact ⟨rfl,HB.out⟩
    · obtain ⟨k,rfl⟩:∃ k,gk=k+1:=⟨gk-1,by omega⟩;obtain ⟨hR,hS,hn,hm,hx,hy,hl1,hl2,f1,f2⟩:=HR.out;obtain ⟨b,off,hB1,rfl,hc1⟩:=hR (by intro e;subst e;simp at hl1;omega);obtain ⟨b2,off2,hB2,rfl,hc2⟩:=hS (by intro e;subst e;simp at hl2;omega)
      have g1:wr.cell? ⟨b,off+k,none⟩=some (.int .u32 ((xs.getD k 0:Nat):Int)) :=
       (HB.out.cell (p:=⟨b,off+k,none⟩) (World.block_lt_of_cell? w1 ⟨b,off+k,none⟩ (hc1 k (by omega)))).trans (hc1 k (by omega))
      have g2:wr.cell? ⟨b2,off2+k,none⟩=some (.int .u32 ((ys.getD k 0:Nat):Int)) :=
       (HB.out.cell (p:=⟨b2,off2+k,none⟩) (World.block_lt_of_cell? w1 ⟨b2,off2+k,none⟩ (hc2 k (by omega)))).trans (hc2 k (by omega))
      obtain ⟨x,hxx⟩:∃ x:Nat,xs.getD k 0=x:=⟨_,rfl⟩;obtain ⟨y,hyy⟩:∃ y:Nat,ys.getD k 0=y:=⟨_,rfl⟩;rw [hxx] at g1;rw [hyy] at g2;have HX:=(qsd (ai hxx hyy));clear hR hS hn hm hx hy hl1 hl2 f1 f2 hc1 hc2 hxx hyy hk0
      by_cases hxy:x=y
      · subst hxy;go_wp2
        go_region
        all_goals (
         go_wp2;go_roundg k
         case measure=>omega
         case rel =>
          obtain ⟨hR,hS,hn,hm,hx,hy,hl1,hl2,f1,f2⟩:=HR.out;refine ⟨by omega,by first | go_num | (congr 1;omega),HB.out.drew,?_⟩;have h:=HA.out;obtain ⟨r,hr⟩:∃ r,k0-k=r+1:=⟨k0-(k+1),by omega⟩;rw [show k0-(k+1)=r by omega] at h
          rw [Aside,hr,sg_front xs k r (by omega),sg_front ys k r (by omega),h,HX.out.1,HX.out.2])
      · have hne:((x:Int)==(y:Int))=false:=by simp;omega
        have hki:(k:Int)<(k0:Int):=by omega
        have hki0:0≤(k:Int):=by omega
        have hki2:k<k0:=by omega
        go_wp2
        go_region
        all_goals (
         go_wp2
         go_region_with (go_at_call 140;refine (compare_u x y _).mono ?_;rintro r w2 ⟨rfl,rfl⟩))
        all_goals (
         go_wp2;go_ret;obtain ⟨hR,hS,hn,hm,hx,hy,hl1,hl2,f1,f2⟩:=HR.out;have h:=HA.out
         have e:cmpI (val xs) (val ys)=cmpI x y:=by
          rw [←f1,←f2];have hk2:k+1+(k0-(k+1))=k0:=by omega
          have t1:=cmp_words xs ys hx hy k (k0-(k+1)) (by omega) (by omega) h;have t2:=cmp_words ys xs hy hx k (k0-(k+1)) (by omega) (by omega) h.symm;rw [hk2,HX.out.1,HX.out.2] at t1 t2;apply cmpI_congr <;> omega
         rw [e]
         exact ⟨rfl,by first | exact HB.out.drew.drew | exact HB.out.drew | skip⟩)
 · have e:cmpI (val xs) (val ys)=cmpI (nl xs) (nl ys):=by
    rcases Nat.lt_or_gt_of_ne he with h|h
    · rw [cmpI_lt h,cmpI_lt (cmp_len xs ys hx hy h)]
    · rw [cmpI_gt h,cmpI_gt (cmp_len ys xs hy hx h)]
   rw [e];obtain ⟨k1,hk1⟩:∃ k,nl xs=k:=⟨_,rfl⟩;obtain ⟨k2,hk2⟩:∃ k,nl ys=k:=⟨_,rfl⟩;rw [hk1] at H1 he ⊢;rw [hk2] at H2 he ⊢;have hne:((k1:Int)==(k2:Int))=false:=by simp;omega
   have hne2:¬ (k1:Int)=(k2:Int):=by omega
   have H3:=hid (compare_i k1 k2 w);clear hR hS hn hm hx hy hl1 hl2 f1 f2 hk1 hk2 e he;go_enter Tryz.func117,Tryz.ntmps117;go_wp2_with fail;refine H1.out.mono ?_;rintro r w1 ⟨rfl,rfl⟩;go_wp2_with fail;refine H2.out.mono ?_;rintro r w1 ⟨rfl,rfl⟩;go_wp2_with fail;refine H3.out.mono ?_;rintro r w1 ⟨rfl,rfl⟩;go_wp2;go_ret;exact ⟨rfl,Below.refl _ _⟩
end
section
open Go.RowKit
abbrev LG (X:Nat):Prop:=8192<(ws X).length
def addS (X Y:Nat):Nat×Int:=if LG (X+Y) then (0,2) else (X+Y,0)
def subS (X Y:Nat):Nat×Int:=if LG X∨LG Y then (0,2) else if X<Y then (0,20) else (X-Y,0)
def mulS (X Y:Nat):Nat×Int:=if LG X∨LG Y then (0,2) else if LG (X*Y) then (0,2) else (X*Y,0)
def shiftS (X:Nat) (by':Int):Nat×Int:=if LG X then (0,2) else if X=0 then (0,0) else if by'<0 then (X/2^(-by').toNat,0) else if 262144-(bl X:Int)<by' then (0,2) else (X*2^by'.toNat,0)
def One (lo:Nat) (w:World) (r:Ending) (a:Nat×Int):Prop:=∃ v,r=.returned (.tuple #[v,.int .i64 a.2])∧Nt lo w v a.1
theorem trimX (xs:List Nat) (ao:Option Addr) (n cap B:Nat) (w:World) (hn:n=xs.length) (hc:n≤cap) (hm:n≤70368744177664) (hx:Wf xs) (hR:Rd B w ao xs) :
 (Calls Tryz.prog 111 #[.slice ao n cap] w fun r w'=>r=.returned (.slice ao (ws (val xs)).length cap)∧w'=w)∧Rd B w ao (ws (val xs))∧(ws (val xs)).length≤n:=by
 have T:=trim_any xs ao n cap B w hn hc (by omega) hR;have hl:=nl_le xs;have hf:=form_eq xs hx;have hlen:=nl_eq_length xs hx;rw [hlen] at T hl hf;exact ⟨T,by rw [←hf];exact hR.take _,by omega⟩
theorem Add_any (xs ys:List Nat) (ao bo:Option Addr) (n cap m capb B:Nat) (w:World) (hn:n=xs.length) (hm:m=ys.length) (hc:n≤cap) (hcb:m≤capb) (hbig:n≤35184372088833) (hbig2:m≤35184372088833)
 (hx:Wf xs) (hy:Wf ys) (hR:Rd B w ao xs) (hS:Rd B w bo ys) (hB:B≤w.heap.size) :
 Calls Tryz.prog 116 #[.slice ao n cap,.slice bo m capb] w fun r w'=>One w.heap.size w' r (addS (val xs) (val ys))∧Below w.heap.size w w':=by
 obtain ⟨T1,hRX,hl1⟩:=trimX xs ao n cap B w hn hc (by omega) hx hR;obtain ⟨T2,hRY,hl2⟩:=trimX ys bo m capb B w hm hcb (by omega) hy hS;generalize val xs=X at *;generalize val ys=Y at *;have A0:=add_any (ws X) (ws Y) ao bo _ cap _ capb B w rfl rfl (by omega) (by omega) (by omega) (by omega) (wf_ws X) (wf_ws Y) hRX hRY hB;rw [val_ws,val_ws] at A0;have H1:=(hid T1);have H2:=(hid T2);have H3:=(hid A0);clear T1 T2 A0 hRX hRY hn hm hx hy hR hS hl1 hl2;go_enter Tryz.func116,Tryz.ntmps116;go_wp2_with fail;refine H1.out.mono ?_;rintro r w1 ⟨rfl,rfl⟩;go_wp2_with fail;refine H2.out.mono ?_;rintro r w1 ⟨rfl,rfl⟩;go_wp2_with fail;refine H3.out.mono ?_;rintro r w2 ⟨v,rfl,hN,hb⟩;obtain ⟨av,cv,rfl,hcv,hcm,hRv⟩:=hN.shape;have U0:=unlessLong_any (ws (X+Y)).length av cv w2;have HN:=(qsd (ai hN hb));clear H1 H2 H3 hN hb hRv
 by_cases hL:LG (X+Y)
 · rw [if_pos (show 8192<(ws (X+Y)).length from hL)] at U0;have U:=(hid U0);clear U0;go_wp2_with fail;refine U.out.mono ?_;rintro r w3 ⟨rfl,rfl⟩;go_wp2
   go_ret2
   rw [show addS X Y=(0,2) by simp [addS,hL]];exact ⟨⟨_,rfl,Nt.nil _ _⟩,HN.out.2⟩
 · rw [if_neg (show ¬ 8192<(ws (X+Y)).length from hL)] at U0;have U:=(hid U0);clear U0;go_wp2_with fail;refine U.out.mono ?_;rintro r w3 ⟨rfl,rfl⟩;go_wp2
   go_ret2
   rw [show addS X Y=(X+Y,0) by simp [addS,hL]];exact ⟨⟨_,rfl,HN.out.1⟩,HN.out.2⟩
theorem longb (n:Nat) (ao:Option Addr) (cap:Nat) (w:World) (b:Bool) (hb:decide (8192<n)=b) :
 Calls Tryz.prog 112 #[.slice ao n cap] w fun r w'=>r=.returned (.bool b)∧w'=w:=by
 have h:=long_any n ao cap w;have e:decide ((8192:Int)<(n:Int))=b:=by rw [←hb];simp only [decide_eq_decide];omega
 rw [e] at h;exact h
theorem Sub_any (xs ys:List Nat) (ao bo:Option Addr) (n cap m capb B:Nat) (w:World) (hn:n=xs.length) (hm:m=ys.length) (hc:n≤cap) (hcb:m≤capb) (hbig:n≤35184372088833) (hbig2:m≤35184372088833)
 (hx:Wf xs) (hy:Wf ys) (hR:Rd B w ao xs) (hS:Rd B w bo ys) (hB:B≤w.heap.size) :
 Calls Tryz.prog 118 #[.slice ao n cap,.slice bo m capb] w fun r w'=>One w.heap.size w' r (subS (val xs) (val ys))∧Below w.heap.size w w':=by
 obtain ⟨T1,hRX,hl1⟩:=trimX xs ao n cap B w hn hc (by omega) hx hR;obtain ⟨T2,hRY,hl2⟩:=trimX ys bo m capb B w hm hcb (by omega) hy hS;generalize val xs=X at *;generalize val ys=Y at *;have H1:=(hid T1);have H2:=(hid T2);have HR:=(qsd (ai hRX (ai hRY (ai hl1 hl2))));clear T1 T2 hRX hRY hn hm hx hy hR hS hl1 hl2
 by_cases hLX:LG X
 · have L:=hid (longb (ws X).length ao cap w true (by simpa [LG] using hLX));have e:subS X Y=(0,2):=by simp [subS,hLX]
   rw [e];clear e hLX HR;go_enter Tryz.func118,Tryz.ntmps118;go_wp2_with fail;refine H1.out.mono ?_;rintro r w1 ⟨rfl,rfl⟩;go_wp2_with fail;refine H2.out.mono ?_;rintro r w1 ⟨rfl,rfl⟩;go_wp2_with fail;refine L.out.mono ?_;rintro r w1 ⟨rfl,rfl⟩;go_wp2
   go_ret2
   exact ⟨⟨_,rfl,Nt.nil _ _⟩,Below.refl _ _⟩
 · have L:=hid (longb (ws X).length ao cap w false (by simpa [LG] using hLX))
   by_cases hLY:LG Y
   · have L2:=hid (longb (ws Y).length bo capb w true (by simpa [LG] using hLY));have e:subS X Y=(0,2):=by simp [subS,hLY]
     rw [e];clear e hLX hLY HR;go_enter Tryz.func118,Tryz.ntmps118;go_wp2_with fail;refine H1.out.mono ?_;rintro r w1 ⟨rfl,rfl⟩;go_wp2_with fail;refine H2.out.mono ?_;rintro r w1 ⟨rfl,rfl⟩;go_wp2_with fail;refine L.out.mono ?_;rintro r w1 ⟨rfl,rfl⟩;go_wp2_with fail;refine L2.out.mono ?_;rintro r w1 ⟨rfl,rfl⟩;go_wp2
     go_ret2
     exact ⟨⟨_,rfl,Nt.nil _ _⟩,Below.refl _ _⟩
   · have L2:=hid (longb (ws Y).length bo capb w false (by simpa [LG] using hLY));obtain ⟨hRX,hRY,hl1,hl2⟩:=HR.out;have C0:=cmp_any (ws X) (ws Y) ao bo _ cap _ capb B w rfl rfl (by omega) (by omega) (by omega) (by omega) (wf_ws X) (wf_ws Y) hRX hRY;rw [val_ws,val_ws] at C0
     by_cases hlt:X<Y
     · rw [cmpI_lt hlt] at C0;have C:=hid C0;have e:subS X Y=(0,20):=by simp [subS,hLX,hLY,hlt]
       rw [e];clear e hLX hLY HR C0 hlt hRX hRY hl1 hl2;go_enter Tryz.func118,Tryz.ntmps118;go_wp2_with fail;refine H1.out.mono ?_;rintro r w1 ⟨rfl,rfl⟩;go_wp2_with fail;refine H2.out.mono ?_;rintro r w1 ⟨rfl,rfl⟩;go_wp2_with fail;refine L.out.mono ?_;rintro r w1 ⟨rfl,rfl⟩;go_wp2_with fail;refine L2.out.mono ?_;rintro r w1 ⟨rfl,rfl⟩;go_wp2_with fail;refine C.out.mono ?_;rintro r w2 ⟨rfl,hb⟩;have HB:=(qsd hb);clear hb;go_wp2
       go_ret2
       exact ⟨⟨_,rfl,Nt.nil _ _⟩,HB.out⟩
     · have hc1:0≤cmpI X Y:=by unfold cmpI;rw [if_neg hlt];split <;> omega
       obtain ⟨cc,hcc⟩:∃ cc,cmpI X Y=cc:=⟨_,rfl⟩;rw [hcc] at C0 hc1;have C:=hid C0;have e:subS X Y=(X-Y,0):=by simp [subS,hLX,hLY,hlt]
       rw [e];have HL:=(qsd hlt);clear e hLX hLY C0 hlt hRX hRY hl1 hl2 hcc;go_enter Tryz.func118,Tryz.ntmps118;go_wp2_with fail;refine H1.out.mono ?_;rintro r w1 ⟨rfl,rfl⟩;go_wp2_with fail;refine H2.out.mono ?_;rintro r w1 ⟨rfl,rfl⟩;go_wp2_with fail;refine L.out.mono ?_;rintro r w1 ⟨rfl,rfl⟩;go_wp2_with fail;refine L2.out.mono ?_;rintro r w1 ⟨rfl,rfl⟩;go_wp2_with fail;refine C.out.mono ?_;rintro r w2 ⟨rfl,hb⟩;obtain ⟨hRX,hRY,hl1,hl2⟩:=HR.out;have hs:=hb.size;have S0:=sub_any (ws X) (ws Y) ao bo _ cap _ capb B w2 rfl rfl (ws_len_mono (by have:=HL.out;omega)) (by omega) (by omega) (by omega) (wf_ws X) (wf_ws Y) (by rw [val_ws,val_ws];have:=HL.out;omega) (hRX.below (hb.mono hB)) (hRY.below (hb.mono hB)) (by omega);rw [val_ws,val_ws] at S0;have S:=hid S0;have HB:=(qsd (ai hb hs));clear hb hRX hRY hl1 hl2 S0 hs C;go_wp2_with fail;refine S.out.mono ?_;rintro r w3 ⟨v,rfl,hN,hb2⟩;have HN:=(qsd (ai hN hb2));clear hN hb2 S;go_wp2
       go_ret2
       obtain ⟨hb,hs⟩:=HB.out;exact ⟨⟨_,rfl,HN.out.1.mono hs⟩,hb.trans (HN.out.2.mono hs)⟩
end
section
open Go.RowKit
theorem Mul_any (xs ys:List Nat) (ao bo:Option Addr) (n cap m capb B:Nat) (w:World) (hn:n=xs.length) (hm:m=ys.length) (hc:n≤cap) (hcb:m≤capb) (hbig:n≤35184372088833) (hbig2:m≤35184372088833)
 (hx:Wf xs) (hy:Wf ys) (hR:Rd B w ao xs) (hS:Rd B w bo ys) (hB:B≤w.heap.size) :
 Calls Tryz.prog 101 #[.slice ao n cap,.slice bo m capb] w fun r w'=>One w.heap.size w' r (mulS (val xs) (val ys))∧Below w.heap.size w w':=by
 obtain ⟨T1,hRX,hl1⟩:=trimX xs ao n cap B w hn hc (by omega) hx hR;obtain ⟨T2,hRY,hl2⟩:=trimX ys bo m capb B w hm hcb (by omega) hy hS;generalize val xs=X at *;generalize val ys=Y at *;have H1:=(hid T1);have H2:=(hid T2);have HR:=(qsd (ai hRX (ai hRY (ai hl1 hl2))));clear T1 T2 hRX hRY hn hm hx hy hR hS hl1 hl2
 by_cases hLX:LG X
 · have L:=hid (longb (ws X).length ao cap w true (by simpa [LG] using hLX));have e:mulS X Y=(0,2):=by simp [mulS,hLX]
   rw [e];clear e hLX HR;go_enter Tryz.func101,Tryz.ntmps101;go_wp2_with fail;refine H1.out.mono ?_;rintro r w1 ⟨rfl,rfl⟩;go_wp2_with fail;refine H2.out.mono ?_;rintro r w1 ⟨rfl,rfl⟩;go_wp2_with fail;refine L.out.mono ?_;rintro r w1 ⟨rfl,rfl⟩;go_wp2
   go_ret2
   exact ⟨⟨_,rfl,Nt.nil _ _⟩,Below.refl _ _⟩
 · have L:=hid (longb (ws X).length ao cap w false (by simpa [LG] using hLX))
   by_cases hLY:LG Y
   · have L2:=hid (longb (ws Y).length bo capb w true (by simpa [LG] using hLY));have e:mulS X Y=(0,2):=by simp [mulS,hLY]
     rw [e];clear e hLX hLY HR;go_enter Tryz.func101,Tryz.ntmps101;go_wp2_with fail;refine H1.out.mono ?_;rintro r w1 ⟨rfl,rfl⟩;go_wp2_with fail;refine H2.out.mono ?_;rintro r w1 ⟨rfl,rfl⟩;go_wp2_with fail;refine L.out.mono ?_;rintro r w1 ⟨rfl,rfl⟩;go_wp2_with fail;refine L2.out.mono ?_;rintro r w1 ⟨rfl,rfl⟩;go_wp2
     go_ret2
     exact ⟨⟨_,rfl,Nt.nil _ _⟩,Below.refl _ _⟩
   · have L2:=hid (longb (ws Y).length bo capb w false (by simpa [LG] using hLY));have hz1:(ws X).length=0→X=0:=(ws_len_zero X).1;have hz2:(ws Y).length=0→Y=0:=(ws_len_zero Y).1
     by_cases h1:(ws X).length=0
     · have e:mulS X Y=(0,0):=by
        have:=hz1 h1;subst this;unfold mulS;rw [if_neg (by simp [hLX,hLY]),Nat.zero_mul,if_neg hLX]
       rw [e];have hh:=hid h1;rw [h1] at H1 L;have h1b:((ws X).length:Int)=0:=by omega
       clear e hLX hLY HR hz1 hz2 h1 h1b hh;go_enter Tryz.func101,Tryz.ntmps101;go_wp2_with fail;refine H1.out.mono ?_;rintro r w1 ⟨rfl,rfl⟩;go_wp2_with fail;refine H2.out.mono ?_;rintro r w1 ⟨rfl,rfl⟩;go_wp2_with fail;refine L.out.mono ?_;rintro r w1 ⟨rfl,rfl⟩;go_wp2_with fail;refine L2.out.mono ?_;rintro r w1 ⟨rfl,rfl⟩;go_wp2
       go_ret2
       exact ⟨⟨_,rfl,Nt.nil _ _⟩,Below.refl _ _⟩
     · by_cases h2:(ws Y).length=0
       · have e:mulS X Y=(0,0):=by
          have:=hz2 h2;subst this;unfold mulS;rw [if_neg (by simp [hLX,hLY]),Nat.mul_zero,if_neg hLY]
         rw [e];rw [h2] at H2 L2;obtain ⟨k1,hk1⟩:∃ k,(ws X).length=k:=⟨_,rfl⟩;rw [hk1] at H1 L h1;have h1b:((k1:Int)==0)=false:=by simp;omega
         clear e hLX hLY HR hz1 hz2 h2 hk1;go_enter Tryz.func101,Tryz.ntmps101;go_wp2_with fail;refine H1.out.mono ?_;rintro r w1 ⟨rfl,rfl⟩;go_wp2_with fail;refine H2.out.mono ?_;rintro r w1 ⟨rfl,rfl⟩;go_wp2_with fail;refine L.out.mono ?_;rintro r w1 ⟨rfl,rfl⟩;go_wp2_with fail;refine L2.out.mono ?_;rintro r w1 ⟨rfl,rfl⟩;go_wp2
         go_ret2
         exact ⟨⟨_,rfl,Nt.nil _ _⟩,Below.refl _ _⟩
       · have hX0:X≠0:=fun e=>h1 ((ws_len_zero X).2 e);have hY0:Y≠0:=fun e=>h2 ((ws_len_zero Y).2 e)
         have hlow:pw ((ws X).length+(ws Y).length-2)≤X*Y:=by
          have a:=Nat.mul_le_mul (ws_len_ge X hX0) (ws_len_ge Y hY0);rw [←pw_add] at a;rw [show (ws X).length+(ws Y).length-2=(ws X).length-1+((ws Y).length-1) by omega];exact a
         obtain ⟨hRX,hRY,hl1,hl2⟩:=HR.out;have M0:=mul_any (ws X) (ws Y) ao bo _ cap _ capb B w rfl rfl (by omega) (by omega) (by unfold LG at hLX hLY;omega) (wf_ws X) (wf_ws Y) hRX hRY hB;rw [val_ws,val_ws] at M0;have hsmall1:(ws X).length≤8192:=by unfold LG at hLX;omega
         have hsmall2:(ws Y).length≤8192:=by unfold LG at hLY;omega
         obtain ⟨k1,hk1⟩:∃ k,(ws X).length=k:=⟨_,rfl⟩;obtain ⟨k2,hk2⟩:∃ k,(ws Y).length=k:=⟨_,rfl⟩;rw [hk1] at H1 L h1 M0 hlow hsmall1;rw [hk2] at H2 L2 h2 M0 hlow hsmall2;have h1b:((k1:Int)==0)=false:=by simp;omega
         have h2b:((k2:Int)==0)=false:=by simp;omega
         by_cases h3:8192<k1+k2-1
         · have hLG:LG (X*Y):=by
            unfold LG
            by_cases h4:(ws (X*Y)).length≤8192
            · have:=(ws_len_le _ _).1 h4;have:=pw_mono (show 8192≤k1+k2-2 by omega);omega
            · omega
           have e:mulS X Y=(0,2):=by simp [mulS,hLG]
           rw [e];have h3i:(8192:Int)<(k1:Int)+(k2:Int)-1:=by omega
           clear e hLX hLY HR hz1 hz2 hk1 hk2 hRX hRY hl1 hl2 M0 hX0 hY0 hlow hLG h3;go_enter Tryz.func101,Tryz.ntmps101;go_wp2_with fail;refine H1.out.mono ?_;rintro r w1 ⟨rfl,rfl⟩;go_wp2_with fail;refine H2.out.mono ?_;rintro r w1 ⟨rfl,rfl⟩;go_wp2_with fail;refine L.out.mono ?_;rintro r w1 ⟨rfl,rfl⟩;go_wp2_with fail;refine L2.out.mono ?_;rintro r w1 ⟨rfl,rfl⟩;go_wp2
           go_ret2
           exact ⟨⟨_,rfl,Nt.nil _ _⟩,Below.refl _ _⟩
         · have h3i:(k1:Int)+(k2:Int)-1≤8192:=by omega
           have h3b:decide ((8192:Int)<(k1:Int)+(k2:Int)-1)=false:=decide_eq_false (by omega);have M:=hid M0;have HL:=(qsd (ai hLX hLY));clear hLX hLY HR hz1 hz2 hk1 hk2 hRX hRY hl1 hl2 M0 hX0 hY0 hlow h3;go_enter Tryz.func101,Tryz.ntmps101;go_wp2_with fail;refine H1.out.mono ?_;rintro r w1 ⟨rfl,rfl⟩;go_wp2_with fail;refine H2.out.mono ?_;rintro r w1 ⟨rfl,rfl⟩;go_wp2_with fail;refine L.out.mono ?_;rintro r w1 ⟨rfl,rfl⟩;go_wp2_with fail;refine L2.out.mono ?_;rintro r w1 ⟨rfl,rfl⟩;go_wp2_with fail;refine M.out.mono ?_;rintro r w2 ⟨v,rfl,hN,hb⟩;obtain ⟨av,cv,rfl,hcv,hcm,hRv⟩:=hN.shape;have U0:=unlessLong_any (ws (X*Y)).length av cv w2;have HN:=(qsd (ai hN hb));clear M hN hb hRv
           by_cases hL:LG (X*Y)
           · rw [if_pos (show 8192<(ws (X*Y)).length from hL)] at U0;have U:=(hid U0);clear U0;go_wp2_with fail;refine U.out.mono ?_;rintro r w3 ⟨rfl,rfl⟩;go_wp2
             go_ret2
             rw [show mulS X Y=(0,2) by simp [mulS,hL]];exact ⟨⟨_,rfl,Nt.nil _ _⟩,HN.out.2⟩
           · rw [if_neg (show ¬ 8192<(ws (X*Y)).length from hL)] at U0;have U:=(hid U0);clear U0;go_wp2_with fail;refine U.out.mono ?_;rintro r w3 ⟨rfl,rfl⟩;go_wp2
             go_ret2
             rw [show mulS X Y=(X*Y,0) by simp [mulS,HL.out.1,HL.out.2,hL]];exact ⟨⟨_,rfl,HN.out.1⟩,HN.out.2⟩
end
section
open Go.RowKit
theorem bl_le_words (X k:Nat) (h:X<pw k):bl X≤32*k:=by
 by_cases h0:X=0
 · subst h0;rw [bl_zero];omega
 · have h1:=bl_ge X h0;have h3:pw k=2^(32*k):=by rw [←Nat.add_zero (32*k),pw_two];simp
   rw [h3] at h;have:=(Nat.pow_lt_pow_iff_right (a:=2) (by decide)).1 (Nat.lt_of_le_of_lt h1 h);omega
theorem bl_small (X:Nat) (h:¬ LG X):bl X≤262144 :=
 bl_le_words X 8192 ((ws_len_le X 8192).1 (by unfold LG at h;omega))
theorem Shift_any (xs:List Nat) (ao:Option Addr) (n cap B:Nat) (by':Int) (w:World) (hn:n=xs.length) (hc:n≤cap) (hbig:n≤35184372088833)
 (hx:Wf xs) (hR:Rd B w ao xs) (hB:B≤w.heap.size) (hb0:-9223372036854775808≤by') (hb1:by'≤9223372036854775807) :
 Calls Tryz.prog 83 #[.slice ao n cap,.int .i64 by'] w fun r w'=>One w.heap.size w' r (shiftS (val xs) by')∧Below w.heap.size w w':=by
 obtain ⟨T1,hRX,hl1⟩:=trimX xs ao n cap B w hn hc (by omega) hx hR;generalize val xs=X at *;have N0:=len_any (ws X) ao _ cap B w rfl (by omega) (by omega) (wf_ws X) hRX;rw [val_ws] at N0;have H1:=(hid T1);have H2:=(hid N0);have HR:=(qsd (ai hRX hl1));clear T1 N0 hRX hn hx hR hl1
 by_cases hLX:LG X
 · have L:=hid (longb (ws X).length ao cap w true (by simpa [LG] using hLX));have e:shiftS X by'=(0,2):=by simp [shiftS,hLX]
   rw [e];clear e hLX HR;generalize bl X=c at *;go_enter Tryz.func83,Tryz.ntmps83;go_wp2_with fail;refine H1.out.mono ?_;rintro r w1 ⟨rfl,rfl⟩;go_wp2_with fail;refine H2.out.mono ?_;rintro r w1 ⟨rfl,rfl⟩;go_wp2_with fail;refine L.out.mono ?_;rintro r w1 ⟨rfl,rfl⟩;go_wp2
   go_ret2
   exact ⟨⟨_,rfl,Nt.nil _ _⟩,Below.refl _ _⟩
 · have L:=hid (longb (ws X).length ao cap w false (by simpa [LG] using hLX));have hbs:=bl_small X hLX;obtain ⟨c,hcc⟩:∃ c,bl X=c:=⟨_,rfl⟩
   by_cases h0:X=0
   · have e:shiftS X by'=(0,0):=by unfold shiftS;rw [if_neg hLX,if_pos h0]
     rw [e];subst h0;rw [ws_zero] at H1 H2 L;rw [bl_zero] at H2;clear e hLX HR hbs hcc;go_enter Tryz.func83,Tryz.ntmps83;go_wp2_with fail;refine H1.out.mono ?_;rintro r w1 ⟨rfl,rfl⟩;go_wp2_with fail;refine H2.out.mono ?_;rintro r w1 ⟨rfl,rfl⟩;go_wp2_with fail;refine L.out.mono ?_;rintro r w1 ⟨rfl,rfl⟩;go_wp2
     go_ret2
     exact ⟨⟨_,rfl,Nt.nil _ _⟩,Below.refl _ _⟩
   · have hcp:=bl_pos X h0;have hlt:=bl_lt X;rw [hcc] at hcp hbs H2 hlt;have hcne:((c:Int)==0)=false:=by simp;omega
     by_cases hneg:by'<0
     · obtain ⟨d,hd⟩:∃ d:Nat,(d:Int)=-by':=⟨(-by').toNat,by omega⟩
       have e:shiftS X by'=(X/2^d,0):=by
        unfold shiftS;rw [if_neg hLX,if_neg h0,if_pos hneg,←hd,Int.toNat_natCast]
       rw [e]
       by_cases hbig2:by'≤-(c:Int)
       · have e2:X/2^d=0:=Nat.div_eq_of_lt (Nat.lt_of_lt_of_le hlt (Nat.pow_le_pow_right (by decide) (by omega)));rw [e2];clear e e2 hLX HR hcc hlt hd h0;go_enter Tryz.func83,Tryz.ntmps83;go_wp2_with fail;refine H1.out.mono ?_;rintro r w1 ⟨rfl,rfl⟩;go_wp2_with fail;refine H2.out.mono ?_;rintro r w1 ⟨rfl,rfl⟩;go_wp2_with fail;refine L.out.mono ?_;rintro r w1 ⟨rfl,rfl⟩;go_wp2
         go_ret2
         exact ⟨⟨_,rfl,Nt.nil _ _⟩,Below.refl _ _⟩
       · obtain ⟨hRX,hl1⟩:=HR.out;have D0:=down_any (ws X) ao _ cap B d (d/32) (d%32) w rfl (by omega) (by omega) (by omega) (by omega) (by omega) (wf_ws X) hRX hB;rw [val_ws] at D0;have D:=hid D0;have hgt:-(c:Int)<by':=by omega
         have hd':-by'=(d:Int):=hd.symm
         clear e hLX HR hcc hlt h0 hRX hl1 D0 hbig2 hd;go_enter Tryz.func83,Tryz.ntmps83;go_wp2_with fail;refine H1.out.mono ?_;rintro r w1 ⟨rfl,rfl⟩;go_wp2_with fail;refine H2.out.mono ?_;rintro r w1 ⟨rfl,rfl⟩;go_wp2_with fail;refine L.out.mono ?_;rintro r w1 ⟨rfl,rfl⟩;go_wp2_with fail
         try rw [hd']
         refine D.out.mono ?_;rintro r w2 ⟨v,rfl,hN,hb⟩;have HN:=(qsd (ai hN hb));clear hN hb D;go_wp2
         go_ret2
         exact ⟨⟨_,rfl,HN.out.1⟩,HN.out.2⟩
     · obtain ⟨d,rfl⟩:∃ d:Nat,by'=(d:Int):=⟨by'.toNat,by omega⟩
       by_cases hover:262144-(c:Int)<(d:Int)
       · have e:shiftS X (d:Int)=(0,2):=by unfold shiftS;rw [if_neg hLX,if_neg h0,if_neg hneg,hcc,if_pos hover]
         rw [e];clear e hLX HR hcc hlt h0 hneg;go_enter Tryz.func83,Tryz.ntmps83;go_wp2_with fail;refine H1.out.mono ?_;rintro r w1 ⟨rfl,rfl⟩;go_wp2_with fail;refine H2.out.mono ?_;rintro r w1 ⟨rfl,rfl⟩;go_wp2_with fail;refine L.out.mono ?_;rintro r w1 ⟨rfl,rfl⟩;go_wp2
         go_ret2
         exact ⟨⟨_,rfl,Nt.nil _ _⟩,Below.refl _ _⟩
       · have e:shiftS X (d:Int)=(X*2^d,0):=by unfold shiftS;rw [if_neg hLX,if_neg h0,if_neg hneg,hcc,if_neg hover,Int.toNat_natCast]
         rw [e];obtain ⟨hRX,hl1⟩:=HR.out;have D0:=up_any (ws X) ao _ cap B d (d/32) (d%32) w rfl (by omega) (by omega) (by omega) (by unfold LG at hLX;omega) (wf_ws X) hRX hB;rw [val_ws] at D0;have D:=hid D0;have hle:(d:Int)≤262144-(c:Int):=by omega
         have hleb:decide (262144-(c:Int)<(d:Int))=false:=decide_eq_false (by omega);clear e hLX HR hcc hlt h0 hRX hl1 D0 hover hneg;go_enter Tryz.func83,Tryz.ntmps83;go_wp2_with fail;refine H1.out.mono ?_;rintro r w1 ⟨rfl,rfl⟩;go_wp2_with fail;refine H2.out.mono ?_;rintro r w1 ⟨rfl,rfl⟩;go_wp2_with fail;refine L.out.mono ?_;rintro r w1 ⟨rfl,rfl⟩;go_wp2_with fail;refine D.out.mono ?_;rintro r w2 ⟨v,rfl,hN,hb⟩;have HN:=(qsd (ai hN hb));clear hN hb D;go_wp2
         go_ret2
         exact ⟨⟨_,rfl,HN.out.1⟩,HN.out.2⟩
end
end Go.Proofs.YtepkabljmpbmaaaGreatDoor
