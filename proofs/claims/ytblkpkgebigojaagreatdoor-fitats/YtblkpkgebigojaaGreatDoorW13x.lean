import Derived.Test.YtblkpkgebigojaaGreatDoorM1x
import Derived.Lib.Strings
import Derived.Lib.Slices
import Derived.Lib.Small
import Derived.Lib.Walk
import Derived.Lib.BitFns
import Derived.Lib.Tables
import Derived.Lib.ItoaNum
import Derived.Lib.TrailingZeros
import Derived.Deep.OwnRows
import Derived.BigQuiet
set_option linter.unusedVariables false
set_option linter.unusedSimpArgs false
set_option maxHeartbeats 16000000
set_option maxRecDepth 20000
namespace Go.Proofs.YtblkpkgebigojaaGreatDoor
section
open Go.RowKit
def bl (n:Nat):Nat:=if n=0 then 0 else n.log2+1
theorem Zu:bl 0=0:=rfl
theorem Qo (n:Nat):n<2^bl n:=by
 unfold bl
 split
 · next h=>subst h;decide
 · exact Nat.lt_log2_self
theorem Qi (n:Nat) (h:n≠0):2^(bl n-1)≤n:=by
 unfold bl;rw [if_neg h];exact Nat.log2_self_le h
theorem Zv (n:Nat) (h:n≠0):0<bl n:=by unfold bl;rw [if_neg h];omega
theorem Zg8 (n k:Nat) (h1:2^k≤n) (h2:n<2^(k+1)):bl n=k+1:=by
 have hn:n≠0:=by have:=Nat.two_pow_pos k;omega
 have a:k<bl n:=(Nat.pow_lt_pow_iff_right (a:=2) (by decide)).1 (Nat.lt_of_le_of_lt h1 (Qo n))
 have b:bl n-1<k+1:=(Nat.pow_lt_pow_iff_right (a:=2) (by decide)).1 (Nat.lt_of_le_of_lt (Qi n hn) h2)
 omega
theorem Zl1 (x:Nat) (h:x<18446744073709551616):Lib.bitLen x=bl x:=by
 by_cases h0:x=0
 · subst h0;decide
 · obtain ⟨h1,h2,h3⟩:=Lib.bitLenAux_bounds 64 x h h0
   obtain ⟨k,hk⟩:∃ k,Lib.bitLen x=k+1:=⟨Lib.bitLen x-1,by unfold Lib.bitLen;omega⟩
   have hk':Lib.bitLenAux 64 x=k+1:=hk;rw [hk'] at h2 h3;rw [hk,Zg8 x k h2 h3]
theorem Zu0 (n:Nat) (h:n<Lib.len8tab.size):(Lib.len8tab[n]'h).toNat=Lib.bitLen n:=by
 have hn:n<256:=by rw [Lib.len8tab_size] at h;exact h
 have e:=Lib.len8_eq ⟨n,hn⟩;simp only [Lib.len8,Int.toNat_natCast] at e;rw [getElem?_pos Lib.len8tab n h] at e;exact Int.natCast_inj.1 (by simpa using e)
theorem Zey (x i:Int) (c:Nat) (hc:c≤56) (hi:i<256) (hs:Lib.bitLen x.toNat=c+Lib.bitLen i.toNat) (hh:i.toNat<Lib.len8tab.size) (hi0:0≤i) :
 wrap64 ((c:Int)+wrap64 ((Lib.len8tab[i.toNat]'hh).toNat:Int))=(Lib.bitLen x.toNat:Int):=by
 have l:=Lib.bitLen_le8 ⟨i.toNat,by omega⟩
 simp only at l;rw [Zu0,hs];unfold wrap64;omega
theorem Zn2 (x:Int) (hi:x<256) (hi0:0≤x) (hh:x.toNat<Lib.len8tab.size) :
 wrap64 (wrap64 ((Lib.len8tab[x.toNat]'hh).toNat:Int))=(Lib.bitLen x.toNat:Int):=by
 have l:=Lib.bitLen_le8 ⟨x.toNat,by omega⟩
 simp only at l;rw [Zu0];unfold wrap64;omega
set_option maxRecDepth 100000 in
theorem Zl2 (x:Int) (w:World) (h0:0≤x) (h1:x≤4294967295) :
 Calls Tryz.prog 143 #[.int .u32 x] w fun e w'=>e=.returned (.int .i64 (Lib.bitLen x.toNat))∧w'=w:=by
 have hsz:Lib.len8tab.size=256:=Lib.len8tab_size;go_enter Tryz.func143,Tryz.ntmps143;go_wp2
 all_goals (go_ret;refine ⟨congrArg (fun z=>Ending.returned (Value.int IntKind.i64 z)) ?_,rfl⟩)
 · exact Zey x (x/65536/256) 24 (by omega) (by omega) (by rw [Lib.bitLen_shift24 x.toNat (by omega) (by omega),show (x/65536/256).toNat=x.toNat/16777216 by omega]) (by omega) (by omega)
 · exact Zey x (x/65536) 16 (by omega) (by omega) (by rw [Lib.bitLen_shift16 x.toNat (by omega) (by omega),show (x/65536).toNat=x.toNat/65536 by omega]) (by omega) (by omega)
 · exact Zey x (x/256) 8 (by omega) (by omega) (by rw [Lib.bitLen_shift8 x.toNat (by omega) (by omega),show (x/256).toNat=x.toNat/256 by omega]) (by omega) (by omega)
 · exact Zn2 x (by omega) (by omega) (by omega)
theorem Zdx (x:Nat) (w:World) (h:x<4294967296):Calls Tryz.prog 143 #[.int .u32 (x:Int)] w fun e w'=>e=.returned (.int .i64 (bl x:Nat))∧w'=w:=by
 have:=Zl2 x w (by omega) (by omega)
 rw [Int.toNat_natCast,Zl1 x (by omega)] at this
 exact this
theorem Zb4 (x:Nat) (h:x<4294967296):bl x≤32:=by
 by_cases h0:x=0
 · subst h0;decide
 · have:=Qi x h0
   have:2^(bl x-1)<2^32:=by omega
   have:=(Nat.pow_lt_pow_iff_right (a:=2) (by decide)).1 this
   omega
theorem Zic (x:Nat) (w:World) (h:x<4294967296):Calls Tryz.prog 237 #[.int .u32 (x:Int)] w fun e w'=>e=.returned (.int .i64 ((32-bl x:Nat):Int))∧w'=w:=by
 have H:=hid (Zdx x w h);have hb:=Zb4 x h;obtain ⟨k,hk⟩:∃ k,bl x=k:=⟨_,rfl⟩;rw [hk] at H hb ⊢;clear hk;obtain ⟨z,hz⟩:∃ z,z=32-k:=⟨_,rfl⟩;have e:(32:Int)-(k:Int)=(z:Int):=by omega
 rw [←hz];clear hz;go_enter Tryz.func237,Tryz.ntmps237
 go_wp2_with fail
 refine H.out.mono ?_;rintro r w1 ⟨rfl,rfl⟩;go_wp2;go_ret;exact ⟨by first | rfl | rw [e],rfl⟩
def Tab (w:World):Prop:=∀ j,j<32→w.cell? ⟨1,j,none⟩=some (.int .u8 (Lib.deBruijn32tab.getD j 0))
theorem Tab.below {B:Nat}{w w':World}(h:Tab w) (hb:Below B w w') (hB:1<B):Tab w':=fun j hj=>(hb.cell (p:=⟨1,j,none⟩) hB).trans (h j hj)
theorem Tab.pos {w:World}(h:Tab w):1<w.heap.size:=World.block_lt_of_cell? w ⟨1,0,none⟩ (h 0 (by decide))
theorem Tab.belows {w w':World}(h:Tab w) (hb:Below w.heap.size w w'):Tab w':=h.below hb h.pos
theorem Zq3 (x k idx:Nat) (w:World) (hx0:((x:Int)==0)=false)
 (key:bits BinOp.and IntKind.u32 (x:Int) (-(x:Int)%4294967296)*125613361%4294967296/134217728=(idx:Int))
 (hi:idx<32) (hk:k<32) (hcell:w.cell? ⟨1,idx,none⟩=some (.int .u8 k)) :
 Calls Tryz.prog 170 #[.int .u32 x] w fun e w'=>e=.returned (.int .i64 k)∧w'=w:=by
 go_enter Tryz.func170,Tryz.ntmps170
 go_wp2_with (simp only [key])
 go_ret;exact ⟨rfl,rfl⟩
theorem Zta (x a:Nat) (hx:x<4294967296) (hx0:x≠0) (hlow:x &&& (4294967296-x)=a) :
 bits BinOp.and IntKind.u32 (x:Int) (-(x:Int)%4294967296)*125613361%4294967296/134217728=((a*125613361%4294967296/134217728:Nat):Int):=by
 rw [show -(x:Int)%4294967296=((4294967296-x:Nat):Int) by omega,Zj5 x _ hx (by omega),hlow]
 omega
theorem Ztb (x:Nat) (hx:x<4294967296) (hx0:x≠0) (w:World) (hT:Tab w) :
 Calls Tryz.prog 170 #[.int .u32 (x:Int)] w fun e w'=>e=.returned (.int .i64 (Lib.ctz 32 x:Nat))∧w'=w:=by
 obtain ⟨hlow,hk⟩:=Lib.lowest_bit 32 x hx0 hx;obtain ⟨hi,htab⟩:=Lib.deBruijn32_at _ hk;have hcell:=hT _ hi;rw [htab] at hcell;exact Zq3 x _ _ w (by simp;omega) (Zta x _ hx hx0 hlow) hi hk hcell
def lo (n:Nat):Nat:=if h:n=0 then 0 else if n%2=1 then 0 else lo (n/2)+1
termination_by n
decreasing_by omega
theorem Zez:lo 0=0:=by rw [lo];simp
theorem Zo5 (m:Nat):lo (2*m+1)=0:=by rw [lo];simp
theorem Zj8 (i m:Nat):lo (2^i*(2*m+1))=i:=by
 induction i with
 | zero=>rw [Nat.pow_zero,Nat.one_mul];exact Zo5 m
 | succ i ih =>
   have h:2^(i+1)*(2*m+1)=2*(2^i*(2*m+1)):=by rw [Nat.pow_succ];grind
   have hp:0<2^i*(2*m+1):=Nat.mul_pos (Nat.two_pow_pos i) (by omega)
   rw [h,lo,dif_neg (by omega),if_neg (by omega),Nat.mul_div_cancel_left _ (by decide),ih]
theorem Zn3 (xs:List Nat) (k:Nat) (hx:Wf xs) (hk:k<xs.length) (h0:sg xs 0 k=0) (hw:xs.getD k 0≠0):lo (val xs)=32*k+Lib.ctz 32 (xs.getD k 0):=by
 have hl:=hx.get k;obtain ⟨m,hm,hc⟩:=Lib.ctzFrom_spec 32 (xs.getD k 0) (by omega) hl
 have hcz:Lib.ctz 32 (xs.getD k 0)=Lib.ctzFrom 32 (xs.getD k 0):=by simp only [Lib.ctz,if_neg hw]
 rw [hcz];obtain ⟨c,hc'⟩:∃ c,Lib.ctzFrom 32 (xs.getD k 0)=c:=⟨_,rfl⟩;rw [hc'] at hm hc ⊢;have e:=Zx xs k (by omega)
 rw [←Q0,h0,Nat.zero_add,Zp xs k hk,hm] at e
 have e2:4294967296=2^c*(2*2^(31-c)):=by
  rw [←Nat.mul_assoc,Nat.mul_comm (2^c) 2,Nat.mul_assoc,←Nat.pow_add,show c+(31-c)=31 by omega]
 have e3:val xs=2^(32*k+c)*(2*(m+2^(31-c)*val (xs.drop (k+1)))+1):=by
  rw [e,Nat.pow_add,Nat.pow_mul];have:(2^32:Nat)^k=pw k:=rfl;rw [this];have:4294967296*val (xs.drop (k+1))=2^c*(2*2^(31-c))*val (xs.drop (k+1)):=by rw [←e2]
  rw [this]
  grind
 rw [e3,Zj8]
theorem Zq4 (xs:List Nat) (ao:Option Addr) (n cap B:Nat) (w:World) (hn:n=xs.length) (hm:n≤70368744177664) (hx:Wf xs) (hR:Rd B w ao xs) (hT:Tab w) :
 Calls Tryz.prog 125 #[.slice ao n cap] w fun r w'=>r=.returned (.int .i64 (lo (val xs):Nat))∧w'=w:=by
 have HT:=(hid hT);have HR:=(qsd (ai hR (ai hn hx)));clear hR hn hx hT;go_enter Tryz.func125,Tryz.ntmps125;go_wp2
 go_loopg [7] n (fun gk i wr=>∃ k:Nat,gk+k=n∧i=.int .i64 (k:Nat)∧wr=w∧Aside (sg xs 0 k=0))
 case atStart=>exact ⟨0,by omega,rfl,rfl,Zy _ _⟩
 case round =>
  obtain ⟨k,hgk,rfl,rfl,HA⟩:=hrel
  by_cases hk:k<n
  · obtain ⟨hR,hn,hx⟩:=HR.out
    obtain ⟨b,boff,hbB,rfl,hbc⟩:=hR (by intro e;subst e;simp at hn;omega)
    have hbk:=hbc k (by omega)
    obtain ⟨x,hxx⟩:∃ x:Nat,xs.getD k 0=x:=⟨_,rfl⟩;have hxl:x<4294967296:=hxx ▸ hx.get _;rw [hxx] at hbk
    by_cases h0:x=0
    · subst h0
      have HX:=(qsd hxx);clear hxx hR hn hx hbc;go_wp2
      go_roundg (gk-1)
      case measure=>omega
      case rel =>
       obtain ⟨hR,hn,hx⟩:=HR.out;refine ⟨k+1,by omega,by go_num,rfl,?_⟩
       have h1:=HA.out;rw [Aside,Zi xs 0 k (by omega),Nat.zero_add,HX.out,h1]
       omega
    · have hz:=Zn3 xs k hx (by omega) HA.out (by rw [hxx];exact h0)
      rw [hxx] at hz;obtain ⟨hc,hc32⟩:=Lib.lowest_bit 32 x h0 hxl;have H:=hid (Ztb x hxl h0 wr HT.out);obtain ⟨c,hcc⟩:∃ c,Lib.ctz 32 x=c:=⟨_,rfl⟩;rw [hcc] at H hz hc32;have HZ:=(qsd hz);clear hxx hR hn hx hbc hc hz hcc
      go_wp2_with fail
      refine H.out.mono ?_;rintro r w1 ⟨rfl,rfl⟩;go_wp2;go_ret;rw [HZ.out];exact ⟨congrArg (fun z=>Ending.returned (Value.int IntKind.i64 z)) (by omega),rfl⟩
  · obtain rfl:k=n:=by omega
    obtain ⟨hR,hn,hx⟩:=HR.out;have h1:=HA.out;have h2:val xs=0:=by rw [←Zr,←hn];exact h1
    have H2:=(qsd h2);clear hR hn hx h1 h2 HA HR;go_wp2;go_ret;rw [H2.out,Zez];exact ⟨rfl,rfl⟩
theorem Zt (z:Int) (n:Nat) (hz:z=(n:Int)) (hn:n≤70368744177664) (w:World) :
 (Instr.makeSlice 60 (.int .i64 z) (.int .i64 z)).run Tryz.prog w=.ok (.slice (some ⟨w.heap.size,0,none⟩) n n) (w.alloc (.cells (madeCells #[.int .u32 0] n) 147)):=by
 subst hz;exact run_make_row' 60 147 (.int .u32 0) 4 Tryz.underlying60 Tryz.info147 rfl .i64 .i64 n (by omega) (by omega) w
theorem Own.made (w:World) (n:Nat):Own (w.alloc (.cells (madeCells #[.int .u32 0] n) 147)) w.heap.size (List.replicate n 0):=by
 unfold Own;have h1:=heap_alloc_new w (.cells (madeCells #[.int .u32 0] n) 147);rw [h1]
 congr 2
 apply Array.toList_inj.1
 rw [toList_madeCells_one];simp [U]
theorem Rd.drop {B:Nat}{w:World}{b off:Nat}{xs:List Nat}(h:Rd B w (some ⟨b,off,none⟩) xs) (k:Nat):Rd B w (some ⟨b,off+k,none⟩) (xs.drop k):=by
 intro hx;have hx':xs≠[]:=by intro e;subst e;simp at hx
 obtain ⟨b',off',hlt,e,hc⟩:=h hx'
 cases e
 refine ⟨b,off+k,hlt,rfl,fun i hi=>?_⟩
 simp only [List.length_drop] at hi;rw [Nat.add_assoc,hc (k+i) (by omega)]
 simp [List.getD_eq_getElem?_getD]
theorem Qx (w:World) (g dLen dCap:Nat) (ao:Option Addr) (sLen sCap B:Nat) (ty:TypeId)
 (L xs:List Nat) (hO:Own w g L) (hL:dLen≤L.length) (hx:sLen=xs.length) (hR:Rd B w ao xs) (hle:sLen≤dLen) :
 ∃ w',(Builtin.copy_ #[60,60] ty #[.slice (some ⟨g,0,none⟩) dLen dCap,.slice ao sLen sCap]).run Tryz.prog w=.ok (.int .i64 (sLen:Int)) w'∧Own w' g (xs++L.drop sLen)∧But g w w':=by
 subst hx;have hmin:Nat.min xs.length dLen=xs.length:=Nat.min_eq_left hle
 by_cases h0:xs=[]
 · subst h0
   exact ⟨w,run_copy_none (P:=Tryz.prog) w 60 60 ty 147 _ _ _ _ _ _ Tryz.underlying60 (by kernel_rfl) (by simp at hmin ⊢),by simpa using hO,But.refl _ _⟩
 · obtain ⟨b,off,hlt,rfl,hc⟩:=hR h0
   have hadd:∀ j,(⟨b,off,none⟩:Addr).add j=⟨b,off+j,none⟩:=by intro j;unfold Addr.add;split <;> simp_all
   have hrun:=run_copy_row (P:=Tryz.prog) w 60 60 ty 147 g 0 dLen dCap ⟨b,off,none⟩ xs.length sCap (L.map U).toArray 147 (xs.map U) Tryz.underlying60 (by kernel_rfl) hO (by rw [hmin];simp) (by
    intro j v hv;rw [hadd]
    have hj:j<xs.length:=by
     have:=(List.getElem?_eq_some_iff.1 hv).1;simpa using this
    rw [hc j hj];simp [hj,U] at hv;simp [hj,←hv]) (by simp;omega) (by
    intro v hv;obtain ⟨n,_,rfl⟩:=List.mem_map.1 hv
    rfl)
   refine ⟨w.setRow g (((xs++L.drop xs.length).map U)).toArray,?_,setRow_heap w g _ _ 147 _ hO,⟨rfl,rfl,rfl,by simp [World.setRow],fun k _ hk=>setRow_other w g k _ hk⟩⟩
   simpa [List.map_append,List.map_drop,goInt] using hrun
theorem Zgs (xs:List Nat) (ao:Option Addr) (n cap B:Nat) (w:World) (hn:n=xs.length) (hc:n≤cap) (hm:n≤70368744177664) (hx:Wf xs) (hR:Rd B w ao xs) (hB:B≤w.heap.size) :
 Calls Tryz.prog 235 #[.slice ao n cap] w fun r w'=>r=.returned (.slice (some ⟨w.heap.size,0,none⟩) (ws (val xs)).length (ws (val xs)).length)∧Own w' w.heap.size (ws (val xs))∧Below w.heap.size w w':=by
 have H:=hid (Zz xs ao n cap B w hn hc (by omega) hR)
 have hl:nl xs≤n:=by rw [hn];exact Q7 xs
 obtain ⟨k,hk⟩:∃ k,nl xs=k:=⟨_,rfl⟩;have HF:Aside (xs.take k=ws (val xs)):=by rw [←hk];exact J9 xs hx
 have HR:Aside (Rd B w ao (xs.take k)∧k=(xs.take k).length):=⟨hR.take k,by rw [List.length_take];omega⟩
 rw [hk] at H hl;rw [←HF.out];have hmk:=Zt (k:Int) k rfl (by omega)
 have HO:=Own.made w k;have HO2:Hid (Own (w.alloc (.cells (madeCells #[.int .u32 0] k) 147)) w.heap.size (List.replicate k 0)):=HO;clear hk hR hn hx HO;go_enter Tryz.func235,Tryz.ntmps235
 go_wp2_with fail
 refine H.out.mono ?_;rintro r w1 ⟨rfl,rfl⟩;obtain ⟨w2,hcp,hO2,hbut⟩:=Qx _ w1.heap.size k k ao k cap B 3 (List.replicate k 0) (xs.take k) HO2.out (by simp) HR.out.2 (HR.out.1.below ((Below.refl _ _).alloc hB _)) (Nat.le_refl _)
 have HH:=hid (ai hO2 hbut);clear hO2 hbut HO2;go_wp2;go_ret;obtain ⟨hO2,hbut⟩:=HH.out;rw [←HR.out.2];refine ⟨rfl,by simpa using hO2,But.below ((Below.refl _ _).alloc (Nat.le_refl _) _) hbut (by simp) (Nat.le_refl _)⟩
theorem Zc1 (xs:List Nat) (hx:Wf xs) (k:Nat) (hk:nl xs=k+1):val xs=sg xs 0 k+pw k*xs.getD k 0∧sg xs 0 k<pw k∧xs.getD k 0≠0∧k<xs.length:=by
 have hl:=Q7 xs;have h1:=Yk xs hx;rw [hk,Qk xs k (by omega),←Q0] at h1
 have h2:=Zjb xs (by omega)
 rw [hk,Nat.add_sub_cancel] at h2;exact ⟨h1.symm,Je xs 0 k hx (by omega),h2,by omega⟩
theorem Zgt (xs:List Nat) (hx:Wf xs) (k:Nat) (hk:nl xs=k+1):bl (val xs)=32*k+bl (xs.getD k 0):=by
 obtain ⟨e,hlt,h0,hl⟩:=Zc1 xs hx k hk;obtain ⟨t,ht⟩:∃ t,xs.getD k 0=t:=⟨_,rfl⟩;rw [ht] at e h0 ⊢;obtain ⟨c,hc⟩:∃ c,bl t=c+1:=⟨bl t-1,by have:=Zv t h0;omega⟩
 have h1:=Qi t h0;have h2:=Qo t;rw [hc] at h1 h2 ⊢;rw [Nat.add_sub_cancel] at h1;have p1:2^(32*k+c)=pw k*2^c:=Jc k c;have p2:2^(32*k+c+1)=pw k*2^(c+1):=by rw [Nat.add_assoc,Jc]
 have:=Zg8 (val xs) (32*k+c) (by
  rw [p1,e];have:=Nat.mul_le_mul_left (pw k) h1
  omega) (by
  rw [p2,e];have:pw k*(t+1)≤pw k*2^(c+1):=Nat.mul_le_mul_left (pw k) (by omega)
  rw [Nat.mul_add] at this
  omega)
 omega
theorem Zaw (xs:List Nat) (ao:Option Addr) (n cap B:Nat) (w:World) (hn:n=xs.length) (hc:n≤cap) (hm:n≤70368744177664) (hx:Wf xs) (hR:Rd B w ao xs) :
 Calls Tryz.prog 97 #[.slice ao n cap] w fun r w'=>r=.returned (.int .i64 (bl (val xs):Nat))∧w'=w:=by
 have H:=hid (Zz xs ao n cap B w hn hc (by omega) hR)
 have hl:=Q7 xs
 rcases hk:nl xs with _|k
 · rw [(Qu xs).1 hk,Zu]
   rw [hk] at H;clear hk hl hn hx hR;go_enter Tryz.func97,Tryz.ntmps97
   go_wp2_with fail
   refine H.out.mono ?_;rintro r w1 ⟨rfl,rfl⟩;go_wp2;go_ret;exact ⟨rfl,rfl⟩
 · rw [Zgt xs hx k hk]
   rw [hk] at H hl;obtain ⟨e,hlt,h0,hl2⟩:=Zc1 xs hx k hk;obtain ⟨b,off,hB,rfl,hcell⟩:=hR (by intro e;subst e;simp at hl)
   have hck:=hcell k hl2;obtain ⟨t,ht⟩:∃ t,xs.getD k 0=t:=⟨_,rfl⟩;have htl:t<4294967296:=ht ▸ hx.get k;rw [ht] at hck ⊢;have H2:=hid (Zdx t w htl);have hb:=Zb4 t htl;obtain ⟨c,hc'⟩:∃ c,bl t=c:=⟨_,rfl⟩;rw [hc'] at H2 hb ⊢;have hkn:k<n:=by omega
   clear hk hl hn hx hR e hlt h0 hl2 hcell ht hc';go_enter Tryz.func97,Tryz.ntmps97
   go_wp2_with fail
   refine H.out.mono ?_;rintro r w1 ⟨rfl,rfl⟩
   go_wp2_with fail
   refine H2.out.mono ?_;rintro r w1 ⟨rfl,rfl⟩;go_wp2;go_ret;exact ⟨congrArg (fun z=>Ending.returned (Value.int IntKind.i64 z)) (by omega),rfl⟩
theorem Jd (x:Nat) (w:World) (hx:x<18446744073709551616) :
 Calls Tryz.prog 87 #[.int .u64 (x:Int)] w fun r w'=>∃ v,r=.returned v∧Nt w.heap.size w' v x∧Below w.heap.size w w':=by
 obtain ⟨a,ha⟩:∃ a,a=x%4294967296:=⟨_,rfl⟩;obtain ⟨b,hb⟩:∃ b,b=x/4294967296:=⟨_,rfl⟩;have e1:(x:Int)%4294967296=(a:Int):=by omega
 have e2:(x:Int)/4294967296=(b:Int):=by omega
 have hx2:(x:Int)<18446744073709551616:=by omega
 have hO:Own (w.alloc (.cells #[.int .u32 (a:Int),.int .u32 (b:Int)] 147)) w.heap.size [a,b]:=by
  unfold Own;rw [heap_alloc_new];rfl
 have hW:Wf [a,b]:=Wf.cons (by omega) (Wf.cons (by omega) Wf.nil)
 have hv:val [a,b]=x:=by simp only [val];omega
 have T:=hid (Zz [a,b] (some ⟨w.heap.size,0,none⟩) 2 2 (w.heap.size+1) _ rfl (by omega) (by omega) (by simpa using Rd.ofOwn hO 0 2))
 have HH:=(qsd (ai hO (ai hW hv)));clear hO hW hv ha hb hx;go_enter Tryz.func87,Tryz.ntmps87
 go_wp2_with fail
 refine T.out.mono ?_;rintro r w1 ⟨rfl,rfl⟩;go_wp2;go_ret;obtain ⟨hO,hW,hv⟩:=HH.out;refine ⟨_,rfl,?_,(Below.refl _ _).alloc (Nat.le_refl _) _⟩;have N:=Nt.ofOwn (lo:=w.heap.size) hO (Nat.le_refl _) hW (by simp [maxLen])
 rw [hv] at N;exact N
theorem Own.but {w w':World}{g k:Nat}{L:List Nat}(h:Own w k L) (hb:But g w w') (hk:k≠g):Own w' k L:=by
 have:=h.lt;unfold Own at h ⊢;rw [hb.block k this hk];exact h
def Apart (v1 v2:Value):Prop:=∀ g,v1.ownBlock=some g→v2.ownBlock≠some g
theorem Nt.lt {lo:Nat}{w:World}{v:Value}{X:Nat}(h:Nt lo w v X):∀ g,v.ownBlock=some g→lo≤g∧g<w.heap.size:=fun g hg=>World.ownsRow.lt h g hg
theorem Zgu {lo m hi:Nat}{w w2:World}{v1 v2:Value}{X Y:Nat}(h1:Nt lo w v1 X) (h2:Nt m w2 v2 Y) (hm:w.heap.size≤m):Apart v1 v2:=by
 intro g hg e;have a:=(h1.lt g hg).2;have b:=(h2.lt g e).1;omega
theorem Jz (v:Value):Apart (.slice none 0 0) v:=by intro g hg;simp [Value.ownBlock] at hg
theorem Zn4 (p b q V o a c:Nat):b*p*q*V+(a+p*(o*V+c))=p*(o+b*q)*V+(a+p*c):=by grind
theorem Zjo (M:List Nat) (i k d:Nat) (hd:M.length=i+k+d) (hz:sg M (i+k) d=0):val M=sg M 0 i+pw i*sg M i k:=by
 have h1:=Zr M;rw [hd] at h1;have h2:=Qt M 0 (i+k) d (by omega)
 have h3:=Qt M 0 i k (by omega)
 rw [Nat.zero_add] at h2 h3;rw [hz,Nat.mul_zero,Nat.add_zero] at h2;rw [←h1,h2,h3]
theorem Ztc (Q:List Nat) (i r o:Nat) (hQ:i+1+r=Q.length):sg (Q.set i o) i (r+1)=o+4294967296*sg Q (i+1) r:=by
 have h1:=Yl (Q.set i o) i r (by simp;omega)
 have h2:=Qb Q i o (by omega)
 have h3:=Zal Q (i+1) r i o (by omega) (by omega)
 rw [h2,h3] at h1;exact h1
theorem Ztd (a p s V:Nat) (h1:a<p) (h2:s<V):a+p*s<p*V:=by
 have h:p*(s+1)≤p*V:=Nat.mul_le_mul_left _ h2;rw [Nat.mul_add,Nat.mul_one] at h;omega
theorem Zn5 (M M2 Q:List Nat) (i m r V o X:Nat) (hM:Wf M) (hi:i+(m+1)≤M.length) (ho:Out M M2 i (m+1))
 (hinv:X=pw (i+1)*sg Q (i+1) r*V+val M) (hz:sg M (i+(m+1)) (M.length-(i+(m+1)))=0) (hQ:i+1+r=Q.length)
 (hs:sg M i (m+1)=o*V+sg M2 i (m+1)) (hlt:sg M2 i (m+1)<V) :
 X=pw i*sg (Q.set i o) i (r+1)*V+val M2∧val M2<pw i*V:=by
 obtain ⟨d,hd⟩:∃ d,d=M.length-(i+(m+1)):=⟨_,rfl⟩;rw [←hd] at hz;have hl:M2.length=M.length:=ho.1;have e1:=Zjo M i (m+1) d (by omega) hz
 have hz2:sg M2 (i+(m+1)) d=0:=by rw [ho.above (i+(m+1)) d (by omega) (by omega)];exact hz
 have e2:=Zjo M2 i (m+1) d (by omega) hz2
 have e3:sg M2 0 i=sg M 0 i:=ho.below 0 i (by omega) (by omega)
 have e4:=Ztc Q i r o hQ;have h1:=Je M 0 i hM (by omega)
 rw [e3] at e2;rw [hs] at e1;refine ⟨?_,by rw [e2];exact Ztd _ _ _ _ h1 hlt⟩
 rw [hinv,e1,e2,e4,Zh];exact Zn4 _ _ _ _ _ _ _
theorem Zn6 (M:List Nat) (i m V:Nat) (hM:Wf M) (hi:i+(m+1)≤M.length) (hV:V<pw m) (hlt:val M<pw (i+1)*V) :
 sg M (i+(m+1)) (M.length-(i+(m+1)))=0∧sg M i (m+1)<V*4294967296:=by
 obtain ⟨d,hd⟩:∃ d,M.length=i+(m+1)+d:=⟨M.length-(i+(m+1)),by omega⟩
 have e1:val M=sg M 0 i+pw i*(sg M i (m+1)+pw (m+1)*sg M (i+(m+1)) d):=by
  rw [←Zr M,hd,show i+(m+1)+d=i+(m+1+d) by omega,Qt M 0 i (m+1+d) (by omega),Nat.zero_add,Qt M i (m+1) d (by omega)]
 rw [hd,Nat.add_sub_cancel_left];obtain ⟨S,hS⟩:∃ S,sg M i (m+1)+pw (m+1)*sg M (i+(m+1)) d=S:=⟨_,rfl⟩;rw [hS] at e1
 have h1:S<4294967296*V:=by
  by_cases h:S<4294967296*V
  · exact h
  · exfalso
    have:pw i*(4294967296*V)≤pw i*S:=Nat.mul_le_mul_left _ (by omega)
    have e:pw (i+1)*V=pw i*(4294967296*V):=by rw [Zh,Nat.mul_comm 4294967296,Nat.mul_assoc]
    omega
 have h2:4294967296*V<pw (m+1):=by rw [Zh];exact Nat.mul_lt_mul_of_pos_left hV (by decide)
 constructor
 · rcases Nat.eq_zero_or_pos (sg M (i+(m+1)) d) with h | h
   · exact h
   · exfalso
     have:pw (m+1)*1≤pw (m+1)*sg M (i+(m+1)) d:=Nat.mul_le_mul_left _ h;omega
 · rw [Nat.mul_comm];omega
theorem Zq5 (Y m z:Nat) (hY:Y≠0) (h1:pw (m-1)*2^(31-z)≤Y) (h2:Y<pw (m-1)*2^(32-z)) (hz:z<32) (hm:0<m) :
 (ws (Y*2^z)).length=m∧Y*2^z<pw m∧2147483648≤(ws (Y*2^z)).getD (m-1) 0:=by
 obtain ⟨k,rfl⟩:∃ k,m=k+1:=⟨m-1,by omega⟩
 rw [Nat.add_sub_cancel] at h1 h2 ⊢
 have a1:pw k*2147483648≤Y*2^z:=by
  have:=Nat.mul_le_mul_right (2^z) h1;rw [Nat.mul_assoc,←Nat.pow_add,show 31-z+z=31 by omega] at this
  exact this
 have a2:Y*2^z<pw (k+1):=by
  have:=Nat.mul_lt_mul_of_pos_right h2 (Nat.two_pow_pos z);rw [Nat.mul_assoc,←Nat.pow_add,show 32-z+z=32 by omega] at this
  rw [Zh,Nat.mul_comm 4294967296];exact this
 have hp:=Qj k;have hl:=Zli (Y*2^z) k (by omega) a2
 refine ⟨hl,a2,?_⟩;have hw:=Z8 (Y*2^z);have hv:=Zc (Y*2^z);rw [←Zr,hl,Zi _ 0 k (by omega),Nat.zero_add] at hv
 have hs:=Je (ws (Y*2^z)) 0 k hw (by omega)
 by_cases h:2147483648≤(ws (Y*2^z)).getD k 0
 · exact h
 · exfalso
   have:pw k*((ws (Y*2^z)).getD k 0+1)≤pw k*2147483648:=Nat.mul_le_mul_left _ (by omega)
   rw [Nat.mul_add] at this;omega
theorem Zq6 (X Y P q r:Nat) (hP:0<P) (h:X*P=q*(Y*P)+r) (hr:r<Y*P):q=X/Y∧r/P=X%Y:=by
 have hY:0<Y:=by
  rcases Nat.eq_zero_or_pos Y with e|e
  · subst e;rw [Nat.zero_mul] at hr;omega
  · exact e
 have hq:X*P/(Y*P)=q:=by
  rw [h,Nat.add_comm,Nat.add_mul_div_right _ _ (Nat.mul_pos hY hP),Nat.div_eq_of_lt hr,Nat.zero_add]
 have hm:X*P%(Y*P)=r:=by
  rw [h,Nat.add_comm,Nat.add_mul_mod_self_right,Nat.mod_eq_of_lt hr]
 rw [Nat.mul_div_mul_right _ _ hP] at hq;rw [Nat.mul_mod_mul_right] at hm;exact ⟨hq.symm,by rw [←hm,Nat.mul_div_cancel _ hP]⟩
theorem Ziw (xs:List Nat) (ao:Option Addr) (n cap B by' words rest:Nat) (w:World) (hn:n=xs.length) (hc:n≤cap) (hby:by'=32*words+rest) (hrest:rest<32) (hbig:words+n≤70368744177663)
 (hx:Wf xs) (hR:Rd B w ao xs) (hB:B≤w.heap.size) :
 Calls Tryz.prog 174 #[.slice ao n cap,.int .i64 (by':Nat)] w fun r w'=>∃ v,r=.returned v∧Nt w.heap.size w' v (val xs*2^by')∧Below w.heap.size w w':=by
 obtain ⟨W1,hW1⟩:∃ W,W=w.alloc (.cells (madeCells #[.int .u32 0] (words+n+1)) 147):=⟨_,rfl⟩;have hO1:Own W1 w.heap.size (List.replicate (words+n+1) 0):=by rw [hW1];exact Own.made w _
 have hB1:Below w.heap.size w W1:=by rw [hW1];exact (Below.refl _ _).alloc (Nat.le_refl _) _
 have hmk:=Zt ((words:Int)+n+1) (words+n+1) (by omega) (by omega) w
 rw [←hW1] at hmk;have hR1:Rd B W1 ao xs:=hR.below (hB1.mono hB);have e1:(by':Int)/32=(words:Int):=by omega
 have e2:(by':Int)%32=(rest:Int):=by omega
 obtain ⟨g,hg⟩:∃ g,g=w.heap.size:=⟨_,rfl⟩;rw [←hg] at hO1 hmk hB1 hB;have HR:=(qsd (ai hR1 (ai hx (ai hn (ai hB1 (ai hg hby))))));have HO:=hid hO1;clear hn hx hR hO1 hB1 hW1 hR1 hg hby;go_enter Tryz.func174,Tryz.ntmps174;go_wp2
 go_loopg [23] n (fun gk i wr=>∃ (k:Nat) (M:List Nat),gk+k=n∧i=.int .i64 (k:Nat) ∧
  Hid (Own wr g M)∧Aside (Wf M∧M.length=words+n+1∧sg M 0 words=0∧M.getD (words+k) 0<2^rest∧sg M words (k+1)=sg xs 0 k*2^rest∧But g W1 wr))
 case atStart=>exact ⟨0,_,by omega,rfl,HO,Wf.zeros _,by simp,Zar _ _ _,by rw [Zcl];exact Nat.two_pow_pos _,by rw [Zar,Zy];simp,But.refl _ _⟩
 case round =>
  obtain ⟨k,M,hgk,rfl,HM,HA⟩:=hrel
  by_cases hk:k<n
  · obtain ⟨hR,hx,hn,hB1,hg,hby⟩:=HR.out
    obtain ⟨hMw,hMl,hM0,hMt,hMs,hbut⟩:=HA.out;have hW1s:g≤W1.heap.size:=by have:=hB1.size;omega
    obtain ⟨b,boff,hbB,rfl,hbc⟩:=hR (by intro e;subst e;simp at hn;omega)
    have hbk:wr.cell? ⟨b,boff+k,none⟩=some (.int .u32 ((xs.getD k 0:Nat):Int)):=by
     have h1:=hbut.block b (World.block_lt_of_cell? W1 ⟨b,boff+k,none⟩ (hbc k (by omega))) (by omega)
     exact (World.cell?_of_block (a:=⟨b,boff+k,none⟩) h1).trans (hbc k (by omega))
    obtain ⟨y,hy⟩:∃ y:Nat,xs.getD k 0=y:=⟨_,rfl⟩;have hyl:y<4294967296:=hy ▸ hx.get _;rw [hy] at hbk;have hgc:=HM.out.cell (words+k) (by omega)
    have hgf:=HM.out.frozen (words+k);have hgf2:=HM.out.frozen (words+k+1);have hgc2:=HM.out.cell (words+k+1) (by omega)
    obtain ⟨x,hxx⟩:∃ x:Nat,M.getD (words+k) 0=x:=⟨_,rfl⟩;have hxl:x<4294967296:=hxx ▸ hMw.get _;rw [hxx] at hgc;obtain ⟨t,ht⟩:∃ t:Nat,t=y*2^rest:=⟨_,rfl⟩;have htl:t<18446744073709551616:=by rw [ht];exact Zud y rest hyl hrest
    have e3:IntKind.u64.wrap ((y:Int)*2^rest)=(t:Int):=by
     have ec:(y:Int)*2^rest=(t:Int):=by rw [ht,Int.natCast_mul,Int.natCast_pow];rfl
     rw [ec];exact Jx _ (by omega) (by omega)
    obtain ⟨s,hs⟩:∃ s:Nat,s=x+t%4294967296:=⟨_,rfl⟩;obtain ⟨d,hd⟩:∃ d:Nat,d=t/4294967296:=⟨_,rfl⟩;have e4':x ||| (t%4294967296)=s:=by rw [hs,ht];exact Zs3 x y rest hrest (by rw [←hxx];exact hMt)
    have e4:bits BinOp.or IntKind.u32 (x:Int) ((t:Int)%4294967296)=(s:Int):=by
     have:=Zuy x (t%4294967296) hxl (by omega)
     rw [e4'] at this;rw [←this];simp
    have e5:(t:Int)/4294967296=(d:Int):=by omega
    have htl':(t:Int)<18446744073709551616:=by omega
    have hsl:s<4294967296:=by rw [←e4'];exact Nat.or_lt_two_pow (n:=32) hxl (by omega)
    have HX:=(qsd (ai hy (ai hn (ai hxx (ai ht (ai hs (ai hd hsl)))))));clear hy hxx hR hx hn hB1 hg hMw hMl hM0 hMt hMs hbut hbc hW1s hby ht hs hd htl e4' hsl;go_wp2
    go_roundg (gk-1)
    case measure=>omega
    case rel =>
     obtain ⟨hy,hn,hxx,ht,hs,hd,hsl⟩:=HX.out;obtain ⟨hMw,hMl,hM0,hMt,hMs,hbut⟩:=HA.out;have hdl:d<2^rest:=by rw [hd,ht];exact Zs4 y rest hyl
     have h2:=Zae rest hrest;refine ⟨k+1,(M.set (words+k) s).set (words+k+1) d,by omega,by go_num,(HM.out.set _ _).set _ _,(hMw.set _ _ hsl).set _ _ (by omega),by simp [hMl],?_,?_,?_,(hbut.set _ _).set _ _⟩
     · rw [Y6 _ _ _ _ _ (by omega) (by simp;omega),Y6 _ _ _ _ _ (by omega) (by omega)];exact hM0
     · rw [show words+(k+1)=words+k+1 by omega,Qb _ _ _ (by simp;omega)];exact hdl
     · have e1:=Zl (M.set (words+k) s) words (k+1) d (by simp;omega)
       rw [show words+(k+1)=words+k+1 by omega] at e1
       rw [e1,Zl _ _ _ _ (by omega),Zi xs 0 k (by omega),Nat.zero_add,hy,Zh]
       rw [Zi _ _ _ (by omega),hxx] at hMs
       exact Zqn (pw k) _ x t 0 _ s d y _ hMs ht hs hd
  · obtain rfl:k=n:=by omega
    obtain ⟨hMw,hMl,hM0,hMt,hMs,hbut⟩:=HA.out;have T:=hid (Zz M (some ⟨g,0,none⟩) (words+k+1) (words+k+1) (g+1) wr hMl.symm (Nat.le_refl _) (by omega) (by simpa [hMl,List.take_of_length_le] using Rd.ofOwn HM.out 0 (words+k+1)))
    clear hMw hMl hM0 hMt hMs hbut
    go_wp2_with fail
    refine T.out.mono ?_;rintro r w1 ⟨rfl,rfl⟩;go_wp2;go_ret;obtain ⟨hR,hx,hn,hB1,hg,hby⟩:=HR.out;obtain ⟨hMw,hMl,hM0,hMt,hMs,hbut⟩:=HA.out;have e3:sg xs 0 k=val xs:=by rw [hn];exact Zr xs
    have e4:val M=val xs*2^by':=by
     rw [←Zr M,hMl,show words+k+1=words+(k+1) by omega,Qt M 0 words (k+1) (by omega),hM0,Nat.zero_add,Nat.zero_add,hMs,e3,hby,Jc]
     grind
    refine ⟨_,rfl,?_,?_⟩
    · have N:=Nt.ofOwn (lo:=g) HM.out (Nat.le_refl _) hMw (by rw [hMl];unfold maxLen;omega)
      rw [←e4,←hg];rw [hMl] at N;exact N
    · rw [←hg]
      exact But.below hB1 hbut (by have:=hB1.size;omega) (Nat.le_refl _)
theorem Zcp (l x:Nat) (hl:l<4294967296) (hx:x<4294967296):bits BinOp.or IntKind.u64 (x:Int) ((l:Int)*4294967296)=((x+l*4294967296:Nat):Int):=by
 have e:((l:Int)*4294967296)=((l*4294967296:Nat):Int):=by simp only [Int.natCast_mul];rfl
 rw [e,bits_or_u64_nat _ _ (by omega) (by omega)]
 have:=Nat.two_pow_add_eq_or_of_lt (i:=32) (b:=x) (by omega) l
 have e2:2^32*l=l*4294967296:=by rw [Nat.mul_comm]
 rw [e2] at this;rw [Nat.or_comm,←this,Nat.add_comm]
theorem Zdy (L:List Nat) (i rest:Nat) (hL:Wf L) (hr:rest<32) (hi:i<L.length) :
 (val L/2^rest/pw i)%4294967296=((L.getD i 0+L.getD (i+1) 0*4294967296)/2^rest)%4294967296:=by
 have h1:val L/2^rest/pw i=val (L.drop i)/2^rest:=by
  rw [Nat.div_div_eq_div_mul,Nat.mul_comm,←Nat.div_div_eq_div_mul,Zx L i (by omega)]
  have:=val_lt (L.take i) (hL.take i);rw [List.length_take,Nat.min_eq_left (by omega)] at this
  rw [Nat.add_mul_div_left _ _ (Qj i),Nat.div_eq_of_lt this,Nat.zero_add]
 rw [h1,Zp L i hi]
 obtain ⟨R,hR⟩:∃ R,val (L.drop (i+1))=L.getD (i+1) 0+4294967296*R:=by
  by_cases h:i+1<L.length
  · exact ⟨_,Zp L (i+1) h⟩
  · refine ⟨0,?_⟩
    rw [List.drop_of_length_le (by omega),List.getD_eq_getElem?_getD,List.getElem?_eq_none (by omega)]
    rfl
 rw [hR]
 have e:L.getD i 0+4294967296*(L.getD (i+1) 0+4294967296*R)=(L.getD i 0+L.getD (i+1) 0*4294967296)+2^rest*(4294967296*(2^(32-rest)*R)):=by
  have:=Q9 rest hr;have:2^rest*(4294967296*(2^(32-rest)*R))=4294967296*(4294967296*R):=by rw [←this];grind
  rw [this];omega
 rw [e,Nat.add_mul_div_left _ _ (Nat.two_pow_pos _),Nat.add_mul_mod_self_left]
theorem Zgv (V p:Nat) (hp:0<p):V%p+p*(V/p%4294967296)=V%(4294967296*p):=by
 rw [Nat.mul_comm 4294967296,Nat.mod_mul]
theorem Zgw (xs:List Nat) (ao:Option Addr) (n cap B by' words rest:Nat) (w:World) (hn:n=xs.length) (hc:n≤cap) (hby:by'=32*words+rest) (hrest:rest<32) (hbig:n≤70368744177663) (hby2:by'≤9223372036854775807)
 (hx:Wf xs) (hR:Rd B w ao xs) (hB:B≤w.heap.size) :
 Calls Tryz.prog 173 #[.slice ao n cap,.int .i64 (by':Nat)] w fun r w'=>∃ v,r=.returned v∧Nt w.heap.size w' v (val xs/2^by')∧Below w.heap.size w w':=by
 have e1:(by':Int)/32=(words:Int):=by omega
 have e2:(by':Int)%32=(rest:Int):=by omega
 by_cases hw:n≤words
 · have hv:val xs/2^by'=0:=by
    have h1:=val_lt xs hx;rw [←hn] at h1
    have h2:pw n≤2^by':=by
     rw [hby,Jc];have:=Yd hw;have:=Nat.mul_le_mul this (Nat.two_pow_pos rest);omega
    exact Nat.div_eq_of_lt (by omega)
   rw [hv];clear hv hn hx hR hby;go_enter Tryz.func173,Tryz.ntmps173;go_wp2;go_ret;exact ⟨_,rfl,Nt.nil _ _,Below.refl _ _⟩
 · have hwn:words<n:=by omega
   obtain ⟨b,boff,hbB,rfl,hbc⟩:=hR (by intro e;subst e;simp at hn;omega)
   obtain ⟨k0,hk0⟩:∃ k0,k0=n-words:=⟨_,rfl⟩;obtain ⟨W1,hW1⟩:∃ W,W=w.alloc (.cells (madeCells #[.int .u32 0] (n-words)) 147):=⟨_,rfl⟩;have hO1:Own W1 w.heap.size (List.replicate (n-words) 0):=by rw [hW1];exact Own.made w _
   have hB1:Below w.heap.size w W1:=by rw [hW1];exact (Below.refl _ _).alloc (Nat.le_refl _) _
   have hmk:=Zt ((n:Int)-words) (n-words) (by omega) (by omega) w
   rw [←hW1] at hmk;obtain ⟨W2,hcp,hO2,hb2⟩:=Qx W1 w.heap.size (n-words) (n-words) (some ⟨b,boff+words,none⟩) (n-words) (cap-words) B 3 (List.replicate (n-words) 0) (xs.drop words) hO1 (by simp) (by simp;omega) ((hR.below (hB1.mono hB)).drop words) (by omega)
   have ed:(List.replicate (n-words) 0).drop (n-words)=([]:List Nat):=by simp
   rw [ed,List.append_nil] at hO2;clear ed;have hB2:Below w.heap.size w W2:=But.below hB1 hb2 hB1.size (Nat.le_refl _);obtain ⟨g,hg⟩:∃ g,g=w.heap.size:=⟨_,rfl⟩;rw [←hg] at hO2 hmk hB2 hB hcp;obtain ⟨L,hL⟩:∃ L,L=xs.drop words:=⟨_,rfl⟩;have hLl:L.length=n-words:=by rw [hL];simp;omega
   have hLw:Wf L:=by rw [hL];exact hx.drop words
   rw [←hL] at hO2;have HR:=(qsd (ai hLw (ai hLl (ai hn (ai hB2 (ai hg (ai hby hL)))))));have hxw:=hid hx;have HO:=hid hO2;clear hn hx hR hO1 hB1 hW1 hg hby hO2 hB2 hL hLl hLw hb2 hbc hk0;go_enter Tryz.func173,Tryz.ntmps173;go_wp2
   go_loopg [30] (n-words) (fun gk i wr=>∃ (k:Nat) (M:List Nat),gk+k=n-words∧i=.int .i64 (k:Nat) ∧
    Hid (Own wr g M)∧Aside (Wf M∧M.length=n-words∧(∀ j,k≤j→M.getD j 0=L.getD j 0)∧sg M 0 k=val L/2^rest%pw k∧But g W2 wr))
   case atStart=>exact ⟨0,_,by omega,rfl,HO,HR.out.1,HR.out.2.1,fun _ _=>rfl,by rw [Zy,Qv,Nat.mod_one],But.refl _ _⟩
   case round =>
    obtain ⟨k,M,hgk,rfl,HM,HA⟩:=hrel
    by_cases hk:k<n-words
    · obtain ⟨hLw,hLl,hn,hB2,hg,hby,hL⟩:=HR.out
      obtain ⟨hMw,hMl,hMr,hMs,hbut⟩:=HA.out;have hgc:=HM.out.cell k (by omega)
      have hgf:=HM.out.frozen k;obtain ⟨x,hxx⟩:∃ x:Nat,M.getD k 0=x:=⟨_,rfl⟩;have hxl:x<4294967296:=hxx ▸ hMw.get _;rw [hxx] at hgc
      by_cases hk1:k+1<n-words
      · have hgc1:=HM.out.cell (k+1) (by omega)
        obtain ⟨y,hyy⟩:∃ y:Nat,M.getD (k+1) 0=y:=⟨_,rfl⟩;have hyl:y<4294967296:=hyy ▸ hMw.get _;rw [hyy] at hgc1;obtain ⟨t,ht⟩:∃ t:Nat,t=x+y*4294967296:=⟨_,rfl⟩;have e3:bits BinOp.or IntKind.u64 (x:Int) ((y:Int)*4294967296)=(t:Int):=by rw [Zcp y x hyl hxl,ht]
        obtain ⟨s,hs⟩:∃ s:Nat,s=t/2^rest%4294967296:=⟨_,rfl⟩;have e4:(t:Int)/2^rest%4294967296=(s:Int):=by rw [hs];simp
        have hs2:s=(L.getD k 0+L.getD (k+1) 0*4294967296)/2^rest%4294967296:=by
         rw [hs,ht,←hxx,←hyy,hMr k (by omega),hMr (k+1) (by omega)]
        have hsl:s<4294967296:=by omega
        have HX:=(qsd (ai hs2 hsl));clear hxx hyy hLw hLl hn hB2 hg hby hL hMw hMl hMr hMs hbut hs hs2 hsl ht;go_wp2
        go_roundg (gk-1)
        case measure=>omega
        case rel =>
         obtain ⟨hLw,hLl,hn,hB2,hg,hby,hL⟩:=HR.out;obtain ⟨hMw,hMl,hMr,hMs,hbut⟩:=HA.out;obtain ⟨hs,hsl⟩:=HX.out;refine ⟨k+1,M.set k s,by omega,by go_num,HM.out.set _ _,hMw.set _ _ hsl,by simp [hMl],fun j hj=>?_,?_,hbut.set _ _⟩
         · rw [getD_set_ne _ _ _ _ (by omega)];exact hMr j (by omega)
         · have e1:=Zl M 0 k s (by omega)
           rw [Nat.zero_add] at e1;rw [e1,hMs,hs,←Zdy L k rest hLw hrest (by omega),Zh]
           exact Zgv _ _ (Qj k)
      · obtain ⟨s,hs⟩:∃ s:Nat,s=x/2^rest:=⟨_,rfl⟩
        have e4:(x:Int)/2^rest=(s:Int):=by rw [hs];simp
        have hsx:s≤x:=by rw [hs];exact Nat.div_le_self _ _
        have hs2:s=(L.getD k 0+L.getD (k+1) 0*4294967296)/2^rest%4294967296:=by
         have:L.getD (k+1) 0=0:=by rw [List.getD_eq_getElem?_getD,List.getElem?_eq_none (by omega)];rfl
         rw [this,Nat.zero_mul,Nat.add_zero,←hMr k (by omega),hxx,←hs]
         omega
        have hsl:s<4294967296:=by omega
        have HX:=(qsd (ai hs2 hsl));have e5:(s:Int)%4294967296=(s:Int):=by omega
        clear hxx hLw hLl hn hB2 hg hby hL hMw hMl hMr hMs hbut hs hs2;go_wp2
        go_roundg (gk-1)
        case measure=>omega
        case rel =>
         obtain ⟨hLw,hLl,hn,hB2,hg,hby,hL⟩:=HR.out;obtain ⟨hMw,hMl,hMr,hMs,hbut⟩:=HA.out;obtain ⟨hs,hsl⟩:=HX.out;refine ⟨k+1,M.set k s,by omega,by go_num,HM.out.set _ _,hMw.set _ _ hsl,by simp [hMl],fun j hj=>?_,?_,hbut.set _ _⟩
         · rw [getD_set_ne _ _ _ _ (by omega)];exact hMr j (by omega)
         · have e1:=Zl M 0 k s (by omega)
           rw [Nat.zero_add] at e1;rw [e1,hMs,hs,←Zdy L k rest hLw hrest (by omega),Zh]
           exact Zgv _ _ (Qj k)
    · obtain rfl:k=n-words:=by omega
      obtain ⟨hMw,hMl,hMr,hMs,hbut⟩:=HA.out;have T:=hid (Zz M (some ⟨g,0,none⟩) (n-words) (n-words) (g+1) wr hMl.symm (Nat.le_refl _) (by omega) (by simpa [hMl,List.take_of_length_le] using Rd.ofOwn HM.out 0 (n-words)))
      clear hMw hMl hMr hMs hbut
      go_wp2_with fail
      refine T.out.mono ?_;rintro r w1 ⟨rfl,rfl⟩;go_wp2;go_ret;obtain ⟨hLw,hLl,hn,hB2,hg,hby,hL⟩:=HR.out;obtain ⟨hMw,hMl,hMr,hMs,hbut⟩:=HA.out
      have e4:val M=val xs/2^by':=by
       have h1:val L<pw (n-words):=by rw [←hLl];exact val_lt L hLw
       have h2:val L/2^rest<pw (n-words):=Nat.lt_of_le_of_lt (Nat.div_le_self _ _) h1;rw [Nat.mod_eq_of_lt h2] at hMs;rw [←Zr M,hMl,hMs,hby,Jc,←Nat.div_div_eq_div_mul]
       congr 1
       have h3:=Zx xs words (by omega)
       have h4:val (xs.take words)<pw words:=by
        have:(xs.take words).length=words:=by rw [List.length_take];omega
        have h5:Wf xs:=hxw.out;have:=val_lt _ (h5.take words);rwa [‹(xs.take words).length=words›] at this
       rw [h3,Nat.add_mul_div_left _ _ (Qj words),Nat.div_eq_of_lt h4,Nat.zero_add,hL]
      refine ⟨_,rfl,?_,?_⟩
      · have N:=Nt.ofOwn (lo:=g) HM.out (Nat.le_refl _) hMw (by rw [hMl];unfold maxLen;omega)
        rw [←e4,←hg];rw [hMl] at N;exact N
      · rw [←hg]
        exact But.below hB2 hbut (by have:=hB2.size;omega) (Nat.le_refl _)
def Two (lo:Nat) (w:World) (r:Ending) (X Y:Nat):Prop:=∃ v u,r=.returned (.tuple #[v,u])∧Nt lo w v X∧Nt lo w u Y∧Apart v u
theorem Zn7 (xs ys:List Nat) (ao bo:Option Addr) (n cap m capb B:Nat) (w:World) (hn:n=xs.length) (hm:m=ys.length) (hnm:n<m) (hc:n≤cap) (hbig:n≤35184372088833)
 (hx:Wf xs) (hy:Wf ys) (htop:ys.getD (m-1) 0≠0) (hR:Rd B w ao xs) (hB:B≤w.heap.size) :
 Calls Tryz.prog 228 #[.slice ao n cap,.slice bo m capb] w fun r w'=>Two w.heap.size w' r (val xs/val ys) (val xs%val ys)∧Below w.heap.size w w':=by
 have hlt:val xs<val ys:=by
  have h1:=val_lt xs hx
  have h2:pw (m-1)≤val ys:=by
   have e:=Zi ys 0 (m-1) (by omega)
   rw [Nat.zero_add,show m-1+1=ys.length by omega,Zr] at e
   have:=Nat.mul_le_mul_left (pw (m-1)) (show 1≤ys.getD (m-1) 0 by omega)
   omega
  have h3:=Yd (show xs.length≤m-1 by omega)
  omega
 have N:=hid (Zgs xs ao n cap B w hn hc (by omega) hx hR hB)
 have HL:=(qsd hlt);have hlen:Hid ((ws (val xs)).length≤n):=by rw [←Z9 xs hx,hn];exact Q7 xs
 clear hn hm hx hy htop hR hlt;go_enter Tryz.func228,Tryz.ntmps228
 go_wp2_with fail
 refine N.out.mono ?_;rintro r w1 ⟨rfl,hO,hb⟩;have HO:=(qsd (ai hO hb));clear hO hb N;go_wp2
 go_ret2
 obtain ⟨hO,hb⟩:=HO.out;rw [Nat.div_eq_of_lt HL.out,Nat.mod_eq_of_lt HL.out];refine ⟨⟨_,_,rfl,Nt.nil _ _,?_,Jz _⟩,hb⟩
 have T:=Nt.ofOwn (lo:=w.heap.size) hO (Nat.le_refl _) (Z8 _) (by
  have:(ws (val xs)).length≤35184372088833:=by
   have h:=hlen.out;omega
  unfold maxLen;omega)
 rw [Zc,Zj4] at T;exact T
theorem div_one (xs ys:List Nat) (ao bo:Option Addr) (n cap capb B:Nat) (w:World) (hn:n=xs.length) (hm:1=ys.length) (hnm:1≤n) (hc:n≤cap) (hcb:1≤capb) (hbig:n≤35184372088833)
 (hx:Wf xs) (hy:Wf ys) (htop:ys.getD 0 0≠0) (hR:Rd B w ao xs) (hS:Rd B w bo ys) (hB:B≤w.heap.size) :
 Calls Tryz.prog 228 #[.slice ao n cap,.slice bo 1 capb] w fun r w'=>Two w.heap.size w' r (val xs/val ys) (val xs%val ys)∧Below w.heap.size w w':=by
 have N:=hid (Zgs xs ao n cap B w hn hc (by omega) hx hR hB)
 have hlen:(ws (val xs)).length≤n:=by rw [←Z9 xs hx,hn];exact Q7 xs
 obtain ⟨b,boff,hbB,rfl,hbc⟩:=hS (by intro e;subst e;simp at hm)
 have hb0:=hbc 0 (by omega)
 rw [Nat.add_zero] at hb0
 have hv:val ys=ys.getD 0 0:=by
  rw [←Zr ys,←hm,show (1:Nat)=0+1 from rfl,Zi ys 0 0 (by omega),Zy,Qv];simp
 have hyl:=hy.get 0;obtain ⟨y,hyy⟩:∃ y,ys.getD 0 0=y:=⟨_,rfl⟩;rw [hyy] at hb0 hv hyl htop;rw [hv];obtain ⟨k,hk⟩:∃ k,(ws (val xs)).length=k:=⟨_,rfl⟩;rw [hk] at N hlen;obtain ⟨X,hX⟩:∃ X,val xs=X:=⟨_,rfl⟩;rw [hX] at N hk ⊢;have HH:=(qsd (ai hk hX));clear hn hm hx hy hR hS hbc hv hyy hk hX;go_enter Tryz.func228,Tryz.ntmps228
 go_wp2_with fail
 refine N.out.mono ?_;rintro r w1 ⟨rfl,hO,hb⟩;have hb1:w1.cell? ⟨b,boff,none⟩=some (.int .u32 (y:Int)):=(hb.cell (p:=⟨b,boff,none⟩) (by exact Nat.lt_of_lt_of_le hbB hB)).trans hb0
 have C:=hid (Zqm (ws X) w.heap.size 0 k k y w1 hO (by rw [HH.out.1];omega) (Nat.le_refl _) (by omega) (Z8 X) hyl (by omega))
 have H1:=(qsd hb);clear hO hb N hb0
 go_wp2_with fail
 refine C.out.mono ?_;rintro r w2 ⟨M,c,rfl,hcy,hO2,hM,hout,hsum,hbut⟩;have hl:M.length=k:=by rw [hout.1];exact HH.out.1
 have T:=hid (Zz M (some ⟨w.heap.size,0,none⟩) k k (w.heap.size+1) w2 hl.symm (Nat.le_refl _) (by omega) (by simpa [hl,List.take_of_length_le] using Rd.ofOwn hO2 0 k))
 have H2:=(qsd (ai hO2 (ai hM (ai hout (ai hsum (ai hbut hl))))));clear hO2 hM hout hsum hbut hl C hb1
 go_wp2_with fail
 refine T.out.mono ?_;rintro r w3 ⟨rfl,rfl⟩;have F:=hid (Jd c w3 (by omega))
 clear T
 go_wp2_with fail
 refine F.out.mono ?_;rintro r w4 ⟨vr,rfl,hN4,hb4⟩;have H4:=(qsd (ai hN4 hb4));clear hN4 hb4 F;go_wp2
 go_ret2
 obtain ⟨hO2,hM,hout,hsum,hbut,hl⟩:=H2.out;obtain ⟨hN4,hb4⟩:=H4.out;have hb:=H1.out
 have hs2:X=val M*y+c:=by
  have e1:sg (ws X) 0 k=X:=by rw [←HH.out.1,Zr,Zc]
  have e2:sg M 0 k=val M:=by rw [←hl,Zr]
  rw [e1,e2] at hsum;exact hsum
 have hq:X/y=val M:=by rw [hs2,Nat.add_comm,Nat.add_mul_div_right _ _ (by omega),Nat.div_eq_of_lt hcy,Nat.zero_add]
 have hr:X%y=c:=by rw [hs2,Nat.add_comm,Nat.add_mul_mod_self_right,Nat.mod_eq_of_lt hcy]
 rw [hq,hr];have hsz:w.heap.size≤w3.heap.size:=Nat.le_trans hb.size hbut.size;have Q:=Nt.ofOwn (lo:=w.heap.size) hO2 (Nat.le_refl _) hM (by rw [hl];unfold maxLen;omega)
 rw [hl] at Q;refine ⟨⟨_,_,rfl,Q.below hb4,hN4.mono hsz,Zgu (hi:=0) Q hN4 (Nat.le_refl _)⟩,?_⟩;exact (But.below hb hbut hb.size (Nat.le_refl _)).trans (hb4.mono hsz)
theorem Zl3 (X Y n m z:Nat) (hX:X<pw n) (hY:pw (m-1)*2^(31-z)≤Y) (hz:z<32) (hm:0<m) (hnm:m≤n):X*2^z<pw (n-m+1)*(Y*2^z):=by
 have h1:pw n=pw (n-m+1)*pw (m-1):=by rw [←Zbh];congr 1;omega
 have h2:pw n≤pw (n-m+1)*Y:=by
  have h3:pw (m-1)*1≤pw (m-1)*2^(31-z):=Nat.mul_le_mul_left _ (Nat.two_pow_pos _);rw [h1];exact Nat.mul_le_mul_left _ (by omega)
 have h3:X*2^z<pw (n-m+1)*Y*2^z:=Nat.mul_lt_mul_of_pos_right (by omega) (Nat.two_pow_pos z)
 rw [Nat.mul_assoc] at h3;exact h3
theorem Zid (ys:List Nat) (m:Nat) (hm:m=ys.length) (hy:Wf ys) (hm0:0<m) (htop:ys.getD (m-1) 0≠0) :
 ∃ z,z=32-bl (ys.getD (m-1) 0)∧z<32∧val ys≠0∧pw (m-1)*2^(31-z)≤val ys∧val ys<pw (m-1)*2^(32-z):=by
 have hl:=hy.get (m-1);have h1:=Zb4 _ hl;have h2:=Zv _ htop;have h3:=Qi _ htop;have h4:=Qo (ys.getD (m-1) 0);have e:=Zi ys 0 (m-1) (by omega)
 rw [Nat.zero_add,show m-1+1=ys.length by omega,Zr] at e
 have h5:=Je ys 0 (m-1) hy (by omega)
 generalize ys.getD (m-1) 0=t at *;have hp:=Qj (m-1);have h6:pw (m-1)*2^(bl t-1)≤pw (m-1)*t:=Nat.mul_le_mul_left _ h3;have h7:pw (m-1)*(t+1)≤pw (m-1)*2^bl t:=Nat.mul_le_mul_left _ h4;rw [Nat.mul_add,Nat.mul_one] at h7;have h8:pw (m-1)*1≤pw (m-1)*t:=Nat.mul_le_mul_left _ (by omega)
 refine ⟨32-bl t,rfl,by omega,by omega,?_,?_⟩
 · rw [show 31-(32-bl t)=bl t-1 by omega];omega
 · rw [show 32-(32-bl t)=bl t by omega];omega
theorem Zn8 (xs ys:List Nat) (ao bo:Option Addr) (n cap m capb B:Nat) (w:World) (hn:n=xs.length) (hm:m=ys.length) (hm2:2≤m) (hnm:m≤n) (hc:n≤cap) (hcb:m≤capb) (hbig:n≤35184372088833)
 (hx:Wf xs) (hy:Wf ys) (htop:ys.getD (m-1) 0≠0) (hR:Rd B w ao xs) (hS:Rd B w bo ys) (hB:B≤w.heap.size) :
 Calls Tryz.prog 228 #[.slice ao n cap,.slice bo m capb] w fun r w'=>Two w.heap.size w' r (val xs/val ys) (val xs%val ys)∧Below w.heap.size w w':=by
 obtain ⟨z,hz,hz32,hY0,hY1,hY2⟩:=Zid ys m hm hy (by omega) htop
 obtain ⟨hVl,hVlt,hVt⟩:=Zq5 (val ys) m z hY0 hY1 hY2 hz32 (by omega)
 obtain ⟨b,boff,hbB,rfl,hbc⟩:=hS (by intro e;subst e;simp at hm;omega)
 have hbt:=hbc (m-1) (by omega)
 have htl:=hy.get (m-1);have L0:=Zic (ys.getD (m-1) 0) w htl;rw [←hz] at L0;have U1:=hid (Ziw ys (some ⟨b,boff,none⟩) m capb B z 0 z w hm hcb (by omega) hz32 (by omega) hy hS hB)
 obtain ⟨t,ht⟩:∃ t,ys.getD (m-1) 0=t:=⟨_,rfl⟩;rw [ht] at hbt L0 htl;have L1:=hid L0;obtain ⟨V,hV⟩:∃ V,val ys*2^z=V:=⟨_,rfl⟩;rw [hV] at hVl hVlt hVt U1
 have hX2:val xs*2^z<pw (n+1):=by
  have h1:=val_lt xs hx;rw [←hn] at h1;have h2:=Zae z hz32;have h3:val xs*2^z≤pw n*2147483648:=Nat.mul_le_mul (by omega) h2
  have h4:pw n*2147483648<pw (n+1):=by rw [Zh,Nat.mul_comm];exact Nat.mul_lt_mul_of_pos_right (by decide) (Qj n)
  omega
 have hXl:=(Zf _ _).2 hX2;have hst:=Zl3 (val xs) (val ys) n m z (by rw [hn];exact val_lt xs hx) hY1 hz32 (by omega) hnm
 rw [hV] at hst;have HST:=(qsd hst);have HH:=(qsd (ai hn (ai hm (ai hx (ai hy (ai hR (ai hS (ai hVl (ai hVlt (ai hVt (ai hV (ai hY0 hXl))))))))))));clear hst;clear L0 hn hm hx hy htop hR hS hz hY0 hY1 hY2 hVl hVlt hVt hV hX2 hXl hbc ht;have hm1:(1:Int)≤(m:Int):=by omega
 have hmne:((m:Int)==1)=false:=by simp;omega
 go_enter Tryz.func228,Tryz.ntmps228
 go_wp2_with fail
 refine L1.out.mono ?_;rintro r w0 ⟨rfl,rfl⟩
 go_wp2_with fail
 refine U1.out.mono ?_;rintro r w1 ⟨vv,rfl,hN1,hb1⟩;obtain ⟨hn,hm,hx,hy,hR,hS,hVl,hVlt,hVt,hV,hY0,hXl⟩:=HH.out;obtain ⟨av,cv,rfl,hcv,hcm,hRv⟩:=hN1.shape;rw [hVl] at *;obtain ⟨gu,hgu⟩:∃ gu,gu=w1.heap.size:=⟨_,rfl⟩;obtain ⟨W2,hW2⟩:∃ W,W=w1.alloc (.cells (madeCells #[.int .u32 0] (n+1)) 147):=⟨_,rfl⟩;have hO2:Own W2 gu (List.replicate (n+1) 0):=by rw [hW2,hgu];exact Own.made w1 _
 have hB2:Below gu w1 W2:=by rw [hW2,hgu];exact (Below.refl _ _).alloc (Nat.le_refl _) _
 have hmk:=Zt ((n:Int)+1) (n+1) (by omega) (by omega) w1
 rw [←hW2,←hgu] at hmk;have hs1:=hb1.size;have hs2:=hB2.size;have hg2:=hO2.lt;have U2:=hid (Ziw xs ao n cap B z 0 z W2 hn hc (by omega) hz32 (by omega) hx ((hR.below (hb1.mono hB)).below (hB2.mono (by omega))) (by omega))
 have H1:=(qsd (ai hN1 (ai hb1 (ai hRv (ai hO2 (ai hB2 (ai hgu hg2)))))));clear hn hm hx hy hR hS hVl hVlt hVt hV hY0 hXl hN1 hb1 hRv hO2 hB2 hW2 hs1 hs2 L1 U1 hbt hg2 hgu
 go_wp2_with fail
 refine U2.out.mono ?_;rintro r W3 ⟨va,rfl,hN3,hb3⟩;obtain ⟨aa,ca,rfl,hca,hcam,hRa⟩:=hN3.shape;obtain ⟨hn,hm,hx,hy,hR,hS,hVl,hVlt,hVt,hV,hY0,hXl⟩:=HH.out;obtain ⟨hN1,hb1,hRv,hO2,hB2,hgu',hg2⟩:=H1.out;obtain ⟨W4,hcp,hO4,hb4⟩:=Qx W3 gu (n+1) (n+1) aa (ws (val xs*2^z)).length ca W3.heap.size 3 (List.replicate (n+1) 0) (ws (val xs*2^z)) (hO2.below hb3 hg2) (by simp) rfl hRa hXl
 obtain ⟨gq,hgq⟩:∃ g,g=W4.heap.size:=⟨_,rfl⟩;obtain ⟨W5,hW5⟩:∃ W,W=W4.alloc (.cells (madeCells #[.int .u32 0] (n-m+1)) 147):=⟨_,rfl⟩;have hO5:Own W5 gq (List.replicate (n-m+1) 0):=by rw [hW5,hgq];exact Own.made W4 _
 have hmk5:=Zt ((n:Int)-m+1) (n-m+1) (by omega) (by omega) W4
 rw [←hW5,←hgq] at hmk5;obtain ⟨L,hL⟩:∃ L,L=ws (val xs*2^z)++(List.replicate (n+1) 0).drop (ws (val xs*2^z)).length:=⟨_,rfl⟩;rw [←hL] at hO4;have hLl:L.length=n+1:=by rw [hL,List.length_append,List.length_drop,List.length_replicate];omega
 have hLw:Wf L:=by rw [hL,List.drop_replicate];exact (Z8 _).append (Wf.zeros _)
 have hLv:val L=val xs*2^z:=by rw [hL,Qg,Zc,List.drop_replicate,Yg];simp
 have hs3:=hb3.size;have hs4:=hb4.size;have hguq:gu<gq:=by rw [hgq];have:=hO4.lt;omega
 have hbW5:Below gu w1 W5:=by
  rw [hW5];have a1:Below gu w1 W3:=hB2.trans (hb3.mono (by omega))
  have a2:Below gu w1 W4:=But.below a1 hb4 (by omega) (Nat.le_refl _)
  exact a2.alloc (by omega) _
 have hOu5:Own W5 gu L:=by rw [hW5];exact hO4.alloc _
 have H2:=(qsd (ai hO5 (ai hOu5 (ai hLl (ai hLw (ai hLv (ai hguq hbW5)))))));have hgq1:gu<gq:=hguq;clear hn hm hx hy hR hS hVl hVlt hVt hV hY0 hXl hN1 hb1 hRv hO2 hB2 hgu' hg2 hN3 hb3 hRa hO4 hb4 hgq hW5 hO5 hL hLl hLw hLv hs3 hs4 hbW5 hOu5 U2 hguq hca hcam;have hca2:m≤cv:=by omega
 have e5:((n-m:Nat):Int)=(n:Int)-m:=by omega
 go_wp2
 go_loopg [10] (n-m+1) (fun k i wr=>∃ (M Q:List Nat),k≤n-m+1∧i=.int .i64 ((k:Int)-1)∧Hid (Own wr gu M)∧Hid (Own wr gq Q) ∧
  Aside (Wf M∧Wf Q∧M.length=n+1∧Q.length=n-m+1∧val L=pw k*sg Q k (n-m+1-k)*V+val M∧val M<pw k*V∧Below gu w1 wr))
 case atStart =>
  obtain ⟨hO5,hOu5,hLl,hLw,hLv,hguq,hbW5⟩:=H2.out;refine ⟨L,List.replicate (n-m+1) 0,Nat.le_refl _,?_,hOu5,hO5,hLw,Wf.zeros _,hLl,by simp,?_,?_,hbW5⟩
  · first | rfl | (congr 1;omega)
  · rw [Nat.sub_self,Zy];simp
  · rw [hLv];exact HST.out
 case round =>
  obtain ⟨M,Q,hk,rfl,HM,HQ,HA⟩:=hrel
  by_cases hk0:gk=0
  · subst hk0
    obtain ⟨hMw,hQw,hMl,hQl,hinv,hMlt,hbel⟩:=HA.out;have T1:=hid (Zz Q (some ⟨gq,0,none⟩) (n-m+1) (n-m+1) (gq+1) wr hQl.symm (Nat.le_refl _) (by omega) (by simpa [hQl,List.take_of_length_le] using Rd.ofOwn HQ.out 0 (n-m+1)))
    have T2:=hid (Zz M (some ⟨gu,0,none⟩) (n+1) (n+1) (gu+1) wr hMl.symm (Nat.le_refl _) (by omega) (by simpa [hMl,List.take_of_length_le] using Rd.ofOwn HM.out 0 (n+1)))
    have hnlM:=Q7 M
    have hRM:Rd (gu+1) wr (some ⟨gu,0,none⟩) (M.take (nl M)):=by
     have:=Rd.ofOwn HM.out 0 (nl M);simpa using this
    have D:=hid (Zgw (M.take (nl M)) (some ⟨gu,0,none⟩) (nl M) (n+1) (gu+1) z 0 z wr (by rw [List.length_take,Nat.min_eq_left hnlM]) (by omega) (by omega) hz32 (by omega) (by omega) (hMw.take _) hRM (by have:=HM.out.lt;omega))
    rw [Yk M hMw] at D;clear hMw hQw hMl hQl hinv hMlt hbel hnlM hRM
    go_wp2_with fail
    refine T1.out.mono ?_;rintro r wt1 ⟨rfl,rfl⟩
    go_wp2_with fail
    refine T2.out.mono ?_;rintro r wt2 ⟨rfl,rfl⟩
    go_wp2_with fail
    refine D.out.mono ?_;rintro r wd ⟨vr,rfl,hNr,hbr⟩;have HD:=(qsd (ai hNr hbr));clear hNr hbr T1 T2 D;go_wp2
    go_ret2
    obtain ⟨hNr,hbr⟩:=HD.out;obtain ⟨hn,hm,hx,hy,hR,hS,hVl,hVlt,hVt,hV,hY0,hXl⟩:=HH.out;obtain ⟨hN1,hb1,hRv,hO2,hB2,hgu',hg2⟩:=H1.out;obtain ⟨hO5,hOu5,hLl,hLw,hLv,hguq,hbW5⟩:=H2.out;obtain ⟨hMw,hQw,hMl,hQl,hinv,hMlt,hbel⟩:=HA.out;rw [Qv,Nat.one_mul] at hMlt hinv;rw [Nat.sub_zero,←hQl,Zr,hLv,←hV] at hinv;rw [←hV] at hMlt;obtain ⟨hq,hr⟩:=Zq6 (val xs) (val ys) (2^z) (val Q) (val M) (Nat.two_pow_pos z) hinv hMlt;rw [←hq,←hr];have hsz:w0.heap.size≤gu:=by rw [hgu'];exact hb1.size
    have NQ:=Nt.ofOwn (lo:=w0.heap.size) HQ.out (by omega) hQw (by rw [hQl];unfold maxLen;omega)
    rw [hQl] at NQ;have hwr:gu≤wt2.heap.size:=by have:=HM.out.lt;omega
    refine ⟨⟨_,_,rfl,NQ.below hbr,hNr.mono (by omega),Zgu (hi:=0) NQ hNr (Nat.le_refl _)⟩,?_⟩
    exact ((hb1.trans (hbel.mono hsz))).trans (hbr.mono (by omega))
  · obtain ⟨i,rfl⟩:∃ i,gk=i+1:=⟨gk-1,by omega⟩
    obtain ⟨hn,hm,hx,hy,hR,hS,hVl,hVlt,hVt,hV,hY0,hXl⟩:=HH.out;obtain ⟨hN1,hb1,hRv,hO2,hB2,hgu',hg2⟩:=H1.out;obtain ⟨hMw,hQw,hMl,hQl,hinv,hMlt,hbel⟩:=HA.out;obtain ⟨k,hk2⟩:∃ k,m=k+2:=⟨m-2,by omega⟩
    obtain ⟨hz0,hhead⟩:=Zn6 M i m V hMw (by omega) hVlt hMlt
    have T:=hid (Zfu M (ws V) gu i (n+1-i) av m cv gu wr k hk2 HM.out (by omega) (by omega) (by omega) (by omega) hMw (Z8 V) ((hgu' ▸ hRv).below hbel) (Nat.le_refl _)
     (by rw [show k+1=m-1 by omega];exact hVt) (by rw [show k+3=m+1 by omega,Zc];exact hhead))
    have hik:(i:Int)<(n:Int)-m+1:=by omega
    have HI:=(qsd (ai hz0 hk2));clear hn hm hx hy hR hS hVl hVlt hVt hV hY0 hXl hN1 hb1 hRv hO2 hB2 hgu' hg2 hMw hQw hMl hQl hinv hMlt hbel hz0 hhead hk2 hk0
    go_wp2_with fail
    rw [show i+m+1-i=m+1 by omega]
    refine T.out.mono ?_;rintro r w2 ⟨o,M2,rfl,ho,hOM2,hM2w,hout,hsum,hlt2,hbut⟩;have hQ2:=HQ.out.but hbut (by omega)
    have hqc:=hQ2.cell i (by rw [HA.out.2.2.2.1];omega)
    have hqf:=hQ2.frozen i;have HJ:=(qsd (ai ho (ai hOM2 (ai hM2w (ai hout (ai hsum (ai hlt2 (ai hbut hQ2))))))));clear ho hOM2 hM2w hout hsum hlt2 hbut hQ2 T;go_wp2
    go_roundg i
    case measure=>omega
    case rel =>
     obtain ⟨ho,hOM2,hM2w,hout,hsum,hlt2,hbut,hQ2⟩:=HJ.out;obtain ⟨hMw,hQw,hMl,hQl,hinv,hMlt,hbel⟩:=HA.out;obtain ⟨hz0,hk2⟩:=HI.out;rw [Zc] at hsum hlt2;have hQr:i+1+(n-m+1-(i+1))=Q.length:=by omega
     obtain ⟨hX,hlt3⟩:=Zn5 M M2 Q i m (n-m+1-(i+1)) V o (val L) hMw (by omega) hout hinv hz0 hQr hsum hlt2
     refine ⟨M2,Q.set i o,by omega,by first | go_num | (congr 1;omega),hOM2.setOther (by simp;omega) _,hQ2.set i o,hM2w,hQw.set _ _ ho,by rw [hout.1,hMl],by simp [hQl],?_,hlt3,(But.below hbel hbut (by have:=HM.out.lt;omega) (Nat.le_refl _)).setCell (by simp;omega) _⟩
     rw [show n-m+1-i=n-m+1-(i+1)+1 by omega]
     exact hX
theorem Zdz (xs:List Nat):sg (xs++[0]) 0 xs.length=val xs:=by simp [sg]
theorem Zgx {xs:List Nat}(h:Wf xs):Wf (xs++[0]):=h.append (by intro x hx;simp at hx;omega)
theorem Zcq (n:Nat):(List.replicate (n+1) 0).drop n=[0]:=by rw [List.drop_replicate,Nat.add_sub_cancel_left];rfl
theorem Zte (xs ys:List Nat) (ao bo:Option Addr) (n cap m capb B:Nat) (w:World) (hn:n=xs.length) (hm:m=ys.length) (hnm:m≤n) (hc:n≤cap) (hcb:m≤capb) (hbig:n≤35184372088833)
 (hx:Wf xs) (hy:Wf ys) (hR:Rd B w ao xs) (hS:Rd B w bo ys) (hB:B≤w.heap.size) :
 Calls Tryz.prog 214 #[.slice ao n cap,.slice bo m capb] w fun r w'=>∃ v,r=.returned v∧Nt w.heap.size w' v (val xs+val ys)∧Below w.heap.size w w':=by
 obtain ⟨W1,hW1⟩:∃ W,W=w.alloc (.cells (madeCells #[.int .u32 0] (n+1)) 147):=⟨_,rfl⟩;have hO1:Own W1 w.heap.size (List.replicate (n+1) 0):=by rw [hW1];exact Own.made w (n+1)
 have hB1:Below w.heap.size w W1:=by rw [hW1];exact (Below.refl _ _).alloc (Nat.le_refl _) _
 obtain ⟨W2,hcp,hO2,hb2⟩:=Qx W1 w.heap.size (n+1) (n+1) ao n cap B 3 (List.replicate (n+1) 0) xs hO1 (by simp) hn (hR.below (hB1.mono hB)) (by omega)
 rw [Zcq] at hO2;have hB2:Below w.heap.size w W2:=But.below hB1 hb2 hB1.size (Nat.le_refl _);have H:=hid (Zba (xs++[0]) ys w.heap.size 0 n (n+1) bo m capb B W2 hO2 (by simp;omega) hm (by omega) (by omega) (by omega) (Zgx hx) hy (hS.below (hB2.mono hB)) hB)
 have hmk:=Zt ((n:Int)+1) (n+1) (by omega) (by omega) w
 rw [←hW1] at hmk;have HH:=(qsd (ai hn (ai hm (ai hx (ai hB2 hB)))));clear hn hm hx hy hR hS hO1 hB1 hO2 hb2 hB2 hB hW1;go_enter Tryz.func214,Tryz.ntmps214
 go_wp2_with fail
 refine H.out.mono ?_;rintro r W3 ⟨M,c,rfl,hc1,hO3,hM,hout,hsum,hbut⟩;obtain ⟨hn,hm,hx,hB2,hB⟩:=HH.out;have hl:M.length=n+1:=by rw [hout.1];simp;omega
 have hcl:=hO3.cell n (by omega)
 have hfr:=hO3.frozen n;have hO4:=hO3.set n c;have T:=hid (Zz (M.set n c) (some ⟨w.heap.size,0,none⟩) (n+1) (n+1) (w.heap.size+1) _ (by simp [hl]) (Nat.le_refl _) (by omega) (by simpa [hl,List.take_of_length_le] using Rd.ofOwn hO4 0 (n+1)))
 have HI:=(qsd (ai hc1 (ai hO4 (ai hM (ai hsum (ai hbut hl))))));clear hn hm hx hB2 hB hc1 hO3 hM hout hsum hbut hO4 H hl
 go_wp2_with fail
 refine T.out.mono ?_;rintro r w1 ⟨rfl,rfl⟩;go_wp2;go_ret;obtain ⟨hn,hm,hx,hB2,hB⟩:=HH.out;obtain ⟨hc1,hO4,hM,hsum,hbut,hl⟩:=HI.out
 have hv:val (M.set n c)=val xs+val ys:=by
  have e:val (M.set n c)=sg (M.set n c) 0 (n+1):=by rw [←Zr];simp [hl]
  have e2:=Zl M 0 n c (by omega)
  rw [Nat.zero_add] at e2;rw [e,e2];rw [hn,Zdz,←hn] at hsum;rw [Nat.mul_comm c] at hsum;exact hsum
 refine ⟨_,rfl,?_,But.below hB2 (hbut.set n _) hB2.size (Nat.le_refl _)⟩;have N:=Nt.ofOwn (lo:=w.heap.size) hO4 (Nat.le_refl _) (hM.set _ _ (by omega)) (by simp [hl];unfold maxLen;omega)
 rw [hv] at N;simpa [hl] using N
theorem Ztf (xs ys:List Nat) (ao bo:Option Addr) (n cap m capb B:Nat) (w:World) (hn:n=xs.length) (hm:m=ys.length) (hnm:m<n) (hc:n≤cap) (hcb:m≤capb) (hbig:n≤35184372088833)
 (hx:Wf xs) (hy:Wf ys) (hR:Rd B w ao xs) (hS:Rd B w bo ys) (hB:B≤w.heap.size) :
 Calls Tryz.prog 214 #[.slice bo m capb,.slice ao n cap] w fun r w'=>∃ v,r=.returned v∧Nt w.heap.size w' v (val xs+val ys)∧Below w.heap.size w w':=by
 obtain ⟨W1,hW1⟩:∃ W,W=w.alloc (.cells (madeCells #[.int .u32 0] (n+1)) 147):=⟨_,rfl⟩;have hO1:Own W1 w.heap.size (List.replicate (n+1) 0):=by rw [hW1];exact Own.made w (n+1)
 have hB1:Below w.heap.size w W1:=by rw [hW1];exact (Below.refl _ _).alloc (Nat.le_refl _) _
 obtain ⟨W2,hcp,hO2,hb2⟩:=Qx W1 w.heap.size (n+1) (n+1) ao n cap B 3 (List.replicate (n+1) 0) xs hO1 (by simp) hn (hR.below (hB1.mono hB)) (by omega)
 rw [Zcq] at hO2;have hB2:Below w.heap.size w W2:=But.below hB1 hb2 hB1.size (Nat.le_refl _);have H:=hid (Zba (xs++[0]) ys w.heap.size 0 n (n+1) bo m capb B W2 hO2 (by simp;omega) hm (by omega) (by omega) (by omega) (Zgx hx) hy (hS.below (hB2.mono hB)) hB)
 have hmk:=Zt ((n:Int)+1) (n+1) (by omega) (by omega) w
 rw [←hW1] at hmk;have HH:=(qsd (ai hn (ai hm (ai hx (ai hB2 hB)))));clear hn hm hx hy hR hS hO1 hB1 hO2 hb2 hB2 hB hW1;go_enter Tryz.func214,Tryz.ntmps214
 go_wp2_with fail
 refine H.out.mono ?_;rintro r W3 ⟨M,c,rfl,hc1,hO3,hM,hout,hsum,hbut⟩;obtain ⟨hn,hm,hx,hB2,hB⟩:=HH.out;have hl:M.length=n+1:=by rw [hout.1];simp;omega
 have hcl:=hO3.cell n (by omega)
 have hfr:=hO3.frozen n;have hO4:=hO3.set n c;have T:=hid (Zz (M.set n c) (some ⟨w.heap.size,0,none⟩) (n+1) (n+1) (w.heap.size+1) _ (by simp [hl]) (Nat.le_refl _) (by omega) (by simpa [hl,List.take_of_length_le] using Rd.ofOwn hO4 0 (n+1)))
 have HI:=(qsd (ai hc1 (ai hO4 (ai hM (ai hsum (ai hbut hl))))));clear hn hm hx hB2 hB hc1 hO3 hM hout hsum hbut hO4 H hl
 go_wp2_with fail
 refine T.out.mono ?_;rintro r w1 ⟨rfl,rfl⟩;go_wp2;go_ret;obtain ⟨hn,hm,hx,hB2,hB⟩:=HH.out;obtain ⟨hc1,hO4,hM,hsum,hbut,hl⟩:=HI.out
 have hv:val (M.set n c)=val xs+val ys:=by
  have e:val (M.set n c)=sg (M.set n c) 0 (n+1):=by rw [←Zr];simp [hl]
  have e2:=Zl M 0 n c (by omega)
  rw [Nat.zero_add] at e2;rw [e,e2];rw [hn,Zdz,←hn] at hsum;rw [Nat.mul_comm c] at hsum;exact hsum
 refine ⟨_,rfl,?_,But.below hB2 (hbut.set n _) hB2.size (Nat.le_refl _)⟩;have N:=Nt.ofOwn (lo:=w.heap.size) hO4 (Nat.le_refl _) (hM.set _ _ (by omega)) (by simp [hl];unfold maxLen;omega)
 rw [hv] at N;simpa [hl] using N
theorem Zq7 (xs ys:List Nat) (ao bo:Option Addr) (n cap m capb B:Nat) (w:World) (hn:n=xs.length) (hm:m=ys.length) (hc:n≤cap) (hcb:m≤capb) (hbig:n≤35184372088833) (hbig2:m≤35184372088833)
 (hx:Wf xs) (hy:Wf ys) (hR:Rd B w ao xs) (hS:Rd B w bo ys) (hB:B≤w.heap.size) :
 Calls Tryz.prog 214 #[.slice ao n cap,.slice bo m capb] w fun r w'=>∃ v,r=.returned v∧Nt w.heap.size w' v (val xs+val ys)∧Below w.heap.size w w':=by
 by_cases h:m≤n
 · exact Zte xs ys ao bo n cap m capb B w hn hm h hc hcb hbig hx hy hR hS hB
 · have:=Ztf ys xs bo ao m capb n cap B w hm hn (by omega) hcb hc hbig2 hy hx hS hR hB
   rw [Nat.add_comm] at this;exact this
theorem Zq8 (xs ys:List Nat) (ao bo:Option Addr) (n cap m capb B:Nat) (w:World) (hn:n=xs.length) (hm:m=ys.length) (hm0:0<m) (hc:n≤cap) (hcb:m≤capb) (hbig:n≤35184372088833)
 (hx:Wf xs) (hy:Wf ys) (htop:ys.getD (m-1) 0≠0) (hR:Rd B w ao xs) (hS:Rd B w bo ys) (hB:B≤w.heap.size) :
 Calls Tryz.prog 228 #[.slice ao n cap,.slice bo m capb] w fun r w'=>Two w.heap.size w' r (val xs/val ys) (val xs%val ys)∧Below w.heap.size w w':=by
 by_cases h1:n<m
 · exact Zn7 xs ys ao bo n cap m capb B w hn hm h1 hc hbig hx hy htop hR hB
 · by_cases h2:m=1
   · subst h2
     exact div_one xs ys ao bo n cap capb B w hn hm (by omega) hc hcb hbig hx hy htop hR hS hB
   · exact Zn8 xs ys ao bo n cap m capb B w hn hm (by omega) (by omega) hc hcb hbig hx hy htop hR hS hB
theorem Ztg (X:Nat) (h:X≠0):(ws X).getD ((ws X).length-1) 0≠0:=by
 have h1:nl (ws X)≠0:=by rw [Zj4];intro e;exact h ((Zm X).1 e)
 have:=Zjb (ws X) h1;rwa [Zj4] at this
theorem Zbv {X Y:Nat}(h:X≤Y):(ws X).length≤(ws Y).length:=(Zf X _).2 (Nat.lt_of_le_of_lt h (Qc Y))
theorem Ze9:ws 1=[1]:=by rw [Jr 1 (by omega),show 1/4294967296=0 from rfl,Zj]
theorem Zq9 (xs bs:List Nat) (ao bo:Option Addr) (n cap m capb B:Nat) (w:World) (hn:n=xs.length) (hm:m=bs.length) (hmn:m≤n) (hc:n≤cap) (hcb:m≤capb) (hbig:n≤35184372088833)
 (hx:Wf xs) (hb:Wf bs) (hle:val bs≤val xs) (hR0:Rd B w ao xs) (hS:Rd B w bo bs) (hB:B≤w.heap.size) :
 Calls Tryz.prog 216 #[.slice ao n cap,.slice bo m capb] w fun r w'=>∃ v,r=.returned v∧Nt w.heap.size w' v (val xs-val bs)∧Below w.heap.size w w':=by
 obtain ⟨W1,hW1⟩:∃ W,W=w.alloc (.cells (madeCells #[.int .u32 0] n) 147):=⟨_,rfl⟩;have hO1:Own W1 w.heap.size (List.replicate n 0):=by rw [hW1];exact Own.made w n
 have hB1:Below w.heap.size w W1:=by rw [hW1];exact (Below.refl _ _).alloc (Nat.le_refl _) _
 obtain ⟨W2,hcp,hO2,hb2⟩:=Qx W1 w.heap.size n n ao n cap B 3 (List.replicate n 0) xs hO1 (by simp) hn (hR0.below (hB1.mono hB)) (by omega)
 rw [List.drop_of_length_le (by simp),List.append_nil] at hO2
 have hB2:Below w.heap.size w W2:=But.below hB1 hb2 hB1.size (Nat.le_refl _);have hmk:=Zt (n:Int) n rfl (by omega) w
 rw [←hW1] at hmk;have hR:Rd B W2 bo bs:=hS.below (hB2.mono hB);obtain ⟨g,hg⟩:∃ g,g=w.heap.size:=⟨_,rfl⟩;rw [←hg] at hO2 hcp hmk hB2 hB;have HR:=(qsd (ai hR (ai hm (ai hb (ai hx (ai hn (ai hle (ai hB2 hg))))))));have HO:=hid hO2;have HA32:Hid (∀ x y c s d w,_→_→_→_→_→_):=Zds;clear hn hm hx hb hR0 hS hO1 hB1 hO2 hb2 hB2 hW1 hle hR hg;go_enter Tryz.func216,Tryz.ntmps216;go_wp2
 go_loopg [6,18] m (fun gk c i wr=>∃ (k cv:Nat) (M:List Nat),gk+k=m∧c=.int .u32 (cv:Nat)∧cv≤1∧i=.int .i64 (k:Nat) ∧
  Hid (Own wr g M)∧Aside (Wf M∧Out xs M 0 k∧sg M 0 k+sg bs 0 k=sg xs 0 k+cv*pw k∧But g W2 wr))
 case atStart=>exact ⟨0,0,xs,by omega,rfl,by omega,rfl,HO,HR.out.2.2.2.1,Out.refl _ _ _,by simp [Zy],But.refl _ _⟩
 case round =>
  obtain ⟨k,cv,M,hgk,rfl,hcv,rfl,HM,HA⟩:=hrel
  by_cases hk:k<m
  · obtain ⟨hR,hm,hb,hx,hn,hle,hB2,hg⟩:=HR.out
    obtain ⟨hMw,hMo,hMs,hbut⟩:=HA.out;obtain ⟨b,boff,hbB,rfl,hbc⟩:=hR (by intro e;subst e;simp at hm;omega)
    have hbk:wr.cell? ⟨b,boff+k,none⟩=some (.int .u32 ((bs.getD k 0:Nat):Int)):=by
     have h1:=hbut.block b (World.block_lt_of_cell? W2 ⟨b,boff+k,none⟩ (hbc k (by omega))) (by omega)
     exact (World.cell?_of_block (a:=⟨b,boff+k,none⟩) h1).trans (hbc k (by omega))
    have hgc:=HM.out.cell k (by rw [hMo.1];omega)
    have hgf:=HM.out.frozen k;obtain ⟨x,hxx⟩:∃ x:Nat,M.getD k 0=x:=⟨_,rfl⟩;obtain ⟨y,hy⟩:∃ y:Nat,bs.getD k 0=y:=⟨_,rfl⟩;have hxl:x<4294967296:=hxx ▸ hMw.get _;have hyl:y<4294967296:=hy ▸ hb.get _;rw [hxx] at hgc;rw [hy] at hbk;obtain ⟨s,hs⟩:∃ s:Nat,(s:Int)=((x:Int)-y-cv)%4294967296:=⟨(((x:Int)-y-cv)%4294967296).toNat,by omega⟩
    obtain ⟨d,hd⟩:∃ d:Nat,d=if x<y+cv then 1 else 0:=⟨_,rfl⟩
    have HX:=(qsd (ai hxx (ai hy (ai hs hd))));clear hxx hy hs hd hR hm hb hx hn hle hB2 hg hMw hMo hMs hbut hbc
    go_wp2_with fail
    refine (HA32.out x y cv s d _ hxl hyl hcv HX.out.2.2.1 HX.out.2.2.2).mono ?_;rintro r w1 ⟨rfl,rfl⟩;go_wp2
    go_roundg (gk-1)
    case measure=>omega
    case rel =>
     obtain ⟨hxx,hy,hs,hd⟩:=HX.out;obtain ⟨hR,hm,hb,hx,hn,hle,hB2,hg⟩:=HR.out;obtain ⟨hMw,hMo,hMs,hbut⟩:=HA.out;have hd1:d≤1:=by rw [hd];split <;> omega
     have hsum:s+y+cv=x+d*4294967296:=by rw [hd];split <;> omega
     refine ⟨k+1,d,M.set k s,by omega,rfl,hd1,by go_num,HM.out.set _ _,hMw.set _ _ (by omega),(hMo.mono (by omega)).set _ _ (by omega) (by omega),?_,hbut.set _ _⟩
     have e1:=Zl M 0 k s (by rw [hMo.1];omega)
     rw [Nat.zero_add] at e1;rw [e1,Zi xs 0 k (by omega),Zi bs 0 k (by omega),Nat.zero_add,hy,Zh]
     have e:xs.getD k 0=x:=by rw [←hxx];exact (hMo.2 _ (by omega)).symm
     rw [e];exact Jh _ _ _ _ _ _ _ _ _ hMs hsum
  · obtain rfl:k=m:=by omega
    have HA2:Aside (Wf M∧Out xs M 0 k∧sg M 0 k+val bs=sg xs 0 k+cv*pw k∧But g W2 wr):=by
     obtain ⟨hR,hm,hb,hx,hn,hle,hB2,hg⟩:=HR.out;obtain ⟨hMw,hMo,hMs,hbut⟩:=HA.out;refine ⟨hMw,hMo,?_,hbut⟩;rw [←hMs,hm,Zr]
    clear HA hgk HO hk;go_wp2
    go_loopg [6,9] (n-k+1) (fun g2 c i w2=>∃ (j cv:Nat) (M:List Nat),g2+j=n+1∧k≤j∧j≤n∧c=.int .u32 (cv:Nat)∧cv≤1∧i=.int .i64 (j:Nat) ∧
     Hid (Own w2 g M)∧Aside (Wf M∧Out xs M 0 j∧sg M 0 j+val bs=sg xs 0 j+cv*pw j∧But g W2 w2))
    case atStart=>exact ⟨k,cv,M,by omega,Nat.le_refl _,hmn,rfl,hcv,rfl,HM,HA2.out⟩
    case round =>
     clear HM HA2 hcv;obtain ⟨j,cv,M,hgj,hkj,hjn,rfl,hcv,rfl,HM,HA⟩:=hrel
     by_cases h0:cv=0
     · subst h0
       obtain ⟨hR,hm,hb,hx,hn,hle,hB2,hg⟩:=HR.out;obtain ⟨hMw,hMo,hMs,hbut⟩:=HA.out;have hl:M.length=n:=by rw [hMo.1,hn]
       have T:=hid (Zz M (some ⟨g,0,none⟩) n n (g+1) wr hl.symm (Nat.le_refl _) (by omega) (by simpa [hl,List.take_of_length_le] using Rd.ofOwn HM.out 0 n))
       clear hR hm hb hx hn hle hB2 hg hMw hMo hMs hbut
       go_wp2_with fail
       refine T.out.mono ?_;rintro r w1 ⟨rfl,rfl⟩;go_wp2;go_ret;obtain ⟨hR,hm,hb,hx,hn,hle,hB2,hg⟩:=HR.out;obtain ⟨hMw,hMo,hMs,hbut⟩:=HA.out;rw [Nat.zero_mul,Nat.add_zero] at hMs;have hv:=Zln (n:=n) hjn (by omega) hMo hMs
       have e1:sg M 0 n=val M:=by rw [←hl];exact Zr M
       have e2:sg xs 0 n=val xs:=by rw [hn];exact Zr xs
       rw [e1,e2] at hv;refine ⟨_,rfl,?_,?_⟩
       · have N:=Nt.ofOwn (lo:=g) HM.out (Nat.le_refl _) hMw (by rw [hl];unfold maxLen;omega)
         rw [show val xs-val bs=val M by omega,←hg]
         rw [hl] at N;exact N
       · rw [←hg]
         exact But.below hB2 hbut (by have:=hB2.size;omega) (Nat.le_refl _)
     · obtain rfl:cv=1:=by omega
       obtain ⟨hR,hm,hb,hx,hn,hle,hB2,hg⟩:=HR.out;obtain ⟨hMw,hMo,hMs,hbut⟩:=HA.out
       have hj:j<n:=by
        by_cases hj:j=n
        · exfalso
          subst hj;have h1:=Je M 0 j hMw (by rw [hMo.1];omega)
          have e2:sg xs 0 j=val xs:=by rw [hn];exact Zr xs
          omega
        · omega
       have hgc:=HM.out.cell j (by rw [hMo.1];omega)
       have hgf:=HM.out.frozen j;obtain ⟨x,hxx⟩:∃ x:Nat,M.getD j 0=x:=⟨_,rfl⟩;have hxl:x<4294967296:=hxx ▸ hMw.get _;rw [hxx] at hgc;obtain ⟨s,hs⟩:∃ s:Nat,(s:Int)=((x:Int)-(0:Nat)-(1:Nat))%4294967296:=⟨(((x:Int)-(0:Nat)-(1:Nat))%4294967296).toNat,by omega⟩
       obtain ⟨d,hd⟩:∃ d:Nat,d=if x<0+1 then 1 else 0:=⟨_,rfl⟩
       have HX:=(qsd (ai hxx (ai hs hd)));clear hxx hs hd hR hm hb hx hn hle hB2 hg hMw hMo hMs hbut h0
       go_wp2_with fail
       refine (HA32.out x 0 1 s d _ hxl (by omega) (by omega) HX.out.2.1 HX.out.2.2).mono ?_
       rintro r w1 ⟨rfl,rfl⟩;go_wp2
       go_roundg (gk-1)
       case measure=>omega
       case rel =>
        obtain ⟨hxx,hs,hd⟩:=HX.out;obtain ⟨hR,hm,hb,hx,hn,hle,hB2,hg⟩:=HR.out;obtain ⟨hMw,hMo,hMs,hbut⟩:=HA.out;have hd1:d≤1:=by rw [hd];split <;> omega
        have hsum:s+0+1=x+d*4294967296:=by rw [hd];split <;> omega
        refine ⟨j+1,d,M.set j s,by omega,by omega,by omega,rfl,hd1,by go_num,HM.out.set _ _,hMw.set _ _ (by omega),(hMo.mono (by omega)).set _ _ (by omega) (by omega),?_,hbut.set _ _⟩
        have e1:=Zl M 0 j s (by rw [hMo.1];omega)
        rw [Nat.zero_add] at e1;rw [e1,Zi xs 0 j (by omega),Nat.zero_add,Zh]
        have e:xs.getD j 0=x:=by rw [←hxx];exact (hMo.2 _ (by omega)).symm
        rw [e];have:=Jh (pw j) _ _ _ _ x 0 s d hMs hsum;omega
theorem Zel (L bs:List Nat) (g off n cap:Nat) (ao:Option Addr) (m capb B q:Nat) (w:World)
 (hO:Own w g L) (hoff:off+n≤L.length) (hm:m=bs.length) (hmn:m≤n) (hcap:n≤cap) (hbig:n≤4611686018427387904) (hL:Wf L) (hb:Wf bs) (hR:Rd B w ao bs) (hB:B≤g) (hq:q<4294967296) :
 Calls Tryz.prog 217 #[.slice (some ⟨g,off,none⟩) n cap,.slice ao m capb,.int .u32 (q:Nat)] w fun r w' =>
  ∃ M c,r=.returned (.int .u32 (c:Nat))∧c<4294967296∧Own w' g M∧Wf M∧Out L M off m∧sg M off m+c*pw m=sg L off m+val bs*q∧But g w w':=by
 have HR:Aside (Rd B w ao bs∧m=bs.length∧Wf bs∧Wf L∧off+n≤L.length):=⟨hR,hm,hb,hL,hoff⟩;have HO:Hid (Own w g L):=hO;clear hR hm hb hL hO hoff;go_enter Tryz.func217,Tryz.ntmps217;go_wp2
 go_loopg [7,13] m (fun gk c i wr=>∃ (k cv:Nat) (M:List Nat),gk+k=m∧c=.int .u64 (cv:Nat)∧cv<4294967296∧i=.int .i64 (k:Nat) ∧
  Hid (Own wr g M)∧Aside (Wf M∧Out L M off k∧sg M off k+cv*pw k=sg L off k+sg bs 0 k*q∧But g w wr))
 case atStart=>exact ⟨0,0,L,by omega,rfl,by omega,rfl,HO,HR.out.2.2.2.1,Out.refl _ _ _,by simp [Zy],But.refl _ _⟩
 case round =>
  obtain ⟨k,cv,M,hgk,rfl,hcv,rfl,HM,HA⟩:=hrel
  by_cases hk:k<m
  · obtain ⟨hR,hm,hb,hL,hoff⟩:=HR.out
    obtain ⟨hMw,hMo,hMs,hbut⟩:=HA.out;obtain ⟨b,boff,hbB,rfl,hbc⟩:=hR (by intro e;subst e;simp at hm;omega)
    have hbk:wr.cell? ⟨b,boff+k,none⟩=some (.int .u32 ((bs.getD k 0:Nat):Int)):=by
     have h1:=hbut.block b (World.block_lt_of_cell? w ⟨b,boff+k,none⟩ (hbc k (by omega))) (by omega)
     exact (World.cell?_of_block (a:=⟨b,boff+k,none⟩) h1).trans (hbc k (by omega))
    have hgc:=HM.out.cell (off+k) (by rw [hMo.1];omega)
    have hgf:=HM.out.frozen (off+k);obtain ⟨x,hx⟩:∃ x:Nat,M.getD (off+k) 0=x:=⟨_,rfl⟩;obtain ⟨y,hy⟩:∃ y:Nat,bs.getD k 0=y:=⟨_,rfl⟩;have hxl:x<4294967296:=hx ▸ hMw.get _;have hyl:y<4294967296:=hy ▸ hb.get _;rw [hx] at hgc;rw [hy] at hbk;have hp0:=Za8 y q hyl hq;have hp2:(y:Int)*(q:Int)≤18446744065119617025:=by rw [←Int.natCast_mul];omega
    have hp1:0≤(y:Int)*(q:Int):=by rw [←Int.natCast_mul];omega
    obtain ⟨s,hs⟩:∃ s:Nat,s=(y*q+x+cv)%4294967296:=⟨_,rfl⟩;obtain ⟨d,hd⟩:∃ d:Nat,d=(y*q+x+cv)/4294967296:=⟨_,rfl⟩;have e0:((y*q+x+cv:Nat):Int)=(y:Int)*q+x+cv:=by simp only [Int.natCast_add,Int.natCast_mul]
    have e1:((y:Int)*q+x+cv)%4294967296=(s:Int):=by rw [←e0];omega
    have e2:((y:Int)*q+x+cv)/4294967296=(d:Int):=by rw [←e0];omega
    have HX:Aside (M.getD (off+k) 0=x∧bs.getD k 0=y∧s+d*4294967296=y*q+x+cv∧s<4294967296∧d<4294967296):=⟨hx,hy,by omega,by omega,by omega⟩
    clear hx hy hs hd hR hm hb hL hoff hMw hMo hMs hbut hbc e0 hp0;go_wp2
    go_roundg (gk-1)
    case measure=>omega
    case rel =>
     obtain ⟨hx,hy,he,hs,hd⟩:=HX.out;obtain ⟨hR,hm,hb,hL,hoff⟩:=HR.out;obtain ⟨hMw,hMo,hMs,hbut⟩:=HA.out;refine ⟨k+1,d,M.set (off+k) s,by omega,rfl,hd,by go_num,HM.out.set _ _,hMw.set _ _ hs,(hMo.mono (by omega)).set _ _ (by omega) (by omega),?_,hbut.set _ _⟩
     rw [Zl _ _ _ _ (by rw [hMo.1];omega),Zi L off k (by omega),Zi bs 0 k (by omega),Nat.zero_add,hy,Zh]
     have e:L.getD (off+k) 0=x:=by rw [←hx];exact (hMo.2 _ (by omega)).symm
     rw [e];exact Zcm _ _ _ _ _ _ _ _ _ _ hMs he
  · obtain rfl:k=m:=by omega
    go_wp2;go_ret;obtain ⟨hR,hm,hb,hL,hoff⟩:=HR.out;obtain ⟨hMw,hMo,hMs,hbut⟩:=HA.out;refine ⟨M,cv,rfl,hcv,HM.out,hMw,hMo,?_,hbut⟩;rw [hMs,hm,Zr]
theorem Zgy (p V b x r q c:Nat) (h:V+p*r=b*q):V+p*(r+q*x)=(b+p*x)*q:=by grind
theorem Zra (xs bs:List Nat) (ao bo:Option Addr) (n cap m capb B:Nat) (w:World) (hn:n=xs.length) (hm:m=bs.length) (hc:n≤cap) (hcb:m≤capb) (hbig:n+m≤70368744177664)
 (hx:Wf xs) (hb:Wf bs) (hR:Rd B w ao xs) (hS:Rd B w bo bs) (hB:B≤w.heap.size) :
 Calls Tryz.prog 181 #[.slice ao n cap,.slice bo m capb] w fun r w'=>∃ v,r=.returned v∧Nt w.heap.size w' v (val xs*val bs)∧Below w.heap.size w w':=by
 obtain ⟨W1,hW1⟩:∃ W,W=w.alloc (.cells (madeCells #[.int .u32 0] (n+m)) 147):=⟨_,rfl⟩;have hO1:Own W1 w.heap.size (List.replicate (n+m) 0):=by rw [hW1];exact Own.made w (n+m)
 have hB1:Below w.heap.size w W1:=by rw [hW1];exact (Below.refl _ _).alloc (Nat.le_refl _) _
 have hmk:=Zt ((n:Int)+m) (n+m) (by omega) (by omega) w
 rw [←hW1] at hmk;have hR1:Rd B W1 ao xs:=hR.below (hB1.mono hB);have hS1:Rd B W1 bo bs:=hS.below (hB1.mono hB);obtain ⟨g,hg⟩:∃ g,g=w.heap.size:=⟨_,rfl⟩;rw [←hg] at hO1 hmk hB1 hB;have HR:=(qsd (ai hR1 (ai hS1 (ai hm (ai hb (ai hx (ai hn (ai hB1 hg))))))));have HO:=hid hO1;clear hn hm hx hb hR hS hO1 hB1 hW1 hR1 hS1 hg;go_enter Tryz.func181,Tryz.ntmps181;go_wp2
 go_loopg [16] n (fun gk i wr=>∃ (k:Nat) (M:List Nat),gk+k=n∧i=.int .i64 (k:Nat) ∧
  Hid (Own wr g M)∧Aside (Wf M∧M.length=n+m∧sg M 0 (k+m)=sg xs 0 k*val bs∧But g W1 wr))
 case atStart=>exact ⟨0,_,by omega,rfl,HO,Wf.zeros _,by simp,by rw [Zar,Zy];simp,But.refl _ _⟩
 case round =>
  obtain ⟨k,M,hgk,rfl,HM,HA⟩:=hrel
  by_cases hk:k<n
  · obtain ⟨hR,hS,hm,hb,hx,hn,hB1,hg⟩:=HR.out
    obtain ⟨hMw,hMl,hMs,hbut⟩:=HA.out;have hW1s:g≤W1.heap.size:=by have:=hB1.size;omega
    obtain ⟨b,boff,hbB,rfl,hbc⟩:=hR (by intro e;subst e;simp at hn;omega)
    have hbk:wr.cell? ⟨b,boff+k,none⟩=some (.int .u32 ((xs.getD k 0:Nat):Int)):=by
     have h1:=hbut.block b (World.block_lt_of_cell? W1 ⟨b,boff+k,none⟩ (hbc k (by omega))) (by omega)
     exact (World.cell?_of_block (a:=⟨b,boff+k,none⟩) h1).trans (hbc k (by omega))
    obtain ⟨y,hy⟩:∃ y:Nat,xs.getD k 0=y:=⟨_,rfl⟩;have hyl:y<4294967296:=hy ▸ hx.get _;rw [hy] at hbk;have H:=hid (Zel M bs g k m (n+m-k) bo m capb B y wr HM.out (by omega) hm (Nat.le_refl _) (by omega) (by omega) hMw hb (hS.but hbut (by omega) hB) hB hyl)
    have HX:=(qsd (ai hy hn));clear hy hR hS hm hb hx hn hB1 hg hMw hMl hMs hbut hbc hW1s
    go_wp2_with fail
    refine H.out.mono ?_;rintro r W3 ⟨M2,c,rfl,hc1,hO3,hM2,hout,hsum,hbut2⟩;obtain ⟨hMw,hMl,hMs,hbut⟩:=HA.out;have hgc:=hO3.cell (k+m) (by rw [hout.1];omega)
    have hgf:=hO3.frozen (k+m);have HI:=(qsd (ai hc1 (ai hO3 (ai hM2 (ai hout (ai hsum hbut2))))));clear hc1 hO3 hM2 hout hsum hbut2 hMw hMl hMs hbut H;go_wp2
    go_roundg (gk-1)
    case measure=>omega
    case rel =>
     obtain ⟨hy,hn⟩:=HX.out;obtain ⟨hMw,hMl,hMs,hbut⟩:=HA.out;obtain ⟨hc1,hO3,hM2,hout,hsum,hbut2⟩:=HI.out;refine ⟨k+1,M2.set (k+m) c,by omega,by go_num,hO3.set _ _,hM2.set _ _ hc1,by simp [hout.1,hMl],?_,(hbut.trans hbut2).set _ _⟩
     have e1:=Zl M2 0 (k+m) c (by rw [hout.1];omega)
     rw [Nat.zero_add] at e1;have e2:=Qt M2 0 k m (by rw [hout.1];omega)
     have e3:=Qt M 0 k m (by omega)
     rw [Nat.zero_add] at e2 e3;have e4:=hout.below 0 k (by omega) (by omega)
     rw [show k+1+m=k+m+1 by omega,e1,e2,e4,Zi xs 0 k (by omega),Nat.zero_add,hy,Zbh]
     rw [e3] at hMs;rw [Nat.mul_comm c] at hsum;have:=Zgy (pw k) _ _ y _ _ c hMs;rw [←hsum] at this;rw [←this,Nat.mul_add,Nat.mul_assoc,Nat.add_assoc]
  · obtain rfl:k=n:=by omega
    obtain ⟨hMw,hMl,hMs,hbut⟩:=HA.out;have T:=hid (Zz M (some ⟨g,0,none⟩) (k+m) (k+m) (g+1) wr hMl.symm (Nat.le_refl _) (by omega) (by simpa [hMl,List.take_of_length_le] using Rd.ofOwn HM.out 0 (k+m)))
    clear hMw hMl hMs hbut
    go_wp2_with fail
    refine T.out.mono ?_;rintro r w1 ⟨rfl,rfl⟩;go_wp2;go_ret;obtain ⟨hR,hS,hm,hb,hx,hn,hB1,hg⟩:=HR.out;obtain ⟨hMw,hMl,hMs,hbut⟩:=HA.out;have e1:sg M 0 (k+m)=val M:=by rw [←hMl];exact Zr M
    have e2:sg xs 0 k=val xs:=by rw [hn];exact Zr xs
    rw [e1,e2] at hMs;refine ⟨_,rfl,?_,?_⟩
    · have N:=Nt.ofOwn (lo:=g) HM.out (Nat.le_refl _) hMw (by rw [hMl];unfold maxLen;omega)
      rw [←hMs,←hg];rw [hMl] at N;exact N
    · rw [←hg]
      exact But.below hB1 hbut (by have:=hB1.size;omega) (Nat.le_refl _)
end
end Go.Proofs.YtblkpkgebigojaaGreatDoor
