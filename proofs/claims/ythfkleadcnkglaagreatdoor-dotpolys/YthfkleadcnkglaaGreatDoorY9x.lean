import Derived.Test.YthfkleadcnkglaaGreatDoorX10x
import Derived.Test.YthfkleadcnkglaaGreatDoorP2x
import Derived.Deep.CutRange
import Derived.Test.YthfkleadcnkglaaGreatDoorZ9x
import Derived.Test.YthfkleadcnkglaaGreatDoorX6x
import Derived.Test.YthfkleadcnkglaaGreatDoorO4x
import Derived.Test.YthfkleadcnkglaaGreatDoorM1x
import Derived.OwnWalk
import Derived.ArgAppend
import Derived.Maps.AppendAt
import Derived.WalkMore
import Derived.Deep.RegionWith
import Derived.BigQuiet
import Derived.ProofKit
import Derived.OpenShut
import Derived.ChangeOld
import Derived.ChangeArms
import Derived.SizedLaws
import Derived.Laws.Cover2
set_option linter.unusedVariables false
set_option linter.unusedSimpArgs false
set_option maxHeartbeats 16000000
set_option maxRecDepth 20000
namespace Go.Proofs.YthfkleadcnkglaaGreatDoor
namespace J
end J
section
open Go.RowKit J
noncomputable def oZ (x:Nat):Option (Bool×Nat×Int):=open Classical in if finW x then oW x else o00
theorem oZ_fin {x:Nat}(h:finW x):oZ x=oW x:=if_pos h
theorem oZ_odd {x:Nat}(h:¬ finW x):oZ x=o00:=if_neg h
theorem oZ_iv (x:Nat) (hx:x<18446744073709551616):Iv (oZ x) (-1074) 1024:=by
 by_cases h:finW x
 · rw [oZ_fin h];exact oW_iv x hx h
 · rw [oZ_odd h];exact o00_iv _ _
abbrev o11:Option (Bool×Nat×Int):=some (false,1,0)
theorem o11_iv:Iv o11 0 1:=⟨false,1,0,rfl,mkS_frm mk_one,.inr ⟨by decide,by decide⟩⟩
theorem val_11:valO o11=(MM:Int):=by
 have h:=o1;have e:=val_mk h (by decide) EK rfl
 rw [mk_one,←M_eq] at e;rw [e];unfold sg1;simp
noncomputable def dSt (x:Nat) (s:Option (Bool×Nat×Int)×Option (Bool×Nat×Int)) (c:Nat):Option (Bool×Nat×Int)×Option (Bool×Nat×Int):=(addD s.1 (mulD (oZ c) s.2),mulD s.2 (oZ x))
noncomputable def dS (x:Nat) (l:List Nat):Option (Bool×Nat×Int)×Option (Bool×Nat×Int):=l.foldl (dSt x) (o00,o11)
theorem dS_take (x:Nat) (l:List Nat) (k:Nat) (h:k<l.length):dS x (l.take (k+1))=dSt x (dS x (l.take k)) (l.getD k 0):=by
 rw [take_snoc10 l k h];simp [dS,List.foldl_append]
def Dr (k:Nat) (s:Option (Bool×Nat×Int)×Option (Bool×Nat×Int)):Prop:=Iv s.1 (-1074*(k+1:Nat)) (1025*(k+1:Nat))∧Iv s.2 (-1074*(k:Nat)) (1024*(k:Nat)+1)
theorem Dr.term {k c:Nat}{s:Option (Bool×Nat×Int)×Option (Bool×Nat×Int)}(h:Dr k s) (hk:k≤40) (hc:c<18446744073709551616):Iv (mulD (oZ c) s.2) (-1074*(k+1:Nat)) (1025*(k+1:Nat)) :=
 ((oZ_iv c hc).mul h.2 (by omega) (by omega) (by omega)).mono (by omega) (by omega)
theorem Dr.step {k c x:Nat}{s:Option (Bool×Nat×Int)×Option (Bool×Nat×Int)}(h:Dr k s) (hk:k≤40) (hc:c<18446744073709551616) (hx:x<18446744073709551616):Dr (k+1) (dSt x s c):=by
 have h1:=(h.1.add (h.term hk hc) (by omega) (by omega) (by omega)).mono (c:=-1074*(k+1+1:Nat)) (d:=1025*(k+1+1:Nat)) (by omega) (by omega)
 have h2:=(h.2.mul (oZ_iv x hx) (by omega) (by omega) (by omega)).mono (c:=-1074*(k+1:Nat)) (d:=1024*(k+1:Nat)+1) (by omega) (by omega)
 exact ⟨h1,h2⟩
theorem Dr.start:Dr 0 (o00,o11):=⟨o00_iv _ _,o11_iv⟩
theorem dS_dr {x:Nat}(hx:x<18446744073709551616) {l:List Nat}(hW:W64 l):∀ k,k≤l.length→k≤40→Dr k (dS x (l.take k))
 | 0,_,_=>by rw [List.take_zero];exact Dr.start
 | k+1,h,hk=>by
   rw [dS_take x l k h];exact (dS_dr hx hW k (by omega) (by omega)).step (by omega) (hW.get k) hx
theorem dS_val {x:Nat}(hx:x<18446744073709551616) (fx:finW x):∀ (l:List Nat) (k:Nat) (s:Option (Bool×Nat×Int)×Option (Bool×Nat×Int)),W64 l→(∀ c ∈ l,finW c)→k+l.length≤38→Dr k s →
 valO (l.foldl (dSt x) s).1*(MM:Int)=valO s.1*(MM:Int)+valO s.2*valO (pHw x l.reverse)
 | [],k,s,_,_,_,_=>by
   show valO s.1*_=_+_*valO o00
   rw [valO_00,Int.mul_zero,Int.add_zero]
 | c::l,k,s,hW,hf,hl,hs=>by
   have hc:=hW c List.mem_cons_self;have fc:=hf c List.mem_cons_self;have hW':W64 l:=fun z hz=>hW z (List.mem_cons_of_mem _ hz)
   have hf':∀ z ∈ l,finW z:=fun z hz=>hf z (List.mem_cons_of_mem _ hz)
   rw [List.length_cons] at hl;have hs':=hs.step (c:=c) (by omega) hc hx
   have ih:=dS_val hx fx l (k+1) (dSt x s c) hW' hf' (by omega) hs'
   rw [List.foldl_cons,List.reverse_cons];have hp:=pHw_val x hx fx l.reverse c (fun d hd=>by rcases List.mem_append.1 hd with q | q;exact hW' d (List.mem_reverse.1 q);rw [List.mem_singleton] at q;subst q;exact hc) (fun d hd=>by rcases List.mem_append.1 hd with q | q;exact hf' d (List.mem_reverse.1 q);rw [List.mem_singleton] at q;subst q;exact fc) (by rw [List.length_reverse];omega)
   have ht:=hs.term (c:=c) (by omega) hc
   have m1:=val_mul (oZ_iv c hc).fm hs.2.fm ht.fm;have m2:=val_mul hs.2.fm (oZ_iv x hx).fm hs'.2.fm;have a1:valO (dSt x s c).1=valO s.1+valO (mulD (oZ c) s.2):=val_add hs.1.fm ht.fm hs'.1.fm;have m2':valO (dSt x s c).2*(MM:Int)=valO s.2*valO (oZ x):=m2;rw [oZ_fin fc] at m1 a1;rw [oZ_fin fx] at m2';refine M_cancel ?_;rw [ih,a1];generalize valO (mulD (oW c) s.2)=T at m1 ⊢;generalize valO (dSt x s c).2=P' at m2' ⊢;generalize valO (pHw x (l.reverse++[c]))=H' at hp ⊢;generalize valO (pHw x l.reverse)=H at hp ⊢;generalize valO (oW c)=C at m1 hp;generalize valO (oW x)=X at m2' hp;generalize valO s.1=S;generalize valO s.2=P at m1 m2' ⊢;generalize (MM:Int)=M at m1 m2' hp ⊢;have q1:P'*H*M=P*X*H:=by rw [←m2',Int.mul_right_comm]
   have q2:P*H'*M=P*(H*X+C*M):=by rw [Int.mul_assoc,hp]
   have q3:T*M*M=C*P*M:=by rw [m1]
   grind
theorem dS_horner {x:Nat}(hx:x<18446744073709551616) (fx:finW x) {l:List Nat}(hW:W64 l) (hf:∀ c ∈ l,finW c) (hl:l.length≤33):(dS x l).1=pHw x l.reverse:=by
 have h:=dS_val hx fx l 0 (o00,o11) hW hf (by omega) Dr.start
 have d:=(dS_dr hx hW l.length (Nat.le_refl _) (by omega)).1
 rw [List.take_length] at d;have p:=pHw_iv x hx fx l.reverse (fun z hz=>hW z (List.mem_reverse.1 hz)) (fun z hz=>hf z (List.mem_reverse.1 hz)) (by rw [List.length_reverse];omega)
 refine valO_inj d.fm p.fm (M_cancel ?_);rw [show valO (dS x l).1*(MM:Int)=_ from h]
 show valO o00*_+valO o11*_=_
 rw [valO_00,val_11,Int.zero_mul,Int.zero_add,Int.mul_comm]
theorem rOne12 (w:World):Calls Tryz.prog 61 #[.int .i64 1] w fun r w'=>(∃ v,r=.returned (.agg #[.bool (dN o11),v,.int .i64 (dE o11)])∧Nt w.heap.size w' v (dX o11))∧Below w.heap.size w w':=by
 have:=rInt_any 1 w (by decide) (by decide)
 rw [show decide ((1:Int)<0)=false by decide,show (1:Int).natAbs=1 from rfl,mk_one] at this
 exact this
noncomputable def oE (x:Nat):Int:=open Classical in if finW x then 0 else 30
theorem rofZ (x:Nat) (hx:x<18446744073709551616) (w:World) :
 Calls Tryz.prog 25 #[.float .f64 x] w fun r w'=>(∃ v,r=.returned (.tuple #[.agg #[.bool (dN (oZ x)),v,.int .i64 (dE (oZ x))],.int .i64 (oE x)])∧Nt w.heap.size w' v (dX (oZ x)))∧Below w.heap.size w w':=by
 by_cases h:finW x
 · rw [oZ_fin h,show oE x=0 from if_pos h]
   exact rof12 x hx h w
 · rw [oZ_odd h,show oE x=30 from if_neg h]
   refine (rof12_odd x hx h w).mono ?_;rintro r w' ⟨⟨a,c,rfl,hN⟩,hb⟩;exact ⟨⟨_,rfl,hN⟩,hb⟩
theorem rround12 {U:World}{a:Option Addr}{c:Nat}{o:Option (Bool×Nat×Int)}(F:Fm o) (N:Nt 0 U (.slice a (ws (dX o)).length c) (dX o)) (mode:Int) (z:Nat×Int) (hz:rndS o mode=z) :
 Calls Tryz.prog 62 #[.agg #[.bool (dN o),.slice a (ws (dX o)).length c,.int .i64 (dE o)],.int .i64 mode] U fun r w'=>r=.returned (.tuple #[.float .f64 z.1,.int .i64 z.2])∧Below U.heap.size U w':=by
 have:=rRound_any (F.a12 N) F.two (dN o) (dE o) mode F.rng.1 F.rng.2;rw [val_ws,F.re,hz] at this;exact this
end
section
open Go.RowKit J
attribute [local go_sem] st_float
theorem rMay12 (a:Int) (w:World):Calls Tryz.prog 40 #[.int .i64 a] w fun r w'=>r=.returned (.bool (md a))∧w'=w:=by
 unfold md
 by_cases h:0≤a
 · have hd:decide (0≤a)=true:=decide_eq_true h
   rw [hd];go_enter Tryz.func40,Tryz.ntmps40;go_wp2;go_ret;exact ⟨by first | rfl | simp,rfl⟩
 · have hd:decide (0≤a)=false:=decide_eq_false h
   rw [hd];go_enter Tryz.func40,Tryz.ntmps40;go_wp2;go_ret;exact ⟨by first | rfl | simp,rfl⟩
noncomputable def eZ (x:Nat) (l:List Nat):Int:=open Classical in if finW x∧∀ c ∈ l,finW c then 0 else 30
theorem eZ_step (x:Nat) (l:List Nat) (k:Nat) (h:k<l.length):(((oE (l.getD k 0) != 0)=false∧eZ x (l.take (k+1))=eZ x (l.take k))∨((oE (l.getD k 0) != 0)=true∧oE (l.getD k 0)=30∧eZ x (l.take (k+1))=30)):=by
 rw [take_snoc10 l k h];generalize l.getD k 0=c
 by_cases fc:finW c
 · left
   refine ⟨by rw [show oE c=0 from if_pos fc];rfl,?_⟩
   unfold eZ
   by_cases q:finW x∧∀ y ∈ l.take k,finW y
   · rw [if_pos q,if_pos ⟨q.1,fun y hy=>by rcases List.mem_append.1 hy with r | r;exact q.2 y r;rw [List.mem_singleton] at r;subst r;exact fc⟩]
   · rw [if_neg q,if_neg (fun r=>q ⟨r.1,fun y hy=>r.2 y (List.mem_append_left _ hy)⟩)]
 · right
   refine ⟨by rw [show oE c=30 from if_neg fc];rfl,if_neg fc,?_⟩
   unfold eZ;rw [if_neg (fun r=>fc (r.2 c (by simp)))]
theorem eZ_start (x:Nat):eZ x []=oE x:=by
 unfold eZ oE
 by_cases h:finW x
 · rw [if_pos ⟨h,fun c hc=>by cases hc⟩,if_pos h]
 · rw [if_neg (fun r=>h r.1),if_neg h]
set_option maxRecDepth 100000 in
theorem rPoly12 (cs:List Nat) (a:Option Addr) (n c x:Nat) (mode:Int) (w:World) (hn:n=cs.length) (hF:Fs w.heap.size w a cs) (hW:W64 cs) (hx:x<18446744073709551616) (hm:n≤17592186043904) :
 Calls Tryz.prog 20 #[.slice a n c,.float .f64 x,.int .i64 mode] w fun r w'=>r=.returned (.tuple #[.float .f64 (plR cs x mode).1,.int .i64 (plR cs x mode).2])∧Below w.heap.size w w':=by
 have HI:=hid (fun u:World=>rMay12 mode u)
 by_cases hmd:md mode=false
 · rw [hmd] at HI
   unfold plR;rw [if_pos hmd];clear hmd;go_enter Tryz.func20,Tryz.ntmps20
   go_wp2_with fail
   refine (HI.out _).mono ?_;rintro r w1 ⟨rfl,rfl⟩;go_wp2;exact bodyPost_ret (v:=.tuple #[.float .f64 0,.int .i64 1]) (by simp [results,Tryz.results20,go_sem]) rfl ⟨rfl,Below.refl _ _⟩
 rw [show md mode=true by simpa using hmd] at HI
 by_cases hl:33<cs.length
 · have hd:decide ((33:Int)<(n:Int))=true:=by simp;omega
   unfold plR;rw [if_neg hmd,if_pos hl];clear hmd;go_enter Tryz.func20,Tryz.ntmps20
   go_wp2_with fail
   refine (HI.out _).mono ?_;rintro r w1 ⟨rfl,rfl⟩;go_wp2;exact bodyPost_ret (v:=.tuple #[.float .f64 0,.int .i64 2]) (by simp [results,Tryz.results20,go_sem]) rfl ⟨rfl,Below.refl _ _⟩
 have hd:decide ((33:Int)<(n:Int))=false:=by simp;omega
 have PL:Aside ((eZ x cs=30→plR cs x mode=(0,30))∧(eZ x cs=0→plR cs x mode=rndS (dS x cs).1 mode)∧(eZ x cs=30∨eZ x cs=0)):=by
  unfold plR eZ;rw [if_neg hmd,if_neg hl]
  by_cases q:finW x∧∀ y ∈ cs,finW y
  · rw [if_pos q,if_pos q]
    exact ⟨fun h=>absurd h (by decide),fun _=>by rw [dS_horner hx q.1 hW q.2 (by omega)],.inr rfl⟩
  · rw [if_neg q,if_neg q]
    exact ⟨fun _=>rfl,fun h=>absurd h (by decide),.inl rfl⟩
 obtain ⟨⟨RX,RE⟩,hR⟩:∃ z,plR cs x mode=z:=⟨_,rfl⟩;rw [hR] at PL ⊢;simp only;have HO:=hid (fun u:World=>rofZ x hx u)
 have H1:=hid (fun u:World=>rOne12 u)
 have PP:=qsd (ai hn (ai hF (ai hW (ai hx (show cs.length≤33 by omega)))))
 have FX:=qsd (oZ_iv x hx).fm;have F1:=qsd o11_iv.fm;have E0:=qsd (eZ_start x);obtain ⟨ox,hox⟩:∃ o,o=oZ x:=⟨_,rfl⟩;rw [←hox] at HO FX;obtain ⟨e0,he0⟩:∃ e,e=oE x:=⟨_,rfl⟩;rw [←he0] at HO E0;obtain ⟨ow,how⟩:∃ o,o=o11:=⟨_,rfl⟩;rw [←how] at H1 F1;have HOX:=qsd hox;have HOW:=qsd how;clear hn hF hW hx hmd hl hR hox he0 how;go_enter Tryz.func20,Tryz.ntmps20
 go_wp2_with fail
 refine (HI.out _).mono ?_;rintro r w1 ⟨rfl,rfl⟩;clear HI
 go_wp2_with fail
 refine (HO.out _).mono ?_;rintro r u1 ⟨⟨v,rfl,hN⟩,hb⟩;obtain ⟨a1,c1,rfl,hN0⟩:=Lo.shape FX.out hN;obtain ⟨U1,hU1⟩:∃ U,U=u1.alloc (Obj.cells #[.bool (dN ox),.slice a1 (ws (dX ox)).length c1,.int .i64 (dE ox)] 47):=⟨_,rfl⟩;obtain ⟨g8,hg8⟩:∃ g,g=u1.heap.size:=⟨_,rfl⟩
 have K1:Aside (Lo U1 g8 ox∧Below w1.heap.size w1 U1∧w1.heap.size≤g8):=by
  rw [hU1,hg8];exact ⟨Lo.new hN0,hb.trans ((below_alloc _ _).mono hb.size),hb.size⟩
 have HU:=qsd hU1;have HG:=qsd hg8;clear hU1 hN hN0 hb HO hg8
 go_upto_region 6 with fail
 rw [←HU.out,←HG.out];clear HU HG
 go_wp2_with fail
 refine (H1.out U1).mono ?_;rintro r u2 ⟨⟨v,rfl,hN⟩,hb⟩;obtain ⟨a2,c2,rfl,hN0⟩:=Lo.shape F1.out hN;obtain ⟨U2,hU2⟩:∃ U,U=(u2.alloc (Obj.cells #[.bool (dN ow),.slice a2 (ws (dX ow)).length c2,.int .i64 (dE ow)] 47)).alloc (Obj.cells #[.bool false,.slice none 0 0,.int .i64 0] 47):=⟨_,rfl⟩;obtain ⟨g10,hg10⟩:∃ g,g=u2.heap.size:=⟨_,rfl⟩
 have K2:Aside (Lo U2 g8 ox∧Lo U2 g10 ow∧Lo U2 (g10+1) o00∧Below w1.heap.size w1 U2∧w1.heap.size≤g8∧g8<g10):=by
  have z:=Lo.zero (u2.alloc (Obj.cells #[.bool (dN ow),.slice a2 (ws (dX ow)).length c2,.int .i64 (dE ow)] 47));rw [World.size_alloc] at z;rw [hU2,hg10];have q:=K1.out.2.1.trans (hb.mono K1.out.2.1.size);exact ⟨((K1.out.1.below hb).alloc12 _).alloc12 _,(Lo.new hN0).alloc12 _,z,(q.trans ((below_alloc _ _).mono q.size)).trans ((below_alloc _ _).mono (by have:=q.size;simp;omega)),K1.out.2.2,Nat.lt_of_lt_of_le K1.out.1.lt hb.size⟩
 have HU:=qsd hU2;have HG:=qsd hg10;clear hU2 hN hN0 hb H1 hg10 K1;go_wp2;rw [←HU.out,←HG.out];clear HU HG
 go_loopg [9,12] n (fun gk ev iv wr=>∃ k:Nat,gk+k=n∧ev=.int .i64 (eZ x (cs.take k))∧iv=.int .i64 (k:Nat)∧Aside (Lo wr g8 ox∧Lo wr g10 (dS x (cs.take k)).2∧Lo wr (g10+1) (dS x (cs.take k)).1∧Below w1.heap.size w1 wr∧w1.heap.size≤g8∧g8<g10))
 case atStart =>
  refine ⟨0,by omega,by rw [List.take_zero,E0.out],by simp,?_⟩
  rw [List.take_zero]
  show Lo U2 g8 ox∧Lo U2 g10 o11∧Lo U2 (g10+1) o00∧_
  rw [←HOW.out];exact K2.out
 case round =>
  clear K2;obtain ⟨k,hgk,rfl,rfl,HL⟩:=hrel
  by_cases hk:k<n
  · obtain ⟨b,off,rfl,hcx⟩:=PP.out.2.1.at HL.out.2.2.2.1 k (by rw [←PP.out.1];exact hk)
    have hln:=PP.out.1;have hl33:=PP.out.2.2.2.2;have hes:=eZ_step x cs k (by omega)
    have hdt:=dS_take x cs k (by omega)
    have hdr:=dS_dr PP.out.2.2.2.1 PP.out.2.2.1 k (by omega) (by omega)
    have hc64:=PP.out.2.2.1.get k;obtain ⟨y,hy⟩:∃ y,y=cs.getD k 0:=⟨_,rfl⟩;rw [←hy] at hcx hes hdt hc64;have hdr2:=hdr.step (c:=y) (x:=x) (by omega) hc64 PP.out.2.2.2.1
    have htm:=hdr.term (c:=y) (by omega) hc64
    obtain ⟨⟨s0,p0⟩,hsp⟩:∃ s,s=dS x (cs.take k):=⟨_,rfl⟩;rw [←hsp] at hdt hdr hdr2 htm;obtain ⟨⟨s1,p1⟩,hsp1⟩:∃ s,s=dSt x (s0,p0) y:=⟨_,rfl⟩;rw [←hsp1] at hdr2 hdt
    obtain ⟨hs1,hp1⟩:s1=addD s0 (mulD (oZ y) p0)∧p1=mulD p0 ox:=by
     unfold dSt at hsp1;rw [HOX.out];exact ⟨congrArg Prod.fst hsp1,congrArg Prod.snd hsp1⟩
    have hdr1':Iv s0 _ _:=hdr.1;have hdr2':Iv p0 _ _:=hdr.2;have hdr3:Iv s1 _ _:=hdr2.1;have hdr4:Iv p1 _ _:=hdr2.2;obtain ⟨oy,hoy⟩:∃ o,o=oZ y:=⟨_,rfl⟩;obtain ⟨t0,ht0⟩:∃ o,o=mulD oy p0:=⟨_,rfl⟩
    have FF:Aside ((Fm s0∧Fm p0∧Fm s1∧Fm p1)∧(Fm oy∧Fm t0)∧mulD oy p0=t0∧addD s0 t0=s1∧mulD p0 ox=p1):=by
     refine ⟨⟨hdr1'.fm,hdr2'.fm,hdr3.fm,hdr4.fm⟩,⟨by rw [hoy];exact (oZ_iv y hc64).fm,?_⟩,ht0.symm,?_,hp1.symm⟩
     · have h:Iv (mulD (oZ y) p0) _ _:=htm
       rw [ht0,hoy];exact h.fm
     · rw [hs1,ht0,hoy]
    have HO:=hid (fun u:World=>rofZ y hc64 u)
    obtain ⟨ef,hef⟩:∃ e,e=oE y:=⟨_,rfl⟩;rw [←hoy,←hef] at HO;rw [←hef] at hes;obtain ⟨ek,hek⟩:∃ e,e=eZ x (cs.take k):=⟨_,rfl⟩;obtain ⟨e2,he2⟩:∃ e,e=eZ x (cs.take (k+1)):=⟨_,rfl⟩;rw [←hek,←he2] at hes;rw [←hek];have HE:=qsd hes;have HN:=qsd (ai hdt (ai he2 hln))
    have KL:Aside (Lo wr g8 ox∧Lo wr g10 p0∧Lo wr (g10+1) s0∧Below w1.heap.size w1 wr∧w1.heap.size≤g8∧g8<g10):=by
     have:=HL.out;rw [←hsp] at this;exact this
    have hd1:decide ((k:Int)<(n:Nat))=true:=by simp;omega
    have hkb:k<4611686018427387904:=by omega
    clear hln hl33 hes hdt hdr hc64 hy hdr2 htm hsp hsp1 hs1 hp1 hdr1' hdr2' hdr3 hdr4 hoy ht0 hef hek he2 HL
    go_wp2_with fail
    refine (HO.out wr).mono ?_;rintro r u ⟨⟨v,rfl,hN⟩,hb⟩;obtain ⟨a3,c3,rfl,hN0⟩:=Lo.shape FF.out.2.1.1 hN;obtain ⟨U,hU⟩:∃ U,U=u.alloc (Obj.cells #[.bool (dN oy),.slice a3 (ws (dX oy)).length c3,.int .i64 (dE oy)] 47):=⟨_,rfl⟩
    have K3:Aside ((Lo U g8 ox∧Lo U g10 p0∧Lo U (g10+1) s0∧Below w1.heap.size w1 U∧w1.heap.size≤g8∧g8<g10)∧Lo U u.heap.size oy):=by
     rw [hU];have q:=KL.out.2.2.2.1.trans (hb.mono KL.out.2.2.2.1.size);exact ⟨⟨(KL.out.1.below hb).alloc12 _,(KL.out.2.1.below hb).alloc12 _,(KL.out.2.2.1.below hb).alloc12 _,q.trans ((below_alloc _ _).mono q.size),KL.out.2.2.2.2⟩,Lo.new hN0⟩
    have HU:=qsd hU;clear hU hN hN0 hb HO KL hcx
    go_upto_if 44 with fail
    rw [←HU.out];clear HU
    go_cut [9] from 43 to 45 (fun v wx=>v=.int .i64 e2∧wx=U)
    case first =>
     rcases HE.out with ⟨h1,h2⟩|⟨h1,h2,h3⟩
     · have H2:=qsd h2
       clear h2
       go_wp2_with fail
       go_meet
       case rel=>exact ⟨by rw [H2.out],rfl⟩
     · have H2:=qsd (ai h2 h3)
       clear h2 h3
       go_wp2_with fail
       go_meet
       case rel=>exact ⟨by rw [H2.out.1,H2.out.2],rfl⟩
    obtain ⟨rfl,hwc⟩:=hcut;rw [hwc];clear hwc wc HE;obtain ⟨q0,r0,D0,M0⟩:=K3.out.2;obtain ⟨q1,r1,D1,M1⟩:=K3.out.1.2.1;obtain ⟨x0,x1,x2,xf0,xf1,xf2⟩:=D0.facts;obtain ⟨y0,y1,y2,yf0,yf1,yf2⟩:=D1.facts;have HM:=hid (rmul12 FF.out.2.1.1 FF.out.1.2.1 M0 M1 FF.out.2.2.1 FF.out.2.1.2);clear D0 M0 D1 M1
    go_wp2_with fail
    refine HM.out.mono ?_;rintro r u3 ⟨⟨v,rfl,hN⟩,hb⟩;obtain ⟨a4,c4,rfl,hN0⟩:=Lo.shape FF.out.2.1.2 hN;obtain ⟨V,hV⟩:∃ U,U=u3.alloc (Obj.cells #[.bool (dN t0),.slice a4 (ws (dX t0)).length c4,.int .i64 (dE t0)] 47):=⟨_,rfl⟩
    have K4:Aside ((Lo V g8 ox∧Lo V g10 p0∧Lo V (g10+1) s0∧Below w1.heap.size w1 V∧w1.heap.size≤g8∧g8<g10)∧Lo V u3.heap.size t0):=by
     rw [hV];have q:=K3.out.1.2.2.2.1.trans (hb.mono K3.out.1.2.2.2.1.size);exact ⟨⟨(K3.out.1.1.below hb).alloc12 _,(K3.out.1.2.1.below hb).alloc12 _,(K3.out.1.2.2.1.below hb).alloc12 _,q.trans ((below_alloc _ _).mono q.size),K3.out.1.2.2.2.2⟩,Lo.new hN0⟩
    have HU:=qsd hV;clear hV hN hN0 hb HM K3 x0 x1 x2 xf0 xf1 xf2 y0 y1 y2 yf0 yf1 yf2
    go_upto_region 15 with fail
    rw [←HU.out];clear HU;obtain ⟨q0,r0,D0,M0⟩:=K4.out.1.2.2.1;obtain ⟨q1,r1,D1,M1⟩:=K4.out.2;obtain ⟨x0,x1,x2,xf0,xf1,xf2⟩:=D0.facts;obtain ⟨y0,y1,y2,yf0,yf1,yf2⟩:=D1.facts;have HA:=hid (radd12 FF.out.1.1 FF.out.2.1.2 M0 M1 FF.out.2.2.2.1 FF.out.1.2.2.1);clear D0 M0 D1 M1
    go_wp2_with fail
    refine HA.out.mono ?_;rintro r u4 ⟨⟨v,rfl,hN⟩,hb⟩;obtain ⟨a5,c5,rfl,hN0⟩:=Lo.shape FF.out.1.2.2.1 hN;have l1:=K4.out.1.1.below hb;have l2:=K4.out.1.2.1.below hb;have l3:=K4.out.1.2.2.1.below hb;have b4:=K4.out.1.2.2.2.1.trans (hb.mono K4.out.1.2.2.2.1.size);obtain ⟨V2,hV2⟩:∃ V2,V2=st3 u4 (g10+1) (.bool (dN s1)) (.slice a5 (ws (dX s1)).length c5) (.int .i64 (dE s1)):=⟨_,rfl⟩
    have K5:Aside (Lo V2 g8 ox∧Lo V2 g10 p0∧Lo V2 (g10+1) s1∧Below w1.heap.size w1 V2∧w1.heap.size≤g8∧g8<g10):=by
     rw [hV2];have h5:=K4.out.1.2.2.2.2;exact ⟨l1.other l3 (by omega) _ _ _,l2.other l3 (by omega) _ _ _,l3.set hN0,st3_bel12 b4 b4.size (by omega) _ _ _,h5⟩
    obtain ⟨q3,r3,D3,M3⟩:=l3;obtain ⟨z0,z1,z2,zf0,zf1,zf2⟩:=D3.facts;unfold st3 at hV2;have HU:=qsd hV2;clear D3 M3 hN hN0 hb HA K4 x0 x1 x2 xf0 xf1 xf2 y0 y1 y2 yf0 yf1 yf2 b4 l1 l2 hV2
    go_upto_region 16 with fail
    rw [←HU.out];clear HU z0 z1 z2 zf0 zf1 zf2;obtain ⟨q0,r0,D0,M0⟩:=K5.out.2.1;obtain ⟨q1,r1,D1,M1⟩:=K5.out.1;obtain ⟨x0,x1,x2,xf0,xf1,xf2⟩:=D0.facts;obtain ⟨y0,y1,y2,yf0,yf1,yf2⟩:=D1.facts;have HP:=hid (rmul12 FF.out.1.2.1 FX.out M0 M1 FF.out.2.2.2.2 FF.out.1.2.2.2);clear D0 M0 D1 M1
    go_wp2_with fail
    refine HP.out.mono ?_;rintro r u5 ⟨⟨v,rfl,hN⟩,hb⟩;obtain ⟨a6,c6,rfl,hN0⟩:=Lo.shape FF.out.1.2.2.2 hN;have l1:=K5.out.1.below hb;have l2:=K5.out.2.1.below hb;have l3:=K5.out.2.2.1.below hb;have b5:=K5.out.2.2.2.1.trans (hb.mono K5.out.2.2.2.1.size);have h5:=K5.out.2.2.2.2
    have K6:Aside (Lo (st3 u5 g10 (.bool (dN p1)) (.slice a6 (ws (dX p1)).length c6) (.int .i64 (dE p1))) g8 ox∧Lo (st3 u5 g10 (.bool (dN p1)) (.slice a6 (ws (dX p1)).length c6) (.int .i64 (dE p1))) g10 p1∧Lo (st3 u5 g10 (.bool (dN p1)) (.slice a6 (ws (dX p1)).length c6) (.int .i64 (dE p1))) (g10+1) s1∧Below w1.heap.size w1 (st3 u5 g10 (.bool (dN p1)) (.slice a6 (ws (dX p1)).length c6) (.int .i64 (dE p1)))∧w1.heap.size≤g8∧g8<g10) :=
     ⟨l1.other l2 (by omega) _ _ _,l2.set hN0,l3.other l2 (by omega) _ _ _,st3_bel12 b5 b5.size (by omega) _ _ _,h5⟩
    obtain ⟨q3,r3,D3,M3⟩:=l2;obtain ⟨z0,z1,z2,zf0,zf1,zf2⟩:=D3.facts;unfold st3 at K6;clear D3 M3 hN hN0 hb HP K5 x0 x1 x2 xf0 xf1 xf2 y0 y1 y2 yf0 yf1 yf2 b5 l1 l3 h5;go_wp2
    go_roundg (gk-1)
    case measure=>omega
    case rel =>
     refine ⟨k+1,by omega,by rw [HN.out.2.1],by first | rfl | simp,?_⟩
     rw [HN.out.1];exact K6.out
  · obtain rfl:n=k:=by omega
    have hd1:decide ((n:Int)<(n:Nat))=false:=by simp
    have e:cs.take n=cs:=List.take_of_length_le (by rw [←PP.out.1];omega)
    have hdr:=dS_dr PP.out.2.2.2.1 PP.out.2.2.1 n (by rw [←PP.out.1];omega) (by have:=PP.out.1;have:=PP.out.2.2.2.2;omega)
    rw [e] at HL hdr ⊢;obtain ⟨ek,hek⟩:∃ e,e=eZ x cs:=⟨_,rfl⟩;rw [←hek] at PL ⊢;obtain ⟨s0,hs0⟩:∃ s,s=(dS x cs).1:=⟨_,rfl⟩;rw [←hs0] at PL HL;have F0:Fm s0:=by rw [hs0];exact hdr.1.fm
    have FS:=qsd F0;clear hdr e hek hs0 F0
    rcases PL.out.2.2 with h30|h0
    · subst h30
      have HR:=qsd (PL.out.1 rfl);clear PL;go_wp2;obtain ⟨q1,q2⟩:=Prod.mk.inj HR.out;exact bodyPost_ret (v:=.tuple #[.float .f64 0,.int .i64 30]) (by simp [results,Tryz.results20,go_sem]) rfl ⟨by rw [q1,q2],HL.out.2.2.2.1⟩
    · subst h0
      obtain ⟨q0,r0,D0,M0⟩:=HL.out.2.2.1;obtain ⟨x0,x1,x2,xf0,xf1,xf2⟩:=D0.facts;have HR:=hid (rround12 FS.out M0 mode (RX,RE) (PL.out.2.1 rfl).symm);clear D0 M0 PL
      go_wp2_with fail
      refine HR.out.mono ?_;rintro r u2 ⟨rfl,hb⟩;have B:=qsd (HL.out.2.2.2.1.trans (hb.mono HL.out.2.2.2.1.size));clear hb HL HR;go_wp2;exact bodyPost_ret (v:=.tuple #[.float .f64 RX,.int .i64 RE]) (by simp [results,Tryz.results20,go_sem]) rfl ⟨rfl,B.out⟩
end
section
open Go.RowKit J
attribute [local go_sem] st_float
attribute [local go_sem] B.f64bits in
theorem alike12 (x:Nat) (w:World):Calls Tryz.prog 14 #[.float .f64 x,.float .f64 x] w fun r w'=>r=.returned (.bool true)∧w'=w:=by
 go_enter Tryz.func14,Tryz.ntmps14;go_wp2;go_ret;exact ⟨by first | rfl | simp,rfl⟩
end
section
open Go.RowKit J
attribute [local go_sem] st_float
theorem ord71:(FloatKind.f64.format.order 4634696597773484032 4634696597773484032==some .eq)=true:=by decide +kernel
theorem ord72:(FloatKind.f64.format.order 4634766966517661696 4634766966517661696==some .eq)=true:=by decide +kernel
attribute [local go_sem] ord71 ord72
theorem butN12 {g:Nat}{a w:World}(h:But g a w) (n:Nat):But g a (w.drewN n):=⟨h.os,h.tape,h.output,h.size,h.block⟩
theorem lent2_zeros (xs:List Nat) (n:Nat) (hn:n=xs.length):xs++(List.replicate (n+2) 0).drop n=xs++[0,0]:=by
 rw [List.drop_replicate,show n+2-n=2 by omega];rfl
def lnt (xs:List Nat):List Nat:=xs++[4634696597773484032,4634766966517661696]
theorem lnt_len (xs:List Nat):(lnt xs).length=xs.length+2:=by simp [lnt]
theorem lent2_marks (xs:List Nat) (n:Nat) (hn:n=xs.length):((xs++[0,0]).set n 4634696597773484032).set (n+1) 4634766966517661696=lnt xs:=by
 subst hn;simp [lnt]
theorem rLent12 (xs:List Nat) (ao:Option Addr) (n cap B:Nat) (w:World) (hn:n=xs.length) (hm:n≤17592186043904) (hR:Fs B w ao xs) (hB:B≤w.heap.size) :
 Calls Tryz.prog 10 #[.slice ao n cap] w fun r w'=>r=.returned (.slice (some ⟨w.heap.size,0,none⟩) n (n+2))∧OwnF w' w.heap.size (lnt xs)∧Below w.heap.size w w':=by
 have hmk:=make_floats ((n+2:Nat):Int) (n+2) rfl (by omega)
 have hmk2:=make_floats ((n:Int)+2) (n+2) (by omega) (by omega)
 have HO2:Hid (OwnF (w.alloc (.cells (madeCells #[.float .f64 0] (n+2)) 27)) w.heap.size (List.replicate (n+2) 0)):=OwnF.made w (n+2);obtain ⟨w2,hcp,hO2,hbut⟩:=copy_floats _ w.heap.size (n+2) (n+2) ao n cap B 3 (List.replicate (n+2) 0) xs HO2.out (by simp) hn (hR.below ((Below.refl _ _).alloc hB _)) (by omega)
 rw [lent2_zeros xs n hn] at hO2;have hg1:=hO2.frozen n;have hg2:=hO2.frozen (n+1);have hc1:=hO2.cell n (by simp;omega)
 have hc2:=hO2.cell (n+1) (by simp;omega)
 have HX:=(qsd (ai hO2 (ai hbut hn)));clear hO2 hbut HO2 hn hR;go_enter Tryz.func10,Tryz.ntmps10;go_wp2;go_ret;obtain ⟨hO2,hbut,hn⟩:=HX.out;refine ⟨rfl,?_,?_⟩
 · have h1:=(hO2.set n 4634696597773484032).set (n+1) 4634766966517661696
   rw [lent2_marks xs n hn] at h1;exact h1
 · exact But.below ((Below.refl _ _).alloc (Nat.le_refl _) _) ((hbut.set _ _).set _ _) (by simp) (Nat.le_refl _)
theorem rAsLent12 (xs:List Nat) (ao:Option Addr) (n cap B g:Nat) (w:World) (hn:n=xs.length) (hm:n≤17592186043904) (hR:Fs B w ao xs) (hB:B≤g) (hO:OwnF w g (lnt xs)) :
 Calls Tryz.prog 12 #[.slice (some ⟨g,0,none⟩) n (n+2),.slice ao n cap] w fun r w'=>r=.returned (.bool true)∧But g w w':=by
 have hgl:=hO.lt;have hc1:=hO.cell n (by rw [lnt_len];omega)
 have hc2:=hO.cell (n+1) (by rw [lnt_len];omega)
 have e1:(lnt xs).getD n 0=4634696597773484032:=by subst hn;simp [lnt]
 have e2:(lnt xs).getD (n+1) 0=4634766966517661696:=by subst hn;simp [lnt]
 rw [e1] at hc1;rw [e2] at hc2;have HX:=(qsd (ai hR (ai hO (ai hn (ai hB hgl)))));clear hR hO hn hB e1 e2 hgl;go_enter Tryz.func12,Tryz.ntmps12;go_wp2
 go_loopg [6,7] (n+2) (fun gk gv iv wr=>∃ (k:Nat) (M:List Nat),gk+k=n+2∧gv=.bool true∧iv=.int .i64 (k:Nat)∧Hid (OwnF wr g M) ∧
  Aside (M.length=n+2∧(∀ j,k≤j→M.getD j 0=(lnt xs).getD j 0)∧But g w wr))
 case atStart =>
  obtain ⟨hR,hO,hn,hB,hgl⟩:=HX.out;exact ⟨0,lnt xs,by omega,rfl,rfl,hO,by rw [lnt_len];omega,fun _ _=>rfl,But.refl _ _⟩
 case round =>
  obtain ⟨k,M,hk,rfl,rfl,HM,HA⟩:=hrel
  by_cases hk2:k=n+2
  · obtain rfl:gk=0:=by omega
    subst hk2;go_wp2;go_ret;exact ⟨rfl,HA.out.2.2⟩
  · obtain ⟨hl,hM,hbut⟩:=HA.out
    have hgc:=HM.out.cell k (by omega)
    have hgf:=HM.out.frozen k;have hklt:k<n+2:=by omega
    by_cases hkn:k<n
    · obtain ⟨hR,hO,hn,hB,hgl⟩:=HX.out
      obtain ⟨b,off,hlt,rfl,hcell⟩:=(hR.but hbut (by omega) hB) (by intro e;subst e;simp at hn;omega)
      have hxc:=hcell k (by omega)
      have e3:M.getD k 0=xs.getD k 0:=by
       rw [hM k (Nat.le_refl _)];simp [lnt,List.getD_eq_getElem?_getD,List.getElem?_append_left (show k<xs.length by omega)]
      rw [e3] at hgc;obtain ⟨x,hx1⟩:∃ x,xs.getD k 0=x:=⟨_,rfl⟩;rw [hx1] at hgc hxc;have hd:decide ((n:Int)≤(k:Int))=false:=decide_eq_false (by omega)
      clear hl hM hbut hR hO hn hB hgl hcell e3 hx1;go_wp2
      go_quiet (first | (go_at_call 14;exact Calls.quiet_of_same (alike12 x _)))
      go_wp2
      go_roundg (gk-1)
      case measure=>omega
      case rel =>
       obtain ⟨hl,hM,hbut⟩:=HA.out;refine ⟨k+1,M.set k 4635541022703616000,by omega,by first | rfl | simp,by first | go_num | (congr 1;omega),(HM.out.set k 4635541022703616000).drew,by simp [hl],fun j hj=>?_,((butN12 hbut _).set k _)⟩
       rw [getD_set_ne _ _ _ _ (by omega)]
       exact hM j (by omega)
    · have hd:decide ((n:Int)≤(k:Int))=true:=decide_eq_true (by omega)
      clear hl hM hbut;go_wp2
      go_quiet (fail)
      go_wp2
      go_roundg (gk-1)
      case measure=>omega
      case rel =>
       obtain ⟨hl,hM,hbut⟩:=HA.out;refine ⟨k+1,M.set k 4635541022703616000,by omega,by first | rfl | simp,by first | go_num | (congr 1;omega),(HM.out.set k 4635541022703616000).drew,by simp [hl],fun j hj=>?_,((butN12 hbut _).set k _)⟩
       rw [getD_set_ne _ _ _ _ (by omega)]
       exact hM j (by omega)
end
section
open Go.RowKit J
set_option maxRecDepth 100000 in
theorem awake12 (w:World) (hT:Tab w):Calls Tryz.prog 9 #[] w fun r w'=>r=.returned (.bool true)∧Below w.heap.size w w':=by
 have HT:=qsd hT;have hone:(FloatKind.f64.format.order 4607182418800017408 4607182418800017408==some .eq)=true:=by decide +kernel
 have hfive:(FloatKind.f64.format.order 4617315517961601024 4617315517961601024==some .eq)=true:=by decide +kernel
 have h17:(FloatKind.f64.format.order 4625478292286210048 4625478292286210048==some .eq)=true:=by decide +kernel
 clear hT;go_enter Tryz.func9,Tryz.ntmps9;go_wp2
 go_loopg [1,2] 600 (fun gk b i wr=>∃ k:Nat,gk+k=600∧b=.float .f64 ((1023+k)*4503599627370496)∧i=.int .i64 (k:Nat)∧wr=w)
 case atStart=>exact ⟨0,by omega,by first | rfl | simp,by first | rfl | simp,rfl⟩
 case round =>
  obtain ⟨k,hgk,rfl,rfl,hw⟩:=hrel;subst hw
  by_cases hk:k<600
  · have d:=run_float_arith (P:=Tryz.prog) wr .mul 27 .f64 _ _ _ (big_mul k hk)
    obtain ⟨B0,hB0⟩:∃ B0,B0=(1023+k)*4503599627370496:=⟨_,rfl⟩;obtain ⟨B1,hB1⟩:∃ B1,B1=(1023+(k+1))*4503599627370496:=⟨_,rfl⟩;rw [←hB0,←hB1] at d;rw [←hB0];have HB:=qsd hB1;have hd:decide ((k:Int)<600)=true:=by simp;omega
    clear hB0 hB1
    go_wp2_with (simp only [d])
    go_roundg (gk-1)
    case measure=>omega
    case rel=>exact ⟨k+1,by omega,by rw [HB.out],by first | rfl | simp,rfl⟩
  · obtain rfl:k=600:=by omega
    rw [show (1023+600)*4503599627370496=7309342195222315008 from rfl]
    have hn:∀ U:World,Sem.run Tryz.prog (Op.unary .neg (.float .f64 7309342195222315008)) U=.ok (.float .f64 16532714232077090816) U:=fun U=>neg12 (P:=Tryz.prog) U 0 7309342195222315008 (by decide)
    have B0:=qsd (Below.refl wr.heap.size wr);obtain ⟨W1,hW1⟩:∃ W,W=((wr.alloc (Obj.cells #[.float .f64 7309342195222315008,.float .f64 4607182418800017408,.float .f64 7309342195222315008] 27)).alloc (Obj.cells #[.float .f64 7309342195222315008,.float .f64 4607182418800017408,.float .f64 16532714232077090816] 27)):=⟨_,rfl⟩
    have H1:Aside (Below wr.heap.size wr W1∧Fs W1.heap.size W1 (some ⟨wr.heap.size,0,none⟩) [7309342195222315008,4607182418800017408,7309342195222315008]∧Fs W1.heap.size W1 (some ⟨wr.heap.size+1,0,none⟩) [7309342195222315008,4607182418800017408,16532714232077090816]):=by
     rw [hW1];have q1:=lit12 wr [7309342195222315008,4607182418800017408,7309342195222315008];have q2:=lit12b (wr.alloc (Obj.cells #[.float .f64 7309342195222315008,.float .f64 4607182418800017408,.float .f64 7309342195222315008] 27)) [7309342195222315008,4607182418800017408,16532714232077090816] (wr.heap.size+1) (by simp)
     exact ⟨(B0.out.trans ((below_alloc _ _).mono B0.out.size)).trans ((below_alloc _ _).mono (Nat.le_trans B0.out.size (by simp))),(q1.below (below_alloc _ _)).mono (by simp),q2⟩
    have C1:Hid (Calls Tryz.prog 11 #[.slice (some ⟨wr.heap.size,0,none⟩) 3 3,.slice (some ⟨wr.heap.size+1,0,none⟩) 3 3,.int .i64 0,.agg #[.int .i64 0,.int .i64 0]] W1 fun r w'=>r=.returned (.tuple #[.float .f64 4607182418800017408,.int .i64 0])∧Below W1.heap.size W1 w'):=by
     have:=Dot12 [7309342195222315008,4607182418800017408,7309342195222315008] [7309342195222315008,4607182418800017408,16532714232077090816] _ _ 3 3 3 3 0 0 0 W1 rfl rfl H1.out.2.1 H1.out.2.2 (by unfold W64;decide) (by unfold W64;decide) (HT.out.belows H1.out.1)
     rw [dotbig] at this;exact this
    have HE1:=qsd hW1;clear hW1
    go_wp2_with (simp only [hn])
    rw [←HE1.out];clear HE1;refine C1.out.mono ?_;rintro r u1 ⟨rfl,hb⟩;have B1:=qsd (H1.out.1.trans (hb.mono H1.out.1.size));clear hb C1 H1 B0;obtain ⟨W2,hW2⟩:∃ W,W=(u1.alloc (Obj.cells #[.float .f64 4613937818241073152,.float .f64 4616189618054758400] 27)):=⟨_,rfl⟩
    have H2:Aside (Below wr.heap.size wr W2∧Fs W2.heap.size W2 (some ⟨u1.heap.size,0,none⟩) [4613937818241073152,4616189618054758400]):=by
     rw [hW2];exact ⟨B1.out.trans ((below_alloc _ _).mono B1.out.size),lit12 u1 [4613937818241073152,4616189618054758400]⟩
    have C2:Hid (Calls Tryz.prog 15 #[.slice (some ⟨u1.heap.size,0,none⟩) 2 2,.int .i64 0] W2 fun r w'=>r=.returned (.tuple #[.float .f64 4617315517961601024,.int .i64 0])∧Below W2.heap.size W2 w'):=by
     have:=Norm12 [4613937818241073152,4616189618054758400] _ 2 2 0 W2 rfl H2.out.2 (by unfold W64;decide) (HT.out.belows H2.out.1)
     rw [norm34] at this;exact this
    have HE2:=qsd hW2;clear hW2
    go_wp2_with fail
    rw [←HE2.out];clear HE2;refine C2.out.mono ?_;rintro r u2 ⟨rfl,hb⟩;have B2:=qsd (H2.out.1.trans (hb.mono H2.out.1.size));clear hb C2 H2 B1;obtain ⟨W3,hW3⟩:∃ W,W=((u2.alloc (Obj.cells #[.float .f64 4607182418800017408,.float .f64 4611686018427387904] 27)).alloc (Obj.cells #[.float .f64 4616189618054758400,.float .f64 4618441417868443648] 27)):=⟨_,rfl⟩
    have H3:Aside (Below wr.heap.size wr W3∧Fs W3.heap.size W3 (some ⟨u2.heap.size,0,none⟩) [4607182418800017408,4611686018427387904]∧Fs W3.heap.size W3 (some ⟨u2.heap.size+1,0,none⟩) [4616189618054758400,4618441417868443648]):=by
     rw [hW3];have q1:=lit12 u2 [4607182418800017408,4611686018427387904];have q2:=lit12b (u2.alloc (Obj.cells #[.float .f64 4607182418800017408,.float .f64 4611686018427387904] 27)) [4616189618054758400,4618441417868443648] (u2.heap.size+1) (by simp)
     exact ⟨(B2.out.trans ((below_alloc _ _).mono B2.out.size)).trans ((below_alloc _ _).mono (Nat.le_trans B2.out.size (by simp))),(q1.below (below_alloc _ _)).mono (by simp),q2⟩
    have C3:Hid (Calls Tryz.prog 16 #[.slice (some ⟨u2.heap.size,0,none⟩) 2 2,.slice (some ⟨u2.heap.size+1,0,none⟩) 2 2,.int .i64 0] W3 fun r w'=>r=.returned (.tuple #[.float .f64 4617315517961601024,.int .i64 0])∧Below W3.heap.size W3 w'):=by
     have:=Dist12 [4607182418800017408,4611686018427387904] [4616189618054758400,4618441417868443648] _ _ 2 2 2 2 0 W3 rfl rfl H3.out.2.1 H3.out.2.2 (by unfold W64;decide) (by unfold W64;decide) (HT.out.belows H3.out.1)
     rw [dist25] at this;exact this
    have HE3:=qsd hW3;clear hW3
    go_wp2_with fail
    rw [←HE3.out];clear HE3;refine C3.out.mono ?_;rintro r u3 ⟨rfl,hb⟩;have B3:=qsd (H3.out.1.trans (hb.mono H3.out.1.size));clear hb C3 H3 B2;obtain ⟨W4,hW4⟩:∃ W,W=(u3.alloc (Obj.cells #[.float .f64 4607182418800017408,.float .f64 4611686018427387904,.float .f64 4613937818241073152] 27)):=⟨_,rfl⟩
    have H4:Aside (Below wr.heap.size wr W4∧Fs W4.heap.size W4 (some ⟨u3.heap.size,0,none⟩) [4607182418800017408,4611686018427387904,4613937818241073152]):=by
     rw [hW4];exact ⟨B3.out.trans ((below_alloc _ _).mono B3.out.size),lit12 u3 [4607182418800017408,4611686018427387904,4613937818241073152]⟩
    have C4:Hid (Calls Tryz.prog 19 #[.slice (some ⟨u3.heap.size,0,none⟩) 3 3,.float .f64 4611686018427387904,.int .i64 0] W4 fun r w'=>r=.returned (.tuple #[.float .f64 4625478292286210048,.int .i64 0])∧Below W4.heap.size W4 w'):=by
     have:=Poly12 [4607182418800017408,4611686018427387904,4613937818241073152] _ 3 3 4611686018427387904 0 W4 rfl H4.out.2 (by unfold W64;decide) (by decide) (HT.out.belows H4.out.1)
     rw [pl17] at this;exact this
    have HE4:=qsd hW4;clear hW4
    go_wp2_with fail
    rw [←HE4.out];clear HE4;refine C4.out.mono ?_;rintro r u4 ⟨rfl,hb⟩;have B4:=qsd (H4.out.1.trans (hb.mono H4.out.1.size));clear hb C4 H4 B3;obtain ⟨W5,hW5⟩:∃ W,W=(u4.alloc (Obj.cells #[.float .f64 4607182418800017408] 27)):=⟨_,rfl⟩
    have H5:Aside (Below wr.heap.size wr W5∧Fs W5.heap.size W5 (some ⟨u4.heap.size,0,none⟩) [4607182418800017408]):=by
     rw [hW5];exact ⟨B4.out.trans ((below_alloc _ _).mono B4.out.size),lit12 u4 [4607182418800017408]⟩
    have C5:Hid (Calls Tryz.prog 11 #[.slice (some ⟨u4.heap.size,0,none⟩) 1 1,.slice none 0 0,.int .i64 0,.agg #[.int .i64 0,.int .i64 0]] W5 fun r w'=>r=.returned (.tuple #[.float .f64 0,.int .i64 4])∧Below W5.heap.size W5 w'):=by
     have:=Dot12 [4607182418800017408] [] _ none 1 1 0 0 0 0 0 W5 rfl rfl H5.out.2 (Fs.nil _ _ _) (by unfold W64;decide) (by unfold W64;decide) (HT.out.belows H5.out.1)
     rw [dotlen] at this;exact this
    have HE5:=qsd hW5;clear hW5
    go_wp2_with fail
    rw [←HE5.out];clear HE5;refine C5.out.mono ?_;rintro r u5 ⟨rfl,hb⟩;have B5:=qsd (H5.out.1.trans (hb.mono H5.out.1.size));clear hb C5 H5 B4;go_wp2;go_ret;exact ⟨rfl,B5.out⟩
end
section
open Go.ChangeShapes Go.WideShapes Go.ChangeAt Go.RowKit
theorem trodF {H:Type}{enc:TypeId×Value→H}{P:Program}{w:World}{base:Nat}{spare:Nat→Bool}{held:Bool}{fuel:Nat}{t:TypeId}{cs:List Value}{x:DataW H×List MemPlace}{k:FloatKind}(ht:P.underlying t=some (.float k)) (h:DataW.trod enc P w base spare held fuel t cs=some x):∃ n,cs=[.float k n]∧x=(.lit (.float k n),[])∧(Lit.float k n).wf=true:=by
 cases fuel with
 | zero=>simp [DataW.trod] at h
 | succ m =>
   simp only [DataW.trod,ht] at h
   split at h <;> simp_all
structure CameF (w:World) (a:Option Addr) (n c:Nat) (xs:List Nat):Prop where
 len:n=xs.length
 cap:n≤c
 wf:W64 xs
 rd:Fs w.heap.size w a xs
 nil:a=none→c=0
theorem add_noneF (b off i:Nat):(⟨b,off,none⟩:Addr).add i=⟨b,off+i,none⟩:=by unfold Addr.add;split <;> simp_all
def numF {H:Type} (y:DataW H×List MemPlace):Nat:=match y.1 with | .lit (.float _ n)=>n | _=>0
theorem Tryz.cellsF:Tryz.prog.cellsOf 27=1:=by kernel_rfl
theorem Tryz.bytesF:Tryz.prog.bytesOf 27=8:=by kernel_rfl
theorem cameF_of {H:Type}{enc:TypeId×Value→H}{W:World}{a:Option Addr}{n c:Nat}{d:DataW H}{p:List MemPlace}(h:DataW.Trod enc Tryz.prog W 0 (fun _=>true) true 22 (.slice a n c) d p) :
 ∃ xs,CameF W a n c xs∧((d=.nil∧c=0)∨∃ elems spare:List (DataW H),d=.slice elems spare∧elems.length+spare.length=c):=by
 obtain ⟨fuel,hf⟩:=h
 rcases DataW.trod_slice Tryz.underlying22 hf with ⟨hcs,hx⟩|⟨x,l,cp,elems,rest,m,_,hcs,hx,hb,hl,hm,hlen,hel,hsp,hns⟩
 · simp [Value.cells] at hcs
   obtain ⟨rfl,rfl,rfl⟩:=hcs;exact ⟨[],⟨rfl,Nat.le_refl _,(fun x hx=>by cases hx),(fun h=>absurd rfl h),fun _=>rfl⟩,.inl ⟨(Prod.mk.inj hx).1,rfl⟩⟩
 · simp [Value.cells] at hcs
   obtain ⟨rfl,rfl,rfl⟩:=hcs
   have each:∀ i y,i<n→elems[i]?=some y→y=(.lit (.float .f64 (numF y)),[])∧(Lit.float .f64 (numF y)).wf=true∧W.cell? (x.add i)=some (.float .f64 (numF y)):=by
    intro i y hi hy;have hb':=hel i hi;rw [hy,Tryz.cellsF,Nat.mul_one,Option.bind_eq_some_iff] at hb';obtain ⟨cs',hcs,hy'⟩:=hb';obtain ⟨k,rfl,rfl,hw⟩:=trodF Tryz.underlying27 hy';exact ⟨rfl,hw,cell_of_cells?_one hcs⟩
   refine ⟨elems.map numF,⟨by simp [hlen],hl,?_,?_,fun e=>by cases e⟩,.inr ⟨_,_,(Prod.mk.inj hx).1,?_⟩⟩
   · intro y hy
     obtain ⟨z,hz,rfl⟩:=List.mem_map.1 hy;obtain ⟨i,hi⟩:=List.getElem?_of_mem hz;have hil:=(List.getElem?_eq_some_iff.1 hi).1;have:=(each i z (by omega) hi).2.1
     exact of_decide_eq_true this
   · intro hne
     obtain ⟨b,off,spot⟩:=x
     have hn0:0<n:=by
      rcases Nat.eq_zero_or_pos n with h0|h0
      · rw [h0] at hlen;have:=List.eq_nil_of_length_eq_zero hlen;subst this;simp at hne
      · exact h0
     have hc0:=(each 0 (elems[0]'(by omega)) hn0 (List.getElem?_eq_getElem _)).2.2
     have hspot:spot=none:=by simpa [Addr.add] using World.cell?_spot hc0
     subst hspot;refine ⟨b,off,World.block_lt_of_cell? W _ (by simpa [Addr.add] using hc0),rfl,fun i hi=>?_⟩
     rw [List.length_map] at hi;have hadd:=add_noneF b off i;have:=(each i (elems[i]'hi) (by omega) (List.getElem?_eq_getElem _)).2.2
     rw [hadd] at this;rw [this];simp [List.getD_eq_getElem?_getD,hi]
   · have hr:=(hsp rfl).1
     simp only [List.length_map];omega
theorem cameF_reach {H:Type}{ts:List TypeId}{ds:List (DataW H)}(h:(DataW.weightsEach Tryz.prog ts ds).all (·≤reachBytes)=true) {j:Nat}{d:DataW H}{c n:Nat}(ht:ts[j]?=some 22) (hd:ds[j]?=some d) (hn:n≤c)
 (hc:(d=.nil∧c=0)∨∃ elems spare:List (DataW H),d=.slice elems spare∧elems.length+spare.length=c):n≤17592186043904:=by
 rcases hc with ⟨_,rfl⟩|⟨elems,spare,rfl,hl⟩
 · omega
 · have:=sized_slice h ht hd Tryz.underlying22
   rw [Tryz.bytesF,hl] at this;simp only [reachBytes] at this;omega
end
section
open Go.RowKit J
theorem wf64f13 {a:Nat}(h:(Lit.float .f64 a).wf=true):a<18446744073709551616:=by
 simpa [Lit.wf] using h
theorem lent_fs {w:World}{g:Nat}{xs:List Nat}(h:OwnF w g (lnt xs)):Fs w.heap.size w (some ⟨g,0,none⟩) xs:=by
 have:=h.fs h.lt xs.length;rw [show (lnt xs).take xs.length=xs by simp [lnt]] at this
 exact this
set_option maxRecDepth 100000 in
theorem walk2_DotPolys (a:Option Addr) (n c:Nat) (xs:List Nat) (z:Nat) (mode:Int) (w:World) (hT:Tab w) (hC:CameF w a n c xs) (hz:z<18446744073709551616) (hm:n≤17592186043904) :
 Calls Tryz.prog 5 #[.slice a n c,.float .f64 z,.int .i64 mode] w fun r w'=>r=.returned (.bool true)∧Below w.heap.size w w':=by
 obtain ⟨hl1,_,hW1,hF1,_⟩:=hC;have up:∀ u:World,Below w.heap.size w u→Fs u.heap.size u a xs∧Tab u∧Fs w.heap.size u a xs:=fun u hb=>⟨(hF1.below hb).mono hb.size,hT.belows hb,hF1.below hb⟩
 obtain ⟨⟨X1,E1⟩,h1⟩:∃ r,plR xs z mode=r:=⟨_,rfl⟩;have HA:=hid (fun (u:World) (hb:Below w.heap.size w u)=>awake12 u (up u hb).2.1)
 have HL:=hid (fun (u:World) (hb:Below w.heap.size w u)=>rLent12 xs a n c u.heap.size u hl1 hm (up u hb).1 (Nat.le_refl _))
 have HP:Hid (∀ (u:World) (g:Nat),Below w.heap.size w u→OwnF u g (lnt xs)→Calls Tryz.prog 19 #[.slice (some ⟨g,0,none⟩) n (n+2),.float .f64 z,.int .i64 mode] u fun r w'=>r=.returned (.tuple #[.float .f64 X1,.int .i64 E1])∧Below u.heap.size u w'):=fun u g hb ho=>by
  have:=Poly12 xs (some ⟨g,0,none⟩) n (n+2) z mode u hl1 (lent_fs ho) hW1 hz (up u hb).2.1;rw [h1] at this;exact this
 have HK:=hid (fun (u:World) (g:Nat) (hb:Below w.heap.size w u) (hg:w.heap.size≤g) (ho:OwnF u g (lnt xs))=>rAsLent12 xs a n c w.heap.size g u hl1 hm (up u hb).2.2 hg ho)
 have HQ:Hid (∀ u:World,Below w.heap.size w u→Calls Tryz.prog 20 #[.slice a n c,.float .f64 z,.int .i64 mode] u fun r w'=>r=.returned (.tuple #[.float .f64 X1,.int .i64 E1])∧Below u.heap.size u w'):=fun u hb=>by
  have:=rPoly12 xs a n c z mode u hl1 (up u hb).1 hW1 hz hm;rw [h1] at this;exact this
 clear hl1 hW1 hF1 up h1 hT hm hz;go_enter Tryz.func5,Tryz.ntmps5
 go_wp2_with fail
 refine (HA.out _ (Below.refl _ _)).mono ?_;rintro r u1 ⟨rfl,hb⟩;have B1:=qsd hb;clear hb HA
 go_wp2_with fail
 refine (HL.out _ B1.out).mono ?_;rintro r u2 ⟨rfl,ho,hb⟩;obtain ⟨g,hg⟩:∃ g,g=u1.heap.size:=⟨_,rfl⟩;rw [←hg] at ho ⊢;have B2:Aside (Below w.heap.size w u2∧OwnF u2 g (lnt xs)∧w.heap.size≤g):=⟨B1.out.trans (hb.mono B1.out.size),ho,by rw [hg];exact B1.out.size⟩
 clear hb ho hg B1 HL
 go_wp2_with fail
 refine (HP.out _ g B2.out.1 B2.out.2.1).mono ?_;rintro r u3 ⟨rfl,hb⟩;have B3:Aside (Below w.heap.size w u3∧OwnF u3 g (lnt xs)∧w.heap.size≤g):=⟨B2.out.1.trans (hb.mono B2.out.1.size),B2.out.2.1.below hb B2.out.2.1.lt,B2.out.2.2⟩;clear hb B2 HP
 go_wp2_with fail
 refine (HK.out _ g B3.out.1 B3.out.2.2 B3.out.2.1).mono ?_;rintro r u4 ⟨rfl,hb⟩;have B4:Aside (Below w.heap.size w u4):=But.below B3.out.1 hb B3.out.1.size B3.out.2.2;clear hb B3 HK
 go_wp2_with fail
 refine (HQ.out _ B4.out).mono ?_;rintro r u5 ⟨rfl,hb⟩;have B5:=qsd (B4.out.trans (hb.mono B4.out.size));clear hb B4 HQ;have e1:(E1==E1)=true:=by simp
 go_wp2_with fail
 refine (alike12 X1 _).mono ?_;rintro r u9 ⟨rfl,rfl⟩;go_wp2;go_ret;exact ⟨rfl,B5.out⟩
end
end Go.Proofs.YthfkleadcnkglaaGreatDoor
