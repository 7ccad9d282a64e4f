import Derived.Test.YtjldfhecnaiinabGreatDoorM1x
import Derived.ProofKit
import Derived.OpenShut
import Derived.ChangeOld
import Derived.ChangeArms
import Derived.SizedLaws
import Derived.Laws.Cover2
import Derived.Test.YtjldfhecnaiinabGreatDoorF14x
set_option linter.unusedVariables false
set_option linter.unusedSimpArgs false
set_option maxHeartbeats 16000000
set_option maxRecDepth 20000
namespace Go.Proofs.YtjldfhecnaiinabGreatDoor
namespace J
end J
section
open Go.ChangeShapes Go.WideShapes Go.ChangeAt Go.RowKit
theorem trodF {H:Type}{enc:TypeId×Value→H}{P:Program}{w:World}{base:Nat}{spare:Nat→Bool}{held:Bool}{fuel:Nat}{t:TypeId}{cs:List Value}{x:DataW H×List MemPlace}{k:FloatKind}(ht:P.underlying t=some (.float k)) (h:DataW.trod enc P w base spare held fuel t cs=some x):∃ n,cs=[.float k n]∧x=(.lit (.float k n),[])∧(Lit.float k n).wf=true:=by
 cases fuel with
 | zero=>simp [DataW.trod] at h
 | succ m =>
   simp only [DataW.trod,ht] at h
   split at h <;> simp_all
structure CameF (w:World) (a:Option Addr) (n c:Nat) (xs:List Nat):Prop where
 len:n=xs.length
 cap:n≤c
 wf:W64 xs
 rd:Fs w.heap.size w a xs
 nil:a=none→c=0
theorem add_noneF (b off i:Nat):(⟨b,off,none⟩:Addr).add i=⟨b,off+i,none⟩:=by unfold Addr.add;split <;> simp_all
def numF {H:Type} (y:DataW H×List MemPlace):Nat:=match y.1 with | .lit (.float _ n)=>n | _=>0
theorem Tryz.cellsF:Tryz.prog.cellsOf 22=1:=by kernel_rfl
theorem Tryz.bytesF:Tryz.prog.bytesOf 22=8:=by kernel_rfl
theorem cameF_of {H:Type}{enc:TypeId×Value→H}{W:World}{a:Option Addr}{n c:Nat}{d:DataW H}{p:List MemPlace}(h:DataW.Trod enc Tryz.prog W 0 (fun _=>true) true 24 (.slice a n c) d p) :
 ∃ xs,CameF W a n c xs∧((d=.nil∧c=0)∨∃ elems spare:List (DataW H),d=.slice elems spare∧elems.length+spare.length=c):=by
 obtain ⟨fuel,hf⟩:=h
 rcases DataW.trod_slice Tryz.underlying24 hf with ⟨hcs,hx⟩|⟨x,l,cp,elems,rest,m,_,hcs,hx,hb,hl,hm,hlen,hel,hsp,hns⟩
 · simp [Value.cells] at hcs
   obtain ⟨rfl,rfl,rfl⟩:=hcs;exact ⟨[],⟨rfl,Nat.le_refl _,(fun x hx=>by cases hx),(fun h=>absurd rfl h),fun _=>rfl⟩,.inl ⟨(Prod.mk.inj hx).1,rfl⟩⟩
 · simp [Value.cells] at hcs
   obtain ⟨rfl,rfl,rfl⟩:=hcs
   have each:∀ i y,i<n→elems[i]?=some y→y=(.lit (.float .f64 (numF y)),[])∧(Lit.float .f64 (numF y)).wf=true∧W.cell? (x.add i)=some (.float .f64 (numF y)):=by
    intro i y hi hy;have hb':=hel i hi;rw [hy,Tryz.cellsF,Nat.mul_one,Option.bind_eq_some_iff] at hb';obtain ⟨cs',hcs,hy'⟩:=hb';obtain ⟨k,rfl,rfl,hw⟩:=trodF Tryz.underlying22 hy';exact ⟨rfl,hw,cell_of_cells?_one hcs⟩
   refine ⟨elems.map numF,⟨by simp [hlen],hl,?_,?_,fun e=>by cases e⟩,.inr ⟨_,_,(Prod.mk.inj hx).1,?_⟩⟩
   · intro y hy
     obtain ⟨z,hz,rfl⟩:=List.mem_map.1 hy;obtain ⟨i,hi⟩:=List.getElem?_of_mem hz;have hil:=(List.getElem?_eq_some_iff.1 hi).1;have:=(each i z (by omega) hi).2.1
     exact of_decide_eq_true this
   · intro hne
     obtain ⟨b,off,spot⟩:=x
     have hn0:0<n:=by
      rcases Nat.eq_zero_or_pos n with h0|h0
      · rw [h0] at hlen;have:=List.eq_nil_of_length_eq_zero hlen;subst this;simp at hne
      · exact h0
     have hc0:=(each 0 (elems[0]'(by omega)) hn0 (List.getElem?_eq_getElem _)).2.2
     have hspot:spot=none:=by simpa [Addr.add] using World.cell?_spot hc0
     subst hspot;refine ⟨b,off,World.block_lt_of_cell? W _ (by simpa [Addr.add] using hc0),rfl,fun i hi=>?_⟩
     rw [List.length_map] at hi;have hadd:=add_noneF b off i;have:=(each i (elems[i]'hi) (by omega) (List.getElem?_eq_getElem _)).2.2
     rw [hadd] at this;rw [this];simp [List.getD_eq_getElem?_getD,hi]
   · have hr:=(hsp rfl).1
     simp only [List.length_map];omega
theorem cameF_reach {H:Type}{ts:List TypeId}{ds:List (DataW H)}(h:(DataW.weightsEach Tryz.prog ts ds).all (·≤reachBytes)=true) {j:Nat}{d:DataW H}{c n:Nat}(ht:ts[j]?=some 24) (hd:ds[j]?=some d) (hn:n≤c)
 (hc:(d=.nil∧c=0)∨∃ elems spare:List (DataW H),d=.slice elems spare∧elems.length+spare.length=c):n≤17592186043904:=by
 rcases hc with ⟨_,rfl⟩|⟨elems,spare,rfl,hl⟩
 · omega
 · have:=sized_slice h ht hd Tryz.underlying24
   rw [Tryz.bytesF,hl] at this;simp only [reachBytes] at this;omega
end
section
open Go.RowKit J
attribute [local go_sem] st_float
theorem fS_lt {xs:List Nat}(hf:∀ x ∈ xs,finW x) (hl:xs.length≤65536) (k:Nat) (m:Nat) (hm:m=3000):(fS (xs.take k)).natAbs<2^m:=by
 obtain ⟨a,ha⟩:∃ a:Nat,a=2045:=⟨_,rfl⟩;have h1:=fS_bd 9218868437227405311 (xs:=xs.take k) (fun x hx=>by have:magW x<9218868437227405312:=hf x (List.mem_of_mem_take hx);omega)
 have h2:=top_v 9218868437227405311 (by decide) a ha
 have h3:(xs.take k).length≤65536:=by rw [List.length_take];omega
 have h4:(xs.take k).length*vK 9218868437227405311≤65536*(9007199254740992*2^a):=Nat.mul_le_mul h3 (Nat.le_of_lt h2)
 have h5:65536*(9007199254740992*2^a)<2^m:=by
  rw [show (65536:Nat)=2^16 by decide,show (9007199254740992:Nat)=2^53 by decide,←Nat.pow_add,←Nat.pow_add]
  exact Nat.pow_lt_pow_right (by decide) (by omega)
 omega
theorem fo_zero13:fo8 0=o00:=by unfold fo8;exact mkS_zero _ _
theorem walk2_MeanNearest (a:Option Addr) (n c:Nat) (xs:List Nat) (w:World) (hT:Tab w) (hC:CameF w a n c xs) (hm:n≤17592186043904) :
 Calls Tryz.prog 7 #[.slice a n c] w fun r w'=>r=.returned (.bool true)∧Below w.heap.size w w':=by
 obtain ⟨hl1,_,hW1,hF1,_⟩:=hC;have up:∀ u:World,Below w.heap.size w u→Fs u.heap.size u a xs:=fun u hb=>(hF1.below hb).mono hb.size
 obtain ⟨t,ht⟩:∃ t:Bool,t=true↔∀ x ∈ xs,finW x:=by
  by_cases h:∀ x ∈ xs,finW x
  · exact ⟨true,⟨fun _=>h,fun _=>rfl⟩⟩
  · exact ⟨false,⟨fun q=>(by cases q),fun q=>absurd q h⟩⟩
 have HL:=hid (live13 w hT);have HF:=hid (fun (u:World) (hb:Below w.heap.size w u)=>finite13 xs a n c u hl1 (up u hb) hW1 (by omega) t ht)
 by_cases hgo:t=true∧n≠0∧n≤300
 · obtain ⟨rfl,hn0,hn3⟩:=hgo
   have hf:=ht.1 rfl;have hne:xs≠[]:=by rintro rfl;simp at hl1;omega
   have hl6:xs.length≤65536:=by omega
   obtain ⟨N1,N2,N3,N4⟩:=near_all hW1 hf hne hl6 (sS xs);obtain ⟨x,hx⟩:∃ x,(levR xs (sS xs) 0).1=x:=⟨_,rfl⟩;rw [hx] at N2 N3 N4
   have hmr:meanR xs 0 0 0=(x,0):=by
    rw [mean_fin hW1 hf hl6 (by decide) (by decide),←hx]
    exact Prod.ext rfl N1
   have HM:=hid (fun (u:World) (hb:Below w.heap.size w u)=>Mean13 xs a n c 0 0 0 u hl1 (up u hb) hW1 (hT.belows hb) (by omega) _ hmr)
   obtain ⟨m,hmm⟩:∃ m:Nat,m=3000:=⟨_,rfl⟩;have bd:=fun k=>fS_lt hf hl6 k m hmm
   obtain ⟨yl,hyl,HPv⟩:=prev13 N2;obtain ⟨yh,hyh,HNx⟩:=next13 N2;have etk:xs.take n=xs:=List.take_of_length_le (by omega)
   have bS:(fS xs).natAbs<2^m:=by have:=bd n;rw [etk] at this;exact this
   have HNl:=hid (fun (u:World) (p:Option Addr) (q:Nat) (hb:Below w.heap.size w u) (hN:Nt 0 u (.slice p (ws (dX (fo8 (fS xs)))).length q) (dX (fo8 (fS xs))))=>nearer13 x yl (fS xs) n p q u N2 N3 hyl m hmm bS (by omega) (hT.belows hb) hN (fun _=>by rw [hl1];exact N4 yl))
   have HNh:=hid (fun (u:World) (p:Option Addr) (q:Nat) (hb:Below w.heap.size w u) (hN:Nt 0 u (.slice p (ws (dX (fo8 (fS xs)))).length q) (dX (fo8 (fS xs))))=>nearer13 x yh (fS xs) n p q u N2 N3 hyh m hmm bS (by omega) (hT.belows hb) hN (fun _=>by rw [hl1];exact N4 yh))
   have HPv:=hid HPv;have HNx:=hid HNx;have HX:=(qsd (ai hl1 (ai hW1 (ai hF1 (ai hf (ai hT (ai hmm (ai bd etk))))))));simp only at HM;have d0:((n:Int)==0)=false:=by rw [beq_eq_false_iff_ne];omega
   have d3:decide ((300:Int)<(n:Nat))=false:=by simp;omega
   clear hl1 hW1 hF1 up ht hT hm hf hne hl6 N1 N2 N3 N4 hx hmr hyl hyh etk bS bd hmm;go_enter Tryz.func7,Tryz.ntmps7
   go_wp2_with fail
   refine HL.out.mono ?_;rintro r u1 ⟨rfl,hb⟩;have B1:=qsd hb;clear hb HL
   go_wp2_with fail
   refine (HF.out _ B1.out).mono ?_;rintro r u2 ⟨rfl,hb⟩;have B2:=qsd (B1.out.trans (hb.mono B1.out.size));clear hb HF B1
   go_wp2_with fail
   refine (HM.out _ B2.out).mono ?_;rintro r u3 ⟨rfl,hb⟩;have B3:=qsd (B2.out.trans (hb.mono B2.out.size));clear hb HM B2;obtain ⟨W,hW⟩:∃ W,W=u3.alloc (Obj.cells #[.bool false,.slice none 0 0,.int .i64 0] 43):=⟨_,rfl⟩;obtain ⟨gs,hgs⟩:∃ g,u3.heap.size=g:=⟨_,rfl⟩
   have B4:Aside (Lo W gs (fo8 (fS (xs.take 0)))∧Below w.heap.size w W∧w.heap.size≤gs):=by
    rw [List.take_zero,show fS []=0 from rfl,fo_zero13,hW,←hgs]
    exact ⟨Lo.zero _,B3.out.trans ((below_alloc _ _).mono B3.out.size),B3.out.size⟩
   have HW:=(qsd (ai hW hgs));clear hW hgs B3;go_wp2;rw [←HW.out.1,HW.out.2];clear HW
   go_loopg [8] n (fun gk i wr=>∃ k:Nat,gk+k=n∧i=.int .i64 (k:Nat)∧Aside (Lo wr gs (fo8 (fS (xs.take k)))∧Below w.heap.size w wr))
   case atStart=>exact ⟨0,by omega,by simp,B4.out.1,B4.out.2.1⟩
   case round =>
    obtain ⟨k,hgk,rfl,HA⟩:=hrel
    by_cases hk:k<n
    · clear HPv HNx HNl HNh
      obtain ⟨b,off,rfl,hc⟩:=HX.out.2.2.1.at HA.out.2 k (by rw [←HX.out.1];exact hk)
      obtain ⟨z,hz⟩:∃ z,z=xs.getD k 0:=⟨_,rfl⟩;rw [←hz] at hc;have hz64:z<18446744073709551616:=by rw [hz];exact HX.out.2.1.get k
      have hkx:k<xs.length:=by rw [←HX.out.1];exact hk
      have fz:finW z:=by rw [hz];exact HX.out.2.2.2.1 _ (by rw [List.getD_eq_getElem?_getD,List.getElem?_eq_getElem hkx];exact List.getElem_mem _)
      obtain ⟨m',hm'⟩:∃ m':Nat,m'=3000:=⟨_,rfl⟩
      have bz:(fvW z).natAbs<2^m':=by
       obtain ⟨j,hj⟩:∃ j:Nat,j=2098:=⟨_,rfl⟩;exact Nat.lt_of_lt_of_le (top_fv hz64 fz j hj) (Nat.pow_le_pow_right (by decide) (by omega))
      have bk:(fS (xs.take k)).natAbs<2^m':=by rw [hm',←HX.out.2.2.2.2.2.1];exact HX.out.2.2.2.2.2.2.1 k
      have bk1:(fS (xs.take (k+1))).natAbs<2^m':=by rw [hm',←HX.out.2.2.2.2.2.1];exact HX.out.2.2.2.2.2.2.1 (k+1)
      have eS:addD (fo8 (fS (xs.take k))) (fo8 (fvW z))=fo8 (fS (xs.take (k+1))):=by rw [fo8_add _ _ m' (by omega) bk bz,hz,fS_take xs k hkx]
      have F0:=qsd (fo_fm13 _ m' (by omega) bk)
      have F1:=qsd (fo_fm13 _ m' (by omega) bz)
      have F2:=qsd (fo_fm13 _ m' (by omega) bk1)
      have HO:=hid (of_any8 z ⟨hz64,fz⟩ wr (HX.out.2.2.2.2.1.belows HA.out.2));have HAd:=hid (fun (U:World) (p q:Option Addr) (cp cq:Nat) (n1:Nt 0 U (.slice p (ws (dX (fo8 (fS (xs.take k))))).length cp) (dX (fo8 (fS (xs.take k))))) (n2:Nt 0 U (.slice q (ws (dX (fo8 (fvW z)))).length cq) (dX (fo8 (fvW z)))) (hT:Tab U)=>addP12' F0.out F1.out n1 n2 hT eS F2.out)
      obtain ⟨o0,ho0⟩:∃ o,fo8 (fS (xs.take k))=o:=⟨_,rfl⟩;obtain ⟨o1,ho1⟩:∃ o,fo8 (fvW z)=o:=⟨_,rfl⟩;obtain ⟨o2,ho2⟩:∃ o,fo8 (fS (xs.take (k+1)))=o:=⟨_,rfl⟩;rw [ho0] at F0 HAd HA;rw [ho1] at F1 HO HAd;rw [ho2] at F2 HAd;have HO2:=qsd ho2;have hkb:k<4611686018427387904:=by omega
      have hd:decide ((k:Int)<n)=true:=by simp;omega
      clear hz hz64 fz hkx bz bk bk1 eS ho0 ho1 ho2 hm'
      go_wp2_with fail
      refine HO.out.mono ?_;rintro r u ⟨⟨v,rfl,hN⟩,hb⟩;obtain ⟨p1,q1,rfl,hN⟩:=Lo.shape F1.out hN;obtain ⟨U,hU⟩:∃ U,U=u.alloc (Obj.cells #[.bool (dN o1),.slice p1 (ws (dX o1)).length q1,.int .i64 (dE o1)] 43):=⟨_,rfl⟩;obtain ⟨gd,hgd⟩:∃ g,u.heap.size=g:=⟨_,rfl⟩
      have B5:Aside (Lo U gs o0∧Lo U gd o1∧Below w.heap.size w U∧Tab U):=by
       have b1:Below wr.heap.size wr U:=by rw [hU];exact hb.trans ((below_alloc _ _).mono hb.size)
       have b2:=HA.out.2.trans (b1.mono HA.out.2.size);exact ⟨HA.out.1.below b1,by rw [hU,←hgd];exact Lo.new hN,b2,HX.out.2.2.2.2.1.belows b2⟩
      have HU:=(qsd (ai hU hgd));clear hb hN HO hU hgd hc HA;obtain ⟨pa,qa,Da,Ma⟩:=B5.out.1;obtain ⟨pb,qb,Db,Mb⟩:=B5.out.2.1;obtain ⟨x0,x1,x2,xf0,xf1,xf2⟩:=Da.facts;obtain ⟨y0,y1,y2,yf0,yf1,yf2⟩:=Db.facts;have C9:=hid (HAd.out _ pa pb qa qb Ma Mb B5.out.2.2.2);clear Da Db Ma Mb HAd
      go_upto_region 11 with fail
      rw [←HU.out.1,HU.out.2];clear HU
      go_wp2_with fail
      refine C9.out.mono ?_;rintro r v ⟨⟨z9,rfl,hN⟩,hb⟩;obtain ⟨p8,q8,rfl,hN⟩:=Lo.shape F2.out hN;have hbw:=B5.out.2.2.1.trans (hb.mono B5.out.2.2.1.size);have L0:=B5.out.1.below hb
      have H6:Aside (Lo (st3 v gs (.bool (dN o2)) (.slice p8 (ws (dX o2)).length q8) (.int .i64 (dE o2))) gs (fo8 (fS (xs.take (k+1))))∧Below w.heap.size w (st3 v gs (.bool (dN o2)) (.slice p8 (ws (dX o2)).length q8) (.int .i64 (dE o2)))):=by
       rw [HO2.out];exact ⟨L0.set hN,st3_bel13 hbw hbw.size B4.out.2.2 _ _ _⟩
      obtain ⟨p7,q7,D7,_⟩:=L0;obtain ⟨x0,x1,x2,xf0,xf1,xf2⟩:=D7.facts;clear hb hN D7 C9 B5 hbw y0 y1 y2 yf0 yf1 yf2 HO2;go_wp2
      go_roundg (gk-1)
      case measure=>omega
      case rel=>exact ⟨k+1,by omega,by first | rfl | simp,H6.out⟩
    · obtain rfl:n=k:=by omega
      have hd:decide ((n:Int)<n)=false:=by simp
      have K0:Aside (Lo wr gs (fo8 (fS xs))∧Below w.heap.size w wr):=by
       have:=HA.out;rw [HX.out.2.2.2.2.2.2.2] at this;exact this
      clear HA B4;obtain ⟨oS,hoS⟩:∃ o,fo8 (fS xs)=o:=⟨_,rfl⟩;rw [hoS] at K0 HNl HNh;clear hoS
      go_wp2_with fail
      refine (HPv.out _).mono ?_;rintro r v ⟨rfl,hv⟩;rw [hv];clear hv v HPv
      go_wp2_with fail
      refine (HNx.out _).mono ?_;rintro r v ⟨rfl,hv⟩;rw [hv];clear hv v HNx;obtain ⟨pa,qa,Da,Ma⟩:=K0.out.1;obtain ⟨x0,x1,x2,xf0,xf1,xf2⟩:=Da.facts;have C1:=hid (HNl.out wr pa qa K0.out.2 Ma);clear Da Ma HNl
      go_wp2_with fail
      refine C1.out.mono ?_;rintro r v ⟨rfl,hb⟩;have K1:Aside (Lo v gs oS∧Below w.heap.size w v):=⟨K0.out.1.below hb,K0.out.2.trans (hb.mono K0.out.2.size)⟩;clear hb C1 K0 x0 x1 x2 xf0 xf1 xf2;obtain ⟨pa,qa,Da,Ma⟩:=K1.out.1;obtain ⟨x0,x1,x2,xf0,xf1,xf2⟩:=Da.facts;have C1:=hid (HNh.out v pa qa K1.out.2 Ma);clear Da Ma HNh
      go_wp2_with fail
      refine C1.out.mono ?_;rintro r v2 ⟨rfl,hb⟩;have K2:=qsd (K1.out.2.trans (hb.mono K1.out.2.size));clear hb C1 K1 x0 x1 x2 xf0 xf1 xf2;go_wp2;go_ret;exact ⟨rfl,K2.out⟩
 · have HX:=qsd hgo
   clear hl1 hW1 hF1 up ht hT hgo;go_enter Tryz.func7,Tryz.ntmps7
   go_wp2_with fail
   refine HL.out.mono ?_;rintro r u1 ⟨rfl,hb⟩;have B1:=qsd hb;clear hb HL
   go_wp2_with fail
   refine (HF.out _ B1.out).mono ?_;rintro r u2 ⟨rfl,hb⟩;have B2:=qsd (B1.out.trans (hb.mono B1.out.size));clear hb HF B1
   cases t with
   | false =>
     go_wp2;go_ret;exact ⟨rfl,B2.out⟩
   | true =>
     by_cases hn0:n=0
     · have d0:((n:Int)==0)=true:=by simp [hn0]
       clear HX;go_wp2;go_ret;exact ⟨rfl,B2.out⟩
     · have d0:((n:Int)==0)=false:=by rw [beq_eq_false_iff_ne];omega
       have d3:decide ((300:Int)<(n:Nat))=true:=by
        have:¬ n≤300:=fun h=>HX.out ⟨rfl,hn0,h⟩
        simp;omega
       clear HX;go_wp2;go_ret;exact ⟨rfl,B2.out⟩
end
end Go.Proofs.YtjldfhecnaiinabGreatDoor
