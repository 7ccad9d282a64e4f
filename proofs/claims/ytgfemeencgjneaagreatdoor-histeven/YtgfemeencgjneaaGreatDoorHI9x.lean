import Derived.Test.YtgfemeencgjneaaGreatDoorHI4x
import Derived.Test.YtgfemeencgjneaaGreatDoorZ26x
import Derived.Test.YtgfemeencgjneaaGreatDoorD39x
import Derived.Test.YtgfemeencgjneaaGreatDoorW44x
import Derived.BigQuiet
import Derived.Deep.Cut
import Derived.Test.YtgfemeencgjneaaGreatDoorD32cx
import Derived.OwnWalk
import Derived.ArgAppend
import Derived.Maps.AppendAt
import Derived.WalkMore
import Derived.Test.YtgfemeencgjneaaGreatDoorZ5x
set_option linter.unusedVariables false
set_option linter.unusedSimpArgs false
set_option maxHeartbeats 16000000
set_option maxRecDepth 20000
namespace Go.Proofs.YtgfemeencgjneaaGreatDoor
namespace J
end J
section
open Go.RowKit J
def Hs.mrg (s t:Hs):Hs:=⟨List.zipWith (·+·) s.C t.C,s.b+t.b,s.a+t.a,s.o+t.o⟩
theorem sum_zip17:∀ (C D:List Nat),C.length=D.length→(List.zipWith (·+·) C D).sum=C.sum+D.sum
 | [],[],_=>rfl
 | [],d::D,h=>by simp at h
 | c::C,[],h=>by simp at h
 | c::C,d::D,h=>by
   have:=sum_zip17 C D (by simpa using h)
   simp only [List.zipWith_cons_cons,List.sum_cons,this];omega
theorem mrg_all {s t:Hs}(h:s.C.length=t.C.length):(s.mrg t).all=s.all+t.all:=by
 unfold Hs.mrg Hs.all;simp only;rw [sum_zip17 _ _ h];omega
theorem mrg_len {s t:Hs}(h:s.C.length=t.C.length):(s.mrg t).C.length=s.C.length:=by
 unfold Hs.mrg;simp;omega
def mgT (C D:List Nat) (k:Nat):List Nat:=(List.zipWith (·+·) C D).take k++C.drop k
theorem mgT_len {C D:List Nat}(h:C.length=D.length) (k:Nat):(mgT C D k).length=C.length:=by
 unfold mgT;simp;omega
theorem mgT_zero (C D:List Nat):mgT C D 0=C:=by simp [mgT]
theorem mgT_all {C D:List Nat}(h:C.length=D.length) {k:Nat}(hk:k=C.length):mgT C D k=List.zipWith (·+·) C D:=by
 unfold mgT;rw [List.take_of_length_le (by simp;omega),List.drop_of_length_le (by omega),List.append_nil]
theorem mgT_get {C D:List Nat}(h:C.length=D.length) {k:Nat}(hk:k<C.length):(mgT C D k).getD k 0=C.getD k 0:=by
 unfold mgT;have hz:((List.zipWith (·+·) C D).take k).length=k:=by simp;omega
 rw [List.getD_eq_getElem?_getD,List.getElem?_append_right (by omega),hz,Nat.sub_self,List.getElem?_drop,Nat.add_zero,List.getD_eq_getElem?_getD]
theorem mgT_set {C D:List Nat}(h:C.length=D.length) {k:Nat}(hk:k<C.length):(mgT C D k).set k (C.getD k 0+D.getD k 0)=mgT C D (k+1):=by
 unfold mgT;have hz:((List.zipWith (·+·) C D).take k).length=k:=by simp;omega
 rw [List.set_append_right _ _ (by omega),hz,Nat.sub_self,List.drop_eq_getElem_cons hk,List.set_cons_zero,List.take_add_one,List.getElem?_eq_getElem (by simp;omega),List.getElem_zipWith,List.getD_eq_getElem?_getD,List.getD_eq_getElem?_getD,List.getElem?_eq_getElem hk,List.getElem?_eq_getElem (by omega)]
 simp
theorem MergeSelf17 {w:World}{g gE gC cE :Nat}{E :List Nat}{s :Hs}(h:Hm w g gE gC cE E s) :
 Calls Tryz.prog 16 #[.pointer (some ⟨g,0,none⟩),.pointer (some ⟨g,0,none⟩)] w fun r w'=>r=.returned (.int .i64 (if 1099511627776<s.all+s.all then 2 else 0))∧Hm w' g gE gC cE E (if 1099511627776<s.all+s.all then s else s.mrg s)∧But2 g gC w w':=by
 obtain ⟨er,her⟩:∃ e:Int,e=(if 1099511627776<s.all+s.all then 2 else 0):=⟨_,rfl⟩
 obtain ⟨S,hS⟩:∃ S:Hs,S=(if 1099511627776<s.all+s.all then s else s.mrg s):=⟨_,rfl⟩
 rw [←her,←hS];have HR:=(qsd (ai her hS));clear her hS;obtain ⟨c0,c1,c2,c3,c4,c5⟩:=h.cells;obtain ⟨z0,z1,z2,z3,z4,z5⟩:=h.cells;have C:=hid (equal17 E E (some ⟨gE,0,none⟩) (some ⟨gE,0,none⟩) E.length cE E.length cE w.drew h.es h.es rfl rfl (by have:=h.ed.2.1;omega) h.wE h.wE h.ed.2.2.1 h.ed.2.2.1)
 have HH:=(qsd (ai h trivial));obtain ⟨nE,hnE⟩:∃ n,n=E.length:=⟨_,rfl⟩
 skip
 rw [←hnE] at c3 C
 try rw [←hnE] at z3
 have HL:=(qsd (ai hnE trivial));clear h  c0 c1 c2 hnE z0 z1 z2;go_enter Tryz.func16,Tryz.ntmps16
 go_upto_region 1 with fail
 go_cut [7] from 8 to 17 (fun v wx=>(∃ b:Bool,v=.bool (!b)∧(b=true↔E.map sP=E.map sP))∧Aside (∃ k,wx=w.drewN k))
 case first =>
  have kS:Aside (w.drew.cell? ⟨g,3,none⟩=some (.slice (some ⟨gE,0,none⟩) nE cE)∧w.drew.cell? ⟨g,3,none⟩=some (.slice (some ⟨gE,0,none⟩) nE cE)):=⟨c3,z3⟩
  go_region_held3 (fun w'=>w'.cell? ⟨g,3,none⟩=some (.slice (some ⟨gE,0,none⟩) nE cE)∧w'.cell? ⟨g,3,none⟩=some (.slice (some ⟨gE,0,none⟩) nE cE)) (with_reducible exact kS.out) (first
   | (go_at_call 47
      with_reducible refine C.out.mono ?_
      rintro r v ⟨⟨b,rfl,hb⟩,hv⟩;have G:=qsd (ai hb hv)
      have kS:Aside (v.cell? ⟨g,3,none⟩=some (.slice (some ⟨gE,0,none⟩) nE cE)∧v.cell? ⟨g,3,none⟩=some (.slice (some ⟨gE,0,none⟩) nE cE)):=by
       obtain ⟨k,rfl⟩:=hv;exact ⟨c3,z3⟩
      clear hb hv))
  all_goals
   go_wp2_with fail
   go_meet
   case rel=>exact ⟨⟨b,by first | rfl | simp,G.out.1⟩,by obtain ⟨k,e⟩:=G.out.2;exact ⟨1+k,by rw [e];exact drewN_drewN17 w 1 k⟩⟩
 clear C;obtain ⟨⟨b,rfl,hb⟩,HA⟩:=hcut;obtain ⟨V,hV⟩:∃ W,W=wc:=⟨_,rfl⟩;subst hV
 cases b <;> simp only [Bool.not_true,Bool.not_false]
 · have hne:¬ E.map sP=E.map sP:=fun e=>by have:=hb.2 e;cases this
   exact absurd rfl hne
 · have heq:=hb.1 rfl
   have HR2:=HR
   have hlenC:s.C.length=s.C.length:=by
    have e1:=HH.out.1.le;have e2:=HH.out.1.le;have e3:=congrArg List.length heq;simp at e3;omega
   have hsm0:s.all<2000000000000∧s.all<2000000000000:=by have:=HH.out.1.mx;have:=HH.out.1.mx;omega
   have y5:V.cell? ⟨g,5,none⟩=some (.int .i64 (s.all:Nat)):=by obtain ⟨k,rfl⟩:=HA.out;exact c5
   have x5:V.cell? ⟨g,5,none⟩=some (.int .i64 (s.all:Nat)):=by obtain ⟨k,rfl⟩:=HA.out;exact z5
   obtain ⟨n,hn⟩:∃ n,n=s.all:=⟨_,rfl⟩;rw [←hn] at y5;rw [←hn] at x5;have hsm:n<2000000000000∧n<2000000000000:=by rw [hn];exact hsm0
   clear hsm0;have wn:IntKind.i64.wrap ((n:Int)+(n:Int))=((n+n:Nat):Int):=wrapY (by omega) (by omega)
   obtain ⟨n3,hn3⟩:∃ n,n=s.all+s.all:=⟨_,rfl⟩;rw [show n+n=n3 by omega] at wn
   have HR3:=HR2.out;rw [←hn3] at HR3;have HR4:=qsd HR3;clear HR HR2 HR3;have HNN:=(qsd (ai hn (ai hn (ai hn3 trivial))));clear hn hn3 hlenC heq hb c3 z3 c5 z5
   go_upto_region 3 with fail
   go_cut [18] from 19 to 28 (fun v wx=>∃ t:Bool,v=.bool t∧t=decide ((1099511627776:Int)<(n3:Int))∧Aside (∃ k,wx=w.drewN k))
   case first =>
    go_quiet (fail)
    go_wp2_with fail
    go_meet
    case rel=>exact ⟨_,rfl,by first | rfl | simp,by obtain ⟨k,e⟩:=HA.out;exact ⟨k+_,by rw [e];exact drewN_drewN17 w k _⟩⟩
   clear HA y5 x5;obtain ⟨tt,rfl,htt,HA⟩:=hcut;obtain ⟨V2,hV⟩:∃ W,W=wc:=⟨_,rfl⟩;subst hV;have hbel:Below w.heap.size w V2:=by obtain ⟨k,e⟩:=HA.out;rw [e];exact below_drewN17 (Below.refl _ _) _
   have K1:=qsd (HH.out.1.below hbel)
   skip
   have KB:=qsd hbel;clear hbel HA
   by_cases hbig:1099511627776<n3
   · have dbig:decide ((1099511627776:Int)<(n3:Int))=true:=by simp;omega
     rw [dbig] at htt;subst htt
     have HZ:Aside (er=2∧Hm V2 g gE gC cE E S∧But2 g gC w V2):=by
      refine ⟨by rw [HR4.out.1,if_pos hbig],?_⟩
      rw [HR4.out.2,if_pos hbig];exact ⟨K1.out,Below.two KB.out⟩
     clear HR4;go_wp2;go_ret;exact ⟨by rw [HZ.out.1];rfl,HZ.out.2⟩
   · have dbig:decide ((1099511627776:Int)<(n3:Int))=false:=by simp;omega
     rw [dbig] at htt;subst htt;have HR5:Aside (er=0∧S=s.mrg s):=⟨by rw [HR4.out.1,if_neg hbig],by rw [HR4.out.2,if_neg hbig]⟩
     clear HR4;obtain ⟨y0,y1,y2,y3,y4,y5⟩:=K1.out.cells;obtain ⟨nC,hnC⟩:∃ n,n=s.C.length:=⟨_,rfl⟩;rw [←hnC] at y4;have HNC:=qsd hnC;have hlC:nC≤1024:=by have:=HH.out.1.le;have:=HH.out.1.ed.2.1;omega
     clear y0 y1 y2 y3 y5 hnC;go_wp2
     go_loopg [34] nC (fun gk iv wr=>∃ k:Nat,gk+k=nC∧iv=.int .i64 (k:Nat)∧Aside (OwnI wr gC (mgT s.C s.C k)∧But gC V2 wr))
     case atStart=>exact ⟨0,by omega,by first | rfl | simp,by rw [mgT_zero];exact K1.out.cs,But.refl _ _⟩
     case round =>
      obtain ⟨k,hgk,rfl,HA⟩:=hrel;clear y4
      by_cases hk:k<nC
      · have hdk:decide ((k:Int)<(nC:Int))=true:=by simp;omega
        have lk:(k:Int)<(nC:Int):=by omega
        have lk0:(0:Int)≤(k:Int):=by omega
        obtain ⟨k1,hk1⟩:∃ x,x=k+1:=⟨_,rfl⟩;have wk:IntKind.i64.wrap ((k:Int)+1)=(k1:Int):=wrapY (by omega) (by omega)
        have hkC:k<s.C.length:=by have:=HNC.out;omega
        have x1:=HA.out.1.cell k (by rw [mgT_len (rfl:s.C.length=s.C.length)];exact hkC)
        rw [mgT_get (rfl:s.C.length=s.C.length) hkC] at x1;have x2:wr.cell? ⟨gC,k,none⟩=some (.int .i64 ((s.C.getD k 0:Nat):Int)):=by have:=HA.out.1.cell k (by rw [mgT_len (rfl:s.C.length=s.C.length)];exact hkC);rw [mgT_get (rfl:s.C.length=s.C.length) hkC] at this;exact this
        have x3:=(K1.out.bl.but HA.out.2 K1.out.n1).cell 4 _ rfl;rw [←HNC.out] at x3;have x4:=HA.out.1.frozen k;have hset:=HA.out.1.set k (s.C.getD k 0+s.C.getD k 0);rw [mgT_set (rfl:s.C.length=s.C.length) hkC] at hset;have hb1:=get_le_sum17 s.C k;have hb2:=get_le_sum17 s.C k;have hb3:s.C.sum≤n∧s.C.sum≤n:=by rw [HNN.out.1];unfold Hs.all;omega
        obtain ⟨p,hp⟩:∃ p,p=s.C.getD k 0:=⟨_,rfl⟩;rw [←hp] at x1 hset hb1;rw [←hp] at x2 hb2;have wp:IntKind.i64.wrap ((p:Int)+(p:Int))=((p+p:Nat):Int):=wrapY (by omega) (by omega)
        obtain ⟨pq,hpq⟩:∃ p',p'=p+p:=⟨_,rfl⟩;rw [←hpq] at wp hset;have HN:Aside (OwnI (wr.setCell ⟨gC,k,none⟩ (.int .i64 (pq:Nat))) gC (mgT s.C s.C k1)∧But gC V2 (wr.setCell ⟨gC,k,none⟩ (.int .i64 (pq:Nat)))):=⟨by rw [hk1];exact hset,HA.out.2.set k _⟩
        have HK:=qsd hk1;clear hset hb1 hb2 hb3 hp hpq hk1 HA hkC;go_wp2
        go_roundg (nC-k1)
        case measure=>have:=HK.out;omega
        case rel=>exact ⟨k1,by have:=HK.out;omega,by first | rfl | simp,HN.out⟩
      · obtain rfl:k=nC:=by omega
        have hdk:decide ((k:Int)<(k:Int))=false:=by simp
        have hO:=HA.out.1;rw [mgT_all (rfl:s.C.length=s.C.length) HNC.out] at hO;have hB1:=K1.out.bl.but HA.out.2 K1.out.n1;rw [←HNN.out.1] at hB1;have hB2:True:=trivial;have x0:wr.cell? ⟨g,0,none⟩=some (.int .i64 (s.b:Nat)):=hB1.cell 0 _ rfl;have x1:wr.cell? ⟨g,1,none⟩=some (.int .i64 (s.a:Nat)):=hB1.cell 1 _ rfl;have x2:wr.cell? ⟨g,2,none⟩=some (.int .i64 (s.o:Nat)):=hB1.cell 2 _ rfl;have hs1:s.b+s.a+s.o≤n∧s.b+s.a+s.o≤n:=by rw [HNN.out.1];unfold Hs.all;omega
        have C:=hid (join17 (b2:=s.b) (a2:=s.a) (o2:=s.o) hB1.drew (by omega) (by omega) (by omega))
        have HO:=(qsd (ai hO (ai hB1 (ai hB2 HA.out.2))));clear hO hB1 hB2 HA hs1
        go_upto_region 10 with fail
        go_cut [] from 50 to 57 (fun wx=>Aside (Bl wx g 65 [.int .i64 ((s.b+s.b:Nat):Int),.int .i64 ((s.a+s.a:Nat):Int),.int .i64 ((s.o+s.o:Nat):Int),.slice (some ⟨gE,0,none⟩) E.length cE,.slice (some ⟨gC,0,none⟩) s.C.length s.C.length,.int .i64 (n:Nat)]∧But g wr.drew wx))
        case first =>
         refine calm17b ?_
         go_region_with (first
          | (go_at_call 48
             with_reducible refine C.out.mono ?_
             rintro r v ⟨rfl,hv⟩;have G:=qsd hv;clear hv))
         all_goals
          go_wp2_with fail
          go_meet
          case rel=>exact G.out
        clear C x0 x1 x2;have HB:=hcut;obtain ⟨V3,hV⟩:∃ W,W=wc:=⟨_,rfl⟩;subst hV;clear hcut;have x5:V3.cell? ⟨g,5,none⟩=some (.int .i64 (n:Nat)):=HB.out.1.cell 5 _ rfl;have f5:V3.frozen? ⟨g,5,none⟩=false:=HB.out.1.frozen 5;have v5:V3.cell? ⟨g,5,none⟩=some (.int .i64 (n:Nat)):=HB.out.1.cell 5 _ rfl
        have HF:Aside (Hm (V3.drew.setCell ⟨g,5,none⟩ (.int .i64 (n3:Nat))) g gE gC cE E (s.mrg s)∧But2 g gC w (V3.drew.setCell ⟨g,5,none⟩ (.int .i64 (n3:Nat)))):=by
         have bt:But2 g gC V2 (V3.drew.setCell ⟨g,5,none⟩ (.int .i64 (n3:Nat))):=HO.out.2.2.2.two2.trans ((But.refl g wr).drew.two1.trans (HB.out.2.two1.trans ((But.refl g V3).drew.set 5 _).two1));refine ⟨⟨?_,?_,K1.out.es.re17 bt.size (fun hl=>bt.block gE hl K1.out.n2 K1.out.n3),K1.out.n1,K1.out.n2,K1.out.n3,K1.out.ed,K1.out.wE,?_,?_⟩,(Below.two KB.out).trans bt⟩
         · rw [mrg_all (rfl:s.C.length=s.C.length),mrg_len (rfl:s.C.length=s.C.length),←HNN.out.2.2.1]
           exact HB.out.1.drew.set 5 _
         · have b2:=(But.refl g wr).drew.trans (HB.out.2.trans ((But.refl g V3).drew.set 5 (.int .i64 (n3:Nat))))
           have:=HO.out.1;unfold OwnI at this ⊢;rw [b2.block gC (Array.getElem?_eq_some_iff.1 this).1 (Ne.symm K1.out.n1)];exact this
         · rw [mrg_len (rfl:s.C.length=s.C.length)];exact K1.out.le
         · rw [mrg_all (rfl:s.C.length=s.C.length),←HNN.out.2.2.1];omega
        clear HO HB
        go_upto_region 11 with fail
        go_region
        all_goals
         go_wp2;go_ret;exact ⟨by rw [HR5.out.1];rfl,by rw [HR5.out.2];exact HF.out⟩
end
section
open Go Go.RowKit J
open Go.Proofs.YtgfemeencgjneaaGreatDoor.B (f64bits f64frombits)
attribute [local go_sem] st_float f64bits f64frombits
abbrev e3:List Nat:=[0,4607182418800017408,4611686018427387904]
abbrev a10:List Nat:=[0,4602678819172646912,4607182418800017408,4611686018427387904,9223372036854775808,13830554455654793216,4613937818241073152,9221120237041090560,9218868437227405312,18442240474082181120]
abbrev q4:List Nat:=[0,4598175219545276416,4602678819172646912,4604930618986332160,4607182418800017408]
theorem put_all' {E:List Nat}{s:Hs}{x:Nat}(hE:Edg E) (h:s.C.length+1=E.length):(s.put E x).all=s.all+1:=put_all (.inl (by have:=bk_lt hE x;omega))
def stL (E:List Nat) (s:Hs) (l:List Nat):Hs:=l.foldl (Hs.put E) s
theorem st_all {E:List Nat}{s:Hs}(hE:Edg E) (h:s.C.length+1=E.length):∀ l:List Nat,(stL E s l).all=s.all+l.length:=by
 intro l
 induction l generalizing s with
 | nil=>rfl
 | cons x l ih=>show (stL E (s.put E x) l).all=_;rw [ih (by rw [put_len];exact h),put_all' hE h,List.length_cons];omega
theorem st_take {E:List Nat}{s:Hs}{l:List Nat}{k:Nat}(h:k<l.length):stL E s (l.take (k+1))=(stL E s (l.take k)).put E (l.getD k 0):=by
 unfold stL;rw [List.take_add_one,List.getElem?_eq_getElem h,List.foldl_append,List.getD_eq_getElem?_getD,List.getElem?_eq_getElem h]
 rfl
theorem edg_e3:Edg e3:=by
 refine ⟨by decide,by decide,by decide,fun i hi=>?_⟩
 have:i=0∨i=1:=by simp at hi;omega
 rcases this with rfl|rfl <;> decide
theorem edg_q4:Edg q4:=by
 refine ⟨by decide,by decide,by decide,fun i hi=>?_⟩
 have:i=0∨i=1∨i=2∨i=3:=by simp at hi;omega
 rcases this with rfl|rfl|rfl|rfl <;> decide
abbrev s0_17:Hs:=⟨List.replicate 2 0,0,0,0⟩
theorem st10:stL e3 s0_17 a10=⟨[3,2],2,2,1⟩:=by
 have h:(stL e3 s0_17 a10).C=[3,2]∧(stL e3 s0_17 a10).b=2∧(stL e3 s0_17 a10).a=2∧(stL e3 s0_17 a10).o=1:=by decide +kernel
 obtain ⟨h1,h2,h3,h4⟩:=h
 cases hs:stL e3 s0_17 a10 with
 | mk C b a o=>rw [hs] at h1 h2 h3 h4;simp only at h1 h2 h3 h4;subst h1 h2 h3 h4;rfl
theorem litI17 (w:World) (L:List Nat) (g:Nat) (hg:g=w.heap.size):∀ i,i<L.length→(w.alloc (Obj.cells (L.map Iw15).toArray 3)).cell? ⟨g,i,none⟩=some (.int .i64 ((L.getD i 0:Nat):Int)):=by
 intro i hi;have:OwnI (w.alloc (Obj.cells (L.map Iw15).toArray 3)) g L:=by rw [hg];exact heap_alloc_new w _
 exact this.cell i hi
def Aw17 (w0 u:World) (g gE gC cE gl:Nat) (st:Hs):Prop:=Hm u g gE gC cE e3 st∧OwnF u gl q4∧Below w0.heap.size w0 u∧w0.heap.size≤g∧w0.heap.size≤gC∧gl≠g∧gl≠gC
theorem Aw17.bel {w0 u u':World}{g gE gC cE gl:Nat}{st:Hs}(h:Aw17 w0 u g gE gC cE gl st) (hb:Below u.heap.size u u'):Aw17 w0 u' g gE gC cE gl st :=
 ⟨h.1.below hb,h.2.1.below hb h.2.1.lt,h.2.2.1.trans (hb.mono h.2.2.1.size),h.2.2.2⟩
theorem Aw17.but {w0 u u':World}{g gE gC cE gl:Nat}{st st':Hs}(h:Aw17 w0 u g gE gC cE gl st) (h':Hm u' g gE gC cE e3 st') (hb:But2 g gC u u'):Aw17 w0 u' g gE gC cE gl st':=by
 obtain ⟨h1,h2,h3,h4,h5,h6,h7⟩:=h;refine ⟨h',?_,But2.below h3 hb h3.size h4 h5,h4,h5,h6,h7⟩;unfold OwnF at h2 ⊢;rw [hb.block gl (Array.getElem?_eq_some_iff.1 h2).1 h6 h7];exact h2
theorem awake17 (w:World) (hT:Tab w):Calls Tryz.prog 9 #[] w fun r w'=>r=.returned (.bool true)∧Below w.heap.size w w':=by
 have hTT:=qsd hT;obtain ⟨W1,hW1⟩:∃ W,W=w.alloc (Obj.cells #[.float .f64 0,.float .f64 4607182418800017408,.float .f64 4611686018427387904] 27):=⟨_,rfl⟩;obtain ⟨g1,hg1⟩:∃ g,g=w.heap.size:=⟨_,rfl⟩;have B1:Aside (Below w.heap.size w W1):=by rw [hW1];exact below_alloc _ _
 have C:=hid (New17 e3 (some ⟨g1,0,none⟩) 3 3 W1 (by rw [hW1];exact lit13 w [_,_,_] _ hg1) rfl (by decide) (by unfold W64;decide) edg_e3)
 have HW:=(qsd (ai hW1 hg1));clear hW1 hg1 hT;go_enter Tryz.func9,Tryz.ntmps9
 go_wp2_with fail
 rw [←HW.out.1,←HW.out.2];clear HW;refine C.out.mono ?_;rintro r u1 ⟨⟨g,gE,gC,cE,rfl,hm,h1,h2,h3⟩,hb⟩;have B2:=qsd (B1.out.trans (hb.mono B1.out.size));have H2:Aside (Hm u1 g gE gC cE e3 s0_17∧w.heap.size≤g∧w.heap.size≤gC):=⟨hm,Nat.le_trans B1.out.size h1,Nat.le_trans B1.out.size h3⟩;clear hm h1 h2 h3 hb C B1;obtain ⟨W2,hW2⟩:∃ W,W=u1.alloc (Obj.cells #[.float .f64 4607182418800017408,.float .f64 4607182418800017408] 27):=⟨_,rfl⟩;obtain ⟨g2,hg2⟩:∃ g,g=u1.heap.size:=⟨_,rfl⟩;have B3:Aside (Below u1.heap.size u1 W2):=by rw [hW2];exact below_alloc _ _
 have C:=hid (NewNo17 [4607182418800017408,4607182418800017408] (some ⟨g2,0,none⟩) 2 2 W2 (by rw [hW2];exact lit13 u1 [_,_] _ hg2) rfl (by decide) (by unfold W64;decide) (fun h=>by have:=h.2.2.2 0 (by decide);revert this;decide))
 have HW:=(qsd (ai hW2 hg2));clear hW2 hg2
 go_wp2_with fail
 rw [←HW.out.1,←HW.out.2];clear HW;refine C.out.mono ?_;rintro r u2 ⟨rfl,hb⟩;have B4:=qsd (B3.out.trans (hb.mono B3.out.size));clear hb C B3;have C:=hid (Edges17 0 one17 4 u2 (hTT.out.belows (B2.out.trans (B4.out.mono B2.out.size))) (by decide) (by decide) (by decide) (by decide) (by decide) (by decide) (edL_W64 (by decide) (by decide) (by decide) (by decide) (by decide) (by decide)))
 rw [edL_quarters] at C
 go_wp2_with fail
 refine C.out.mono ?_;rintro r u3 ⟨hr,hb⟩
 obtain ⟨gl,rfl,hO,hgl⟩:∃ gl,r=.returned (.tuple #[.slice (some ⟨gl,0,none⟩) 5 5,.int .i64 0])∧OwnF u3 gl q4∧u2.heap.size≤gl:=by
  rcases hr with ⟨_,gl,h1,h2,h3⟩|⟨h1,_⟩
  · exact ⟨gl,h1,h2,h3⟩
  · exact absurd edg_q4 h1
 clear hr
 have HA:Aside (Aw17 w u3 g gE gC cE gl s0_17):=by
  have b1:=B4.out.trans (hb.mono B4.out.size);have l1:=H2.out.1.bl.lt;have l2:=H2.out.1.cs.lt;have l3:=B4.out.size;exact ⟨H2.out.1.below b1,hO,B2.out.trans (b1.mono B2.out.size),H2.out.2.1,H2.out.2.2,by omega,by omega⟩
 clear hO hgl hb C B2 B4 H2;have C:=hid (EdgesArg17 0 one17 0 u3 (.inl (by decide)))
 go_wp2_with fail
 refine C.out.mono ?_;rintro r u4 ⟨rfl,hu⟩;rw [hu];clear hu C;have C:=hid (turned17 u3)
 go_wp2_with fail
 refine C.out.mono ?_;rintro r u4 ⟨rfl,hu⟩;rw [hu];clear hu C;have C:=hid (odd17 u3)
 go_wp2_with fail
 refine C.out.mono ?_;rintro r u4 ⟨rfl,hu⟩;rw [hu];clear hu C;have hneg:=B.negF false 2047 0 (by decide) (by decide)
 rw [show B.bw false 2047 0=9218868437227405312 by decide,show B.bw (!false) 2047 0=18442240474082181120 by decide] at hneg
 obtain ⟨W3,hW3⟩:∃ W,W=u3.alloc (Obj.cells #[.float .f64 0,.float .f64 4602678819172646912,.float .f64 4607182418800017408,.float .f64 4611686018427387904,.float .f64 9223372036854775808,.float .f64 13830554455654793216,.float .f64 4613937818241073152,.float .f64 9221120237041090560,.float .f64 9218868437227405312,.float .f64 18442240474082181120] 27):=⟨_,rfl⟩;obtain ⟨g3,hg3⟩:∃ g,g=u3.heap.size:=⟨_,rfl⟩;have B5:Aside (Below u3.heap.size u3 W3):=by rw [hW3];exact below_alloc _ _
 have HA:Aside (Aw17 w W3 g gE gC cE gl (stL e3 s0_17 (a10.take 0))∧Fs W3.heap.size W3 (some ⟨g3,0,none⟩) a10∧g3≠g∧g3≠gC):=by
  refine ⟨HA.out.bel B5.out,by rw [hW3];exact lit13 u3 [_,_,_,_,_,_,_,_,_,_] _ hg3,?_,?_⟩
  · have:=HA.out.1.bl.lt;omega
  · have:=HA.out.1.cs.lt;omega
 have HW:=(qsd (ai hW3 hg3));clear hW3 hg3 B5
 go_upto_region 10 with fail
 rw [←HW.out.1,←HW.out.2];clear HW hneg;go_wp2
 go_loopg [12] 10 (fun gk iv wr=>∃ k:Nat,gk+k=10∧iv=.int .i64 (k:Nat)∧Aside (Aw17 w wr g gE gC cE gl (stL e3 s0_17 (a10.take k))∧Fs wr.heap.size wr (some ⟨g3,0,none⟩) a10∧g3≠g∧g3≠gC))
 case atStart=>exact ⟨0,by omega,by first | rfl | simp,HA.out⟩
 case round =>
  clear HA;obtain ⟨k,hgk,rfl,HA⟩:=hrel
  by_cases hk:k<10
  · have hdk:decide ((k:Int)<10)=true:=by simp;omega
    have bk:(k:Int)<10:=by omega
    obtain ⟨k1,hk1⟩:∃ x,x=k+1:=⟨_,rfl⟩;have wk:IntKind.i64.wrap ((k:Int)+1)=(k1:Int):=wrapY (by omega) (by omega)
    have x1:=HA.out.2.1.cell (Below.refl _ _) k (by simp;omega)
    rw [Nat.zero_add] at x1;have hx:a10.getD k 0<18446744073709551616:=(show W64 a10 by unfold W64;decide).get k
    have C:=hid (Add17 HA.out.1.1 hx)
    have hall:(stL e3 s0_17 (a10.take k)).all=k:=by
     rw [st_all edg_e3 rfl,List.length_take,show a10.length=10 from rfl]
     show 0+min k 10=k
     omega
    rw [hall,if_neg (by omega),if_neg (by omega),←st_take (by simp;omega),←hk1] at C
    obtain ⟨x,hxx⟩:∃ x,x=a10.getD k 0:=⟨_,rfl⟩;rw [←hxx] at x1 C;have HK:=qsd hk1;clear hxx hx hall hk1
    go_wp2_with fail
    refine C.out.mono ?_;rintro r v ⟨rfl,hm,hb⟩;have HN:Aside (Aw17 w v g gE gC cE gl (stL e3 s0_17 (a10.take k1))∧Fs v.heap.size v (some ⟨g3,0,none⟩) a10∧g3≠g∧g3≠gC):=⟨HA.out.1.but hm hb,HA.out.2.1.re17 hb.size (fun hl=>hb.block g3 hl HA.out.2.2.1 HA.out.2.2.2),HA.out.2.2⟩
    clear C hm hb HA x1;go_wp2
    go_roundg (10-k1)
    case measure=>have:=HK.out;omega
    case rel=>exact ⟨k1,by have:=HK.out;omega,by first | rfl | simp,HN.out⟩
  · obtain rfl:k=10:=by omega
    have hdk:decide (((10:Nat):Int)<10)=false:=by simp
    have hA:=HA.out.1;rw [show a10.take 10=a10 from rfl,st10] at hA
    have K0:=qsd hA;clear HA hA;have C:=hid (Outside17 K0.out.1)
    go_wp2_with fail
    refine C.out.mono ?_;rintro r v0 ⟨rfl,hb⟩;have K1:=qsd (K0.out.bel hb);clear C hb K0;have C:=hid (Counts17 K1.out.1)
    go_wp2_with fail
    refine C.out.mono ?_;rintro r v1 ⟨⟨vc,rfl,hO⟩,hb⟩;obtain ⟨gc,cc,rfl,g1',g2',g3'⟩:=ri_of17 (L:=[3,2]) (by decide) hO
    have K2:=qsd (K1.out.bel hb);obtain ⟨W4,hW4⟩:∃ W,W=v1.alloc (Obj.cells #[.int .i64 3,.int .i64 2] 3):=⟨_,rfl⟩;obtain ⟨g4,hg4⟩:∃ g,g=v1.heap.size:=⟨_,rfl⟩;have b4:Below v1.heap.size v1 W4:=by rw [hW4];exact below_alloc _ _
    have C':=hid (ints17 [3,2] gc g4 cc 2 W4 (by decide) (fun i hi=>(b4.cell (p:=⟨gc,i,none⟩) g2').trans (g3' i hi)) (by rw [hW4];exact litI17 v1 [3,2] g4 hg4))
    have K3:=qsd (K2.out.bel b4);have HW:=(qsd (ai hW4 hg4));clear C hO hb K1 K2 b4 hW4 hg4 g1' g2' g3'
    go_wp2_with fail
    rw [←HW.out.1,←HW.out.2];clear HW;refine C'.out.mono ?_;rintro r v2 ⟨rfl,hb⟩;have K4:=qsd (K3.out.bel hb);clear C' hb K3;have C:=hid (Running17 K4.out.1)
    go_wp2_with fail
    refine C.out.mono ?_;rintro r v3 ⟨⟨gr,rfl,hgr,hO⟩,hb⟩;have K5:=qsd (K4.out.bel hb);obtain ⟨W5,hW5⟩:∃ W,W=v3.alloc (Obj.cells #[.int .i64 2,.int .i64 5,.int .i64 7] 3):=⟨_,rfl⟩;obtain ⟨g5,hg5⟩:∃ g,g=v3.heap.size:=⟨_,rfl⟩;have b5:Below v3.heap.size v3 W5:=by rw [hW5];exact below_alloc _ _
    have hO2:OwnI v3 gr [2,5,7]:=hO;have C':=hid (ints17 [2,5,7] gr g5 3 3 W5 (by decide) (fun i hi=>(hO2.below b5 hO2.lt).cell i hi) (by rw [hW5];exact litI17 v3 [2,5,7] g5 hg5))
    have K6:=qsd (K5.out.bel b5);have HW:=(qsd (ai hW5 hg5));clear C hO hO2 hb K4 K5 b5 hW5 hg5 hgr
    go_wp2_with fail
    rw [←HW.out.1,←HW.out.2];clear HW;refine C'.out.mono ?_;rintro r v4 ⟨rfl,hb⟩;have K7:=qsd (K6.out.bel hb);clear C' hb K6;have C:=hid (MergeSelf17 K7.out.1);rw [show (Hs.mk [3,2] 2 2 1).all=10 from rfl,if_neg (by decide),if_neg (by decide)] at C
    go_wp2_with fail
    refine C.out.mono ?_;rintro r v5 ⟨rfl,hm,hb⟩;have K8:Aside (Aw17 w v5 g gE gC cE gl ⟨[6,4],4,4,2⟩):=K7.out.but hm hb;clear C hm hb K7;have C:=hid (Counts17 K8.out.1)
    go_wp2_with fail
    refine C.out.mono ?_;rintro r v6 ⟨⟨vc,rfl,hO⟩,hb⟩;obtain ⟨gc,cc,rfl,g1',g2',g3'⟩:=ri_of17 (L:=[6,4]) (by decide) hO
    have K9:=qsd (K8.out.bel hb);obtain ⟨W6,hW6⟩:∃ W,W=v6.alloc (Obj.cells #[.int .i64 6,.int .i64 4] 3):=⟨_,rfl⟩;obtain ⟨g6,hg6⟩:∃ g,g=v6.heap.size:=⟨_,rfl⟩;have b6:Below v6.heap.size v6 W6:=by rw [hW6];exact below_alloc _ _
    have C':=hid (ints17 [6,4] gc g6 cc 2 W6 (by decide) (fun i hi=>(b6.cell (p:=⟨gc,i,none⟩) g2').trans (g3' i hi)) (by rw [hW6];exact litI17 v6 [6,4] g6 hg6))
    have K10:=qsd (K9.out.bel b6);have HW:=(qsd (ai hW6 hg6));clear C hO hb K8 K9 b6 hW6 hg6 g1' g2' g3'
    go_wp2_with fail
    rw [←HW.out.1,←HW.out.2];clear HW;refine C'.out.mono ?_;rintro r v7 ⟨rfl,hb⟩;have K11:=qsd (K10.out.bel hb);clear C' hb K10;obtain ⟨W7,hW7⟩:∃ W,W=v7.alloc (Obj.cells #[.float .f64 0,.float .f64 4598175219545276416,.float .f64 4602678819172646912,.float .f64 4604930618986332160,.float .f64 4607182418800017408] 27):=⟨_,rfl⟩;obtain ⟨g7,hg7⟩:∃ g,g=v7.heap.size:=⟨_,rfl⟩;have b7:Below v7.heap.size v7 W7:=by rw [hW7];exact below_alloc _ _
    have K12:=qsd (K11.out.bel b7);have C':=hid (floats17 q4 (some ⟨gl,0,none⟩) (some ⟨g7,0,none⟩) 5 5 5 W7 rfl (by decide) (K12.out.2.1.fs K12.out.2.1.lt 5) (by rw [hW7];exact lit13 v7 [_,_,_,_,_] _ hg7))
    have HW:=(qsd (ai hW7 hg7));clear K11 b7 hW7 hg7
    go_wp2_with fail
    rw [←HW.out.1,←HW.out.2];clear HW;refine C'.out.mono ?_;rintro r v8 ⟨rfl,hb⟩;have K13:=qsd (K12.out.bel hb);clear C' hb K12;have C:=hid (All17 K13.out.1);rw [show (Hs.mk [6,4] 4 4 2).all=20 from rfl] at C
    have HE:=qsd K13.out.2.2.1;clear K13
    go_wp2_with fail
    refine C.out.mono ?_;rintro r v9 ⟨rfl,hu⟩;rw [hu];clear hu C;go_wp2;go_ret;exact ⟨rfl,HE.out⟩
end
section
open Go.RowKit
theorem Nt.al' {lo:Nat}{w:World}{v:Value}{X:Nat}(h:Nt lo w v X) (hl:(ws X).length≤2000000):Al w v X:=by
 obtain ⟨a,c,rfl,hA⟩:=h.arg (by omega)
 exact ⟨a,_,c,_,rfl,hA,val_ws _,hl⟩
theorem times_al {w:World}{v u:Value}{X Y:Nat}(h1:Al w v X) (h2:Al w u Y):Calls Tryz.prog 61 #[v,u] w fun r w'=>∃ p,r=.returned p∧Nt w.heap.size w' p (X*Y)∧Below w.heap.size w w':=by
 obtain ⟨a,l,c,xs,rfl,hA,rfl,hl⟩:=h1;obtain ⟨b,k,d,ys,rfl,hB,rfl,hk⟩:=h2;exact rTimes_arg hA hB (by omega) rfl
theorem against_al {w:World}{v u:Value}{X Y:Nat}{e f:Int}(h1:Al w v X) (h2:Al w u Y) (be:-9223372036854775808≤e∧e≤9223372036854775807) (bf:-9223372036854775808≤f∧f≤9223372036854775807) :
 Calls Tryz.prog 160 #[v,.int .i64 e,u,.int .i64 f] w fun r w'=>r=.returned (.int .i64 (agV X e Y f))∧Below w.heap.size w w':=by
 obtain ⟨a,l,c,xs,rfl,hA,rfl,hl⟩:=h1;obtain ⟨b,k,d,ys,rfl,hB,rfl,hk⟩:=h2;exact against_any hA hB hl hk e f be.1 be.2 bf.1 bf.2
theorem against11_q {w:World}{n m:Bool}{p a b:Option Addr}{lp cp la ca lb cb A X Y:Nat}{g e f:Int}(hA:Al w (.slice p lp cp) A) (hN:Al w (.slice a la ca) X) (hD:Al w (.slice b lb cb) Y) (he:-9223372036854775808≤e∧e≤9223372036854775807) (h g2:Int) (e2:IntKind.i64.wrap (g+f)=h) (hh:-9223372036854775808≤h∧h≤9223372036854775807) (P:Nat) (hP:A*Y=P) (hl:(ws P).length≤2000000) :
 Calls Tryz.prog 123 #[.slice p lp cp,.int .i64 g,.agg #[.bool n,.slice a la ca,.int .i64 e,.bool m,.slice b lb cb,.int .i64 f],.bool false] w fun r w'=>r=.returned (.int .i64 (agV P h X e))∧Below w.heap.size w w':=by
 obtain ⟨W1,hW1⟩:∃ W,W=w.alloc (.cells #[.bool n,.slice a la ca,.int .i64 e,.bool m,.slice b lb cb,.int .i64 f] 78):=⟨_,rfl⟩;have hB:Below w.heap.size w W1:=by rw [hW1];exact below_alloc _ _
 have QR0:Rq W1 w.heap.size n (.slice a la ca) e m (.slice b lb cb) f:=by rw [hW1];exact Rq.new _ _ _ _ _ _ _
 have S0:=(qsd (ai hB (ai QR0 (ai (hA.below hB) (ai (hN.below hB) (hD.below hB))))));have BD:=(qsd (ai he (ai hh (ai hl hP))));clear hB QR0 hA hN hD he hh hl hP;go_enter Tryz.func123,Tryz.ntmps123
 go_upto_region 1 with fail
 rw [←hW1];clear hW1;obtain ⟨x0,x1,x2,x3,x4,x5⟩:=S0.out.2.1.facts
 go_upto_region 6 with fail
 have dr:Below W1.heap.size W1 W1.drew:=(Below.refl _ _).drew;have T1:=hid (times_al S0.out.2.2.1 S0.out.2.2.2.2);have T2:=hid (times_al (S0.out.2.2.1.below dr) (S0.out.2.2.2.2.below dr));rw [BD.out.2.2.2] at T1 T2;clear dr
 go_region_held3 (fun w'=>w'.cell? ⟨w.heap.size,0,none⟩=some (.bool n)∧w'.cell? ⟨w.heap.size,1,none⟩=some (.slice a la ca)∧w'.cell? ⟨w.heap.size,2,none⟩=some (.int .i64 e)∧w'.cell? ⟨w.heap.size,3,none⟩=some (.bool m)∧w'.cell? ⟨w.heap.size,4,none⟩=some (.slice b lb cb)∧w'.cell? ⟨w.heap.size,5,none⟩=some (.int .i64 f)) (go_keep) (first
  | (go_at_call 61
     first | with_reducible refine T1.out.mono ?_ | with_reducible refine T2.out.mono ?_
     rintro r v1 ⟨pv,rfl,hN,hb⟩;obtain ⟨q1,d1,rfl,-⟩:=hN.shape;have hb1:Below W1.heap.size W1 v1:=by first | exact hb | exact ((Below.refl _ W1).drew).trans (hb.mono (Nat.le_refl _))
     obtain ⟨bel,QR,AX,AN,AD⟩:=S0.out;obtain ⟨m0,m1,m2,m3,m4,m5⟩:=(QR.below hb1).facts;have T3:=hid (against_al (hN.al' BD.out.2.2.1) (AN.below hb1) BD.out.2.1 BD.out.1);have S4:=(qsd (ai (bel.trans (hb1.mono bel.size)) (QR.below hb1)));clear hN hb hb1 bel QR AX AN AD)
  | (go_at_call 160
     with_reducible refine T3.out.mono ?_
     rintro r v2 ⟨rfl,hb⟩;obtain ⟨bel,QR⟩:=S4.out;obtain ⟨k0,k1,k2,k3,k4,k5⟩:=(QR.below hb).facts;have S5:=qsd (bel.trans (hb.mono bel.size));clear hb bel QR))
 all_goals (
  go_wp2;go_ret;exact ⟨rfl,S5.out⟩)
theorem against11_s {w:World}{n m:Bool}{p a b:Option Addr}{lp cp la ca lb cb A X Y:Nat}{g e f:Int}(hA:Al w (.slice p lp cp) A) (hN:Al w (.slice a la ca) X) (hD:Al w (.slice b lb cb) Y) (he:-9223372036854775808≤e∧e≤9223372036854775807) (h g2:Int) (e1:IntKind.i64.wrap (2*g)=g2) (e2:IntKind.i64.wrap (g2+f)=h) (hh:-9223372036854775808≤h∧h≤9223372036854775807) (P:Nat) (hP:(A*A)*Y=P) (hl:(ws P).length≤2000000) (hl2:(ws (A*A)).length≤2000000) :
 Calls Tryz.prog 123 #[.slice p lp cp,.int .i64 g,.agg #[.bool n,.slice a la ca,.int .i64 e,.bool m,.slice b lb cb,.int .i64 f],.bool true] w fun r w'=>r=.returned (.int .i64 (agV P h X e))∧Below w.heap.size w w':=by
 obtain ⟨W1,hW1⟩:∃ W,W=w.alloc (.cells #[.bool n,.slice a la ca,.int .i64 e,.bool m,.slice b lb cb,.int .i64 f] 78):=⟨_,rfl⟩;have hB:Below w.heap.size w W1:=by rw [hW1];exact below_alloc _ _
 have QR0:Rq W1 w.heap.size n (.slice a la ca) e m (.slice b lb cb) f:=by rw [hW1];exact Rq.new _ _ _ _ _ _ _
 have S0:=(qsd (ai hB (ai QR0 (ai (hA.below hB) (ai (hN.below hB) (hD.below hB))))));have BD:=(qsd (ai he (ai hh (ai hl hP))));clear hB QR0 hA hN hD he hh hl hP;go_enter Tryz.func123,Tryz.ntmps123
 go_upto_region 1 with fail
 rw [←hW1];clear hW1;have HC:=hid (times_al S0.out.2.2.1 S0.out.2.2.1);have HL2:=qsd hl2;clear hl2
 go_wp2_with fail
 refine HC.out.mono ?_;rintro r U ⟨v,rfl,hN,hb⟩;obtain ⟨q2,d2,rfl,-⟩:=hN.shape;have S1:=(qsd (ai (S0.out.1.trans (hb.mono S0.out.1.size)) (ai (S0.out.2.1.below hb) (ai (hN.al' HL2.out) (ai (S0.out.2.2.2.1.below hb) (S0.out.2.2.2.2.below hb))))));clear HC hN hb S0 HL2;obtain ⟨x0,x1,x2,x3,x4,x5⟩:=S1.out.2.1.facts
 go_upto_region 6 with fail
 have dr:Below U.heap.size U U.drew:=(Below.refl _ _).drew;have T1:=hid (times_al S1.out.2.2.1 S1.out.2.2.2.2);have T2:=hid (times_al (S1.out.2.2.1.below dr) (S1.out.2.2.2.2.below dr));rw [BD.out.2.2.2] at T1 T2;clear dr
 go_region_held3 (fun w'=>w'.cell? ⟨w.heap.size,0,none⟩=some (.bool n)∧w'.cell? ⟨w.heap.size,1,none⟩=some (.slice a la ca)∧w'.cell? ⟨w.heap.size,2,none⟩=some (.int .i64 e)∧w'.cell? ⟨w.heap.size,3,none⟩=some (.bool m)∧w'.cell? ⟨w.heap.size,4,none⟩=some (.slice b lb cb)∧w'.cell? ⟨w.heap.size,5,none⟩=some (.int .i64 f)) (go_keep) (first
  | (go_at_call 61
     first | with_reducible refine T1.out.mono ?_ | with_reducible refine T2.out.mono ?_
     rintro r v1 ⟨pv,rfl,hN,hb⟩;obtain ⟨q1,d1,rfl,-⟩:=hN.shape;have hb1:Below U.heap.size U v1:=by first | exact hb | exact ((Below.refl _ U).drew).trans (hb.mono (Nat.le_refl _))
     obtain ⟨bel,QR,AX,AN,AD⟩:=S1.out;obtain ⟨m0,m1,m2,m3,m4,m5⟩:=(QR.below hb1).facts;have T3:=hid (against_al (hN.al' BD.out.2.2.1) (AN.below hb1) BD.out.2.1 BD.out.1);have S4:=(qsd (ai (bel.trans (hb1.mono bel.size)) (QR.below hb1)));clear hN hb hb1 bel QR AX AN AD)
  | (go_at_call 160
     with_reducible refine T3.out.mono ?_
     rintro r v2 ⟨rfl,hb⟩;obtain ⟨bel,QR⟩:=S4.out;obtain ⟨k0,k1,k2,k3,k4,k5⟩:=(QR.below hb).facts;have S5:=qsd (bel.trans (hb.mono bel.size));clear hb bel QR))
 all_goals (
  go_wp2;go_ret;exact ⟨rfl,S5.out⟩)
end
section
open Go.RowKit
def nbyD11 (mode:Int) (n:Bool) (k:Nat) (z hv:Int):Nat:=if z=0 then k else if outS mode k hv n then k+1 else k
theorem plus_al {w:World}{v u:Value}{X Y:Nat}(h1:Al w v X) (h2:Al w u Y):Calls Tryz.prog 65 #[v,u] w fun r w'=>∃ p,r=.returned p∧Nt w.heap.size w' p (X+Y)∧Below w.heap.size w w':=by
 obtain ⟨a,l,c,xs,rfl,hA,rfl,hl⟩:=h1;obtain ⟨b,k,d,ys,rfl,hB,rfl,hk⟩:=h2;exact rPlus_arg hA hB (by omega) (by omega) rfl
theorem two_boxes (w:World) (dg ls:Int) (En:Nat) (n:Bool) (v:Value) (e:Int) (m:Bool) (u:Value) (f:Int) (W:World) (hW:W=(w.alloc (.cells #[.int .i64 dg,.int .i64 ls,.int .u64 (En:Nat)] 99)).alloc (.cells #[.bool n,v,.int .i64 e,.bool m,u,.int .i64 f] 78)) :
 Below w.heap.size w W∧Zk W w.heap.size dg ls En∧Rq W (w.heap.size+1) n v e m u f:=by
 rw [hW];refine ⟨(below_alloc w _).alloc (by simp) _,?_,?_⟩
 · have h:Zk (w.alloc (.cells #[.int .i64 dg,.int .i64 ls,.int .u64 (En:Nat)] 99)) w.heap.size dg ls En:=heap_alloc_new _ _
   exact h.below (below_alloc _ _)
 · have:=Rq.new (w.alloc (.cells #[.int .i64 dg,.int .i64 ls,.int .u64 (En:Nat)] 99)) n v e m u f
   rw [World.size_alloc] at this;exact this
theorem half11 {w:World}{n m:Bool}{a b:Option Addr}{la ca lb cb:Nat}{e f:Int}(dg ls:Int) (En:Nat) (k k1 g h q fm hv:Int) (A Bv SM:Nat) (sq:Bool)
 (hk1:IntKind.u64.wrap (k+1)=k1) (hq:IntKind.i64.wrap (h-g)=q) (hq0:0≤q) (hq1:q≤1) (hfm:IntKind.i64.wrap (g-1)=fm) (hS:A+Bv*2^q.toNat=SM) (hB0:Bv≠0) (lA:(ws A).length≤8192) (lB:(ws Bv).length≤8192) (lM:(ws (Bv*2^q.toNat)).length≤8192) (lS:(ws SM).length≤8192)
 (HN1:Hid (∀ u:World,Calls Tryz.prog 89 #[.agg #[.int .i64 dg,.int .i64 ls,.int .u64 (En:Nat)],.int .u64 k] u fun r w'=>∃ v,r=.returned (.tuple #[v,.int .i64 g])∧Nt u.heap.size w' v A∧Below u.heap.size u w'))
 (HN2:Hid (∀ u:World,Calls Tryz.prog 89 #[.agg #[.int .i64 dg,.int .i64 ls,.int .u64 (En:Nat)],.int .u64 k1] u fun r w'=>∃ v,r=.returned (.tuple #[v,.int .i64 h])∧Nt u.heap.size w' v Bv∧Below u.heap.size u w'))
 (HA:Hid (∀ (u:World) (p:Option Addr) (l c:Nat),Below w.heap.size w u→Al u (.slice p l c) SM→Calls Tryz.prog 123 #[.slice p l c,.int .i64 fm,.agg #[.bool n,.slice a la ca,.int .i64 e,.bool m,.slice b lb cb,.int .i64 f],.bool sq] u fun r w'=>r=.returned (.int .i64 hv)∧Below u.heap.size u w')) :
 Calls Tryz.prog 124 #[.agg #[.int .i64 dg,.int .i64 ls,.int .u64 (En:Nat)],.int .u64 k,.agg #[.bool n,.slice a la ca,.int .i64 e,.bool m,.slice b lb cb,.int .i64 f],.bool sq] w fun r w'=>r=.returned (.int .i64 hv)∧Below w.heap.size w w':=by
 obtain ⟨W1,hW1⟩:∃ W,W=(w.alloc (.cells #[.int .i64 dg,.int .i64 ls,.int .u64 (En:Nat)] 99)).alloc (.cells #[.bool n,.slice a la ca,.int .i64 e,.bool m,.slice b lb cb,.int .i64 f] 78):=⟨_,rfl⟩;obtain ⟨hB,Z,QR⟩:=two_boxes w dg ls En n _ e m _ f W1 hW1;obtain ⟨p0,p1,p2⟩:=Z.facts;have S0:=(qsd (ai hB (ai Z QR)));have LN:=(qsd (ai lA (ai lB (ai lM (ai lS (ai hB0 (ai hS (ai hq0 hq1))))))));have H1:=hid (HN1.out W1);clear hB Z QR lA lB lM lS hB0 hS hq0 hq1 HN1;go_enter Tryz.func124,Tryz.ntmps124
 go_upto_region 1 with fail
 rw [←hW1];clear hW1
 go_wp2_with fail
 clear p0 p1 p2;refine H1.out.mono ?_;rintro r u1 ⟨v,rfl,hN,hb⟩;obtain ⟨a1,c1,rfl,-⟩:=hN.shape;have S1:=(qsd (ai (S0.out.1.trans (hb.mono S0.out.1.size)) (ai (S0.out.2.1.below hb) (ai (S0.out.2.2.below hb) (hN.al' (Nat.le_trans LN.out.1 (by decide)))))))
 clear hN hb S0 H1;obtain ⟨p0,p1,p2⟩:=S1.out.2.1.facts;have H2:=hid (HN2.out u1);clear HN2
 go_wp2_with fail
 clear p0 p1 p2;refine H2.out.mono ?_;rintro r u2 ⟨v,rfl,hN,hb⟩;have H3:=hid (moved_any hN q (by have:=LN.out;omega) (by have:=LN.out;omega) LN.out.2.2.2.2.1 (Nat.le_trans LN.out.2.1 (by decide)))
 obtain ⟨a2,c2,rfl,-⟩:=hN.shape;have S2:=(qsd (ai (S1.out.1.trans (hb.mono S1.out.1.size)) (ai (S1.out.2.2.1.below hb) (S1.out.2.2.2.below hb))));clear hN hb S1 H2;rw [if_neg (by have:=LN.out;omega)] at H3
 go_wp2_with fail
 refine H3.out.mono ?_;rintro r u3 ⟨v,rfl,hN,hb⟩;obtain ⟨a3,c3,rfl,-⟩:=hN.shape;have S3:=(qsd (ai (S2.out.1.trans (hb.mono S2.out.1.size)) (S2.out.2.1.below hb)));have H4:=hid (plus_al (S2.out.2.2.below hb) (hN.al' (Nat.le_trans LN.out.2.2.1 (by decide))))
 rw [LN.out.2.2.2.2.2.1] at H4;clear hN hb S2 H3
 go_wp2_with fail
 refine H4.out.mono ?_;rintro r u4 ⟨v,rfl,hN,hb⟩;obtain ⟨a4,c4,rfl,-⟩:=hN.shape;have S4:=(qsd (ai (S3.out.1.trans (hb.mono S3.out.1.size)) (S3.out.2.below hb)));obtain ⟨x0,x1,x2,x3,x4,x5⟩:=S4.out.2.facts;have H5:=hid (HA.out u4 _ _ _ S4.out.1 (hN.al' (Nat.le_trans LN.out.2.2.2.1 (by decide))))
 clear hN hb S3 H4 HA
 go_wp2_with fail
 clear x0 x1 x2 x3 x4 x5;refine H5.out.mono ?_;rintro r u5 ⟨rfl,hb⟩;have S5:=qsd (S4.out.1.trans (hb.mono S4.out.1.size));clear hb S4 H5 LN;go_wp2;go_ret;exact ⟨rfl,S5.out⟩
structure Half11 (w:World) (dg ls:Int) (En:Nat) (ag:Nat→Int) (n:Bool) (v:Value) (e:Int) (m:Bool) (x:Value) (y:Int) (f t:Nat) (u:World):Prop where
 bel:Below w.heap.size w u
 sz:Zk u w.heap.size dg ls En
 rq:Rq u (w.heap.size+1) n v e m x y
 ft:f<t
 tE:t≤En
 lo:f=0∨ag f≤0
 hi:t=En∨0<ag t
theorem Half11.to {w:World}{dg ls:Int}{En:Nat}{ag:Nat→Int}{n:Bool}{v:Value}{e:Int}{m:Bool}{x:Value}{y:Int}{f t:Nat}{u u':World}(h:Half11 w dg ls En ag n v e m x y f t u) (hb:Below u.heap.size u u'):Half11 w dg ls En ag n v e m x y f t u' :=
 ⟨h.bel.trans (hb.mono h.bel.size),h.sz.below hb,h.rq.below hb,h.ft,h.tE,h.lo,h.hi⟩
theorem nearby11 {w:World}{n m:Bool}{a b:Option Addr}{la ca lb cb:Nat}{e f:Int}(dg ls:Int) (En:Nat) (hE:0<En) (hE2:En<9223372036854775808) (num:Nat→Nat×Int) (ag hf:Nat→Int) (sq:Bool) (mode:Int) (hm0:0≤mode) (hm4:mode≤4) (lnum:∀ k,(ws (num k).1).length≤8192) (hv3:∀ k,hf k=-1∨hf k=0∨hf k=1)
 (HN:Hid (∀ (k:Nat) (u:World),k<En→Calls Tryz.prog 89 #[.agg #[.int .i64 dg,.int .i64 ls,.int .u64 (En:Nat)],.int .u64 (k:Nat)] u fun r w'=>∃ v,r=.returned (.tuple #[v,.int .i64 (num k).2])∧Nt u.heap.size w' v (num k).1∧Below u.heap.size u w'))
 (HA:Hid (∀ (k:Nat) (u:World) (p:Option Addr) (l c:Nat),k<En→Below w.heap.size w u→Al u (.slice p l c) (num k).1→Calls Tryz.prog 123 #[.slice p l c,.int .i64 (num k).2,.agg #[.bool n,.slice a la ca,.int .i64 e,.bool m,.slice b lb cb,.int .i64 f],.bool sq] u fun r w'=>r=.returned (.int .i64 (ag k))∧Below u.heap.size u w'))
 (HH:Hid (∀ (k:Nat) (u:World),k<En→Below w.heap.size w u→Calls Tryz.prog 124 #[.agg #[.int .i64 dg,.int .i64 ls,.int .u64 (En:Nat)],.int .u64 (k:Nat),.agg #[.bool n,.slice a la ca,.int .i64 e,.bool m,.slice b lb cb,.int .i64 f],.bool sq] u fun r w'=>r=.returned (.int .i64 (hf k))∧Below u.heap.size u w')) :
 Calls Tryz.prog 96 #[.agg #[.int .i64 dg,.int .i64 ls,.int .u64 (En:Nat)],.agg #[.bool n,.slice a la ca,.int .i64 e,.bool m,.slice b lb cb,.int .i64 f],.bool sq,.int .i64 mode] w fun r w'=>(∃ k:Nat,r=.returned (.int .u64 (nbyD11 mode n k (ag k) (-(hf k)):Nat))∧k<En∧(k=0∨ag k≤0)∧(k+1=En∨0<ag (k+1)))∧Below w.heap.size w w':=by
 obtain ⟨W1,hW1⟩:∃ W,W=(w.alloc (.cells #[.int .i64 dg,.int .i64 ls,.int .u64 (En:Nat)] 99)).alloc (.cells #[.bool n,.slice a la ca,.int .i64 e,.bool m,.slice b lb cb,.int .i64 f] 78):=⟨_,rfl⟩;obtain ⟨hB,Z,QR⟩:=two_boxes w dg ls En n _ e m _ f W1 hW1;obtain ⟨p0,p1,p2⟩:=Z.facts;have S0:Aside (Half11 w dg ls En ag n (.slice a la ca) e m (.slice b lb cb) f 0 En W1):=qsd ⟨hB,Z,QR,hE,Nat.le_refl _,.inl rfl,.inl rfl⟩;have LN:=(qsd (ai lnum hv3));clear Z hB QR lnum hv3;have hw:∀ n:Int,0≤n→n<18446744073709551616→IntKind.u64.wrap n=n:=fun n h1 h2=>by simp [IntKind.wrap,IntKind.bits,IntKind.signed];omega
 have HW:=qsd hw;clear hw;go_enter Tryz.func96,Tryz.ntmps96
 go_upto_region 1 with fail
 rw [←hW1];clear hW1
 go_wp2_with fail
 clear p0 p1 p2
 go_loopg [9,10] En (fun gk fv tv wr=>∃ f0 t:Nat,gk+f0=t∧fv=.int .u64 (f0:Nat)∧tv=.int .u64 (t:Nat)∧f0<t∧t≤En∧Aside (Half11 w dg ls En ag n (.slice a la ca) e m (.slice b lb cb) f f0 t wr))
 case atStart=>exact ⟨0,En,by omega,rfl,rfl,hE,Nat.le_refl _,S0⟩
 case round =>
  obtain ⟨f0,t,hgk,rfl,rfl,hft,htE,S1⟩:=hrel;have e1:=HW.out ((t:Int)-(f0:Int)) (by omega) (by omega)
  by_cases hone:1<(t:Int)-(f0:Int)
  · obtain ⟨mi,hm⟩:∃ mi,(f0+t)/2=mi:=⟨_,rfl⟩
    have e2:=HW.out ((f0:Int)+(t:Int)) (by omega) (by omega)
    have e3:((f0:Int)+(t:Int))/2=(mi:Nat):=by omega
    have e4:IntKind.u64.wrap ((mi:Nat):Int)=(mi:Nat):=HW.out _ (by omega) (by omega)
    have hmE:mi<En:=by omega
    obtain ⟨p0,p1,p2⟩:=S1.out.sz.facts;obtain ⟨X,hX⟩:∃ X,(num mi).1=X:=⟨_,rfl⟩;obtain ⟨y,hy⟩:∃ y,(num mi).2=y:=⟨_,rfl⟩;have H1:=hid (HN.out mi wr hmE);have H2:=hid fun u p l c=>HA.out mi u p l c hmE
    have lX:=LN.out.1 mi;rw [hX,hy] at H1 H2;rw [hX] at lX;have LX:=qsd lX;clear lX hX hy
    go_wp2_with fail
    clear p0 p1 p2;refine H1.out.mono ?_;rintro r u1 ⟨v,rfl,hN,hb⟩;obtain ⟨b1,c1,rfl,-⟩:=hN.shape;have S2:=qsd (S1.out.to hb);have H3:=hid (H2.out u1 b1 _ c1 S2.out.bel (hN.al' (Nat.le_trans LX.out (by decide))))
    clear hb hN S1 H1 H2;obtain ⟨x0,x1,x2,x3,x4,x5⟩:=S2.out.rq.facts
    go_wp2_with fail
    clear x0 x1 x2 x3 x4 x5;refine H3.out.mono ?_;rintro r u2 ⟨rfl,hb⟩;have S3:=qsd (S2.out.to hb);clear hb H3 S2
    by_cases hag:ag mi≤0
    · go_wp2_with fail
      go_roundg (t-mi)
      case measure=>omega
      case rel=>exact ⟨mi,t,by omega,rfl,rfl,by omega,htE,qsd ⟨S3.out.bel,S3.out.sz,S3.out.rq,by omega,htE,.inr hag,S3.out.hi⟩⟩
    · have hag':decide (ag mi≤0)=false:=decide_eq_false hag
      go_wp2_with fail
      go_roundg (mi-f0)
      case measure=>omega
      case rel=>exact ⟨f0,mi,by omega,rfl,rfl,by omega,by omega,qsd ⟨S3.out.bel,S3.out.sz,S3.out.rq,by omega,by omega,S3.out.lo,.inr (by omega)⟩⟩
  · have hone':decide (1<(t:Int)-(f0:Int))=false:=decide_eq_false hone
    obtain ⟨k,hk⟩:∃ k,k=f0:=⟨_,rfl⟩;subst hk;have hkE:k<En:=by omega
    have KK:Aside (k<En∧(k=0∨ag k≤0)∧(k+1=En∨0<ag (k+1))):=by
     obtain rfl:t=k+1:=by omega
     exact qsd ⟨hkE,S1.out.lo,S1.out.hi⟩
    have ek:IntKind.u64.wrap ((k:Int)+1)=(k:Int)+1:=HW.out _ (by omega) (by omega)
    obtain ⟨p0,p1,p2⟩:=S1.out.sz.facts;obtain ⟨X,hX⟩:∃ X,(num k).1=X:=⟨_,rfl⟩;obtain ⟨y,hy⟩:∃ y,(num k).2=y:=⟨_,rfl⟩;obtain ⟨z,hz⟩:∃ z,ag k=z:=⟨_,rfl⟩;obtain ⟨hv,hhv⟩:∃ z,hf k=z:=⟨_,rfl⟩;have hv3:=LN.out.2 k;obtain ⟨R,hR⟩:∃ R,nbyD11 mode n k z (-hv)=R:=⟨_,rfl⟩;have H1:=hid (HN.out k wr hkE);have H2:=hid fun u p l c=>HA.out k u p l c hkE
    have H5:=hid fun u=>HH.out k u hkE
    have lX:=LN.out.1 k;rw [hX,hy] at H1 H2;rw [hz] at H2;rw [hhv] at H5 hv3;rw [hX] at lX;have LX:=qsd lX;have HE:Aside (nbyD11 mode n k (ag k) (-(hf k))=R):=qsd (by rw [hz,hhv,hR])
    clear lX hX hy hz hhv LN HN HA HH S0 HW
    go_wp2_with fail
    clear p0 p1 p2;refine H1.out.mono ?_;rintro r u1 ⟨v,rfl,hN,hb⟩;obtain ⟨b1,c1,rfl,-⟩:=hN.shape;have S2:=qsd (S1.out.to hb);have H3:=hid (H2.out u1 b1 _ c1 S2.out.bel (hN.al' (Nat.le_trans LX.out (by decide))))
    clear hb hN S1 H1 H2 LX;obtain ⟨x0,x1,x2,x3,x4,x5⟩:=S2.out.rq.facts
    go_wp2_with fail
    clear x0 x1 x2 x3 x4 x5;refine H3.out.mono ?_;rintro r u2 ⟨rfl,hb⟩;have S3:=qsd (S2.out.to hb);clear hb H3 S2
    by_cases hz:z=0
    · subst hz
      obtain rfl:k=R:=by rw [←hR];unfold nbyD11;rw [if_pos rfl]
      clear hR
      go_wp2_with fail
      go_ret;exact ⟨⟨k,by rw [HE.out];first | rfl | simp,KK.out⟩,S3.out.bel⟩
    · have hz':(z==0)=false:=by simpa using hz
      have hR2:(if outS mode k (-hv) n then k+1 else k)=R:=by rw [←hR];unfold nbyD11;rw [if_neg hz]
      have H6:=hid (H5.out u2 S3.out.bel);obtain ⟨p0,p1,p2⟩:=S3.out.sz.facts;obtain ⟨x0,x1,x2,x3,x4,x5⟩:=S3.out.rq.facts;have HR2:=qsd hR2;clear hR hz hR2 H5
      go_wp2_with fail
      clear p0 p1 p2 x0 x1 x2 x3 x4 x5;refine H6.out.mono ?_;rintro r u4 ⟨rfl,hb⟩;have S4:=qsd (S3.out.to hb);obtain ⟨x0,x1,x2,x3,x4,x5⟩:=S4.out.rq.facts;clear hb S3 H6 hz';have hc:mode=0∨mode=1∨mode=2∨mode=3∨mode=4:=by omega
      clear hm0 hm4
      rcases hc with rfl|rfl|rfl|rfl|rfl
      · rcases hv3 with rfl | rfl | rfl
        · go_wp2
          go_ret;exact ⟨⟨k,by rw [HE.out,←HR2.out];simp [outS],KK.out⟩,S4.out.bel⟩
        · by_cases hp:k%2=1
          · have hp':(k:Int)%2=1:=by omega
            go_wp2;go_ret;exact ⟨⟨k,by rw [HE.out,←HR2.out];simp [outS,hp],KK.out⟩,S4.out.bel⟩
          · have hp':(k:Int)%2=0:=by omega
            go_wp2;go_ret;exact ⟨⟨k,by rw [HE.out,←HR2.out];simp [outS,hp],KK.out⟩,S4.out.bel⟩
        · go_wp2
          go_ret;exact ⟨⟨k,by rw [HE.out,←HR2.out];simp [outS],KK.out⟩,S4.out.bel⟩
      · go_wp2
        go_ret;exact ⟨⟨k,by rw [HE.out,←HR2.out];simp [outS],KK.out⟩,S4.out.bel⟩
      · cases n
        all_goals (
         go_wp2;go_ret;exact ⟨⟨k,by rw [HE.out,←HR2.out];simp [outS],KK.out⟩,S4.out.bel⟩)
      · cases n
        all_goals (
         go_wp2;go_ret;exact ⟨⟨k,by rw [HE.out,←HR2.out];simp [outS],KK.out⟩,S4.out.bel⟩)
      · rcases hv3 with rfl | rfl | rfl
        all_goals (
         go_wp2;go_ret;exact ⟨⟨k,by rw [HE.out,←HR2.out];simp [outS],KK.out⟩,S4.out.bel⟩)
end
section
open Go.RowKit
theorem cmpZ_scale11' (x y c:Nat) (hc:0<c):cmpZ ((x*c:Nat):Int) ((y*c:Nat):Int)=cmpZ (x:Int) (y:Int):=by
 rw [Int.natCast_mul,Int.natCast_mul];exact cmpZ_scale11 _ _ _ (by omega)
theorem ag_gen (A v X Y:Nat) (g e f B:Int) (u n:Nat) (hB1:B≤g) (hB2:B≤-((n*u:Nat):Int)) (hA:A*2^(g-B).toNat=v*2^(-((n*u:Nat):Int)-B).toNat) :
 agV (A*Y) (g+f) X e=cmpZ ((v*rS11 Y e f u n:Nat):Int) ((rV11 X e f u n:Nat):Int):=by
 generalize hU:n*u=U at hB2 hA;obtain ⟨D,hD1,hD2⟩:∃ D:Int,D≤f∧B+D≤e:=⟨min f (e-B),Int.min_le_left _ _,by have:=Int.min_le_right f (e-B);omega⟩
 rw [agV_z (A*Y) (g+f) X e (B+D) (by omega) hD2]
 obtain ⟨c,hc⟩:∃ c:Nat,(-(U:Int)-B).toNat+(f-D).toNat=(-(e-f+(U:Int))).toNat+c:=⟨(-(U:Int)-B).toNat+(f-D).toNat-(-(e-f+(U:Int))).toNat,by omega⟩
 have hd:(e-(B+D)).toNat=(e-f+(U:Int)).toNat+c:=by omega
 have e1:A*Y*2^(g+f-(B+D)).toNat=v*rS11 Y e f u n*2^c:=by
  rw [show (g+f-(B+D)).toNat=(g-B).toNat+(f-D).toNat by omega,Nat.pow_add,Nat.mul_mul_mul_comm,hA,Nat.mul_mul_mul_comm,←Nat.pow_add,hc,Nat.pow_add]
  unfold rS11;rw [hU];simp only [Nat.mul_assoc]
 have e2:X*2^(e-(B+D)).toNat=rV11 X e f u n*2^c:=by
  rw [hd,Nat.pow_add];unfold rV11;rw [hU];simp only [Nat.mul_assoc]
 rw [e1,e2];exact cmpZ_scale11' _ _ _ (Nat.two_pow_pos c)
theorem half_units (v X Y:Nat) (e f:Int) (u n:Nat):cmpZ ((v*rS11 Y e f (u+1) n:Nat):Int) ((rV11 X e f (u+1) n:Nat):Int)=cmpZ ((v*rS11 Y e f u n:Nat):Int) ((2^n*rV11 X e f u n:Nat):Int):=by
 generalize hU:n*u=U;have hU':n*(u+1)=U+n:=by rw [Nat.mul_add,Nat.mul_one,hU]
 rw [←cmpZ_scale11' (v*rS11 Y e f (u+1) n) (rV11 X e f (u+1) n) (2^(-(e-f+(U:Int))).toNat) (Nat.two_pow_pos _),←cmpZ_scale11' (v*rS11 Y e f u n) (2^n*rV11 X e f u n) (2^(-(e-f+((U+n:Nat):Int))).toNat) (Nat.two_pow_pos _)]
 congr 2
 · unfold rS11
   rw [hU,hU'];simp only [Nat.mul_assoc];rw [Nat.mul_comm (2^_) (2^_)]
 · unfold rV11
   rw [hU,hU',Nat.mul_assoc,←Nat.pow_add,Nat.mul_comm (2^n),Nat.mul_assoc,Nat.mul_assoc,←Nat.pow_add,←Nat.pow_add]
   congr 2
   omega
theorem pow_units {A v:Nat}{g B:Int}{u n:Nat}(h1:B≤g) (h2:B≤-(u:Int)) (hA:A*2^(g-B).toNat=v*2^(-(u:Int)-B).toNat) (hn:n=1∨n=2):A^n*2^((n:Int)*g-(n:Int)*B).toNat=v^n*2^(-((n*u:Nat):Int)-(n:Int)*B).toNat:=by
 rcases hn with rfl|rfl
 · rw [Nat.pow_one,Nat.pow_one,Nat.one_mul]
   simpa using hA
 · rw [show (((2:Nat):Int)*g-((2:Nat):Int)*B).toNat=(g-B).toNat+(g-B).toNat by omega,show (-((2*u:Nat):Int)-((2:Nat):Int)*B).toNat=(-(u:Int)-B).toNat+(-(u:Int)-B).toNat by omega,Nat.pow_add,Nat.pow_add,Nat.pow_two,Nat.pow_two,Nat.mul_mul_mul_comm,hA,Nat.mul_mul_mul_comm]
theorem mid_units {A Bv v v1 SM:Nat}{g h q B:Int}{u:Nat}(h1:B≤g-1) (h2:B≤-((u+1:Nat):Int)) (hq:q=h-g) (hq0:0≤q) (hA:A*2^(g-B).toNat=v*2^(-(u:Int)-B).toNat) (hBv:Bv*2^(h-B).toNat=v1*2^(-(u:Int)-B).toNat) (hS:A+Bv*2^q.toNat=SM) :
 SM*2^(g-1-B).toNat=(v+v1)*2^(-((u+1:Nat):Int)-B).toNat:=by
 have k1:(g-B).toNat=(g-1-B).toNat+1:=by omega
 have k2:(-(u:Int)-B).toNat=(-((u+1:Nat):Int)-B).toNat+1:=by omega
 have k3:(h-B).toNat=q.toNat+((g-1-B).toNat+1):=by omega
 rw [k1,k2,Nat.pow_succ,Nat.pow_succ,←Nat.mul_assoc,←Nat.mul_assoc] at hA;rw [k3,k2,Nat.pow_add,Nat.pow_succ,Nat.pow_succ,←Nat.mul_assoc,←Nat.mul_assoc,←Nat.mul_assoc] at hBv;have e1:=Nat.eq_of_mul_eq_mul_right (by omega:0<2) hA
 have e2:=Nat.eq_of_mul_eq_mul_right (by omega:0<2) hBv
 rw [←hS,Nat.add_mul,Nat.add_mul,e1,e2]
end
section
open Go.RowKit
theorem num64_step11 (k:Nat):(num64 k).2≤(num64 (k+1)).2∧(num64 (k+1)).2≤(num64 k).2+1∧-1074≤(num64 k).2:=by
 unfold num64
 by_cases h:k/4503599627370496=0
 · rw [if_pos h]
   by_cases h':(k+1)/4503599627370496=0
   · rw [if_pos h'];simp only;omega
   · rw [if_neg h'];simp only;omega
 · rw [if_neg h,if_neg (by omega)]
   simp only;omega
namespace S
end S
structure Wd11 (dg ls:Int) (En:Nat) (v:Nat→Nat) (u:Nat) (num:Nat→Nat×Int):Prop where
 grid:Grid v En
 small:En<9223372036854775808
 ub:u≤2000
 call:∀ (k:Nat) (w:World),k≤En→Calls Tryz.prog 89 #[.agg #[.int .i64 dg,.int .i64 ls,.int .u64 (En:Nat)],.int .u64 (k:Nat)] w fun r w'=>∃ p,r=.returned (.tuple #[p,.int .i64 (num k).2])∧Nt w.heap.size w' p (num k).1∧Below w.heap.size w w'
 val:∀ (k:Nat) (B:Int),B≤-(u:Int)→(num k).1*2^((num k).2-B).toNat=v k*2^(-(u:Int)-B).toNat∧(num k).1<9007199254740992∧B≤(num k).2∧((num k).1=0↔k=0)
 step:∀ k:Nat,(num k).2≤(num (k+1)).2∧(num (k+1)).2≤(num k).2+1∧-(u:Int)≤(num k).2
 top:∀ k:Nat,k≤En→(num k).2≤2000
theorem wd64_is:Wd11 53 (-1074) 9218868437227405312 vK 1074 num64 :=
 ⟨grid64,by omega,by omega,fun k w hk=>rNumber64 k hk w,fun k B hB=>num64_vK k B hB,num64_step11,fun k hk=>by unfold num64;split <;> simp only <;> omega⟩
theorem len_prod {A Y:Nat}(hA:bl A≤200) (hY:bl Y≤262144):(ws (A*Y)).length≤2000000:=by
 have:=bl_mul_le A Y;rw [ws_len_bl];omega
theorem wrap_in (x:Int) (h0:-4611686018427387904≤x) (h1:x≤4611686018427387904):IntKind.i64.wrap x=x:=by rw [IntKind.wrap_i64];omega
theorem cmpZ_three (x y:Int):cmpZ x y=-1∨cmpZ x y=0∨cmpZ x y=1:=by unfold cmpZ;(repeat' split) <;> simp
theorem cmpZ_le0 {x y:Nat}:cmpZ (x:Int) (y:Int)≤0↔x≤y:=by unfold cmpZ;(repeat' split) <;> omega
theorem cmpZ_gt0 {x y:Nat}:0<cmpZ (x:Int) (y:Int)↔y<x:=by unfold cmpZ;(repeat' split) <;> omega
theorem cmpZ_eq0 {x y:Nat}:cmpZ (x:Int) (y:Int)=0↔x=y:=by unfold cmpZ;(repeat' split) <;> omega
theorem againstN {dg ls:Int}{En:Nat}{v:Nat→Nat}{u:Nat}{num:Nat→Nat×Int}(H:Wd11 dg ls En v u num) {w:World}{s mb:Bool}{p a b:Option Addr}{lp cp la ca lb cb X Y:Nat}{e f:Int}(hN:Al w (.slice a la ca) X) (hD:Al w (.slice b lb cb) Y) (he:-1048576≤e∧e≤1048576) (hf:-1048576≤f∧f≤1048576) (hY:bl Y≤262144)
 (A W n U:Nat) (g B:Int) (hA:Al w (.slice p lp cp) A) (hn:n=1∨n=2) (hAb:bl A≤100) (hg:-4000≤g∧g≤4000) (hU:U≤4000) (h1:B≤g) (h2:B≤-(U:Int)) (hv:A*2^(g-B).toNat=W*2^(-(U:Int)-B).toNat) (sq:Bool) (hsq:sq=decide (n=2)) :
 Calls Tryz.prog 123 #[.slice p lp cp,.int .i64 g,.agg #[.bool s,.slice a la ca,.int .i64 e,.bool mb,.slice b lb cb,.int .i64 f],.bool sq] w fun r w'=>r=.returned (.int .i64 (cmpZ ((W^n*rS11 Y e f U n:Nat):Int) ((rV11 X e f U n:Nat):Int)))∧Below w.heap.size w w':=by
 have P:=pow_units h1 h2 hv hn
 rcases hn with rfl|rfl
 · have e1:=ag_gen (A^1) (W^1) X Y (((1:Nat):Int)*g) e f (((1:Nat):Int)*B) U 1 (by omega) (by omega) P
   rw [Nat.pow_one,show ((1:Nat):Int)*g=g by omega] at e1
   subst hsq;rw [←e1];exact against11_q hA hN hD (by omega) (g+f) 0 (wrap_in _ (by omega) (by omega)) (by omega) (A*Y) rfl (len_prod (by omega) hY)
 · have e1:=ag_gen (A^2) (W^2) X Y (((2:Nat):Int)*g) e f (((2:Nat):Int)*B) U 2 (by omega) (by omega) P
   rw [Nat.pow_two,show ((2:Nat):Int)*g=2*g by omega] at e1
   subst hsq;rw [←e1];have hb:=bl_mul_le A A;exact against11_s hA hN hD (by omega) (2*g+f) (2*g) (wrap_in _ (by omega) (by omega)) (wrap_in _ (by omega) (by omega)) (by omega) (A*A*Y) rfl (len_prod (by omega) hY) (by rw [ws_len_bl];omega)
theorem nearbyG {dg ls:Int}{En:Nat}{v:Nat→Nat}{u:Nat}{num:Nat→Nat×Int}(H:Wd11 dg ls En v u num) {w:World}{s mb:Bool}{a b:Option Addr}{la ca lb cb X Y:Nat}{e f:Int}(hN:Al w (.slice a la ca) X) (hD:Al w (.slice b lb cb) Y) (he:-1048576≤e∧e≤1048576) (hf:-1048576≤f∧f≤1048576) (hY:bl Y≤262144)
 {n K:Nat} {t:Bool} {m:Int} (hn:n=1∨n=2) (L:LiesG v En n K t m (rV11 X e f u n) (rS11 Y e f u n)) (sq:Bool) (hsq:sq=decide (n=2)) (mode:Int) (hm0:0≤mode) (hm4:mode≤4) :
 Calls Tryz.prog 96 #[.agg #[.int .i64 dg,.int .i64 ls,.int .u64 (En:Nat)],.agg #[.bool s,.slice a la ca,.int .i64 e,.bool mb,.slice b lb cb,.int .i64 f],.bool sq,.int .i64 mode] w fun r w'=>r=.returned (.int .u64 ((if t then K else if outS mode K m s then K+1 else K:Nat):Nat))∧Below w.heap.size w w':=by
 have hub:=H.ub;have hone:=H.grid.one;have hsm:=H.small;have lnum:∀ k,bl (num k).1≤53:=fun k=>bl_le53 _ (H.val k _ (Int.le_refl _)).2.1
 have C:=nearby11 (w:=w) (n:=s) (m:=mb) (a:=a) (b:=b) (la:=la) (ca:=ca) (lb:=lb) (cb:=cb) (e:=e) (f:=f) dg ls En (by omega) hsm num
  (fun k=>cmpZ ((v k^n*rS11 Y e f u n:Nat):Int) ((rV11 X e f u n:Nat):Int)) (fun k=>cmpZ (((v k+v (k+1))^n*rS11 Y e f u n:Nat):Int) ((2^n*rV11 X e f u n:Nat):Int)) sq mode hm0 hm4
  (fun k=>len8 (by have:=lnum k;omega)) (fun k=>cmpZ_three _ _) (hid fun k w' hk=>H.call k w' (by omega))
  (hid fun k w' p l c hk hb hA=>by
   obtain ⟨h1,h2,h3,h4⟩:=H.val k (-(u:Int)) (Int.le_refl _);have h5:=H.top k (by omega)
   exact againstN H (hN.below hb) (hD.below hb) he hf hY (num k).1 (v k) n u (num k).2 (-(u:Int)) hA hn (by have:=lnum k;omega) (by omega) (by omega) h3 (Int.le_refl _) h1 sq hsq)
  (hid fun k w' hk hb=>by
   obtain ⟨h1,h2,h3,h4⟩:=H.val k (-(u:Int)-1) (by omega)
   obtain ⟨i1,i2,i3,i4⟩:=H.val (k+1) (-(u:Int)-1) (by omega)
   obtain ⟨j1,j2,j3⟩:=H.step k;have h5:=H.top k (by omega)
   have l1:=lnum k;have l2:=lnum (k+1);obtain ⟨q,hq⟩:∃ q,(num (k+1)).2-(num k).2=q:=⟨_,rfl⟩;have hq2:q=0∨q=1:=by omega
   have hp:(2:Nat)^q.toNat≤2:=by rcases hq2 with h | h <;> subst h <;> decide
   have hM:(num (k+1)).1*2^q.toNat≤(num (k+1)).1*2:=Nat.mul_le_mul_left _ hp;have M:=mid_units (u:=u) (B:=-(u:Int)-1) (by omega) (by omega) hq.symm (by omega) h1 i1 rfl
   have lM:bl ((num (k+1)).1*2^q.toNat)≤60:=bl_lt_pow (by rw [show (2:Nat)^60=1152921504606846976 by rfl];omega)
   have lS:bl ((num k).1+(num (k+1)).1*2^q.toNat)≤60:=bl_lt_pow (by rw [show (2:Nat)^60=1152921504606846976 by rfl];omega)
   refine half11 dg ls En (k:Int) ((k+1:Nat):Int) (num k).2 (num (k+1)).2 q ((num k).2-1) _ (num k).1 (num (k+1)).1 _ sq (by rw [IntKind.wrap_u64];omega) (by rw [hq];exact wrap_in _ (by omega) (by omega)) (by omega) (by omega) (wrap_in _ (by omega) (by omega)) rfl (fun h=>by have:=i4.1 h;omega) (len8 (by omega)) (len8 (by omega)) (len8 (by omega)) (len8 (by omega)) (hid fun x=>H.call k x (by omega)) (hid fun x=>H.call (k+1) x (by omega)) (hid fun x p l c hx hA=>?_)
   have:=againstN H ((hN.below hb).below hx) ((hD.below hb).below hx) he hf hY ((num k).1+(num (k+1)).1*2^q.toNat) (v k+v (k+1)) n (u+1) ((num k).2-1) (-(u:Int)-1) hA hn (by omega) (by omega) (by omega) (by omega) (by omega) M sq hsq (s:=s) (mb:=mb)
   rw [half_units] at this;exact this)
 refine C.mono ?_;rintro r w' ⟨⟨k,rfl,hk,k1,k2⟩,hb⟩;refine ⟨?_,hb⟩
 obtain ⟨d1,d2,d3⟩:=L.doc H.grid (by omega) k hk (by
  rcases k1 with rfl|h
  · rw [H.grid.zero,Nat.zero_pow (by omega),Nat.zero_mul];exact Nat.zero_le _
  · exact cmpZ_le0.1 h) (by
  rcases k2 with h|h
  · exact .inl h
  · exact .inr (cmpZ_gt0.1 h))
 subst d1
 congr 3
 unfold nbyD11
 by_cases hx:rV11 X e f u n=v k^n*rS11 Y e f u n
 · rw [if_pos (cmpZ_eq0.2 hx.symm),d2,decide_eq_true hx,if_pos rfl]
 · have ht:t=false:=by rw [d2];exact decide_eq_false hx
   have hm:-cmpZ (((v k+v (k+1))^n*rS11 Y e f u n:Nat):Int) ((2^n*rV11 X e f u n:Nat):Int)=m:=by
    rw [d3 ht,←cmpZ_neg];unfold cmpN cmpZ;simp only [Int.ofNat_lt]
   rw [if_neg (fun h=>hx (cmpZ_eq0.1 h).symm),hm,ht];rfl
end
section
open Go.RowKit
section
attribute [local go_sem] B.f64frombits
theorem wide64_any (k:Nat) (hk:k<9223372036854775808) (neg:Bool) (er:Int) (w:World) :
 Calls Tryz.prog 69 #[.int .u64 (k:Nat),.bool neg,.int .i64 er] w fun r w'=>r=.returned (.tuple #[.float .f64 (k+(if neg then 9223372036854775808 else 0)),.int .i64 er])∧w'=w:=by
 have e1:IntKind.u64.wrap ((k:Int)+9223372036854775808)=((k+9223372036854775808:Nat):Int):=by rw [IntKind.wrap_u64];omega
 cases neg
 · go_enter Tryz.func69,Tryz.ntmps69
   go_wp2;exact bodyPost_ret (v:=.tuple #[.float .f64 k,.int .i64 er]) (by simp [results,Tryz.results69,go_sem]) rfl ⟨by simp,rfl⟩
 · go_enter Tryz.func69,Tryz.ntmps69
   go_wp2;exact bodyPost_ret (v:=.tuple #[.float .f64 (k+9223372036854775808),.int .i64 er]) (by simp [results,Tryz.results69,go_sem] <;> omega) rfl ⟨by simp,rfl⟩
end
end
section
open Go.RowKit
theorem Tryz.und_ratios:Tryz.prog.underlying 134=some (.slice 78):=by kernel_rfl
theorem Tryz.info_ratio:(Tryz.prog.info? 78).map (fun i=>(i.zero,i.size,i.bytes))=some (some (.agg #[.bool false,.slice none 0 0,.int .i64 0,.bool false,.slice none 0 0,.int .i64 0]),6,80):=by kernel_rfl
structure R1 (w:World) (v:Value) (n:Bool) (x:Value) (e:Int) (m:Bool) (y:Value) (f:Int):Prop where
 ex:∃ g cap,v=.slice (some ⟨g,0,none⟩) 1 cap∧1≤cap∧g<w.heap.size∧(w.cell? ⟨g,0,none⟩=some (.bool n)∧w.cell? ⟨g,1,none⟩=some x∧w.cell? ⟨g,2,none⟩=some (.int .i64 e)∧w.cell? ⟨g,3,none⟩=some (.bool m)∧w.cell? ⟨g,4,none⟩=some y∧w.cell? ⟨g,5,none⟩=some (.int .i64 f))
theorem append_r (w:World) (n:Bool) (a:Option Addr) (l c:Nat) (e:Int) (m:Bool) (b:Option Addr) (k d:Nat) (f:Int) :
 ∃ v' w',(Builtin.append_ #[134,134] 134 #[.slice none 0 0,.slice (some ⟨w.heap.size,0,none⟩) 1 1]).run Tryz.prog (w.alloc (.cells #[.bool n,.slice a l c,.int .i64 e,.bool m,.slice b k d,.int .i64 f] 78))=.ok v' w'∧R1 w' v' n (.slice a l c) e m (.slice b k d) f∧Below w.heap.size w w':=by
 obtain ⟨i0,hi,hz0,hz1,hz2⟩:=info_parts Tryz.info_ratio;obtain ⟨W,hW⟩:∃ W,W=w.alloc (.cells #[.bool n,.slice a l c,.int .i64 e,.bool m,.slice b k d,.int .i64 f] 78):=⟨_,rfl⟩;have hq:Rq W w.heap.size n (.slice a l c) e m (.slice b k d) f:=by rw [hW];exact Rq.new _ _ _ _ _ _ _
 obtain ⟨x0,x1,x2,x3,x4,x5⟩:=hq.facts;have hWs:w.heap.size≤W.heap.size:=by subst hW;simp
 obtain ⟨v',w',r1,r2,r3,r4,r5⟩:=run_append_own_at (P:=Tryz.prog) W w.heap.size 134 134 78 i0 _ 6 80 Tryz.und_ratios hi hz0 hz1 hz2 rfl (by decide) (.slice none 0 0) 0 [] (World.ownsRow_nil W w.heap.size 78 6) ⟨w.heap.size,0,none⟩ 1 1 [.bool n,.slice a l c,.int .i64 e,.bool m,.slice b k d,.int .i64 f] rfl (by
  intro j u hj
  match j,hj with
  | 0,hj=>simp at hj;subst hj;simpa [Addr.add] using x0
  | 1,hj=>simp at hj;subst hj;simpa [Addr.add] using x1
  | 2,hj=>simp at hj;subst hj;simpa [Addr.add] using x2
  | 3,hj=>simp at hj;subst hj;simpa [Addr.add] using x3
  | 4,hj=>simp at hj;subst hj;simpa [Addr.add] using x4
  | 5,hj=>simp at hj;subst hj;simpa [Addr.add] using x5
  | j+6,hj=>simp at hj) (by intro u hu;simp at hu;rcases hu with rfl | rfl | rfl | rfl | rfl | rfl <;> rfl) (by unfold maxLen;omega) (by omega) hWs
 rw [←hW];refine ⟨v',w',r1,?_,?_⟩
 · rcases r2.2 with ⟨h1,h2⟩ | ⟨g,cap,cur,rfl,hlo,hg,hn1,hm,hs,ht⟩
   · exact absurd (r4.1 h1).2 (by decide)
   · have C:∀ i,i<6→w'.cell? ⟨g,i,none⟩=([.bool n,.slice a l c,.int .i64 e,.bool m,.slice b k d,.int .i64 f]:List Value)[i]?:=by
      intro i hi6;have:=World.ownsRow.cellAt r2 i (by simp;omega)
      simpa using this
     exact ⟨g,cap,rfl,hn1,(Array.getElem?_eq_some_iff.1 hg).1,C 0 (by omega),C 1 (by omega),C 2 (by omega),C 3 (by omega),C 4 (by omega),C 5 (by omega)⟩
 · have hlw:Below w.heap.size w W:=by subst hW;exact below_alloc _ _
   refine ⟨r3.os.trans hlw.os,r3.tape.trans hlw.tape,r3.output.trans hlw.output,Nat.le_trans hlw.size r3.size,fun k hkl=>?_⟩
   rw [r3.block k (by omega) (fun e=>by simp [Value.ownBlock] at e)]
   exact hlw.block k hkl
end
section
open Go.RowKit
theorem sign_al {w:World}{v:Value}{X:Nat}(h1:Al w v X) (ng:Bool) (e:Int):Calls Tryz.prog 122 #[.agg #[.bool ng,v,.int .i64 e]] w fun r w'=>r=.returned (.int .i64 (sgn ng X))∧Below w.heap.size w w':=by
 obtain ⟨a,l,c,xs,rfl,hA,rfl,hl⟩:=h1;exact rSign_any3 hA ng e
theorem made_al {w:World}{v:Value}{X:Nat}(h1:Al w v X) (n:Bool) (e:Int) (be:-9223372036854775808≤e∧e≤9223372036854775807) (o:Option (Bool×Nat×Int)) (ho:mkS n X e=o) (s:Bool) (hs:o.isSome=s):Calls Tryz.prog 59 #[.agg #[.bool n,v,.int .i64 e]] w fun r w'=>(∃ p,r=.returned (.tuple #[.agg #[.bool (dN o),p,.int .i64 (dE o)],.bool s])∧Nt w.heap.size w' p (dX o))∧Below w.heap.size w w':=by
 obtain ⟨a,l,c,xs,rfl,hA,rfl,hl⟩:=h1;subst ho hs;exact rMade_any hA hl n e be.1 be.2
def MayA (lo:Nat) (w:World) (r:Ending) (o p:Option (Bool×Nat×Int)) (er:Int):Prop :=
 ∃ v,r=.returned (.tuple #[v,.int .i64 er])∧(er=0→∃ x y,R1 w v (dN o) x (dE o) (dN p) y (dE p)∧Nt lo w x (dX o)∧Nt lo w y (dX p))
theorem may1 {w:World}{g:Nat}{n m:Bool}{a b:Option Addr}{la ca lb cb X Y:Nat}{e f:Int}(hq:Rq w g n (.slice a la ca) e m (.slice b lb cb) f) (hN:Al w (.slice a la ca) X) (hD:Al w (.slice b lb cb) Y) (be:-9223372036854775808≤e∧e≤9223372036854775807) (bf:-9223372036854775808≤f∧f≤9223372036854775807)
 (o p:Option (Bool×Nat×Int)) (ho:mkS n X e=o) (hp:mkS m Y f=p) (er:Int) (her:errN X n e Y m f=er) :
 Calls Tryz.prog 95 #[.slice (some ⟨g,0,none⟩) 1 1] w fun r w'=>MayA w.heap.size w' r o p er∧Below w.heap.size w w':=by
 have S0:=(qsd (ai (Below.refl w.heap.size w) hq));have AA:=(qsd (ai hN (ai hD (ai be (ai bf (ai ho (ai hp her)))))));have LL:Aside ((ws (dX o)).length≤8192∧(ws (dX p)).length≤8192):=qsd ⟨by rw [←ho];exact mkS_len _ _ _,by rw [←hp];exact mkS_len _ _ _⟩
 obtain ⟨sg,hsg⟩:∃ x,sgn m Y=x:=⟨_,rfl⟩;have SG:=qsd hsg;clear hq hN hD be bf ho hp her hsg;have one:decide ((1:Int)<1)=false:=by decide
 go_enter Tryz.func95,Tryz.ntmps95;go_wp2
 go_loopg [4] 1 (fun gk i wr=>∃ k:Nat,gk+k=1∧i=.int .i64 (k:Nat)∧Aside (Below w.heap.size w wr∧(k=1→¬ sgn m Y<0)))
 case atStart=>exact ⟨0,by omega,by simp,qsd ⟨S0.out.1,fun h=>by cases h⟩⟩
 case round =>
  obtain ⟨k,hgk,rfl,HA⟩:=hrel
  by_cases hk:k<1
  · obtain rfl:k=0:=by omega
    obtain ⟨x0,x1,x2,x3,x4,x5⟩:=(S0.out.2.below HA.out.1).facts;have HC:=hid (sign_al (AA.out.2.1.below HA.out.1) m f);rw [SG.out] at HC
    go_wp2_with fail
    clear x0 x1 x2 x3 x4 x5;refine HC.out.mono ?_;rintro r u1 ⟨rfl,hb⟩;have HB:=qsd (HA.out.1.trans (hb.mono HA.out.1.size));clear HC hb HA
    by_cases hs:sg<0
    · have hs':decide (sg<0)=true:=decide_eq_true hs
      have HE:Aside (er=1):=qsd (by rw [←AA.out.2.2.2.2.2.2];unfold errN;rw [if_pos (by rw [SG.out];exact hs)])
      clear hs;go_wp2;exact bodyPost_ret (v:=.tuple #[.slice none 0 0,.int .i64 1]) (by simp [results,Tryz.results95,go_sem]) rfl ⟨⟨_,by rw [HE.out],fun h=>by rw [HE.out] at h;cases h⟩,HB.out⟩
    · have hs':decide (sg<0)=false:=decide_eq_false hs
      have HS:=qsd hs;clear hs
      go_wp2_with fail
      go_roundg 0
      case measure=>omega
      case rel=>exact ⟨1,by omega,by first | rfl | simp,qsd ⟨HB.out,fun _=>by rw [SG.out];exact HS.out⟩⟩
  · obtain rfl:k=1:=by omega
    have HS:=qsd (HA.out.2 rfl);have HB:=qsd HA.out.1;clear HA;go_wp2
    go_loopg [6,5] 1 (fun gk i v wr=>∃ (k:Nat) (v0:Value),gk+k=1∧i=.int .i64 (k:Nat)∧v=v0∧Aside (Below w.heap.size w wr∧(k=0→v0=.slice none 0 0)∧(k=1→o.isSome=true∧p.isSome=true∧∃ x y,R1 wr v0 (dN o) x (dE o) (dN p) y (dE p)∧Nt w.heap.size wr x (dX o)∧Nt w.heap.size wr y (dX p))))
    case atStart=>exact ⟨0,_,by omega,by simp,rfl,qsd ⟨HB.out,fun _=>rfl,fun h=>by cases h⟩⟩
    case round =>
     obtain ⟨j,v,hgj,rfl,hv,HA⟩:=hrel
     by_cases hj:j<1
     · obtain rfl:j=0:=by omega
       have hv0:=HA.out.2.1 rfl;subst hv0;subst hv;obtain ⟨s1,hs1⟩:∃ x,o.isSome=x:=⟨_,rfl⟩;obtain ⟨s2,hs2⟩:∃ x,p.isSome=x:=⟨_,rfl⟩;have SS:=(qsd (ai hs1 hs2));have S1:=(qsd (ai HA.out.1 (ai (S0.out.2.below HA.out.1) (ai (AA.out.1.below HA.out.1) (AA.out.2.1.below HA.out.1)))));clear hs1 hs2 HA;obtain ⟨x0,x1,x2,x3,x4,x5⟩:=S1.out.2.1.facts;have HC:=hid (made_al S1.out.2.2.1 n e AA.out.2.2.1 o AA.out.2.2.2.2.1 s1 SS.out.1)
       go_wp2_with fail
       clear x0 x1 x2 x3 x4 x5;refine HC.out.mono ?_;rintro r u1 ⟨⟨q,rfl,hN⟩,hb⟩;obtain ⟨q1,d1,rfl,-⟩:=hN.shape;obtain ⟨U1,hU1⟩:∃ U,U=u1.alloc (.cells #[.bool (dN o),.slice q1 (ws (dX o)).length d1,.int .i64 (dE o)] 70):=⟨_,rfl⟩
       have S2:Aside (Below w.heap.size w U1∧Rq U1 g n (.slice a la ca) e m (.slice b lb cb) f∧Al U1 (.slice b lb cb) Y∧Dk U1 u1.heap.size (dN o) (.slice q1 (ws (dX o)).length d1) (dE o)∧Nt w.heap.size U1 (.slice q1 (ws (dX o)).length d1) (dX o)):=by
        have b0:=S1.out.1;have b1:=b0.trans (hb.mono b0.size);have hA:Below u1.heap.size u1 U1:=by rw [hU1];exact below_alloc _ _
        exact qsd ⟨b1.trans (hA.mono b1.size),(S1.out.2.1.below hb).below hA,(S1.out.2.2.2.below hb).below hA,by rw [hU1];exact Dk.new _ _ _ _,(hN.mono b0.size).below hA⟩
       clear HC hb hN S1;obtain ⟨x0,x1,x2,x3,x4,x5⟩:=S2.out.2.1.facts;have HC:=hid (made_al S2.out.2.2.1 m f AA.out.2.2.2.1 p AA.out.2.2.2.2.2.1 s2 SS.out.2)
       go_upto_region 11 with fail
       rw [←hU1];clear hU1
       go_wp2_with fail
       clear x0 x1 x2 x3 x4 x5;refine HC.out.mono ?_;rintro r u2 ⟨⟨q,rfl,hN⟩,hb⟩;obtain ⟨q2,d2,rfl,-⟩:=hN.shape;obtain ⟨U2,hU2⟩:∃ U,U=u2.alloc (.cells #[.bool (dN p),.slice q2 (ws (dX p)).length d2,.int .i64 (dE p)] 70):=⟨_,rfl⟩
       have S3:Aside (Below w.heap.size w U2∧Dk U2 u1.heap.size (dN o) (.slice q1 (ws (dX o)).length d1) (dE o)∧Nt w.heap.size U2 (.slice q1 (ws (dX o)).length d1) (dX o)∧Dk U2 u2.heap.size (dN p) (.slice q2 (ws (dX p)).length d2) (dE p)∧Nt w.heap.size U2 (.slice q2 (ws (dX p)).length d2) (dX p)):=by
        have b0:=S2.out.1;have b1:=b0.trans (hb.mono b0.size);have hA:Below u2.heap.size u2 U2:=by rw [hU2];exact below_alloc _ _
        exact qsd ⟨b1.trans (hA.mono b1.size),(S2.out.2.2.2.1.below hb).below hA,(S2.out.2.2.2.2.below hb).below hA,by rw [hU2];exact Dk.new _ _ _ _,(hN.mono b0.size).below hA⟩
       clear HC hb hN S2
       by_cases hbad:s1=true∧s2=true
       · obtain ⟨rfl,rfl⟩:=hbad
         obtain ⟨x0,x1,x2,x3,x4,x5⟩:=S3.out.2.1.facts;obtain ⟨y0,y1,y2,y3,y4,y5⟩:=S3.out.2.2.2.1.facts;obtain ⟨v',w',r1,r2,r3⟩:=append_r U2 (dN o) q1 (ws (dX o)).length d1 (dE o) (dN p) q2 (ws (dX p)).length d2 (dE p);have HR:=qsd r1;have HN:=(qsd (ai r2 (ai (S3.out.1.trans (r3.mono S3.out.1.size)) (ai (S3.out.2.2.1.below r3) (S3.out.2.2.2.2.below r3)))));clear r1 r2 r3
         go_upto_region 14 with fail
         rw [←hU2];clear hU2
         go_wp2_with (at_builtin;refine wpList_append10 rfl (.tmp 55) (.tmp 59) 134 rfl _ _ rfl rfl _ _ HR.out ?_)
         go_roundg 0
         case measure=>omega
         case rel=>exact ⟨1,_,by omega,by first | rfl | simp,rfl,qsd ⟨HN.out.2.1,(fun h=>by cases h),fun _=>⟨SS.out.1,SS.out.2,_,_,HN.out.1,HN.out.2.2.1,HN.out.2.2.2⟩⟩⟩
       · have HE:Aside (er=2):=qsd (by
          rw [←AA.out.2.2.2.2.2.2];unfold errN;rw [if_neg (by have:=HS.out;omega),AA.out.2.2.2.2.1,AA.out.2.2.2.2.2.1,SS.out.1,SS.out.2]
          rw [if_neg (by intro h;rw [Bool.and_eq_true] at h;exact hbad h)])
         have H5:=qsd S3.out.1;clear S3
         cases s1
         · go_upto_region 12 with fail
           rw [←hU2];clear hU2 hbad;go_wp2;exact bodyPost_ret (v:=.tuple #[.slice none 0 0,.int .i64 2]) (by simp [results,Tryz.results95,go_sem]) rfl ⟨⟨_,by rw [HE.out],fun h=>by rw [HE.out] at h;cases h⟩,H5.out⟩
         · cases s2
           · go_upto_region 12 with fail
             rw [←hU2];clear hU2 hbad;go_wp2;exact bodyPost_ret (v:=.tuple #[.slice none 0 0,.int .i64 2]) (by simp [results,Tryz.results95,go_sem]) rfl ⟨⟨_,by rw [HE.out],fun h=>by rw [HE.out] at h;cases h⟩,H5.out⟩
           · exact absurd ⟨rfl,rfl⟩ hbad
     · obtain rfl:j=1:=by omega
       obtain ⟨i1,i2,x,y,hR,hx,hy⟩:=HA.out.2.2 rfl;obtain ⟨gg,cap,rfl,hcap,hgg,c0,c1,c2,c3,c4,c5⟩:=hR.ex;subst hv;obtain ⟨q1,d1,rfl,-⟩:=hx.shape;obtain ⟨q2,d2,rfl,-⟩:=hy.shape;have HX:=(qsd (ai HA.out.1 (ai hR (ai hx (ai hy (ai i1 i2))))));clear HA hR hx hy hgg i1 i2;go_wp2
       go_loopg [11] 1 (fun gk i wq=>∃ (k:Nat),gk+k=1∧i=.int .i64 (k:Nat)∧wq=wr∧Aside (k=1→dX p≠0))
       case atStart=>exact ⟨0,by omega,by simp,rfl,qsd fun h=>by cases h⟩
       case round =>
        obtain ⟨i,hgi,rfl,rfl,HP⟩:=hrel
        by_cases hi:i<1
        · obtain rfl:i=0:=by omega
          by_cases h0:dX p=0
          · have r1:((((ws (dX p)).length:Nat):Int)==0)=true:=by rw [h0,ws0];rfl
            have r2:((ws (dX p)).length==0)=true:=by rw [h0,ws0];rfl
            have HE:Aside (er=21):=qsd (by
             rw [←AA.out.2.2.2.2.2.2];unfold errN;rw [if_neg (by have:=HS.out;omega),AA.out.2.2.2.2.1,AA.out.2.2.2.2.2.1,HX.out.2.2.2.2.1,HX.out.2.2.2.2.2,if_pos (by decide),if_pos h0])
            clear h0;go_wp2;exact bodyPost_ret (v:=.tuple #[.slice none 0 0,.int .i64 21]) (by simp [results,Tryz.results95,go_sem]) rfl ⟨⟨_,by rw [HE.out],fun h=>by rw [HE.out] at h;cases h⟩,HX.out.1⟩
          · have r1:((((ws (dX p)).length:Nat):Int)==0)=false:=len_ne h0
            have r2:((ws (dX p)).length==0)=false:=beq_eq_false_iff_ne.2 (fun h=>h0 ((ws_len_zero _).1 h))
            have H0:=qsd h0;clear h0
            go_wp2_with fail
            go_roundg 0
            case measure=>omega
            case rel=>exact ⟨1,by omega,by first | rfl | simp,rfl,qsd fun _=>H0.out⟩
        · obtain rfl:i=1:=by omega
          have HE:Aside (er=0):=qsd (by
           rw [←AA.out.2.2.2.2.2.2];unfold errN;rw [if_neg (by have:=HS.out;omega),AA.out.2.2.2.2.1,AA.out.2.2.2.2.2.1,HX.out.2.2.2.2.1,HX.out.2.2.2.2.2,if_pos (by decide),if_neg (HP.out rfl)])
          go_wp2;exact bodyPost_ret (v:=.tuple #[.slice (some ⟨gg,0,none⟩) 1 cap,.int .i64 0]) (by simp [results,Tryz.results95,go_sem]) rfl ⟨⟨_,by rw [HE.out],fun _=>⟨_,_,HX.out.2.1,HX.out.2.2.1,HX.out.2.2.2.1⟩⟩,HX.out.1⟩
end
end Go.Proofs.YtgfemeencgjneaaGreatDoor
