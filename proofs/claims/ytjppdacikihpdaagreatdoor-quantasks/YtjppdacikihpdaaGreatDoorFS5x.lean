import Derived.Test.YtjppdacikihpdaaGreatDoorY18x
import Derived.Test.YtjppdacikihpdaaGreatDoorZ41x
import Derived.Test.YtjppdacikihpdaaGreatDoorF2x
import Derived.OwnWalk
import Derived.ArgAppend
import Derived.Maps.AppendAt
import Derived.WalkMore
import Derived.Deep.RegionHeld
import Derived.Deep.RegionHeld3
import Derived.Test.YtjppdacikihpdaaGreatDoorRS6x
import Derived.Test.YtjppdacikihpdaaGreatDoorPR2x
import Derived.Test.YtjppdacikihpdaaGreatDoorRK1x
import Derived.ProofKit
import Derived.OpenShut
import Derived.ChangeOld
import Derived.ChangeArms
import Derived.SizedLaws
import Derived.Laws.Cover2
set_option linter.unusedVariables false
set_option linter.unusedSimpArgs false
set_option maxHeartbeats 16000000
set_option maxRecDepth 20000
namespace Go.Proofs.YtjppdacikihpdaaGreatDoor
namespace J
end J
section
open Go.RowKit J
attribute [local go_sem] bR
theorem Xn(x:Nat):qQ [x]=[x]:=List.mergeSort_singleton x
theorem O6{xs:List Nat}(hW:ja xs)(h:Nat):List.merge (qQ (xs.take h)) (qQ (xs.drop h)) nI=qQ xs:=by
 have hp:(List.merge (qQ (xs.take h)) (qQ (xs.drop h)) nI).Perm xs:=by
  refine(List.merge_perm_append nI).trans (((jC _).append (jC _)).trans ?_);rw[List.take_append_drop]
 refine Bt (le:=fun a b=>nI a b=true) (fun a b ha hb h1 h2=>?_) (List.pairwise_merge AB AJ _ _ (mW _) (mW _)) (mW xs) (hp.trans (jC xs).symm);unfold nI at h1 h2;simp only[decide_eq_true_eq] at h1 h2;exact TK (hW a (hp.mem_iff.1 ha)) (hW b ((jC xs).mem_iff.1 hb)) (by omega)
theorem drop_at{A:List Nat}{i:Nat}(h:i<A.length):A.drop i=A.getD i 0::A.drop (i+1):=by
 rw[Gv h,bG,dx h];rfl
theorem mgA{A B:List Nat}{i k:Nat}(hi:i<A.length)(h:k=B.length\/(k<B.length/\nI (A.getD i 0) (B.getD k 0)=true)):List.merge (A.drop i) (B.drop k) nI=A.getD i 0::List.merge (A.drop (i+1)) (B.drop k) nI:=by
 rw[drop_at hi];rcases h with rfl|⟨hk,h⟩
 · rw[List.drop_length,List.merge_right,List.merge_right]
 · rw[drop_at hk,List.cons_merge_cons,if_pos h]
theorem mgB{A B:List Nat}{i k:Nat}(hk:k<B.length)(h:i=A.length\/(i<A.length/\nI (A.getD i 0) (B.getD k 0)=false)):List.merge (A.drop i) (B.drop k) nI=B.getD k 0::List.merge (A.drop i) (B.drop (k+1)) nI:=by
 rw[drop_at hk];rcases h with rfl|⟨hi,h⟩
 · rw[List.drop_length,List.nil_merge,List.nil_merge]
 · rw[drop_at hi,List.cons_merge_cons,if_neg (by rw[h];decide)]
theorem TM{w:World}{lo lo' n:Nat}{t:TypeId}{v:Value}{L:List Value}(h:w.ownsRow lo t 1 v n L)(hl:lo'<=lo):w.ownsRow lo' t 1 v n L:=by
 refine⟨h.1,?_⟩;rcases h.2 with q|⟨g,cap,cur,h1,h2,h3⟩
 · exact .inl q
 · exact .inr ⟨g,cap,cur,h1,by omega,h3⟩
theorem sD{A:List Nat}{i:Nat}(h:i<A.length):A.getD i 0 ∈ A:=by rw[bG,dx h];exact kR _
def TP(xs:List Nat):Prop:=∀ (a:Option Addr) (c:Nat) (w:World),xs.length<=c->Fs w.heap.size w a xs ->
 Calls Tryz.prog 24 #[.slice a xs.length c] w fun r w'=>(∃ v,r=.returned v/\w'.ownsRow w.heap.size 27 1 v (qQ xs).length ((qQ xs).map lN))/\Below w.heap.size w w'
theorem Jv(x:Nat):TP [x]:=by
 intro a c w hc hF;obtain⟨i0,hi,hz0,hz1,hz2⟩:=info_parts Tryz.yN;obtain⟨b,off,hb,rfl,hcell⟩:=hF (by simp);have A:=ah hcell;rw[Xn];clear hF hcell;show Calls Tryz.prog 24 #[.slice (some ⟨b,off,none⟩) 1 c] w _;go_enter Tryz.func24,Tryz.ntmps24
 go_wp2_with (at_builtin;refine wpList_append_own _ rfl _ _ 22 rfl w.heap.size 27 i0 (.float .f64 0) 1 8 Tryz.kN hi hz0 hz1 hz2 rfl (by decide) _ _ _ rfl (World.ownsRow_made w #[] 0 (ak _) (kg _) (by simp)) ⟨b,off,none⟩ 1 c ([x].map lN) rfl ?qc1 ?qc2 ?qc3 ?qc4 ?qc5 ?qc6 ?_)
 case qc1=>simp
 case qc2 =>
  intro j u hj;have hj2:j<[x].length:=by have:=(uL.1 hj).1;simpa using this
  rw[Addr.add_lit];refine Lib.cell?_alloc_some _ ?_;rw[A.o j hj2,<-hj,wC,dx hj2,bG,dx hj2];rfl
 case qc3=>intro u hu;obtain⟨x,_,rfl⟩:=qR.1 hu;rfl
 case qc4=>unfold maxLen;omega
 case qc5=>omega
 case qc6=>simp
 intro v' w1 hown hgrow hnil;go_wp2;go_ret;refine⟨⟨v',rfl,?_⟩,?_⟩
 · simpa using hown
 · exact((ay _ w).alloc (ak _) _).grown hgrow (by simp) (by intro k hk;simp[Value.ownBlock] at hk;omega)
theorem yk{P:Prop}(h:P:=by
 go_wp2_with (at_builtin;refine gy rfl (.tmp 58) (.tmp 63) 22 rfl _ _ rfl rfl _ _ HR.o ?_)
 go_roundg (gk-1)
 case measure=>have:=HN.o;omega
 case rel=>exact⟨i+1,k,_,_,by have:=HN.o;omega,by have:=HN.o;omega,by have:=HN.o;omega,by first | rfl | simp,by first | rfl | simp,rfl,Z9.o⟩):P:=h
theorem Jw(xs:List Nat)(hn2:2<=xs.length)(hl:xs.length<=65536)(hW:ja xs)(hf:∀ x ∈ xs,aY x)(h:Nat)(hh:h=xs.length/2)(H1:TP (xs.take h))(H2:TP (xs.drop h)):TP xs:=by
 intro a c w hc hF;obtain⟨n,hn⟩:=af (xs.length);rw[<-hn] at hn2 hl hc hh |-;obtain⟨b,off,hb,rfl,hcell⟩:=hF (by intro e;rw[e] at hn;simp at hn;omega);have l1:(xs.take h).length=h:=by rw[eY];omega
 have l2:(xs.drop h).length=n-h:=by rw[nL];omega
 have F1:Fs w.heap.size w (some ⟨b,off,none⟩) (xs.take h):=fun _=>⟨b,off,hb,rfl,fun i hi=>by
  rw[hcell i (by omega),bG,bG,List.getElem?_take,if_pos (by omega)]⟩
 have F2:Fs w.heap.size w (some ⟨b,off+h,none⟩) (xs.drop h):=fun _=>⟨b,off+h,hb,rfl,fun i hi=>by
  rw[mX,hcell (h+i) (by omega),bG,bG,List.getElem?_drop]⟩
 have C1:=hid (H1 (some ⟨b,off,none⟩) c w (by omega) F1);have C2:=hid (fun(u:World) (hb:Below w.heap.size w u)=>H2 (some ⟨b,off+h,none⟩) (c-h) u (by omega) ((F2.below hb).mono hb.size));rw[l1] at C1;rw[l2] at C2
 have HW:Aside (ja (qQ (xs.take h))/\ja (qQ (xs.drop h))/\(∀ x ∈ qQ (xs.take h),aY x)/\(∀ x ∈ qQ (xs.drop h),aY x)/\List.merge (qQ (xs.take h)) (qQ (xs.drop h)) nI=qQ xs) :=
  ⟨De fun x hx=>hW x (wI hx),De fun x hx=>hW x (wJ hx),KW fun x hx=>hf x (wI hx),KW fun x hx=>hf x (wJ hx),O6 hW h⟩
 have m1:(qQ (xs.take h)).length=h:=by rw[wu,l1]
 have m2:(qQ (xs.drop h)).length=n-h:=by rw[wu,l2]
 have m3:(qQ xs).length=n:=by rw[wu,hn]
 obtain⟨A,hA⟩:∃ A,qQ (xs.take h)=A:=⟨_,rfl⟩;obtain⟨Bs,hB⟩:∃ Bs,qQ (xs.drop h)=Bs:=⟨_,rfl⟩;obtain⟨R,hR⟩:∃ R,qQ xs=R:=⟨_,rfl⟩;obtain⟨nb,hnb⟩:∃ nb,n-h=nb:=⟨_,rfl⟩;rw[hA] at m1 C1;rw[hB,hnb] at m2;rw[hB,hnb,m2] at C2;rw[m1] at C1;rw[hR] at m3;rw[hA,hB,hR] at HW;rw[hR,m3];have hhc:h<c:=by omega
 have hnc:n<=c:=hc;have d2:decide ((n:Int)<2)=false:=by simp;omega
 have hn6:n<65537:=by omega
 have HM:=(Du m1 m2 m3 hh hl hnb hn);clear hF hcell F1 F2 l1 l2 m1 m2 m3 hA hB hR H1 H2 hW hf hnb hn hl hc hb hn2;subst hh;go_enter Tryz.func24,Tryz.ntmps24
 go_upto_region 3 with fail
 clear d2;go_wp2_with fail;refine C1.o.mono ?_;rintro r u1 ⟨⟨v1,rfl,lD⟩,hb1⟩;obtain⟨ao,co,rfl,hco,hFA⟩:=yS lD HM.o.1.symm;have B1:=(aZ hb1 hFA);clear hb1 hFA lD C1;replace C2:=hid (C2.o u1 B1.o.1)
 go_upto_region 4 with fail
 go_wp2_with fail;rw[HM.o.r5.1];refine C2.o.mono ?_;rintro r u2 ⟨⟨v2,rfl,hO2⟩,hb2⟩;obtain⟨bo,do',rfl,hdo,hFB⟩:=yS hO2 HM.o.2.1.symm;have B2:Aside (Below w.heap.size w u2/\Fs u2.heap.size u2 ao A/\Fs u2.heap.size u2 bo Bs):=⟨B1.o.1.trans (hb2.mono B1.o.1.size),(B1.o.2.below hb2).mono hb2.size,hFB⟩;clear hb2 hFB hO2 C2 B1;obtain⟨na,hna⟩:∃ na,n/2=na:=⟨_,rfl⟩
 have HN:Aside (na+nb=n/\A.length=na/\Bs.length=nb/\R.length=n):=by
  have:=HM.o.r5.1;exact⟨by omega,HM.o.1.trans hna,HM.o.2.1,HM.o.r2.1⟩
 have HNA:=ah hna;have HBw:=ah B2.o.1.size;have hnb6:nb<65537:=by have:=HN.o.1;omega
 have hna6:na<65537:=by have:=HN.o.1;omega
 clear hna HM hhc;go_wp2;rw[HNA.o];clear HNA
 go_loopg [5,6,7] n (fun gk ov iv kv wr=>∃ (i k:Nat) (O:List Nat) (v:Value),gk+(i+k)=n/\i<=na/\k<=nb/\iv=.int .i64 (i:Nat)/\kv=.int .i64 (k:Nat)/\ov=v/\Aside (wr.ownsRow u2.heap.size 27 1 v O.length (O.map lN)/\Below w.heap.size w wr/\Below u2.heap.size u2 wr/\O++List.merge (A.drop i) (Bs.drop k) nI=R/\O.length=i+k))
 case atStart=>exact⟨0,0,[],.slice none 0 0,by omega,by omega,by omega,by simp,by simp,rfl,Bu _ _ _ _,B2.o.1,ay _ _,by simpa using HW.o.r4,rfl⟩
 case round =>
  obtain⟨i,k,O,v,lU,hi,hk,rfl,rfl,hv,HA⟩:=hrel;have hv':=hv.symm;clear hv;subst hv';have hib:i<4611686018427387904:=by omega
  have hkb:k<4611686018427387904:=by omega
  by_cases hia:i=na
  · by_cases hkn:k=nb
    · obtain rfl:=hia;obtain rfl:=hkn
      have HR:Aside (O=R/\O.length=n):=by
       have h1:=HA.o.r3.1;rw[uN (by have:=HN.o;omega),uN (by have:=HN.o;omega),List.nil_merge,Bc] at h1;exact⟨h1,by rw[h1];exact HN.o.r3⟩
      have e1:decide ((i:Int)<i)=false:=by simp
      have e2:decide ((k:Int)<k)=false:=by simp
      go_wp2;go_ret;have h1:=HA.o.1;rw[HR.o.2,HR.o.1] at h1;exact⟨⟨v,rfl,TM h1 HBw.o⟩,HA.o.2.1⟩
    · have e1:decide ((i:Int)<na)=false:=by simp;omega
      have e9:¬ i<na:=by omega
      have e8:¬ (i:Int)<na:=by omega
      have e7:na<=i:=by omega
      have HK9:Aside (k<nb):=by have:k<nb:=by omega
                                exact this
      have e2:decide ((k:Int)<nb)=true:=by simp;omega
      have e3:((k:Int)==nb)=false:=by rw[beq_eq_false_iff_ne];omega
      obtain⟨bb,ob,rfl,hcb⟩:=B2.o.r2.at HA.o.r2.1 k (by have:=HN.o;omega);obtain⟨y,hy⟩:=af (Bs.getD k 0);rw[<-hy] at hcb;obtain⟨v',w',r1,r2,r3,r4⟩:=sj u2.heap.size v O y wr.drew HA.o.1 HA.o.r2.1.size (by have:=HA.o.r4;omega);have HR:=ah r1
      have Z9:Aside (w'.ownsRow u2.heap.size 27 1 v' (O++[y]).length ((O++[y]).map lN)/\Below w.heap.size w w'/\Below u2.heap.size u2 w'/\(O++[y])++List.merge (A.drop i) (Bs.drop (k+1)) nI=R/\(O++[y]).length=i+(k+1)):=by
       have r5:Below u2.heap.size wr w':=(ay u2.heap.size wr).drew.trans r3;refine⟨r2,HA.o.2.1.trans (r5.mono HBw.o),HA.o.r2.1.trans r5,?_,by rw[nQ,HA.o.r4];simp;omega⟩;have h1:=HA.o.r3.1;rw[mgB (by have:=HN.o;omega) (.inl (by have:=HN.o;omega)),<-hy] at h1;rw[<-h1];simp
      clear r1 r2 r3 r4 HA hy hia hkn
      go_upto_region 9 with fail
      go_region
      all_goals
       go_wp2_with (at_builtin;refine gy rfl (.tmp 67) (.tmp 72) 22 rfl _ _ rfl rfl _ _ HR.o ?_)
       go_roundg (gk-1)
       case measure=>have:=HN.o;have:=HK9.o;omega
       case rel=>exact⟨i,k+1,_,_,by have:=HN.o;have:=HK9.o;omega,by have:=HN.o;omega,by have:=HN.o;have:=HK9.o;omega,by first | rfl | simp,by first | rfl | simp,rfl,Z9.o⟩
  · have e1:decide ((i:Int)<na)=true:=by simp;omega
    by_cases hkn:k=nb
    · have e3:((k:Int)==nb)=true:=by rw[hkn];simp
      obtain⟨ba,oa,rfl,Yi⟩:=B2.o.2.1.at HA.o.r2.1 i (by have:=HN.o;omega);obtain⟨x,hx⟩:=af (A.getD i 0);rw[<-hx] at Yi;obtain⟨v',w',r1,r2,r3,r4⟩:=sj u2.heap.size v O x wr.drew HA.o.1 HA.o.r2.1.size (by have:=HA.o.r4;omega);have HR:=ah r1
      have Z9:Aside (w'.ownsRow u2.heap.size 27 1 v' (O++[x]).length ((O++[x]).map lN)/\Below w.heap.size w w'/\Below u2.heap.size u2 w'/\(O++[x])++List.merge (A.drop (i+1)) (Bs.drop k) nI=R/\(O++[x]).length=i+1+k):=by
       have r5:Below u2.heap.size wr w':=(ay u2.heap.size wr).drew.trans r3;refine⟨r2,HA.o.2.1.trans (r5.mono HBw.o),HA.o.r2.1.trans r5,?_,by rw[nQ,HA.o.r4];simp;omega⟩;have h1:=HA.o.r3.1;rw[mgA (by have:=HN.o;omega) (.inl (by have:=HN.o;omega)),<-hx] at h1;rw[<-h1];simp
      clear hkn;clear r1 r2 r3 r4 HA hx
      go_upto_region 9 with fail
      go_region
      all_goals
       exact yk
    · have e2:decide ((k:Int)<nb)=true:=by simp;omega
      have e3:((k:Int)==nb)=false:=by rw[beq_eq_false_iff_ne];omega
      by_cases hle:nI (A.getD i 0) (Bs.getD k 0)=true
      · have hle0:=hle;obtain⟨ba,oa,rfl,Yi⟩:=B2.o.2.1.at HA.o.r2.1 i (by have:=HN.o;omega);obtain⟨bb,ob,rfl,hcb⟩:=B2.o.r2.at HA.o.r2.1 k (by have:=HN.o;omega);obtain⟨x,hx⟩:=af (A.getD i 0);rw[<-hx] at Yi;obtain⟨y,hy⟩:=af (Bs.getD k 0);rw[<-hy] at hcb;rw[<-hx,<-hy] at hle;have HO:=hid (fun u:World=>Gn (x:=x) (y:=y) (by rw[hx];exact HW.o.1.get i) (by rw[hy];exact HW.o.2.1.get k) (by rw[hx];exact HW.o.r2.1 _ (sD (by have:=HN.o;omega))) (by rw[hy];exact HW.o.r3.1 _ (sD (by have:=HN.o;omega))) u);obtain⟨v',w',r1,r2,r3,r4⟩:=sj u2.heap.size v O x wr.drew HA.o.1 HA.o.r2.1.size (by have:=HA.o.r4;omega);have HR:=ah r1
        have Z9:Aside (w'.ownsRow u2.heap.size 27 1 v' (O++[x]).length ((O++[x]).map lN)/\Below w.heap.size w w'/\Below u2.heap.size u2 w'/\(O++[x])++List.merge (A.drop (i+1)) (Bs.drop k) nI=R/\(O++[x]).length=i+1+k):=by
         have r5:Below u2.heap.size wr w':=(ay u2.heap.size wr).drew.trans r3;refine⟨r2,HA.o.2.1.trans (r5.mono HBw.o),HA.o.r2.1.trans r5,?_,by rw[nQ,HA.o.r4];simp;omega⟩;have h1:=HA.o.r3.1;rw[mgA (by have:=HN.o;omega) (.inr ⟨by have:=HN.o;omega,hle0⟩),<-hx] at h1;rw[<-h1];simp
        have hkk:kW x<=kW y:=by unfold nI at hle;simpa using hle
        have e4:decide (B.oc (kW x) (kW y)<=0)=true:=by
         rw[decide_eq_true_eq];unfold B.oc;split
         · decide
         · rw[if_neg (by omega)];decide
        obtain⟨o,ho⟩:∃ o,B.oc (kW x) (kW y)=o:=⟨_,rfl⟩;rw[ho] at HO e4;clear ho hle hle0 hkk;have hi9:i<na:=by omega
        have hk9:k<nb:=by omega
        have hi8:(i:Int)<na:=by omega
        have hk8:(k:Int)<nb:=by omega
        have hi7:(0:Int)<=(i:Int):=by omega
        have hk7:(0:Int)<=(k:Int):=by omega
        clear r1 r2 r3 r4 HA hx hy hia hkn hi hk
        go_upto_region 9 with fail
        go_region_held3 (fun w'=>w'.cell? ⟨ba,oa+i,none⟩=some (.float .f64 x)/\w'.cell? ⟨bb,ob+k,none⟩=some (.float .f64 y)) (go_keep) (first | (go_at_call 41;refine(HO.o _).mono ?_;rintro r u ⟨rfl,rfl⟩))
        all_goals
         exact yk
      · have hle0:nI (A.getD i 0) (Bs.getD k 0)=false:=by simpa using hle
        obtain⟨ba,oa,rfl,Yi⟩:=B2.o.2.1.at HA.o.r2.1 i (by have:=HN.o;omega);obtain⟨bb,ob,rfl,hcb⟩:=B2.o.r2.at HA.o.r2.1 k (by have:=HN.o;omega);obtain⟨y,hy⟩:=af (Bs.getD k 0);rw[<-hy] at hcb;obtain⟨x,hx⟩:=af (A.getD i 0);rw[<-hx] at Yi;rw[<-hx,<-hy] at hle;have HO:=hid (fun u:World=>Gn (x:=x) (y:=y) (by rw[hx];exact HW.o.1.get i) (by rw[hy];exact HW.o.2.1.get k) (by rw[hx];exact HW.o.r2.1 _ (sD (by have:=HN.o;omega))) (by rw[hy];exact HW.o.r3.1 _ (sD (by have:=HN.o;omega))) u);obtain⟨v',w',r1,r2,r3,r4⟩:=sj u2.heap.size v O y wr.drew HA.o.1 HA.o.r2.1.size (by have:=HA.o.r4;omega);have HR:=ah r1
        have Z9:Aside (w'.ownsRow u2.heap.size 27 1 v' (O++[y]).length ((O++[y]).map lN)/\Below w.heap.size w w'/\Below u2.heap.size u2 w'/\(O++[y])++List.merge (A.drop i) (Bs.drop (k+1)) nI=R/\(O++[y]).length=i+(k+1)):=by
         have r5:Below u2.heap.size wr w':=(ay u2.heap.size wr).drew.trans r3;refine⟨r2,HA.o.2.1.trans (r5.mono HBw.o),HA.o.r2.1.trans r5,?_,by rw[nQ,HA.o.r4];simp;omega⟩;have h1:=HA.o.r3.1;rw[mgB (by have:=HN.o;omega) (.inr ⟨by have:=HN.o;omega,hle0⟩),<-hy] at h1;rw[<-h1];simp
        have hkk:¬ kW x<=kW y:=by unfold nI at hle;simpa using hle
        have e4:decide (B.oc (kW x) (kW y)<=0)=false:=by
         unfold B.oc;rw[if_neg (by omega),if_pos (by omega)];rfl
        obtain⟨o,ho⟩:∃ o,B.oc (kW x) (kW y)=o:=⟨_,rfl⟩;rw[ho] at HO e4;clear ho hle hle0 hkk;have hi9:i<na:=by omega
        have hk9:k<nb:=by omega
        have hi8:(i:Int)<na:=by omega
        have hk8:(k:Int)<nb:=by omega
        have hi7:(0:Int)<=(i:Int):=by omega
        have hk7:(0:Int)<=(k:Int):=by omega
        clear r1 r2 r3 r4 HA hx hy hia hkn hi hk
        go_upto_region 9 with fail
        go_region_held3 (fun w'=>w'.cell? ⟨ba,oa+i,none⟩=some (.float .f64 x)/\w'.cell? ⟨bb,ob+k,none⟩=some (.float .f64 y)) (go_keep) (first | (go_at_call 41;refine(HO.o _).mono ?_;rintro r u ⟨rfl,rfl⟩))
        all_goals
         go_wp2_with (at_builtin;refine gy rfl (.tmp 67) (.tmp 72) 22 rfl _ _ rfl rfl _ _ HR.o ?_)
         go_roundg (gk-1)
         case measure=>have:=HN.o;omega
         case rel=>exact⟨i,k+1,_,_,by have:=HN.o;omega,by have:=HN.o;omega,by have:=HN.o;omega,by first | rfl | simp,by first | rfl | simp,rfl,Z9.o⟩
theorem uG:∀ (N:Nat) (xs:List Nat),xs.length<=N->xs≠[]->xs.length<=65536->ja xs->(∀ x ∈ xs,aY x)->TP xs
 | 0,xs,h,hne,_,_,_=>absurd (uT (by omega)) hne
 | N+1,xs,h,hne,hl,hW,hf=>by
   have hp:=wH.2 hne
   by_cases h1:xs.length=1
   · obtain⟨x,rfl⟩:=List.length_eq_one_iff.1 h1;exact Jv x
   · have l1:(xs.take (xs.length/2)).length=xs.length/2:=by rw[eY];omega
     have l2:(xs.drop (xs.length/2)).length=xs.length-xs.length/2:=by rw[nL]
     exact Jw xs (by omega) hl hW hf _ rfl
      (uG N _ (by omega) (by intro e;rw[e] at l1;simp at l1;omega) (by omega) (fun x hx=>hW x (wI hx)) (fun x hx=>hf x (wI hx)))
      (uG N _ (by omega) (by intro e;rw[e] at l2;simp at l2;omega) (by omega) (fun x hx=>hW x (wJ hx)) (fun x hx=>hf x (wJ hx)))
end
section
open Go Go.RowKit J
theorem Gp{lo:Nat}{w:World}{v:Value}{R:List Nat}(h:w.ownsRow lo 27 1 v R.length (R.map lN))(hR:0<R.length):∃ g cap,v=.slice (some ⟨g,0,none⟩) R.length cap/\Fs w.heap.size w (some ⟨g,0,none⟩) R:=by
 obtain⟨a,c,rfl,_,hF⟩:=yS h rfl;rcases h.2 with h0|⟨g,cap,cur,e,_⟩
 · exfalso;have h1:=h0.2;omega
 · simp only[Value.slice.injEq] at e;obtain⟨rfl,_,rfl⟩:=e;exact⟨g,_,rfl,hF⟩
theorem Jx{P:Prop}(h:P:=by
 go_enter Tryz.func9,Tryz.ntmps9;go_wp2_with fail;refine(CZ.o _).mono ?_;rintro r v ⟨rfl,rfl⟩;go_wp2;refine aB (v:=.tuple #[.float .f64 0,.int .i64 1]) (by simp[results,Tryz.results9,go_sem]) rfl ?_;exact⟨rfl,ay _ _⟩):P:=h
theorem Gq (xs:List Nat) (ao:Option Addr) (n cap:Nat) (num den rule mode:Int) (w:World) (hF:Fs w.heap.size w ao xs) (hn:n=xs.length) (hc:n<=cap) (hb:n<=17592186044416) (hW:ja xs)
 (HMD:0<=mode->mode<=4->Hid (∀ (x y:Nat) (u:World),x<18446744073709551616->y<18446744073709551616->aY x->aY y->Calls Tryz.prog 39 #[.float .f64 x,.float .f64 y,.int .i64 mode] u fun r w'=>r=.returned (.tuple #[.float .f64 (oL x y mode).1,.int .i64 0])/\Below u.heap.size u w'))
 (HLN:0<=mode->mode<=4->∀ dn:Nat,1<=dn->dn<=2147483648->Hid (∀ (x y m:Nat) (u:World),x<18446744073709551616->y<18446744073709551616->aY x->aY y->m<=dn->Calls Tryz.prog 40 #[.float .f64 x,.float .f64 y,.int .i64 (m:Nat),.int .i64 (dn:Nat),.int .i64 mode] u fun r w'=>r=.returned (.tuple #[.float .f64 (F9 x y m dn mode),.int .i64 0])/\Below u.heap.size u w'))
 (z:Nat×Int) (hz:Ug xs num den rule mode=z) :
 Calls Tryz.prog 9 #[.slice ao n cap,.int .i64 num,.int .i64 den,.int .i64 rule,.int .i64 mode] w fun r w'=>r=.returned (.tuple #[.float .f64 z.1,.int .i64 z.2])/\Below w.heap.size w w':=by
 obtain⟨z1,z2⟩:=z;simp only;unfold Ug at hz;have CR:=hid (Jt xs ao n cap w hF hn hb hW);have CZ:=hid (fun u:World=>SQ u)
 have bad:∀ (h:Pe rule mode=false\/den<1\/2147483648<den\/num<0\/den<num),z1=0/\z2=1:=fun h=>by
  rw[if_pos h] at hz;obtain⟨rfl,rfl⟩:=iA hz;exact XS
 have Yw:¬ (0<=rule/\rule<=4/\0<=mode/\mode<=4)->Pe rule mode=false:=fun h=>decide_eq_false h;have HY:=(fM hF hn hW hz hc);clear hF hn hW hz hc
 by_cases c1:mode<0
 · have d1:decide (mode<0)=true:=by simp[c1]
   obtain⟨rfl,rfl⟩:=bad (.inl (Yw (by omega)));exact Jx
 have d1:decide (mode<0)=false:=by simp;omega
 by_cases c2:4<mode
 · have d2:decide (4<mode)=true:=by simp[c2]
   obtain⟨rfl,rfl⟩:=bad (.inl (Yw (by omega)));exact Jx
 have d2:decide (4<mode)=false:=by simp;omega
 by_cases c3:den<1
 · have d3:decide (den<1)=true:=by simp[c3]
   obtain⟨rfl,rfl⟩:=bad (.inr (.inl c3));exact Jx
 have d3:decide (den<1)=false:=by simp;omega
 by_cases c4:2147483648<den
 · have d4:decide (2147483648<den)=true:=by simp[c4]
   obtain⟨rfl,rfl⟩:=bad (.inr (.inr (.inl c4)));exact Jx
 have d4:decide (2147483648<den)=false:=by simp;omega
 by_cases c5:num<0
 · have d5:decide (num<0)=true:=by simp[c5]
   obtain⟨rfl,rfl⟩:=bad (.inr (.inr (.inr (.inl c5))));exact Jx
 have d5:decide (num<0)=false:=by simp;omega
 by_cases c6:den<num
 · have d6:decide (den<num)=true:=by simp[c6]
   obtain⟨rfl,rfl⟩:=bad (.inr (.inr (.inr (.inr c6))));exact Jx
 have d6:decide (den<num)=false:=by simp;omega
 by_cases c7:rule<0
 · have d7:decide (rule<0)=true:=by simp[c7]
   obtain⟨rfl,rfl⟩:=bad (.inl (Yw (by omega)));exact Jx
 have d7:decide (rule<0)=false:=by simp;omega
 by_cases c8:4<rule
 · have d8:decide (4<rule)=true:=by simp[c8]
   obtain⟨rfl,rfl⟩:=bad (.inl (Yw (by omega)));exact Jx
 have d8:decide (4<rule)=false:=by simp;omega
 have hkt:Pe rule mode=true:=decide_eq_true (by omega);obtain⟨dn,hdn⟩:∃ k:Nat,den=(k:Int):=⟨den.toNat,by omega⟩;obtain⟨nm,hnm⟩:∃ k:Nat,num=(k:Int):=⟨num.toNat,by omega⟩;subst hdn hnm;obtain⟨hF,hn,hW,hz,hc⟩:=HY.o;rw[if_neg (by rw[hkt];rintro (h | h | h | h | h) <;> first | exact absurd h (by decide) | omega),j6,j6] at hz;have hfin:yY xs false=0->_:=CX (xs:=xs) (odd:=false);obtain⟨e,he⟩:=af (yY xs false);rw[<-he] at CR hz hfin
 by_cases h5:e=0
 · subst h5;rw[if_pos rfl] at hz;obtain⟨hz1,rfl⟩:=iA hz;obtain⟨_,e2,e3,e4⟩:=hfin rfl;have hpos:0<xs.length:=wH.2 e3;have hss:=O4 hW e4
   have HS:Hid (∀ u:World,Below w.heap.size w u->Calls Tryz.prog 24 #[.slice ao n cap] u fun r w'=>(∃ g c,r=.returned (.slice (some ⟨g,0,none⟩) n c)/\Fs w'.heap.size w' (some ⟨g,0,none⟩) (dR xs))/\Below u.heap.size u w'):=fun u hu=>by
    have:=uG xs.length xs (ak _) e3 e2 hW e4 ao cap u (by omega) ((hF.below hu).mono hu.size);rw[<-hn] at this;refine this.mono ?_;rintro r w' ⟨⟨v,rfl,hv⟩,hb'⟩;have hl:=wu xs;rw[show(qQ xs).length=(qQ xs).length from rfl] at hv;obtain⟨g,c,rfl,OU⟩:=Gp hv (by omega);rw[hss] at OU;exact⟨⟨g,c,by rw[show(qQ xs).length=n by omega],OU⟩,hb'⟩
   have HAT:Hid (∀ (u:World) (g c:Nat),Fs u.heap.size u (some ⟨g,0,none⟩) (dR xs)->Calls Tryz.prog 23 #[.slice (some ⟨g,0,none⟩) n c,.int .i64 (nm:Nat),.int .i64 (dn:Nat),.int .i64 rule,.int .i64 mode] u fun r w'=>r=.returned (.tuple #[.float .f64 z1,.int .i64 0])/\Below u.heap.size u w'):=fun u g c OU=>by
    rw[<-hz1];have hl:=j4 xs;exact rAt16 (dR xs) g n c nm dn rule mode u OU (by omega) (by omega) (by omega) (fun x hx=>hW x (j5 e4 x hx)) (fun x hx=>e4 x (j5 e4 x hx)) (by omega) (by omega) (by omega) (by omega) (by omega) (HMD (by omega) (by omega)) (HLN (by omega) (by omega) dn (by omega) (by omega))
   clear hz hz1 e2 e3 e4 hpos hss hF hn hW hc hfin he HY bad Yw hkt HMD HLN;go_enter Tryz.func9,Tryz.ntmps9;go_wp2_with fail;refine CR.o.mono ?_;rintro r v ⟨rfl,hv⟩;have HB:=ah hv;clear hv;have C:=hid (HS.o v HB.o);go_wp2_with fail;refine C.o.mono ?_;rintro r v2 ⟨⟨g,c,rfl,OU⟩,hv⟩;have HB2:=ah (HB.o.trans (hv.mono HB.o.size));have C:=hid (HAT.o v2 g c OU);clear hv OU;go_wp2_with fail;refine C.o.mono ?_;rintro r v3 ⟨rfl,hv⟩;have HB3:=ah (HB2.o.trans (hv.mono HB2.o.size));clear hv C;go_wp2;refine aB (v:=.tuple #[.float .f64 z1,.int .i64 0]) (by simp[results,Tryz.results9,go_sem]) rfl ?_;exact⟨rfl,HB3.o⟩
 · rw[if_neg h5] at hz;obtain⟨rfl,rfl⟩:=iA hz;have k1:(e==0)=false:=by simp[h5]
   have k2:(e != 0)=true:=by simp[h5]
   have k3:decide (e=0)=false:=by simp[h5]
   clear hF hn hW hc hfin he HY bad Yw hkt HMD HLN hz;go_enter Tryz.func9,Tryz.ntmps9;go_wp2_with fail;refine CR.o.mono ?_;rintro r v ⟨rfl,hv⟩;go_wp2_with fail;refine(CZ.o _).mono ?_;rintro r v2 ⟨rfl,hu⟩;rw[hu];clear hu;go_wp2;refine aB (v:=.tuple #[.float .f64 0,.int .i64 e]) (by simp[results,Tryz.results9,go_sem]) rfl ?_;exact⟨rfl,hv⟩
end
section
open Go.RowKit J
attribute [local go_sem] bR
noncomputable def jN (xs:List Nat) (p:Nat) (rule mode:Int) (k:Nat):List Nat:=(List.range k).map (fun i=>uC (dR xs) i p rule mode)++List.replicate (p+1-k) 0
theorem Jy(xs:List Nat)(p:Nat)(rule mode:Int):jN xs p rule mode 0=List.replicate (p+1) 0:=by simp[jN]
theorem A8(xs:List Nat)(p:Nat)(rule mode:Int)(k:Nat)(h:k<=p+1):(jN xs p rule mode k).length=p+1:=by simp[jN];omega
theorem Jz(xs:List Nat)(p:Nat)(rule mode:Int)(k:Nat)(h:k<p+1):(jN xs p rule mode k).set k (uC (dR xs) k p rule mode)=jN xs p rule mode (k+1):=by
 unfold jN;rw[Br _ _ (by simp),wD,xh,uO,show p+1-k=(p+1-(k+1))+1 by omega,Bb,List.set_cons_zero,List.range_succ,wz,uU];rfl
theorem Dg(xs:List Nat)(ao:Option Addr)(n cap p:Nat)(rule mode:Int)(w:World)(hT:gF w)(hF:Fs w.heap.size w ao xs)(hn:n=xs.length)(hW:ja xs)(hk:Pe rule mode=true)(hp1:1<=p)(hp2:p<=65536)(ha:yY xs false=0) :
 Calls Tryz.prog 11 #[.slice ao n cap,.int .i64 (p:Nat),.int .i64 rule,.int .i64 mode] w fun r w'=>∃ g,r=.returned (.tuple #[.slice (some ⟨g,0,none⟩) (p+1) (p+1),.int .i64 0])/\eG w' g (jN xs p rule mode (p+1))/\w.heap.size<=g/\Below w.heap.size w w':=by
 obtain⟨_,hl,hne,hf⟩:=CX ha;have hpos:0<xs.length:=wH.2 hne;have CK:=hid (KO rule mode w);rw[hk] at CK
 have hkn:0<=rule/\rule<=4:=by
  unfold Pe at hk;have:=of_decide_eq_true hk;exact⟨this.1,this.2.1⟩
 have CA:=hid (CW xs false ao n cap w hF hn (by omega) hW);rw[ha] at CA;obtain⟨p1,hp⟩:=af (p+1);rw[<-hp];have wp:IntKind.i64.wrap ((p:Int)+1)=(p1:Int):=aH (by omega) (by omega);have d1:decide ((p:Int)<1)=false:=by simp;omega
 have d2:decide ((65536:Int)<(p:Int))=false:=by simp;omega
 have mk:=lq p1 p1 rfl (by omega);have HY:=(Uc hF hn hT hW hl hpos hf hkn hp);clear hF hn hT hW hl hpos hf hkn hk ha hne hp;go_enter Tryz.func11,Tryz.ntmps11;go_wp2_with fail;refine CK.o.mono ?_;rintro r v ⟨rfl,rfl⟩;go_wp2_with fail;refine CA.o.mono ?_;rintro r v2 ⟨rfl,hb2⟩;have HB:=ah hb2;have C:=hid (Tn xs ao n cap v2 ((HY.o.1.below hb2).mono hb2.size) HY.o.2.1 (by have:=HY.o;omega) HY.o.r3.1);clear hb2 CK CA;go_wp2_with fail;refine C.o.mono ?_;rintro r v3 ⟨rfl,hO,hb3⟩;obtain⟨V,hV⟩:=af (v3.alloc (.cells (madeCells #[.float .f64 0] p1) 27));obtain⟨g,hg⟩:=af (v3.heap.size);obtain⟨gs,hgs⟩:=af (v2.heap.size)
 have HA:Aside (eG V g (jN xs p rule mode 0)/\eG V gs (dR xs)/\Below v.heap.size v V):=by
  rw[hV,hg,hgs,Jy];have hb4:=HB.o.trans (hb3.mono HB.o.size);refine⟨?_,hO.below ((ay _ _).alloc (ak _) _) hO.lt,hb4.trans ((ae _ _).mono hb4.size)⟩;rw[<-HY.o.r8];exact eG.made v3 p1
 have HG:Aside (v.heap.size<=g/\gs<g/\v.heap.size<=gs):=by
  have h1:=hO.lt;have h2:=HB.o.size;have h3:=hb3.size;exact⟨by omega,by omega,by omega⟩
 have HV:=(fG hV hg hgs);clear C hO hb3 hV hg hgs HB
 go_upto_region 8 with fail
 rw[<-HV.o.1,<-HV.o.2.1,<-HV.o.r2];clear HV mk;go_wp2
 go_loopg [38] p1 (fun gk iv wr=>∃ k:Nat,gk+k=p1/\iv=.int .i64 (k:Nat)/\Aside (eG wr g (jN xs p rule mode k)/\eG wr gs (dR xs)/\Below v.heap.size v wr))
 case atStart=>exact⟨0,rfl,by first | rfl | simp,HA.o⟩
 case round =>
  clear HA;obtain⟨k,lU,rfl,HA⟩:=hrel
  by_cases hk:k<p1
  · have hdk:decide ((k:Int)<(p1:Int))=true:=by simp;omega
    have bk:(k:Int)<(p1:Int):=by omega
    obtain⟨k1,hk1⟩:=af (k+1);have wk:IntKind.i64.wrap ((k:Int)+1)=(k1:Int):=aH (by omega) (by have:=HY.o.r8;omega);obtain⟨a1,a2,a3⟩:=HA.o;obtain⟨hF,hn,hT,hW,hl,hpos,hf,hkn,hp⟩:=HY.o;have hsl:=j4 xs
    have OU:Fs wr.heap.size wr (some ⟨gs,0,none⟩) (dR xs):=by
     have:=a2.fs a2.lt n;rw[dO (by omega)] at this;exact this
    have C:=hid (Tv (dR xs) gs n n k p rule mode wr (hT.belows a3) OU (by omega) (by omega) (by omega) (fun x hx=>hW x (j5 hf x hx)) (fun x hx=>hf x (j5 hf x hx)) (by omega) hp1 (by omega) hkn.1 hkn.2);obtain⟨y,hy⟩:=af (uC (dR xs) k p rule mode);rw[<-hy] at C
    have HX:Aside (∀ u,Below wr.heap.size wr u->u.cell? ⟨g,k,none⟩=some (.float .f64 ((jN xs p rule mode k).getD k 0))/\u.frozen? ⟨g,k,none⟩=false/\eG (u.setCell ⟨g,k,none⟩ (.float .f64 y)) g (jN xs p rule mode k1)/\eG (u.setCell ⟨g,k,none⟩ (.float .f64 y)) gs (dR xs)/\Below v.heap.size v (u.setCell ⟨g,k,none⟩ (.float .f64 y))):=fun u hu=>by
     have a1':=a1.below hu a1.lt;have VQ:=a2.below hu a2.lt;have hG:=HG.o;refine⟨a1'.cell k (by rw[A8 _ _ _ _ _ (by omega)];omega),a1'.frozen k,?_,?_,?_⟩
     · rw[hk1,<-Jz xs p rule mode k (by omega),<-hy];exact a1'.set k y
     · have hne:gs≠g:=by omega
       unfold eG at VQ |-;simp only[World.setCell,gN];rw[if_neg (fun e=>hne e.symm)];exact VQ
     · exact(a3.trans (hu.mono a3.size)).setCell (show v.heap.size<=g by omega) _
    have HK:=ah hk1;clear HA a1 a2 a3 hF hn hT hW hl hpos hf hkn hp hsl OU hy hk1;go_wp2_with fail;refine C.o.mono ?_;rintro r u ⟨rfl,hu⟩;obtain⟨x1,x2,x3⟩:=HX.o u hu;have HR:=ah x3;clear C HX x3 hu;obtain⟨z,hz⟩:=af ((jN xs p rule mode k).getD k 0);rw[<-hz] at x1;clear hz;go_wp2;go_roundg (p1-k1)
    case measure=>have:=HK.o;omega
    case rel=>exact⟨k1,by have:=HK.o;omega,by first | rfl | simp,HR.o⟩
  · have hdk:decide ((k:Int)<(p1:Int))=false:=by simp;omega
    have hkp:k=p1:=by omega
    subst hkp;go_wp2;refine aB (v:=.tuple #[.slice (some ⟨g,0,none⟩) k k,.int .i64 0]) (by simp[results,Tryz.results11,go_sem]) rfl ?_;exact⟨g,rfl,HA.o.1,HG.o.1,HA.o.r2⟩
end
section
open Go Go.RowKit J
theorem A9{u k:Nat}{V:Int}(hu:u<=100000)(hV:V≠0)(hk:k<=90000)(hb:Bd k V):∃ X e,gV u V=some (decide (V<0),X,e)/\X%2=1/\-(u:Int)<=e/\e<=200000/\X*2^(e+(u:Int)).toNat=V.natAbs/\bl X<=262144/\vk (decide (V<0)) X e:=by
 obtain⟨n,X,e,ho,F,hx⟩:=Og (u:=u) hu (by omega) hb;have hm:mkS (decide (V<0)) V.natAbs (-(u:Int))=some (n,X,e):=ho;have hz:=kG hm (-(u:Int)) (.inr (by omega));unfold zv at hz;simp only at hz;rw[show(-(u:Int) - -(u:Int)).toNat=0 by omega,fw,dM] at hz
 have hX0:X≠0:=by
  rintro rfl;simp[nD] at hz
  split at hz <;> omega
 have hp:0<X*2^(e - -(u:Int)).toNat:=iL (by omega) (aU _);rcases hx with h|⟨h1,h2⟩
 · exact absurd h hX0
 have hn:n=decide (V<0):=by
  exact yv
 rw[hn] at hz ho F
 have hv:X*2^(e - -(u:Int)).toNat=V.natAbs:=by
  exact xT
 refine⟨X,e,ho,?_,h1,by omega,?_,by omega,F⟩
 · rcases F.odd with q | q
   · exact q
   · exact absurd q.1 hX0
 · rw[show(e+(u:Int)).toNat=(e - -(u:Int)).toNat by congr 1;omega];exact hv
theorem Gr{x S V S' V':Nat}(hS:0<S)(hS':0<S')(e:V*S'=V'*S):(x*S<V↔x*S'<V')/\(x*S=V↔x*S'=V')/\(V<x*S↔V'<x*S'):=by
 exact z9
theorem jB.Xo{v:Nat->Nat}{top n K:Nat}{t:Bool}{m:Int}{V S V' S':Nat}(h:jB v top n K t m V S)(hS':0<S')(e:V*S'=V'*S):jB v top n K t m V' S':=by
 obtain⟨h1,h2,h3,h4,h5,h6⟩:=h;have e2:(2^n*V)*S'=(2^n*V')*S:=by rw[aJ,e,aJ]
 refine⟨h1,hS',fun a=>((Gr h2 hS' e).2.1.1 (h3 a).symm).symm,fun a=>(Gr h2 hS' e).1.1 (h4 a),fun a b=>?_,fun a=>?_⟩
 · have:=h5 a ((Gr h2 hS' e).2.2.2 b);obtain⟨r1,r2,r3⟩:=Gr (x:=(v K+v (K+1))^n) h2 hS' e2;rcases this with ⟨q,r⟩|⟨q,r⟩|⟨q,r⟩
   · exact .inl ⟨q,r3.1 r⟩
   · exact .inr (.inl ⟨q,(r2.1 r.symm).symm⟩)
   · exact .inr (.inr ⟨q,r1.1 r⟩)
 · rcases h6 a with q | q
   · exact .inl ((Gr h2 hS' e).2.2.1 q)
   · exact .inr q
theorem K8{u v k:Nat}{V D:Int}(hu:u<=100000)(hv:v<=100000)(hk:k<=90000)(hV:V≠0)(hD:0<D)(bV:Bd k V)(bD:Bd k D) :
 ∃ K t m,(∀ j,j=1074->jB vK 9218868437227405312 1 K t m (V.natAbs*2^(j+v)) (D.natAbs*2^u))/\∀ mode:Int,0<=mode->mode<=4->zn (gV u V) (gV v D) mode=(rK mode (decide (V<0)) K t m+(if V<0 then 9223372036854775808 else 0),0):=by
 obtain⟨Y,f,ho2,hY,hf0,hf1,hv2,Zi,F2⟩:=A9 (u:=v) (V:=D) hv (by omega) hk bD;rw[decide_eq_false (by omega)] at ho2 F2;obtain⟨X,e,ho,hX,he0,he1,hvv,hbl,F⟩:=A9 (u:=u) (V:=V) hu hV hk bV;have hm1:mkS (decide (V<0)) X e=some (decide (V<0),X,e):=rQ F;have hm2:mkS false Y f=some (false,Y,f):=rQ F2;obtain⟨K,t,m,hL,hR⟩:=RP (decide (V<0)) X e Y f hX (by omega) hbl Zi;refine⟨K,t,m,fun j hj=>?_,fun mode hm0 pU=>?_⟩
 · refine hL.Xo (iL (by omega) (aU _)) ?_;unfold kI kJ;rw[<-hvv,<-hv2]
   have e1:X*2^(e-f+((1*1074:Nat):Int)).toNat*(Y*2^(f+(v:Int)).toNat*2^u)=X*Y*(2^((e-f+((1*1074:Nat):Int)).toNat+((f+(v:Int)).toNat+u))):=by
    rw[aI,aI,aJ Y,qx]
   have e2:X*2^(e+(u:Int)).toNat*2^(j+v)*(Y*2^(-(e-f+((1*1074:Nat):Int))).toNat)=X*Y*(2^((e+(u:Int)).toNat+(j+v)+(-(e-f+((1*1074:Nat):Int))).toNat)):=by
    rw[aI _ (_+_),aI _ (e+(u:Int)).toNat,aJ X,qx]
   rw[e1,e2];congr 2;omega
 · unfold zn;rw[ho,ho2];show mr iW ⟨decide (V<0),.bool false,X,e,false,.bool false,Y,f⟩ mode=_;unfold mr;rw[if_neg (by omega),if_pos (by rw[yA];show nE X (decide (V<0)) e Y false f=0;unfold nE;rw[if_neg (by unfold pV;simp;split <;> omega),hm1,hm2];simp[dX];omega),hm1,hm2];have:=hR mode hm0 pU;simp only[decide_eq_true_eq] at this;exact this
theorem own13{V W:Int}(hV:V≠0)(hW:0<W)(k:Nat)(hk:k<=90000)(hb:V.natAbs<2^k)(hb2:W.natAbs<2^k)(L:Nat)(hL:L<9218868437227405312)(e:∀ j,j=1074->V.natAbs*2^j=vK L*W.natAbs)(mode:Int)(hm0:0<=mode)(pU:mode<=4) :
 qvR V W mode=(L+(if V<0 then 9223372036854775808 else 0),0):=by
 obtain⟨K,t,m,hL1,hR⟩:=Au hV hW k hk hb hb2;rw[hR mode hm0 pU,Rp mode _ (hL1 1074 rfl) L hL (e 1074 rfl)]
theorem Xp{xs:List Nat}{s:Sp}{mode:Int}(hW:ja xs)(hl:xs.length<=65536)(hne:xs≠[])(hV:vS xs≠0)(hm0:0<=mode)(pU:mode<=4)(L:Nat)(hL:L<9218868437227405312)(e:∀ j k,j=1074->k=2148->(vS xs).natAbs*2^j=vK L*(xs.length*2^k)) :
 lK xs s mode=(L+(if vS xs<0 then 9223372036854775808 else 0),0):=by
 unfold lK;obtain⟨k,hk⟩:∃ k:Nat,k=2148:=⟨_,rfl⟩;obtain⟨j,hj,hb⟩:=Ar hW hl;obtain⟨j2,hj2,hb2⟩:=KV xs.length hl k hk;rw[if_neg hne,if_neg hV,XO _ _ _ k hk];have hp:0<xs.length:=wH.2 hne;have hpk:=aU k;refine own13 hV ?_ j (by omega) hb (by rw[hj,<-hj2];exact hb2) L hL ?_ mode hm0 pU
 · rw[<-dK];have:=iL hp hpk;omega
 · intro i hi;rw[<-dK,ni];exact e i k hi hk
theorem lit13(w:World)(xs:List Nat)(g:Nat)(hg:g=w.heap.size):Fs (w.alloc (Obj.cells (xs.map fun x=>Value.float .f64 x).toArray 27)).heap.size (w.alloc (Obj.cells (xs.map fun x=>Value.float .f64 x).toArray 27)) (some ⟨g,0,none⟩) xs:=by
 intro _;refine⟨g,0,by simp;omega,rfl,fun i hi=>?_⟩;have hB:=Bl.new w 27 (xs.map fun x=>Value.float .f64 x);rw[hg];refine(hB.cell (0+i) (.float .f64 (xs.getD i 0)) ?_);rw[cO,wC,bG,dx hi];rfl
theorem Xq:oL 4626322717216342016 4629137466983448576 0=(4627730092099895296,0):=by
 have e1:nG 0=0:=by decide
 have e2:yV [4626322717216342016,4629137466983448576]=0:=by decide +kernel
 have hp:decide (0<vS [4626322717216342016,4629137466983448576])=true:=by decide +kernel
 have hp:=of_decide_eq_true hp;have e5:=Xp (xs:=[4626322717216342016,4629137466983448576]) (s:=sS [4626322717216342016,4629137466983448576]) (mode:=0) (by unfold ja;decide) (by decide) (by decide) (by omega) (by decide) (by decide) 4627730092099895296 (by decide) (fun j k hj hk=>by subst hj hk;decide +kernel);unfold oL Sv;rw[e1,if_pos rfl,e2,if_pos rfl,e5,if_neg (by omega)];rfl
theorem TQ{low high rest den:Nat}(hl:low<18446744073709551616)(fl:aY low)(hh:high<18446744073709551616)(fh:aY high)(hd:den<=2147483648)(hr:rest<=den):∃ k:Nat,k=2130/\Bd k (WV low high rest den):=by
 obtain⟨z,hz⟩:∃ z,z=2098:=⟨_,rfl⟩;obtain⟨k,hk⟩:∃ z,z=31:=⟨_,rfl⟩;have b1:=mV hl fl z hz;have b2:=mV hh fh z hz;have bn:∀ n:Nat,n<=2147483648->Bd k (n:Int):=fun n hn=>by unfold Bd;rw[ni,hk];exact hn
 exact⟨_,by omega,(b1.mul (bn (den-rest) (by omega))).add (b2.mul (bn rest (by omega)))⟩
theorem aaa:F9 4621819117588971520 4626322717216342016 3 4 0=4625619029774565376:=by
 obtain⟨V,hV⟩:=af (WV 4621819117588971520 4626322717216342016 3 4);have hp:decide (0<WV 4621819117588971520 4626322717216342016 3 4)=true:=by decide +kernel
 have hp:=of_decide_eq_true hp;obtain⟨k,hk,hb⟩:=TQ (low:=4621819117588971520) (high:=4626322717216342016) (rest:=3) (den:=4) (by decide) (by unfold aY aQ;decide) (by decide) (by unfold aY aQ;decide) (by decide) (by decide);have hq:∀ j,j=1074->V.natAbs*2^(j+0)=vK 4625619029774565376*((4:Int).natAbs*2^1074):=fun j hj=>by subst hj hV;decide +kernel
 rw[<-hV] at hp hb;obtain⟨K,t,m,h1,h2⟩:=K8 (u:=1074) (v:=0) (k:=k) (V:=V) (D:=4) (by omega) (by omega) (by omega) (by omega) (by decide) hb (by unfold Bd;exact dz (by decide) (eB (n:=2) (by decide) (show 2<=k by omega)));unfold F9;rw[<-hV,if_neg (by omega),show((4:Nat):Int)=4 from rfl,h2 0 (by decide) (by decide),if_neg (by omega)];have:=Rp 0 (decide (V<0)) (h1 1074 rfl).lies 4625619029774565376 (by decide) (hq 1074 rfl);rw[this]
theorem TR{xs M:List Nat}(hP:M.Perm (List.range xs.length))(hU:M.Pairwise (fun a b=>leI xs a b=true)):M=kL xs :=
 Bt (le:=fun a b=>leI xs a b=true) (fun a b ha hb h1 h2=>yM xs a b h1 h2) hU (ll xs _) (hP.trans (qf xs).symm)
theorem TS:dR [4621819117588971520,4630826316843712512,4626322717216342016,4629137466983448576]=[4621819117588971520,4626322717216342016,4629137466983448576,4630826316843712512]:=by
 have e:[0,2,3,1]=kL [4621819117588971520,4630826316843712512,4626322717216342016,4629137466983448576]:=TR (by decide) (by decide +kernel);unfold dR;rw[<-e];decide +kernel
theorem am16:yY [4621819117588971520,4630826316843712512,4626322717216342016,4629137466983448576] false=0:=by decide +kernel
theorem qu16:Ug [4621819117588971520,4630826316843712512,4626322717216342016,4629137466983448576] 1 4 4 0=(4625619029774565376,0):=by
 unfold Ug;rw[if_neg (by decide),am16,if_pos rfl,TS];unfold uC;rw[if_neg (by decide),if_neg (by decide),if_neg (by decide),if_neg (by decide),if_neg (by decide)];show(F9 4621819117588971520 4626322717216342016 3 4 0,(0:Int))=_;rw[aaa]
theorem sv16:(jN [4621819117588971520,4630826316843712512,4626322717216342016,4629137466983448576] 2 3 0 3).getD 1 0=4627730092099895296:=by
 unfold jN;show uC (dR [4621819117588971520,4630826316843712512,4626322717216342016,4629137466983448576]) 1 2 3 0=_;rw[TS];unfold uC;rw[if_neg (by decide),if_neg (by decide),if_neg (by decide),if_neg (by decide),if_pos rfl];show(oL 4626322717216342016 4629137466983448576 0).1=_;rw[Xq]
theorem ct16:yT [4621819117588971520,4630826316843712512,4626322717216342016,4629137466983448576] 4626322717216342016=2:=by decide +kernel
end
section
open Go.RowKit J
theorem Xr{s t:Nat}(hs:s<18446744073709551616)(ht:t<18446744073709551616):s6 [s,t]=sS [s,t]:=by
 unfold s6 sS;simp only[List.foldl_cons,List.foldl_nil];rw[(Z0 hs).1,(Z0 ht).1]
theorem O7{s t num den:Nat}(h:num<=den):tQ s*(den:Int)+(tQ t-tQ s)*(num:Int)=WV s t num den:=by
 unfold WV;rw[show((den-num:Nat):Int)=(den:Int)-(num:Int) by omega,Int.sub_mul,Int.mul_sub];omega
theorem Xt(s t num den:Nat)(mode:Int)(hs:s<18446744073709551616)(fs:aY s)(ht:t<18446744073709551616)(ft:aY t)(hr:num<=den)(hd1:1<=den)(hd:den<=2147483648)(hm0:0<=mode)(pU:mode<=4)(w:World) :
 Calls Tryz.prog 40 #[.float .f64 s,.float .f64 t,.int .i64 (num:Nat),.int .i64 (den:Nat),.int .i64 mode] w fun r w'=>r=.returned (.tuple #[.float .f64 (F9 s t num den mode),.int .i64 0])/\Below w.heap.size w w':=by
 obtain⟨z,hz⟩:∃ z,z=2098:=⟨_,rfl⟩;obtain⟨k,hk⟩:∃ z,z=31:=⟨_,rfl⟩;obtain⟨k1,hk1⟩:∃ z,z=32:=⟨_,rfl⟩;have b1:=mV hs fs z hz;have b2:=mV ht ft z hz;have bn:∀ n:Nat,n<=2147483648->Bd k (n:Int):=fun n hn=>by unfold Bd;rw[ni,hk];exact hn
 have bf:=b2.sub b1;have bu:=bf.mul (bn num (by omega));have bg:=(b1.mono (show z<=z+1 by omega)).mul (bn den (by omega));have bq:=bg.add bu;have Fa:=lJ (u:=1074) (by omega) (by omega) b1;have Fb:=lJ (u:=1074) (by omega) (by omega) b2;have Ff:=lJ (u:=1074) (by omega) (by omega) bf;have Fn:=lJ (u:=0) (by omega) (by omega) (bn num (by omega));have Fd:=lJ (u:=0) (by omega) (by omega) (bn den hd);have Fu:=lJ (u:=1074) (by omega) (by omega) bu;have Fg:=lJ (u:=1074) (by omega) (by omega) bg;have Fq:=lJ (u:=1074) (by omega) (by omega) bq;have ef:=g_sub (u:=1074) (by omega) (by omega) b2 b1;have eu:=RY (u:=1074) (v:=0) (by omega) (by omega) (by omega) (by omega) bf (bn num (by omega));have eg:=RY (u:=1074) (v:=0) (by omega) (by omega) (by omega) (by omega) b1 (bn den hd);have eq:=RZ (u:=1074) (by omega) (by omega) bg bu;have hsg:=(R3 (u:=1074) (by omega) (by omega) bq).1;rw[O7 hr] at eq Fq hsg bq
 have hW2:ja [s,t]:=fun x hx=>by
  rcases uP.1 hx with rfl|hx
  · exact hs
  · rw[zw.1 hx];exact ht
 obtain⟨V,hV⟩:=af (WV s t num den);rw[<-hV] at eq Fq hsg bq
 have:=CV s t num den mode _ _ _ _ _ _ _ _ Fa Fb Ff Fn Fd Fu Fg Fq (nt (snd (sS [s,t]).n (sS [s,t]).u (sS [s,t]).d (sS [s,t]).m (sS [s,t]).p (sS [s,t]).a) (sS [s,t]).n (sS [s,t]).u (sS [s,t]).d (sS [s,t]).m (sS [s,t]).p (sS [s,t]).a mode) (zn (gV 1074 V) (gV 0 (den:Int)) mode).1 (zn (gV 1074 V) (gV 0 (den:Int)) mode).2 (sS [s,t]).agg w
  (fun u=>R7 s hs fs u) (fun u=>R7 t ht ft u)
  (fun u a b c d N1 N2=>ZM Fb Fa N1 N2 ef Ff)
  (fun u=>(xW (num:Nat) u (by omega) (by omega)).mono (fun r w' h=>h))
  (fun u a b c d N1 N2=>R5 Ff Fn N1 N2 eu Fu)
  (fun u=>(xW (den:Nat) u (by omega) (by omega)).mono (fun r w' h=>h))
  (fun u a b c d N1 N2=>R5 Fa Fd N1 N2 eg Fg)
  (fun u a b c d N1 N2=>R6 Fg Fu N1 N2 eq Fq)
  (fun u b hF=>by
   have:=F8 [s,t] _ 2 2 u rfl hF hW2 (by decide);rw[Xr hs ht] at this
   exact this)
  (fun u=>vE _ _ _ _ _ _ _ u)
  (fun u a b c d N1 N2=>KT (w:=u) mode (Fq.Xf N1) (Fd.Xf N2) Fq.qL (n:=dN (gV 1074 V)) (m:=dN (gV 0 (den:Int))) (f:=dE (gV 0 (den:Int))) Fd.qL)
 have hX:(ws (dX (gV 1074 V))).length=0↔V=0:=(bE _).trans hsg
 have e1:(if (ws (dX (gV 1074 V))).length=0 then(nt (snd (sS [s,t]).n (sS [s,t]).u (sS [s,t]).d (sS [s,t]).m (sS [s,t]).p (sS [s,t]).a) (sS [s,t]).n (sS [s,t]).u (sS [s,t]).d (sS [s,t]).m (sS [s,t]).p (sS [s,t]).a mode) else(zn (gV 1074 V) (gV 0 (den:Int)) mode).1)=F9 s t num den mode:=by
  unfold F9;rw[<-hV]
  by_cases h:V=0
  · rw[if_pos (hX.2 h),if_pos h]
  · rw[if_neg (fun e=>h (hX.1 e)),if_neg h]
 have e2:(if (ws (dX (gV 1074 V))).length=0 then 0 else(zn (gV 1074 V) (gV 0 (den:Int)) mode).2)=0:=by
  by_cases h:V=0
  · rw[if_pos (hX.2 h)]
  · rw[if_neg (fun e=>h (hX.1 e))];obtain⟨K,t,m,_,hR⟩:=K8 (u:=1074) (v:=0) (V:=V) (D:=(den:Int)) (by omega) (by omega) (by omega) h (by omega) bq ((bn den hd).mono (by omega));rw[hR mode hm0 pU]
 rw[e1,e2] at this;exact this
theorem aab{xs:List Nat}{s:Sp}{mode:Int}(hm:nG mode=0)(hW:ja xs)(hl:xs.length<=65536)(hne:xs≠[]):(lK xs s mode).2=0:=by
 by_cases hV:vS xs=0
 · unfold lK;rw[if_neg hne,if_pos hV]
 · obtain⟨k,hk,hb⟩:=Ar hW hl;unfold lK;rw[if_neg hne,if_neg hV];exact X6 hm hV k hk hb (wH.2 hne) hl
theorem aac{xs:List Nat}(hW:ja xs)(hf:∀ x ∈ xs,aY x)(hl:xs.length<=65536):(sS xs).n=0/\(sS xs).u=0/\(sS xs).d=0:=by
 obtain⟨b1,b2,b3,b4,b5⟩:=Gi hW hl;rw[Sm hW hf] at b5;omega
theorem JC{xs:List Nat}(hW:ja xs)(hf:∀ x ∈ xs,aY x)(hl:xs.length<=65536):yV xs=0:=by
 obtain⟨h1,h2,h3⟩:=aac hW hf hl;unfold yV;rw[if_neg (by omega),if_neg (by omega)]
theorem TT{x y:Nat}{mode:Int}(hx:x<18446744073709551616)(hy:y<18446744073709551616)(fx:aY x)(fy:aY y)(hm0:0<=mode)(pU:mode<=4):(oL x y mode).2=0:=by
 have hW2:ja [x,y]:=fun a ha=>by
  rcases uP.1 ha with rfl|ha
  · exact hx
  · rw[zw.1 ha];exact hy
 have hf2:∀ a ∈ [x,y],aY a:=fun a ha=>by
  rcases uP.1 ha with rfl|ha
  · exact fx
  · rw[zw.1 ha];exact fy
 have ha:nG mode=0:=by unfold nG;rw[if_neg (by omega)]
 have hp:=JC hW2 hf2 (by simp);unfold oL Sv;rw[if_pos ha,if_pos hp];exact aab ha hW2 (by simp) (by simp)
theorem vJ(xs:List Nat)(ao:Option Addr)(n cap:Nat)(num den rule mode:Int)(w:World)(hF:Fs w.heap.size w ao xs)(hn:n=xs.length)(hc:n<=cap)(hb:n<=17592186044416)(hW:ja xs) :
 Calls Tryz.prog 9 #[.slice ao n cap,.int .i64 num,.int .i64 den,.int .i64 rule,.int .i64 mode] w fun r w'=>r=.returned (.tuple #[.float .f64 (Ug xs num den rule mode).1,.int .i64 (Ug xs num den rule mode).2])/\Below w.heap.size w w' :=
 Gq xs ao n cap num den rule mode w hF hn hc hb hW
  (fun h0 h4 x y u hx hy fx fy=>by
   have:=O0 x y hx hy mode u _ rfl;rw[TT hx hy fx fy h0 h4] at this
   exact this)
  (fun h0 h4 dn h1 h2 x y m u hx hy fx fy hm=>Xt x y m dn mode hx fx hy fy hm h1 h2 h0 h4 u) _ rfl
end
section
open Go Go.RowKit J
open Go.Proofs.YtjppdacikihpdaaGreatDoor.B (aM aF)
attribute [local go_sem] bR aM aF
abbrev TU:List Nat:=[4621819117588971520,4630826316843712512,4626322717216342016,4629137466983448576]
theorem aad(w:World)(hT:gF w):Calls Tryz.prog 5 #[] w fun r w'=>r=.returned (.bool true)/\Below w.heap.size w w':=by
 have o1:(FloatKind.f64.format.order 4625619029774565376 4625619029774565376==some .eq)=true:=by decide +kernel
 have o2:(FloatKind.f64.format.order 4627730092099895296 4627730092099895296==some .eq)=true:=by decide +kernel
 obtain⟨W1,hW1⟩:=af (w.alloc (Obj.cells #[.float .f64 4621819117588971520,.float .f64 4630826316843712512,.float .f64 4626322717216342016,.float .f64 4629137466983448576] 27));obtain⟨g,hg⟩:=af (w.heap.size)
 have B1:Aside (Below w.heap.size w W1/\Fs W1.heap.size W1 (some ⟨g,0,none⟩) TU):=by
  rw[hW1];exact⟨ax _ _,lit13 w [_,_,_,_] _ hg⟩
 have hW:ja TU:=by unfold ja;decide
 have HT:=(aZ hT hW);have C1:=hid (yP TU (some ⟨g,0,none⟩) 4 4 1 4 4 0 W1 (hT.belows B1.o.1) B1.o.2 rfl (by decide) hW _ qu16);have HW1:=(aZ hW1 hg);clear hW1 hT hg hW;go_enter Tryz.func5,Tryz.ntmps5;go_wp2_with fail;rw[<-HW1.o.1,<-HW1.o.2];clear HW1;refine C1.o.mono ?_;rintro r u1 ⟨rfl,hb1⟩;have B2:Aside (Below w.heap.size w u1/\Fs u1.heap.size u1 (some ⟨g,0,none⟩) TU):=⟨B1.o.1.trans (hb1.mono B1.o.1.size),(B1.o.2.below hb1).mono hb1.size⟩;clear hb1 C1 B1;have C2:=hid (Xm TU 4626322717216342016 (some ⟨g,0,none⟩) 4 4 u1 (by decide) B2.o.2 rfl (by decide) HT.o.2);rw[show yY TU (rO 4626322717216342016)=0 by decide +kernel,if_pos rfl,if_pos rfl,show yT TU 4626322717216342016=2 from ct16,show TU.length=4 from rfl] at C2;go_wp2_with fail;refine C2.o.mono ?_;rintro r u2 ⟨rfl,hb2⟩;have B3:Aside (Below w.heap.size w u2/\Fs u2.heap.size u2 (some ⟨g,0,none⟩) TU):=⟨B2.o.1.trans (hb2.mono B2.o.1.size),(B2.o.2.below hb2).mono hb2.size⟩;clear hb2 C2 B2;have C3:=hid (Dg TU (some ⟨g,0,none⟩) 4 4 2 3 0 u2 (HT.o.1.belows B3.o.1) B3.o.2 rfl HT.o.2 (by decide) (by decide) (by decide) am16);go_wp2_with fail;refine C3.o.mono ?_;rintro r u3 ⟨gs,rfl,hO,hg,hb3⟩;have B4:=ah (B3.o.1.trans (hb3.mono B3.o.1.size));have c1:=hO.cell 1 (by rw[A8 _ _ _ _ _ (by decide)];decide);rw[show(jN TU 2 3 0 (2+1)).getD 1 0=4627730092099895296 from sv16] at c1;clear hb3 C3 B3 hO hg;simp only;go_wp2;go_ret;exact⟨rfl,B4.o⟩
theorem Xu(x y:Nat)(w:World):Calls Tryz.prog 10 #[.float .f64 x,.float .f64 y] w fun r w'=>r=.returned (.bool (decide (x=y)))/\w'=w:=by
 go_enter Tryz.func10,Tryz.ntmps10;go_wp2;go_ret;refine⟨congrArg (fun z=>Ending.returned (Value.bool z)) ?_,rfl⟩
 first | rfl | (rw[wE];simp;done) | (rw[wE];simp;omega)
end
section
open Go Go.RowKit J
theorem TV{w:World}{g:Nat}{xs:List Nat}(h:eG w g (xs++List.replicate 8 jM)):Fs w.heap.size w (some ⟨g,0,none⟩) xs:=by
 have:=h.fs h.lt xs.length;rw[show(xs++List.replicate 8 jM).take xs.length=xs by simp] at this;exact this
abbrev TW(u:World)(g:Nat)(num den rule mode:Int):Prop:=Bl u g 24 [.int .i64 num,.int .i64 den,.int .i64 rule,.int .i64 mode]
set_option maxRecDepth 100000 in
theorem vL(a:Option Addr)(n c:Nat)(xs:List Nat)(num den rule mode:Int)(w:World)(hT:gF w)(hC:XU w a n c xs)(hm:n<=17592186043904) :
 Calls Tryz.prog 3 #[.slice a n c,.agg #[.int .i64 num,.int .i64 den,.int .i64 rule,.int .i64 mode]] w fun r w'=>r=.returned (.bool true)/\Below w.heap.size w w':=by
 obtain⟨hl1,hnc,hW1,hF1,_⟩:=hC;have up:∀ u:World,Below w.heap.size w u->Fs u.heap.size u a xs/\gF u/\Fs w.heap.size u a xs:=fun u hb=>⟨(hF1.below hb).mono hb.size,hT.belows hb,hF1.below hb⟩;obtain⟨e1,h1⟩:∃ r:Nat,r=(Ug xs num den rule mode).1:=⟨_,rfl⟩;obtain⟨e3,h3⟩:∃ r:Int,r=(Ug xs num den rule mode).2:=⟨_,rfl⟩;have HA:=hid (fun(u:World) (hb:Below w.heap.size w u)=>aad u (up u hb).2.1);have HL:=hid (fun(u:World) (hb:Below w.heap.size w u)=>WO xs a n c u.heap.size u hl1 hm (up u hb).1 (ak _))
 have HE:Hid (∀ (u:World) (g:Nat),Below w.heap.size w u->eG u g (xs++List.replicate 8 jM)->Calls Tryz.prog 7 #[.slice (some ⟨g,0,none⟩) n (n+8),.int .i64 num,.int .i64 den,.int .i64 rule,.int .i64 mode] u fun r w'=>r=.returned (.tuple #[.float .f64 e1,.int .i64 e3])/\Below u.heap.size u w'):=fun u g hb ho=>by
  rw[h1,h3];exact yP xs (some ⟨g,0,none⟩) n (n+8) num den rule mode u (up u hb).2.1 (TV ho) hl1 (by omega) hW1 _ rfl
 have HK:=hid (fun(u:World) (g:Nat) (hb:Below w.heap.size w u) (ho:eG u g (xs++List.replicate 8 jM))=>OE xs a n c u.heap.size g u hl1 hm (up u hb).1 (ak _) ho)
 have HQ:Hid (∀ u:World,Below w.heap.size w u->Calls Tryz.prog 9 #[.slice a n c,.int .i64 num,.int .i64 den,.int .i64 rule,.int .i64 mode] u fun r w'=>r=.returned (.tuple #[.float .f64 e1,.int .i64 e3])/\Below u.heap.size u w'):=fun u hb=>by
  rw[h1,h3];exact vJ xs a n c num den rule mode u (up u hb).1 hl1 (by omega) (by omega) hW1
 obtain⟨W,um⟩:=af (w.alloc (.cells #[.int .i64 num,.int .i64 den,.int .i64 rule,.int .i64 mode] 24));obtain⟨k,hk⟩:=af (w.heap.size)
 have B0:Aside (Below w.heap.size w W/\TW W k num den rule mode):=by
  rw[um,hk];exact⟨ae _ _,Bl.new w 24 [_,_,_,_]⟩
 have HW:=(aZ um hk);clear hl1 hW1 hF1 up h1 h3 hT hm hnc um hk;go_enter Tryz.func3,Tryz.ntmps3;go_wp2_with fail;rw[<-HW.o.1,<-HW.o.2];clear HW;refine(HA.o _ B0.o.1).mono ?_;rintro r u1 ⟨rfl,hb⟩;have B1:Aside (Below w.heap.size w u1/\TW u1 k num den rule mode):=⟨B0.o.1.trans (hb.mono B0.o.1.size),B0.o.2.below hb B0.o.2.lt⟩;clear hb HA B0;go_wp2_with fail;refine(HL.o _ B1.o.1).mono ?_;rintro r u2 ⟨rfl,ho,hb⟩;obtain⟨g,hg⟩:=af (u1.heap.size);rw[<-hg] at ho |-;have B2:Aside (Below w.heap.size w u2/\eG u2 g (xs++List.replicate 8 jM)/\TW u2 k num den rule mode):=⟨B1.o.1.trans (hb.mono B1.o.1.size),ho,B1.o.2.below hb B1.o.2.lt⟩;clear hb ho hg B1 HL;have c0:=B2.o.r2.cell 0 _ rfl;have c1:=B2.o.r2.cell 1 _ rfl;have c2:=B2.o.r2.cell 2 _ rfl;have c3:=B2.o.r2.cell 3 _ rfl;go_wp2_with fail;clear c0 c1 c2 c3;refine(HE.o _ g B2.o.1 B2.o.2.1).mono ?_;rintro r u3 ⟨rfl,hb⟩;have B3:Aside (Below w.heap.size w u3/\eG u3 g (xs++List.replicate 8 jM)/\TW u3 k num den rule mode):=⟨B2.o.1.trans (hb.mono B2.o.1.size),B2.o.2.1.below hb B2.o.2.1.lt,B2.o.r2.below hb B2.o.r2.lt⟩;clear hb B2 HE;go_wp2_with fail;refine(HK.o _ g B3.o.1 B3.o.2.1).mono ?_;rintro r u4 ⟨rfl,hb⟩;have B4:Aside (Below w.heap.size w u4/\TW u4 k num den rule mode):=⟨B3.o.1.trans (hb.mono B3.o.1.size),B3.o.r2.below hb B3.o.r2.lt⟩;clear hb B3 HK;have c0:=B4.o.2.cell 0 _ rfl;have c1:=B4.o.2.cell 1 _ rfl;have c2:=B4.o.2.cell 2 _ rfl;have c3:=B4.o.2.cell 3 _ rfl;go_wp2_with fail;clear c0 c1 c2 c3;refine(HQ.o _ B4.o.1).mono ?_;rintro r u5 ⟨rfl,hb⟩;have B5:=ah (B4.o.1.trans (hb.mono B4.o.1.size));have HX:=hid (Xu e1 e1 u5);clear hb B4 HQ;have k3:(e3==e3)=true:=by simp
 go_wp2_with fail;refine HX.o.mono ?_;rintro r u6 ⟨rfl,hu⟩;rw[hu];clear hu HX;go_wp2;go_ret;exact⟨by simp,B5.o⟩
end
section
open Go.ChangeShapes Go.WideShapes Go.ChangeAt Go.RowKit
theorem qg{H:Type}{enc:TypeId×Value->H}{W:World}{k:Nat}{c:Value}{x:Option (DataW H×List MemPlace)}{y:DataW H×List MemPlace}(h:DataW.trod enc Tryz.prog W 0 (fun _=>true) true k 3 [c]=x)(hx:x=some y):∃ n:Int,c=.int .i64 n/\y.1=.lit (.int .i64 n)/\-9223372036854775808<=n/\n<=9223372036854775807:=by
 subst hx;obtain⟨e,e2,rfl,hw⟩:=DataW.trod_int Tryz.underlying3 h
 cases e2
 have hw':-9223372036854775808<=e/\e<=9223372036854775807:=by
  simp[Lit.wf,IntKind.min,IntKind.max,IntKind.signed,IntKind.bits] at hw;omega
 exact⟨e,rfl,rfl,hw'.1,hw'.2⟩
theorem TY{H:Type}{enc:TypeId×Value->H}{W:World}{r:Reach}{b0:Nat}{v:Value}{d:DataW H}{p:List MemPlace}(hv:Value.okWide Tryz.prog W r b0 24 v)(h:DataW.Trod enc Tryz.prog W 0 (fun _=>true) true 24 v d p) :
 ∃ a b c e:Int,v=.agg #[.int .i64 a,.int .i64 b,.int .i64 c,.int .i64 e]:=by
 obtain⟨cs,rfl,hsz⟩:=okWide_struct Tryz.underlying24 hv;obtain⟨fuel,hf⟩:=h;have hC:Tryz.prog.cellsOf 24=4:=by kernel_rfl
 have c3:Tryz.prog.cellsOf 3=1:=by kernel_rfl
 obtain⟨xs,k,rfl,hx,hl,hxl,hfs⟩:=DataW.trod_struct Tryz.underlying24 hf;rw[hC] at hsz
 obtain⟨c0,c1,c2,c4,rfl⟩:∃ c0 c1 c2 c3,cs=#[c0,c1,c2,c3]:=by
  obtain⟨l⟩:=cs
  match l,hsz with
  | [a,b,c,e],_=>exact⟨a,b,c,e,rfl⟩
 have h0:DataW.trod enc Tryz.prog W 0 (fun _=>true) true k 3 (List.take (Tryz.prog.cellsOf 3) (List.drop 0 [c0,c1,c2,c4]))=xs[0]?:=hfs 0 _ rfl;have h1:DataW.trod enc Tryz.prog W 0 (fun _=>true) true k 3 (List.take (Tryz.prog.cellsOf 3) (List.drop 1 [c0,c1,c2,c4]))=xs[1]?:=hfs 1 _ rfl;have h2:DataW.trod enc Tryz.prog W 0 (fun _=>true) true k 3 (List.take (Tryz.prog.cellsOf 3) (List.drop 2 [c0,c1,c2,c4]))=xs[2]?:=hfs 2 _ rfl;have h3:DataW.trod enc Tryz.prog W 0 (fun _=>true) true k 3 (List.take (Tryz.prog.cellsOf 3) (List.drop 3 [c0,c1,c2,c4]))=xs[3]?:=hfs 3 _ rfl;rw[c3] at h0 h1 h2 h3
 match xs,hxl with
 | [x0,x1,x2,x3],_ =>
   obtain⟨a,rfl,_⟩:=qg (c:=c0) h0 rfl;obtain⟨b,rfl,_⟩:=qg (c:=c1) h1 rfl;obtain⟨c,rfl,_⟩:=qg (c:=c2) h2 rfl;obtain⟨e,rfl,_⟩:=qg (c:=c4) h3 rfl;exact⟨a,b,c,e,rfl⟩
end
end Go.Proofs.YtjppdacikihpdaaGreatDoor
