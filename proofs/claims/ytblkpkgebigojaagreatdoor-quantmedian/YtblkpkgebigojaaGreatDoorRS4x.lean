import Derived.Test.YtblkpkgebigojaaGreatDoorQR0x
import Derived.Test.YtblkpkgebigojaaGreatDoorM1x
import Derived.Lib.Strings
import Derived.Lib.Slices
import Derived.Lib.Small
import Derived.Lib.Walk
import Derived.Lib.BitFns
import Derived.Lib.Tables
import Derived.Lib.ItoaNum
import Derived.Lib.TrailingZeros
set_option linter.unusedVariables false
set_option linter.unusedSimpArgs false
set_option maxHeartbeats 16000000
set_option maxRecDepth 20000
namespace Go.Proofs.YtblkpkgebigojaaGreatDoor
namespace J
end J
section
open Go.RowKit J
theorem not_iff15 {b:Bool}{p:Prop}(h:b=true↔p):(!b)=true↔¬ p:=by
 cases b <;> simp_all
theorem and_iff15 {b:Bool}{g p:Prop}(hg:g) (h:b=true↔p):b=true↔(g∧p):=h.trans ⟨fun e=>⟨hg,e⟩,fun e=>e.2⟩
theorem and_no15 {g p:Prop}(hg:¬ g):false=true↔(g∧p):=⟨fun e=>absurd e (by decide),fun e=>absurd e.1 hg⟩
theorem heap15 (K:Nat→Nat) (n g N a b cap:Nat) (L:List Nat) (recv:Value) (w:World) (hS:Sx15 n g N w w (fun M=>M=L)) (hC:Cmp15 K n g recv w) (hab:a<b) (hb:b≤N) (hbig:N<1152921504606846976) :
 Calls Tryz.prog 193 #[.slice (some ⟨g,0,none⟩) N cap,.int .i64 (a:Nat),.int .i64 (b:Nat),.func (.func 108) #[recv] #[]] w fun r w'=>r=.returned (.tuple #[])∧Sx15 n g N w w' (fun M=>Pm a b L M∧Up K a b M):=by
 obtain ⟨m,hm⟩:∃ m,m=b-a:=⟨_,rfl⟩;obtain ⟨m1,hm1⟩:∃ m1,m1=m-1:=⟨_,rfl⟩;obtain ⟨q0,hq0⟩:∃ q0,q0=m1/2:=⟨_,rfl⟩;have HC:=qsd hC
 have HA:Aside (Sx15 n g N w w (fun M=>Pm a b L M∧Hp K a (q0+1) m M)):=(hS.imp (fun M _ e=>by
  subst e;exact ⟨Pm.refl _ _ _,fun c c1 c2 c3=>by omega⟩):Sx15 n g N w w _)
 have w1:IntKind.i64.wrap ((b:Int)-(a:Int))=(m:Int):=wrapZ (by omega) (by omega)
 have w2:IntKind.i64.wrap ((m:Int)-1)=(m1:Int):=wrapZ (by omega) (by omega)
 have w3:Int.tdiv (m1:Int) 2=(q0:Int):=by rw [hq0];rfl
 have w4:IntKind.i64.wrap (q0:Int)=(q0:Int):=wrapZ rfl (by omega)
 have HQ:=(qsd (ai hm (ai hm1 hq0)));clear hm hm1 hq0 hS hC;go_enter Tryz.func193,Tryz.ntmps193;go_wp2
 go_loopg [11] (q0+1) (fun gk iv wr=>∃ t:Nat,gk=t∧t≤q0+1∧iv=.int .i64 ((t:Int)-1)∧Aside (Sx15 n g N w wr (fun M=>Pm a b L M∧Hp K a t m M)))
 case atStart=>exact ⟨q0+1,rfl,Nat.le_refl _,by simp,HA.out⟩
 case round =>
  clear HA;obtain ⟨t,hgk,htq,hiv,HA⟩:=hrel
  rcases Nat.eq_zero_or_pos t with h0|h0
  · subst h0
    have hd:decide ((0:Int)≤-1)=false:=by decide
    rw [show ((0:Nat):Int)-1=-1 by rfl] at hiv
    subst hiv;replace HA:Aside (Sx15 n g N w wr (fun M=>Pm a b L M∧H2 K a m m M)):=(HA.out.imp (fun M _ q=>⟨q.1,H2.start q.2⟩):Sx15 n g N w wr _)
    go_wp2
    go_loopg [12] m (fun gk iv wr=>∃ t:Nat,gk=t∧t≤m∧iv=.int .i64 ((t:Int)-1)∧Aside (Sx15 n g N w wr (fun M=>Pm a b L M∧H2 K a m t M)))
    case atStart=>exact ⟨m,rfl,Nat.le_refl _,by have:=HQ.out;simp;omega,HA.out⟩
    case round =>
     clear HA;obtain ⟨t,hgk2,htm,hiv,HA⟩:=hrel
     rcases Nat.eq_zero_or_pos t with h1|h1
     · subst h1
       rw [show ((0:Nat):Int)-1=-1 by rfl] at hiv
       subst hiv;go_wp2;refine bodyPost_end (v:=.tuple #[]) (by simp [results,Tryz.results193,go_sem]) rfl ?_
       refine ⟨rfl,HA.out.imp (fun M _ q=>⟨q.1,?_⟩)⟩
       have:=q.2.done;rw [show a+m=b by have:=HQ.out;omega] at this
       exact this
     · obtain ⟨s,hs⟩:∃ s,s=t-1:=⟨_,rfl⟩
       obtain ⟨p,hp⟩:∃ p,p=a+s:=⟨_,rfl⟩;rw [show (t:Int)-1=(s:Int) by omega] at hiv
       subst hiv;have hd:decide ((0:Int)≤(s:Int))=true:=by simp
       have w5:IntKind.i64.wrap ((a:Int)+(s:Int))=(p:Int):=wrapZ (by omega) (by have:=HQ.out;omega)
       have w6:IntKind.i64.wrap ((s:Int)-1)=(s:Int)-1:=by
        have:=HQ.out;simp [IntKind.wrap,IntKind.bits,IntKind.signed];omega
       have b1:(a:Int)<(N:Int):=by omega
       have b2:(p:Int)<(N:Int):=by have:=HQ.out;omega
       have b3:a<N:=by omega
       have b4:p<N:=by have:=HQ.out;omega
       have HT:=(qsd (ai hs (ai hp (ai htm (ai h1 hgk2)))));clear hs hp htm h1 hgk2 hgk htq
       go_upto_region 10 with fail
       go_cut [8] from 36 to 53 (fun v wx=>v=.int .i64 (a:Nat)∧Aside (Sx15 n g N w wx (fun M=>∃ M0,(fun M=>Pm a b L M∧H2 K a m t M) M0∧M0.length=N∧M=sw M0 a p)))
       case first =>
        obtain ⟨x,y,c1',c2',z1,z2,HF0⟩:=HA.out.swap a p (by omega) (by omega)
        have HF:=qsd HF0;clear HA HF0
        by_cases hse:a=p
        · subst hse
          have hxy:x=y:=by
           have h2:(x:Int)=(y:Int):=by (have:=c1'.symm.trans c2';simpa using this)
           omega
          subst hxy;clear c2' z2
          go_region
          all_goals
           go_wp2_with fail
           go_meet
           case rel=>exact ⟨rfl,HF.out _ (by first | exact .inl rfl | exact .inr rfl)⟩
        · have hse':p≠a:=fun e=>hse e.symm
          go_region
          all_goals
           go_wp2_with fail
           go_meet
           case rel=>exact ⟨rfl,HF.out _ (by first | exact .inl rfl | exact .inr rfl)⟩
       clear HA;obtain ⟨rfl,HA⟩:=hcut;obtain ⟨W1,hW⟩:∃ W,W=wc:=⟨_,rfl⟩;subst hW;obtain ⟨L1,s1,s2,s3,s4⟩:=HA.out.use
       have C:=hid (siftX K n g N a 0 s cap L1 recv W1 s3 (HC.out.at s4) (by have:=HQ.out;have:=HT.out;omega) (by omega) hbig (by
        obtain ⟨M0,k1,k2,rfl⟩:=s1;obtain ⟨hs,hp,htm,h1,_⟩:=HT.out;have:=HQ.out;have e:=k1.2;rw [show t=s+1 by omega] at e
        rw [hp];exact e.mid (by omega)))
       have HF:Aside (∀ v,Sx15 n g N W1 v (fun M=>Pm (a+0) (a+s) L1 M∧Hp K a 0 s M)→Sx15 n g N w v (fun M=>Pm a b L M∧H2 K a m s M)):=fun v hv=>(hv.re s4).imp (fun M _ q=>by
        obtain ⟨M0,k1,k2,rfl⟩:=s1;obtain ⟨hs,hp,htm,h1,_⟩:=HT.out;have:=HQ.out;have e:=k1.2;rw [show t=s+1 by omega] at e
        have q1:=q.1;rw [hp,Nat.add_zero] at q1;exact ⟨(k1.1.trans (Pm.swap (by omega) (by omega) (by omega) (by omega) (by omega))).trans (q1.mono (by omega) (by omega)),e.step (by omega) q1 q.2⟩)
       clear HA s1 s2 s3 s4
       go_wp2_with fail
       refine C.out.mono ?_;rintro r v ⟨rfl,hv⟩;have HA:=qsd (HF.out v hv);clear C HF hv;go_wp2
       go_roundg s
       case measure=>have:=HT.out;omega
       case rel=>exact ⟨s,rfl,by have:=HT.out;omega,by first | rfl | simp,HA.out⟩
  · obtain ⟨s,hs⟩:∃ s,s=t-1:=⟨_,rfl⟩
    rw [show (t:Int)-1=(s:Int) by omega] at hiv
    subst hiv;have hd:decide ((0:Int)≤(s:Int))=true:=by simp
    have w6:IntKind.i64.wrap ((s:Int)-1)=(s:Int)-1:=by
     have:=HQ.out;simp [IntKind.wrap,IntKind.bits,IntKind.signed];omega
    obtain ⟨L1,s1,s2,s3,s4⟩:=HA.out.use
    have C:=hid (siftX K n g N a s m cap L1 recv wr s3 (HC.out.at s4) (by have:=HQ.out;omega) (by have:=HQ.out;omega) hbig (by
     have e:=s1.2;rw [show t=s+1 by omega] at e
     exact e))
    have HF:Aside (∀ v,Sx15 n g N wr v (fun M=>Pm (a+s) (a+m) L1 M∧Hp K a s m M)→Sx15 n g N w v (fun M=>Pm a b L M∧Hp K a s m M)):=fun v hv=>(hv.re s4).imp (fun M _ q=>⟨s1.1.trans (q.1.mono (by omega) (by have:=HQ.out;omega)),q.2⟩)
    have HT:=(qsd (ai hs (ai htq (ai h0 hgk))));clear HA s1 s2 s3 s4 hs htq h0 hgk
    go_wp2_with fail
    refine C.out.mono ?_;rintro r v ⟨rfl,hv⟩;have HA:=qsd (HF.out v hv);clear C HF hv;go_wp2
    go_roundg s
    case measure=>have:=HT.out;omega
    case rel=>exact ⟨s,rfl,by have:=HT.out;omega,by first | rfl | simp,HA.out⟩
end
section
open Go.RowKit J
theorem partition15 (K:Nat→Nat) (n g N a b pv cap:Nat) (L:List Nat) (recv:Value) (w:World) (hS:Sx15 n g N w w (fun M=>M=L)) (hC:Cmp15 K n g recv w) (hab:a+1<b) (hb:b≤N) (hp1:a≤pv) (hp2:pv<b) (hbig:N<1152921504606846976) :
 Calls Tryz.prog 199 #[.slice (some ⟨g,0,none⟩) N cap,.int .i64 (a:Nat),.int .i64 (b:Nat),.int .i64 (pv:Nat),.func (.func 108) #[recv] #[]] w fun r w'=>∃ (m:Nat) (t:Bool),r=.returned (.tuple #[.int .i64 (m:Nat),.bool t])∧a≤m∧m<b∧Sx15 n g N w w' (fun M=>Pm a b L M∧Prt K a b m M):=by
 obtain ⟨i0,hi0⟩:∃ x,x=a+1:=⟨_,rfl⟩;obtain ⟨j0,hj0⟩:∃ x,x=b-1:=⟨_,rfl⟩;obtain ⟨p0,hp0⟩:∃ x,x=ky K L pv:=⟨_,rfl⟩;have HC:=qsd hC;have HA:=qsd hS;have w1:IntKind.i64.wrap ((a:Int)+1)=(i0:Int):=wrapZ (by omega) (by omega)
 have w2:IntKind.i64.wrap ((b:Int)-1)=(j0:Int):=wrapZ (by omega) (by omega)
 have b1:(a:Int)<(N:Int):=by omega
 have b2:(pv:Int)<(N:Int):=by omega
 have b3:a<N:=by omega
 have b4:pv<N:=by omega
 have c1:a<i0:=by omega
 have c2:i0≤j0:=by omega
 have c3:j0<b:=by omega
 have HQ:=(qsd (ai hi0 (ai hj0 hp0)));clear hi0 hj0 hp0 hS hC;go_enter Tryz.func199,Tryz.ntmps199
 go_upto_region 1 with fail
 go_cut [1] from 14 to 27 (fun v wx=>v=.int .i64 (a:Nat)∧Aside (Sx15 n g N w wx (fun M=>∃ M0,(fun M=>M=L) M0∧M0.length=N∧M=sw M0 a pv)))
 case first =>
  obtain ⟨x,y,c1',c2',z1,z2,HF0⟩:=HA.out.swap a pv (by omega) (by omega)
  have HF:=qsd HF0;clear HA HF0
  by_cases hse:a=pv
  · subst hse
    have hxy:x=y:=by
     have h2:(x:Int)=(y:Int):=by (have:=c1'.symm.trans c2';simpa using this)
     omega
    subst hxy;clear c2' z2
    go_region
    all_goals
     go_wp2_with fail
     go_meet
     case rel=>exact ⟨rfl,HF.out _ (by first | exact .inl rfl | exact .inr rfl)⟩
  · have hse':pv≠a:=fun e=>hse e.symm
    go_region
    all_goals
     go_wp2_with fail
     go_meet
     case rel=>exact ⟨rfl,HF.out _ (by first | exact .inl rfl | exact .inr rfl)⟩
 clear HA;obtain ⟨rfl,HA⟩:=hcut;obtain ⟨W0,hW⟩:∃ W,W=wc:=⟨_,rfl⟩;subst hW
 replace HA:Aside (Sx15 n g N w W0 (fun M=>Pm a b L M∧Pt K a b i0 j0 p0 M)):=(HA.out.imp (fun M _ q=>by
  obtain ⟨M0,rfl,q2,rfl⟩:=q;obtain ⟨hi0,hj0,hp0⟩:=HQ.out;rw [hi0,hj0,hp0];exact ⟨Pm.swap (by omega) (by omega) (by omega) (by omega) (by omega),Pt.start (by omega) (by omega) hp1 hp2⟩):Sx15 n g N w W0 _)
 go_wp2
 go_loopg [12] (j0+1-i0) (fun gk iv wr=>∃ i:Nat,gk=j0+1-i∧a<i∧i0≤i∧i≤j0+1∧iv=.int .i64 (i:Nat)∧Aside (Sx15 n g N w wr (fun M=>Pm a b L M∧Pt K a b i j0 p0 M)))
 case atStart=>exact ⟨i0,rfl,by omega,by omega,by omega,by first | rfl | simp,HA.out⟩
 case round =>
  clear HA;obtain ⟨i,hgk,hai,hii,hij,rfl,HA⟩:=hrel;obtain ⟨i',hi'⟩:∃ x,x=i+1:=⟨_,rfl⟩;have wi:IntKind.i64.wrap ((i:Int)+1)=(i':Int):=wrapZ (by omega) (by omega)
  replace hi':=qsd hi'
  go_upto_region 3 with fail
  go_cut [47] from 32 to 46 (fun v wx=>∃ t:Bool,v=.bool t∧Aside (Sx15 n g N w wx (fun M=>(fun M=>Pm a b L M∧Pt K a b i j0 p0 M) M∧(t=true↔(i≤j0∧ky K M i<ky K M a)))))
  case first =>
   by_cases hgd:i≤j0
   · have hgdec:decide ((i:Int)≤(j0:Int))=true:=by simp;omega
     obtain ⟨x,y,z,c1',c2',C0,HF0⟩:=HA.out.cmpd HC.out i a (by omega) (by omega)
     have C:=hid C0;have HF:=qsd HF0;have kS:=qsd (ai c1' c2');clear HA C0 HF0 c1' c2';have bi:(i:Int)<(N:Int):=by omega
     have bi':i<N:=by omega
     go_region_held3 (fun w'=>w'.cell? ⟨g,i,none⟩=some (.int .i64 (x:Nat))∧w'.cell? ⟨g,a,none⟩=some (.int .i64 (y:Nat))) (with_reducible exact kS.out) (first
      | (go_at_call 108
         with_reducible refine C.out.mono ?_
         rintro r v ⟨rfl,hb⟩;have G:=qsd (HF.out v hb);have kS:Aside (v.cell? ⟨g,i,none⟩=some (.int .i64 (x:Nat))∧v.cell? ⟨g,a,none⟩=some (.int .i64 (y:Nat))):=⟨(hb.cell (p:=⟨g,i,none⟩) (lt_of_cell15 kS.out.1)).trans kS.out.1,(hb.cell (p:=⟨g,a,none⟩) (lt_of_cell15 kS.out.2)).trans kS.out.2⟩;clear hb))
     all_goals
      go_wp2_with fail
      go_meet
      case rel=>exact ⟨decide (z<0),rfl,G.out.imp (fun M _ q=>⟨q.1,and_iff15 hgd (q.2)⟩)⟩
   · have hgdec:decide ((i:Int)≤(j0:Int))=false:=by simp;omega
     have HD:=qsd (HA.out.drew);clear HA
     go_region
     all_goals
      go_wp2_with fail
      go_meet
      case rel=>exact ⟨false,rfl,HD.out.imp (fun M _ q=>⟨q,and_no15 hgd⟩)⟩
  clear HA;obtain ⟨t,rfl,HA⟩:=hcut;obtain ⟨WC,hW⟩:∃ W,W=wc:=⟨_,rfl⟩;subst hW
  cases t
  · replace HA:Aside (Sx15 n g N w WC (fun M=>Pm a b L M∧Pt K a b i j0 p0 M∧(i≤j0→ky K M a≤ky K M i))):=(HA.out.imp (fun M _ q=>⟨q.1.1,q.1.2,fun e=>Nat.le_of_not_lt (fun h=>absurd (q.2.2 ⟨e,h⟩) (by decide))⟩):Sx15 n g N w WC _)
    clear wi hi';go_wp2
    go_loopg [13] (j0+1-i) (fun gk jv wr=>∃ j:Nat,gk=j+1-i∧j≤j0∧i≤j+1∧jv=.int .i64 (j:Nat)∧Aside (Sx15 n g N w wr (fun M=>Pm a b L M∧Pt K a b i j p0 M∧(i≤j→ky K M a≤ky K M i))))
    case atStart=>exact ⟨j0,rfl,by omega,by omega,by first | rfl | simp,HA.out⟩
    case round =>
     clear HA;obtain ⟨j,hgk,hjj,hij,rfl,HA⟩:=hrel;have bj:(j:Int)<(N:Int):=by omega
     have bj':j<N:=by omega
     go_upto_region 5 with fail
     go_cut [66] from 50 to 65 (fun v wx=>∃ t:Bool,v=.bool t∧Aside (Sx15 n g N w wx (fun M=>(fun M=>Pm a b L M∧Pt K a b i j p0 M∧(i≤j→ky K M a≤ky K M i)) M∧(t=true↔(i≤j∧¬ ky K M j<ky K M a)))))
     case first =>
      by_cases hgd:i≤j
      · have hgdec:decide ((i:Int)≤(j:Int))=true:=by simp;omega
        obtain ⟨x,y,z,c1',c2',C0,HF0⟩:=HA.out.cmpd HC.out j a (by omega) (by omega)
        have C:=hid C0;have HF:=qsd HF0;have kS:=qsd (ai c1' c2');clear HA C0 HF0 c1' c2'
        go_region_held3 (fun w'=>w'.cell? ⟨g,j,none⟩=some (.int .i64 (x:Nat))∧w'.cell? ⟨g,a,none⟩=some (.int .i64 (y:Nat))) (with_reducible exact kS.out) (first
         | (go_at_call 108
            with_reducible refine C.out.mono ?_
            rintro r v ⟨rfl,hb⟩;have G:=qsd (HF.out v hb);have kS:Aside (v.cell? ⟨g,j,none⟩=some (.int .i64 (x:Nat))∧v.cell? ⟨g,a,none⟩=some (.int .i64 (y:Nat))):=⟨(hb.cell (p:=⟨g,j,none⟩) (lt_of_cell15 kS.out.1)).trans kS.out.1,(hb.cell (p:=⟨g,a,none⟩) (lt_of_cell15 kS.out.2)).trans kS.out.2⟩;clear hb))
        all_goals
         go_wp2_with fail
         go_meet
         case rel=>exact ⟨!decide (z<0),rfl,G.out.imp (fun M _ q=>⟨q.1,and_iff15 hgd (not_iff15 q.2)⟩)⟩
      · have hgdec:decide ((i:Int)≤(j:Int))=false:=by simp;omega
        have HD:=qsd (HA.out.drew);clear HA
        go_region
        all_goals
         go_wp2_with fail
         go_meet
         case rel=>exact ⟨false,rfl,HD.out.imp (fun M _ q=>⟨q,and_no15 hgd⟩)⟩
     clear HA;obtain ⟨t,rfl,HA⟩:=hcut;obtain ⟨WC,hW⟩:∃ W,W=wc:=⟨_,rfl⟩;subst hW
     cases t
     · replace HA:Aside (Sx15 n g N w WC (fun M=>Pm a b L M∧Pt K a b i j p0 M∧(i≤j→ky K M a≤ky K M i)∧(i≤j→ky K M j<ky K M a))):=(HA.out.imp (fun M _ q=>⟨q.1.1,q.1.2.1,q.1.2.2,fun e=>Nat.lt_of_not_le (fun h=>absurd (q.2.2 ⟨e,Nat.not_lt.2 h⟩) (by decide))⟩):Sx15 n g N w WC _)
       by_cases hgt:i≤j
       · have hdg:decide ((j:Int)<(i:Int))=false:=by simp;omega
         go_upto_region 10 with fail
         go_cut [12] from 69 to 100 (fun v wx=>v=.int .i64 (i:Nat)∧Aside (Sx15 n g N w wx (fun M=>∃ M0,(fun M=>Pm a b L M∧Pt K a b i j p0 M∧(i≤j→ky K M a≤ky K M i)∧(i≤j→ky K M j<ky K M a)) M0∧M0.length=N∧M=sw M0 i j)))
         case first =>
          obtain ⟨x,y,c1',c2',z1,z2,HF0⟩:=HA.out.swap i j (by omega) (by omega)
          have HF:=qsd HF0;clear HA HF0;have bi:(i:Int)<(N:Int):=by omega
          have bi':i<N:=by omega
          by_cases hse:i=j
          · subst hse
            have hxy:x=y:=by
             have h2:(x:Int)=(y:Int):=by (have:=c1'.symm.trans c2';simpa using this)
             omega
            subst hxy;clear c2' z2
            go_region
            all_goals
             go_wp2_with fail
             go_meet
             case rel=>exact ⟨rfl,HF.out _ (by first | exact .inl rfl | exact .inr rfl)⟩
          · have hse':j≠i:=fun e=>hse e.symm
            go_region
            all_goals
             go_wp2_with fail
             go_meet
             case rel=>exact ⟨rfl,HF.out _ (by first | exact .inl rfl | exact .inr rfl)⟩
         clear HA;obtain ⟨rfl,HA⟩:=hcut;obtain ⟨W8,hW⟩:∃ W,W=wc:=⟨_,rfl⟩;subst hW;obtain ⟨i1,hi1⟩:∃ x,x=i+1:=⟨_,rfl⟩;obtain ⟨j1,hj1⟩:∃ x,x=j-1:=⟨_,rfl⟩;have wi1:IntKind.i64.wrap ((i:Int)+1)=(i1:Int):=wrapZ (by omega) (by omega)
         have wj1:IntKind.i64.wrap ((j:Int)-1)=(j1:Int):=wrapZ (by omega) (by omega)
         have hne9:i≠j:=by
          obtain ⟨_,_,_,_,_,M0,q1,q2,q3⟩:=HA.out;intro e;have e1:=q1.2.2.1 hgt;have e2:=q1.2.2.2 hgt;rw [e] at e1;omega
         replace HA:Aside (Sx15 n g N w W8 (fun M=>Pm a b L M∧Pt K a b i1 j1 p0 M)):=(HA.out.imp (fun M _ q=>by
          obtain ⟨M0,q1,q2,rfl⟩:=q;have:=q1.2.1.ai;have:=q1.2.1.jb;rw [hi1,hj1];exact ⟨q1.1.trans (Pm.swap (by omega) (by omega) (by omega) (by omega) (by omega)),q1.2.1.swap (by omega) hgt (q1.2.2.1 hgt) (q1.2.2.2 hgt)⟩):Sx15 n g N w W8 _)
         have d1:a<i1:=by omega
         have d2:i1≤j1+1:=by omega
         have d3:j1<b:=by omega
         have d4:j1+1-i1<j+1-i:=by omega
         have HE:=qsd (ai hi1 hj1);clear hi1 hj1;clear d4;go_wp2
         go_loopg [12,13] (j1+1-i1) (fun gk iv jv wr=>∃ i j:Nat,gk=j+1-i∧a<i∧i≤j+1∧j<b∧iv=.int .i64 (i:Nat)∧jv=.int .i64 (j:Nat)∧Aside (Sx15 n g N w wr (fun M=>Pm a b L M∧Pt K a b i j p0 M)))
         case atStart=>exact ⟨i1,j1,rfl,d1,d2,d3,by first | rfl | simp,by first | rfl | simp,HA.out⟩
         case round =>
          clear HA d1 d2 d3;obtain ⟨ui,vj,hgk9,d1,d2,d3,rfl,rfl,HA⟩:=hrel;go_wp2
          go_loopg [12] (vj+1-ui) (fun gk iv wr=>∃ i:Nat,gk=vj+1-i∧a<i∧ui≤i∧i≤vj+1∧iv=.int .i64 (i:Nat)∧Aside (Sx15 n g N w wr (fun M=>Pm a b L M∧Pt K a b i vj p0 M)))
          case atStart=>exact ⟨ui,rfl,by omega,by omega,by omega,by first | rfl | simp,HA.out⟩
          case round =>
           clear HA;obtain ⟨k,hgk,hai,hii,hij,rfl,HA⟩:=hrel;obtain ⟨k',hi'⟩:∃ x,x=k+1:=⟨_,rfl⟩;have wi:IntKind.i64.wrap ((k:Int)+1)=(k':Int):=wrapZ (by omega) (by omega)
           replace hi':=qsd hi'
           go_upto_region 13 with fail
           go_cut [120] from 105 to 119 (fun v wx=>∃ t:Bool,v=.bool t∧Aside (Sx15 n g N w wx (fun M=>(fun M=>Pm a b L M∧Pt K a b k vj p0 M) M∧(t=true↔(k≤vj∧ky K M k<ky K M a)))))
           case first =>
            by_cases hgd:k≤vj
            · have hgdec:decide ((k:Int)≤(vj:Int))=true:=by simp;omega
              obtain ⟨x,y,z,c1',c2',C0,HF0⟩:=HA.out.cmpd HC.out k a (by omega) (by omega)
              have C:=hid C0;have HF:=qsd HF0;have kS:=qsd (ai c1' c2');clear HA C0 HF0 c1' c2';have bi:(k:Int)<(N:Int):=by omega
              have bi':k<N:=by omega
              go_region_held3 (fun w'=>w'.cell? ⟨g,k,none⟩=some (.int .i64 (x:Nat))∧w'.cell? ⟨g,a,none⟩=some (.int .i64 (y:Nat))) (with_reducible exact kS.out) (first
               | (go_at_call 108
                  with_reducible refine C.out.mono ?_
                  rintro r v ⟨rfl,hb⟩;have G:=qsd (HF.out v hb);have kS:Aside (v.cell? ⟨g,k,none⟩=some (.int .i64 (x:Nat))∧v.cell? ⟨g,a,none⟩=some (.int .i64 (y:Nat))):=⟨(hb.cell (p:=⟨g,k,none⟩) (lt_of_cell15 kS.out.1)).trans kS.out.1,(hb.cell (p:=⟨g,a,none⟩) (lt_of_cell15 kS.out.2)).trans kS.out.2⟩;clear hb))
              all_goals
               go_wp2_with fail
               go_meet
               case rel=>exact ⟨decide (z<0),rfl,G.out.imp (fun M _ q=>⟨q.1,and_iff15 hgd (q.2)⟩)⟩
            · have hgdec:decide ((k:Int)≤(vj:Int))=false:=by simp;omega
              have HD:=qsd (HA.out.drew);clear HA
              go_region
              all_goals
               go_wp2_with fail
               go_meet
               case rel=>exact ⟨false,rfl,HD.out.imp (fun M _ q=>⟨q,and_no15 hgd⟩)⟩
           clear HA;obtain ⟨t,rfl,HA⟩:=hcut;obtain ⟨WC,hW⟩:∃ W,W=wc:=⟨_,rfl⟩;subst hW
           cases t
           · replace HA:Aside (Sx15 n g N w WC (fun M=>Pm a b L M∧Pt K a b k vj p0 M∧(k≤vj→ky K M a≤ky K M k))):=(HA.out.imp (fun M _ q=>⟨q.1.1,q.1.2,fun e=>Nat.le_of_not_lt (fun h=>absurd (q.2.2 ⟨e,h⟩) (by decide))⟩):Sx15 n g N w WC _)
             clear wi hi';go_wp2
             go_loopg [13] (vj+1-k) (fun gk jv wr=>∃ j:Nat,gk=j+1-k∧j≤vj∧k≤j+1∧jv=.int .i64 (j:Nat)∧Aside (Sx15 n g N w wr (fun M=>Pm a b L M∧Pt K a b k j p0 M∧(k≤j→ky K M a≤ky K M k))))
             case atStart=>exact ⟨vj,rfl,by omega,by omega,by first | rfl | simp,HA.out⟩
             case round =>
              clear HA;obtain ⟨l,hgk,hjj,hij,rfl,HA⟩:=hrel;have bj:(l:Int)<(N:Int):=by omega
              have bj':l<N:=by omega
              go_upto_region 15 with fail
              go_cut [139] from 123 to 138 (fun v wx=>∃ t:Bool,v=.bool t∧Aside (Sx15 n g N w wx (fun M=>(fun M=>Pm a b L M∧Pt K a b k l p0 M∧(k≤l→ky K M a≤ky K M k)) M∧(t=true↔(k≤l∧¬ ky K M l<ky K M a)))))
              case first =>
               by_cases hgd:k≤l
               · have hgdec:decide ((k:Int)≤(l:Int))=true:=by simp;omega
                 obtain ⟨x,y,z,c1',c2',C0,HF0⟩:=HA.out.cmpd HC.out l a (by omega) (by omega)
                 have C:=hid C0;have HF:=qsd HF0;have kS:=qsd (ai c1' c2');clear HA C0 HF0 c1' c2'
                 go_region_held3 (fun w'=>w'.cell? ⟨g,l,none⟩=some (.int .i64 (x:Nat))∧w'.cell? ⟨g,a,none⟩=some (.int .i64 (y:Nat))) (with_reducible exact kS.out) (first
                  | (go_at_call 108
                     with_reducible refine C.out.mono ?_
                     rintro r v ⟨rfl,hb⟩;have G:=qsd (HF.out v hb);have kS:Aside (v.cell? ⟨g,l,none⟩=some (.int .i64 (x:Nat))∧v.cell? ⟨g,a,none⟩=some (.int .i64 (y:Nat))):=⟨(hb.cell (p:=⟨g,l,none⟩) (lt_of_cell15 kS.out.1)).trans kS.out.1,(hb.cell (p:=⟨g,a,none⟩) (lt_of_cell15 kS.out.2)).trans kS.out.2⟩;clear hb))
                 all_goals
                  go_wp2_with fail
                  go_meet
                  case rel=>exact ⟨!decide (z<0),rfl,G.out.imp (fun M _ q=>⟨q.1,and_iff15 hgd (not_iff15 q.2)⟩)⟩
               · have hgdec:decide ((k:Int)≤(l:Int))=false:=by simp;omega
                 have HD:=qsd (HA.out.drew);clear HA
                 go_region
                 all_goals
                  go_wp2_with fail
                  go_meet
                  case rel=>exact ⟨false,rfl,HD.out.imp (fun M _ q=>⟨q,and_no15 hgd⟩)⟩
              clear HA;obtain ⟨t,rfl,HA⟩:=hcut;obtain ⟨WC,hW⟩:∃ W,W=wc:=⟨_,rfl⟩;subst hW
              cases t
              · replace HA:Aside (Sx15 n g N w WC (fun M=>Pm a b L M∧Pt K a b k l p0 M∧(k≤l→ky K M a≤ky K M k)∧(k≤l→ky K M l<ky K M a))):=(HA.out.imp (fun M _ q=>⟨q.1.1,q.1.2.1,q.1.2.2,fun e=>Nat.lt_of_not_le (fun h=>absurd (q.2.2 ⟨e,Nat.not_lt.2 h⟩) (by decide))⟩):Sx15 n g N w WC _)
                by_cases hgt:k≤l
                · have hdg:decide ((l:Int)<(k:Int))=false:=by simp;omega
                  go_upto_region 18 with fail
                  go_cut [12] from 142 to 158 (fun v wx=>v=.int .i64 (k:Nat)∧Aside (Sx15 n g N w wx (fun M=>∃ M0,(fun M=>Pm a b L M∧Pt K a b k l p0 M∧(k≤l→ky K M a≤ky K M k)∧(k≤l→ky K M l<ky K M a)) M0∧M0.length=N∧M=sw M0 k l)))
                  case first =>
                   obtain ⟨x,y,c1',c2',z1,z2,HF0⟩:=HA.out.swap k l (by omega) (by omega)
                   have HF:=qsd HF0;clear HA HF0;have bi:(k:Int)<(N:Int):=by omega
                   have bi':k<N:=by omega
                   by_cases hse:k=l
                   · subst hse
                     have hxy:x=y:=by
                      have h2:(x:Int)=(y:Int):=by (have:=c1'.symm.trans c2';simpa using this)
                      omega
                     subst hxy;clear c2' z2
                     go_region
                     all_goals
                      go_wp2_with fail
                      go_meet
                      case rel=>exact ⟨rfl,HF.out _ (by first | exact .inl rfl | exact .inr rfl)⟩
                   · have hse':l≠k:=fun e=>hse e.symm
                     go_region
                     all_goals
                      go_wp2_with fail
                      go_meet
                      case rel=>exact ⟨rfl,HF.out _ (by first | exact .inl rfl | exact .inr rfl)⟩
                  clear HA;obtain ⟨rfl,HA⟩:=hcut;obtain ⟨W8,hW⟩:∃ W,W=wc:=⟨_,rfl⟩;subst hW;obtain ⟨i1,hi1⟩:∃ x,x=k+1:=⟨_,rfl⟩;obtain ⟨j1,hj1⟩:∃ x,x=l-1:=⟨_,rfl⟩;have wi1:IntKind.i64.wrap ((k:Int)+1)=(i1:Int):=wrapZ (by omega) (by omega)
                  have wj1:IntKind.i64.wrap ((l:Int)-1)=(j1:Int):=wrapZ (by omega) (by omega)
                  have hne9:k≠l:=by
                   obtain ⟨_,_,_,_,_,M0,q1,q2,q3⟩:=HA.out;intro e;have e1:=q1.2.2.1 hgt;have e2:=q1.2.2.2 hgt;rw [e] at e1;omega
                  replace HA:Aside (Sx15 n g N w W8 (fun M=>Pm a b L M∧Pt K a b i1 j1 p0 M)):=(HA.out.imp (fun M _ q=>by
                   obtain ⟨M0,q1,q2,rfl⟩:=q;have:=q1.2.1.ai;have:=q1.2.1.jb;rw [hi1,hj1];exact ⟨q1.1.trans (Pm.swap (by omega) (by omega) (by omega) (by omega) (by omega)),q1.2.1.swap (by omega) hgt (q1.2.2.1 hgt) (q1.2.2.2 hgt)⟩):Sx15 n g N w W8 _)
                  have d1:a<i1:=by omega
                  have d2:i1≤j1+1:=by omega
                  have d3:j1<b:=by omega
                  have d4:j1+1-i1<l+1-k:=by omega
                  have HE:=qsd (ai hi1 hj1);clear hi1 hj1;go_wp2
                  go_roundg (j1+1-i1)
                  case measure=>omega
                  case rel=>exact ⟨i1,j1,rfl,d1,d2,d3,by first | rfl | simp,by first | rfl | simp,HA.out⟩
                · replace hgt:l<k:=by omega
                  have hdg:decide ((l:Int)<(k:Int))=true:=by simp;omega
                  go_upto_region 21 with fail
                  go_cut [13] from 142 to 176 (fun v wx=>v=.int .i64 (l:Nat)∧Aside (Sx15 n g N w wx (fun M=>∃ M0,(fun M=>Pm a b L M∧Pt K a b k l p0 M∧(k≤l→ky K M a≤ky K M k)∧(k≤l→ky K M l<ky K M a)) M0∧M0.length=N∧M=sw M0 l a)))
                  case first =>
                   obtain ⟨x,y,c1',c2',z1,z2,HF0⟩:=HA.out.swap l a (by omega) (by omega)
                   have HF:=qsd HF0;clear HA HF0
                   by_cases hse:l=a
                   · subst hse
                     have hxy:x=y:=by
                      have h2:(x:Int)=(y:Int):=by (have:=c1'.symm.trans c2';simpa using this)
                      omega
                     subst hxy;clear c2' z2
                     go_region
                     all_goals
                      go_wp2_with fail
                      go_meet
                      case rel=>exact ⟨rfl,HF.out _ (by first | exact .inl rfl | exact .inr rfl)⟩
                   · have hse':a≠l:=fun e=>hse e.symm
                     go_region
                     all_goals
                      go_wp2_with fail
                      go_meet
                      case rel=>exact ⟨rfl,HF.out _ (by first | exact .inl rfl | exact .inr rfl)⟩
                  clear HA;obtain ⟨rfl,HA⟩:=hcut;obtain ⟨W9,hW⟩:∃ W,W=wc:=⟨_,rfl⟩;subst hW
                  have HR:Aside (Sx15 n g N w W9 (fun M=>Pm a b L M∧Prt K a b l M)):=(HA.out.imp (fun M _ q=>by
                   obtain ⟨M0,q1,q2,rfl⟩:=q;have:=q1.2.1.ai;have:=q1.2.1.jb;have:=q1.2.1.ij;exact ⟨q1.1.trans (Pm.swap (by omega) (by omega) (by omega) (by omega) (by omega)),q1.2.1.done (by omega) hgt⟩):Sx15 n g N w W9 _)
                  have hm:Aside (a≤l∧l<b):=⟨by omega,by omega⟩
                  clear HA;go_wp2;refine bodyPost_ret (v:=.tuple #[.int .i64 (l:Nat),.bool false]) (by simp [results,Tryz.results199,go_sem]) rfl ?_
                  exact ⟨l,false,rfl,hm.out.1,hm.out.2,HR.out⟩
              · have hlt:k≤l:=by
                 obtain ⟨_,_,_,_,_,q⟩:=HA.out;exact (q.2.1 rfl).1
                obtain ⟨l',hj'⟩:∃ x,x=l-1:=⟨_,rfl⟩;have wj:IntKind.i64.wrap ((l:Int)-1)=(l':Int):=wrapZ (by omega) (by omega)
                replace hj':=qsd hj';replace HA:Aside (Sx15 n g N w WC (fun M=>Pm a b L M∧Pt K a b k l' p0 M∧(k≤l'→ky K M a≤ky K M k))):=(HA.out.imp (fun M _ q=>⟨q.1.1,by rw [hj'.out];exact q.1.2.1.left (q.2.1 rfl).1 (Nat.le_of_not_lt (q.2.1 rfl).2),fun e=>q.1.2.2 (by have:=hj'.out;omega)⟩):Sx15 n g N w WC _)
                go_wp2
                go_roundg (l'+1-k)
                case measure=>have:=hj'.out;omega
                case rel=>exact ⟨l',rfl,by have:=hj'.out;omega,by have:=hj'.out;omega,by first | rfl | simp,HA.out⟩
           · have hlt:k≤vj:=by
              obtain ⟨_,_,_,_,_,q⟩:=HA.out;exact (q.2.1 rfl).1
             replace HA:Aside (Sx15 n g N w WC (fun M=>Pm a b L M∧Pt K a b k' vj p0 M)):=(HA.out.imp (fun M _ q=>⟨q.1.1,by rw [hi'.out];exact q.1.2.right (q.2.1 rfl).1 (q.2.1 rfl).2⟩):Sx15 n g N w WC _)
             go_wp2
             go_roundg (vj+1-k')
             case measure=>have:=hi'.out;omega
             case rel=>exact ⟨k',rfl,by have:=hi'.out;omega,by have:=hi'.out;omega,by have:=hi'.out;omega,by first | rfl | simp,HA.out⟩
       · replace hgt:j<i:=by omega
         have hdg:decide ((j:Int)<(i:Int))=true:=by simp;omega
         go_upto_region 8 with fail
         go_cut [13] from 69 to 85 (fun v wx=>v=.int .i64 (j:Nat)∧Aside (Sx15 n g N w wx (fun M=>∃ M0,(fun M=>Pm a b L M∧Pt K a b i j p0 M∧(i≤j→ky K M a≤ky K M i)∧(i≤j→ky K M j<ky K M a)) M0∧M0.length=N∧M=sw M0 j a)))
         case first =>
          obtain ⟨x,y,c1',c2',z1,z2,HF0⟩:=HA.out.swap j a (by omega) (by omega)
          have HF:=qsd HF0;clear HA HF0
          by_cases hse:j=a
          · subst hse
            have hxy:x=y:=by
             have h2:(x:Int)=(y:Int):=by (have:=c1'.symm.trans c2';simpa using this)
             omega
            subst hxy;clear c2' z2
            go_region
            all_goals
             go_wp2_with fail
             go_meet
             case rel=>exact ⟨rfl,HF.out _ (by first | exact .inl rfl | exact .inr rfl)⟩
          · have hse':a≠j:=fun e=>hse e.symm
            go_region
            all_goals
             go_wp2_with fail
             go_meet
             case rel=>exact ⟨rfl,HF.out _ (by first | exact .inl rfl | exact .inr rfl)⟩
         clear HA;obtain ⟨rfl,HA⟩:=hcut;obtain ⟨W9,hW⟩:∃ W,W=wc:=⟨_,rfl⟩;subst hW
         have HR:Aside (Sx15 n g N w W9 (fun M=>Pm a b L M∧Prt K a b j M)):=(HA.out.imp (fun M _ q=>by
          obtain ⟨M0,q1,q2,rfl⟩:=q;have:=q1.2.1.ai;have:=q1.2.1.jb;have:=q1.2.1.ij;exact ⟨q1.1.trans (Pm.swap (by omega) (by omega) (by omega) (by omega) (by omega)),q1.2.1.done (by omega) hgt⟩):Sx15 n g N w W9 _)
         have hm:Aside (a≤j∧j<b):=⟨by omega,by omega⟩
         clear HA;go_wp2;refine bodyPost_ret (v:=.tuple #[.int .i64 (j:Nat),.bool true]) (by simp [results,Tryz.results199,go_sem]) rfl ?_
         exact ⟨j,true,rfl,hm.out.1,hm.out.2,HR.out⟩
     · have hlt:i≤j:=by
        obtain ⟨_,_,_,_,_,q⟩:=HA.out;exact (q.2.1 rfl).1
       obtain ⟨j',hj'⟩:∃ x,x=j-1:=⟨_,rfl⟩;have wj:IntKind.i64.wrap ((j:Int)-1)=(j':Int):=wrapZ (by omega) (by omega)
       replace hj':=qsd hj';replace HA:Aside (Sx15 n g N w WC (fun M=>Pm a b L M∧Pt K a b i j' p0 M∧(i≤j'→ky K M a≤ky K M i))):=(HA.out.imp (fun M _ q=>⟨q.1.1,by rw [hj'.out];exact q.1.2.1.left (q.2.1 rfl).1 (Nat.le_of_not_lt (q.2.1 rfl).2),fun e=>q.1.2.2 (by have:=hj'.out;omega)⟩):Sx15 n g N w WC _)
       go_wp2
       go_roundg (j'+1-i)
       case measure=>have:=hj'.out;omega
       case rel=>exact ⟨j',rfl,by have:=hj'.out;omega,by have:=hj'.out;omega,by first | rfl | simp,HA.out⟩
  · have hlt:i≤j0:=by
     obtain ⟨_,_,_,_,_,q⟩:=HA.out;exact (q.2.1 rfl).1
    replace HA:Aside (Sx15 n g N w WC (fun M=>Pm a b L M∧Pt K a b i' j0 p0 M)):=(HA.out.imp (fun M _ q=>⟨q.1.1,by rw [hi'.out];exact q.1.2.right (q.2.1 rfl).1 (q.2.1 rfl).2⟩):Sx15 n g N w WC _)
    go_wp2
    go_roundg (j0+1-i')
    case measure=>have:=hi'.out;omega
    case rel=>exact ⟨i',rfl,by have:=hi'.out;omega,by have:=hi'.out;omega,by have:=hi'.out;omega,by first | rfl | simp,HA.out⟩
end
section
open Go.RowKit J
theorem reverse15 (n g N a b cap:Nat) (L:List Nat) (recv:Value) (w:World) (hS:Sx15 n g N w w (fun M=>M=L)) (hab:a<b) (hb:b≤N) (hbig:N<1152921504606846976) :
 Calls Tryz.prog 196 #[.slice (some ⟨g,0,none⟩) N cap,.int .i64 (a:Nat),.int .i64 (b:Nat),.func (.func 108) #[recv] #[]] w fun r w'=>r=.returned (.tuple #[])∧Sx15 n g N w w' (fun M=>Pm a b L M):=by
 obtain ⟨j0,hj0⟩:∃ x,x=b-1:=⟨_,rfl⟩;have HA:Aside (Sx15 n g N w w (fun M=>Pm a b L M)):=(hS.imp (fun M _ e=>by subst e;exact Pm.refl _ _ _):Sx15 n g N w w _)
 have w2:IntKind.i64.wrap ((b:Int)-1)=(j0:Int):=wrapZ (by omega) (by omega)
 have c1:a≤j0+1:=by omega
 have c3:j0<b:=by omega
 have HQ:=qsd hj0;clear hj0 hS;go_enter Tryz.func196,Tryz.ntmps196;go_wp2
 go_loopg [8,9] (j0+1-a) (fun gk iv jv wr=>∃ i j:Nat,gk=j+1-i∧a≤i∧i≤j+1∧j<b∧iv=.int .i64 (i:Nat)∧jv=.int .i64 (j:Nat)∧Aside (Sx15 n g N w wr (fun M=>Pm a b L M)))
 case atStart=>exact ⟨a,j0,rfl,Nat.le_refl _,c1,c3,by first | rfl | simp,by first | rfl | simp,HA.out⟩
 case round =>
  clear HA;obtain ⟨i,j,hgk,d1,d2,d3,rfl,rfl,HA⟩:=hrel
  by_cases hij:i<j
  · have hd:decide ((i:Int)<(j:Int))=true:=by simp;omega
    obtain ⟨i1,hi1⟩:∃ x,x=i+1:=⟨_,rfl⟩;obtain ⟨j1,hj1⟩:∃ x,x=j-1:=⟨_,rfl⟩;have wi1:IntKind.i64.wrap ((i:Int)+1)=(i1:Int):=wrapZ (by omega) (by omega)
    have wj1:IntKind.i64.wrap ((j:Int)-1)=(j1:Int):=wrapZ (by omega) (by omega)
    have bi:(i:Int)<(N:Int):=by omega
    have bi':i<N:=by omega
    have bj:(j:Int)<(N:Int):=by omega
    have bj':j<N:=by omega
    have HE:=qsd (ai hi1 hj1);clear hi1 hj1
    go_upto_region 3 with fail
    go_cut [8] from 13 to 29 (fun v wx=>v=.int .i64 (i:Nat)∧Aside (Sx15 n g N w wx (fun M=>∃ M0,(fun M=>Pm a b L M) M0∧M0.length=N∧M=sw M0 i j)))
    case first =>
     obtain ⟨x,y,c1',c2',z1,z2,HF0⟩:=HA.out.swap i j (by omega) (by omega)
     have HF:=qsd HF0;clear HA HF0;have hse:i≠j:=by omega
     have hse':j≠i:=by omega
     go_region
     all_goals
      go_wp2_with fail
      go_meet
      case rel=>exact ⟨rfl,HF.out _ (by first | exact .inl rfl | exact .inr rfl)⟩
    clear HA;obtain ⟨rfl,HA⟩:=hcut;obtain ⟨W8,hW⟩:∃ W,W=wc:=⟨_,rfl⟩;subst hW
    replace HA:Aside (Sx15 n g N w W8 (fun M=>Pm a b L M)):=(HA.out.imp (fun M _ q=>by
     obtain ⟨M0,q1,q2,rfl⟩:=q;exact q1.trans (Pm.swap (by omega) (by omega) (by omega) (by omega) (by omega))):Sx15 n g N w W8 _)
    go_wp2
    go_roundg (j1+1-i1)
    case measure=>have:=HE.out;omega
    case rel=>exact ⟨i1,j1,rfl,by have:=HE.out;omega,by have:=HE.out;omega,by have:=HE.out;omega,by first | rfl | simp,by first | rfl | simp,HA.out⟩
  · have hd:decide ((i:Int)<(j:Int))=false:=by simp;omega
    go_wp2;refine bodyPost_end (v:=.tuple #[]) (by simp [results,Tryz.results196,go_sem]) rfl ?_
    exact ⟨rfl,HA.out⟩
def Sq15 (n g N q:Nat) (w wr:World) (L:List Nat):Prop:=Sx15 n g N w wr (fun M=>M=L)∧w.heap.size≤q∧∃ s:Int,wr.cell? ⟨q,0,none⟩=some (.int .i64 s)∧wr.frozen? ⟨q,0,none⟩=false
theorem Sq15.below {n g N q:Nat}{w wr v:World}{L:List Nat}(h:Sq15 n g N q w wr L) (hb:Below wr.heap.size wr v):Sq15 n g N q w v L:=by
 obtain ⟨h1,h2,s,h3,h4⟩:=h;refine ⟨h1.below hb,h2,s,(hb.cell (p:=⟨q,0,none⟩) (lt_of_cell15 h3)).trans h3,?_⟩;have:=hb.block q (lt_of_cell15 h3);unfold World.frozen? at h4 ⊢;simp only at h4 ⊢;rw [this];exact h4
theorem Sq15.set {n g N q:Nat}{w wr:World}{L:List Nat}(h:Sq15 n g N q w wr L) (s:Int) (hg:g<w.heap.size):Sq15 n g N q w (wr.setCell ⟨q,0,none⟩ (.int .i64 s)) L:=by
 obtain ⟨⟨M,o1,o2,o3,o4,o5⟩,h2,s0,h3,h4⟩:=h
 have hb:∀ k,k≠q→(wr.setCell ⟨q,0,none⟩ (.int .i64 s)).heap[k]?=wr.heap[k]?:=fun k hk=>by
  simp only [World.setCell,Array.getElem?_modify];rw [if_neg (fun e=>hk e.symm)]
 refine ⟨⟨M,by unfold OwnI;rw [hb g (by omega)];exact o1,o2,o3,⟨o4.os,o4.tape,o4.output,by simpa [World.setCell] using o4.size,fun k hk hkg=>by rw [hb k (by omega)];exact o4.block k hk hkg⟩,o5⟩,h2,s,?_,?_⟩
 · exact World.cell?_setCell_same _ _ _ h3
 · rw [World.frozen?_setCell];exact h4
theorem order2_15 (K:Nat→Nat) (n g N q a b cap:Nat) (L:List Nat) (recv:Value) (w0 w:World) (hS:Sq15 n g N q w0 w L) (hC:Cmp15 K n g recv w0) (hg:g<w0.heap.size) (ha:a<N) (hb:b<N) (hbig:N<1152921504606846976) :
 Calls Tryz.prog 234 #[.slice (some ⟨g,0,none⟩) N cap,.int .i64 (a:Nat),.int .i64 (b:Nat),.pointer (some ⟨q,0,none⟩),.func (.func 108) #[recv] #[]] w fun r w'=>∃ x y:Nat,r=.returned (.tuple #[.int .i64 (x:Nat),.int .i64 (y:Nat)])∧(x=a∧y=b∨x=b∧y=a)∧Sq15 n g N q w0 w' L:=by
 have b1:(a:Int)<(N:Int):=by omega
 have b2:(b:Int)<(N:Int):=by omega
 have HC:=qsd hC;have HA:=qsd hS;clear hS hC;go_enter Tryz.func234,Tryz.ntmps234
 go_upto_region 1 with fail
 go_cut [22] from 12 to 21 (fun v wx=>∃ t:Bool,v=.bool t∧Aside (Sq15 n g N q w0 wx L))
 case first =>
  obtain ⟨x,y,z,c1',c2',C0,_⟩:=HA.out.1.cmpd HC.out b a hb ha;have C:=hid C0;have HF:Aside (∀ v,Below w.drew.heap.size w.drew v→Sq15 n g N q w0 v L):=fun v hv=>(HA.out.below (Below.refl w.heap.size w).drew).below hv
  have kS:=qsd (ai c1' c2');clear HA C0 c1' c2'
  go_region_held3 (fun w'=>w'.cell? ⟨g,b,none⟩=some (.int .i64 (x:Nat))∧w'.cell? ⟨g,a,none⟩=some (.int .i64 (y:Nat))) (with_reducible exact kS.out) (first
   | (go_at_call 108
      with_reducible refine C.out.mono ?_
      rintro r v ⟨rfl,hb⟩;have G:=qsd (HF.out v hb);have kS:Aside (v.cell? ⟨g,b,none⟩=some (.int .i64 (x:Nat))∧v.cell? ⟨g,a,none⟩=some (.int .i64 (y:Nat))):=⟨(hb.cell (p:=⟨g,b,none⟩) (lt_of_cell15 kS.out.1)).trans kS.out.1,(hb.cell (p:=⟨g,a,none⟩) (lt_of_cell15 kS.out.2)).trans kS.out.2⟩;clear hb))
  all_goals
   go_wp2_with fail
   go_meet
   case rel=>exact ⟨decide (z<0),rfl,G.out⟩
 clear HA;obtain ⟨t,rfl,HA⟩:=hcut;obtain ⟨W1,hW⟩:∃ W,W=wc:=⟨_,rfl⟩;subst hW
 cases t
 · go_wp2
   refine bodyPost_ret (v:=.tuple #[.int .i64 (a:Nat),.int .i64 (b:Nat)]) (by simp [results,Tryz.results234,go_sem]) rfl ?_
   exact ⟨a,b,rfl,.inl ⟨rfl,rfl⟩,HA.out⟩
 · obtain ⟨_,_,s,h3,h4⟩:=HA.out
   obtain ⟨s1,hs1⟩:∃ s1,s1=IntKind.i64.wrap (s+1):=⟨_,rfl⟩;have hs2:=hs1.symm;have HF:=qsd (HA.out.set s1 hg);clear HA hs1;go_wp2;refine bodyPost_ret (v:=.tuple #[.int .i64 (b:Nat),.int .i64 (a:Nat)]) (by simp [results,Tryz.results234,go_sem]) rfl ?_
   exact ⟨b,a,rfl,.inr ⟨rfl,rfl⟩,HF.out⟩
theorem median15 (K:Nat→Nat) (n g N q a b c cap:Nat) (L:List Nat) (recv:Value) (w0 w:World) (hS:Sq15 n g N q w0 w L) (hC:Cmp15 K n g recv w0) (hg:g<w0.heap.size) (ha:a<N) (hb:b<N) (hc:c<N) (hbig:N<1152921504606846976) :
 Calls Tryz.prog 225 #[.slice (some ⟨g,0,none⟩) N cap,.int .i64 (a:Nat),.int .i64 (b:Nat),.int .i64 (c:Nat),.pointer (some ⟨q,0,none⟩),.func (.func 108) #[recv] #[]] w fun r w'=>∃ x:Nat,r=.returned (.int .i64 (x:Nat))∧(x=a∨x=b∨x=c)∧Sq15 n g N q w0 w' L:=by
 have HC:=qsd hC;have C:=hid (order2_15 K n g N q a b cap L recv w0 w hS hC hg ha hb hbig);clear hS hC;go_enter Tryz.func225,Tryz.ntmps225
 go_wp2_with fail
 refine C.out.mono ?_;rintro r v1 ⟨x,y,rfl,hxy,h1⟩;have X:Aside ((x=a∨x=b)∧(y=a∨y=b)):=⟨by omega,by omega⟩
 have hx:x<N:=by omega
 have hy:y<N:=by omega
 have C2:=hid (order2_15 K n g N q y c cap L recv w0 v1 h1 HC.out hg hy hc hbig);clear C h1 hxy
 go_wp2_with fail
 refine C2.out.mono ?_;rintro r v2 ⟨x2,y2,rfl,hxy,h1⟩;have X2:Aside (x2=a∨x2=b∨x2=c):=qsd (by have:=X.out;omega)
 have hx2:x2<N:=by omega
 have C3:=hid (order2_15 K n g N q x x2 cap L recv w0 v2 h1 HC.out hg hx hx2 hbig);clear C2 h1 hxy
 go_wp2_with fail
 refine C3.out.mono ?_;rintro r v3 ⟨x3,y3,rfl,hxy,h1⟩;have X3:Aside (y3=a∨y3=b∨y3=c):=qsd (by have:=X.out;have:=X2.out;omega)
 have HR:=qsd h1;clear C3 h1 hxy;go_wp2;refine bodyPost_ret (v:=.int .i64 (y3:Nat)) (by simp [results,Tryz.results225,go_sem]) rfl ?_
 exact ⟨y3,rfl,X3.out,HR.out⟩
theorem adj15 (K:Nat→Nat) (n g N q a cap:Nat) (L:List Nat) (recv:Value) (w0 w:World) (hS:Sq15 n g N q w0 w L) (hC:Cmp15 K n g recv w0) (hg:g<w0.heap.size) (ha:0<a) (hb:a+1<N) (hbig:N<1152921504606846976) :
 Calls Tryz.prog 224 #[.slice (some ⟨g,0,none⟩) N cap,.int .i64 (a:Nat),.pointer (some ⟨q,0,none⟩),.func (.func 108) #[recv] #[]] w fun r w'=>∃ x:Nat,r=.returned (.int .i64 (x:Nat))∧a≤x+1∧x≤a+1∧Sq15 n g N q w0 w' L:=by
 obtain ⟨a1,h1⟩:∃ x,x=a-1:=⟨_,rfl⟩;obtain ⟨a2,h2⟩:∃ x,x=a+1:=⟨_,rfl⟩;have w1:IntKind.i64.wrap ((a:Int)-1)=(a1:Int):=wrapZ (by omega) (by omega)
 have w2:IntKind.i64.wrap ((a:Int)+1)=(a2:Int):=wrapZ (by omega) (by omega)
 have C:=hid (median15 K n g N q a1 a a2 cap L recv w0 w hS hC hg (by omega) (by omega) (by omega) hbig)
 have HQ:=qsd (ai h1 h2);clear hS hC h1 h2;go_enter Tryz.func224,Tryz.ntmps224
 go_wp2_with fail
 refine C.out.mono ?_;rintro r v1 ⟨x,rfl,hx,h1⟩;have X:Aside (a≤x+1∧x≤a+1):=qsd (by have:=HQ.out;omega)
 have HR:=qsd h1;clear C h1 hx;go_wp2;refine bodyPost_ret (v:=.int .i64 (x:Nat)) (by simp [results,Tryz.results224,go_sem]) rfl ?_
 exact ⟨x,rfl,X.out.1,X.out.2,HR.out⟩
end
section
open Go.RowKit J
theorem Sq15.new {n g N:Nat}{w:World}{L:List Nat}(h:Sx15 n g N w w (fun M=>M=L)):Sq15 n g N w.heap.size w (w.alloc (Obj.cells #[Value.int IntKind.i64 0] 3)) L:=by
 refine ⟨h.below ((Below.refl w.heap.size w).alloc (Nat.le_refl _) _),Nat.le_refl _,0,?_,?_⟩
 · rw [World.cell?_alloc_new];rfl
 · exact World.frozen?_alloc_new _ _ _ _
theorem choose15 (K:Nat→Nat) (n g N a b cap:Nat) (L:List Nat) (recv:Value) (w:World) (hS:Sx15 n g N w w (fun M=>M=L)) (hC:Cmp15 K n g recv w) (hab:a+8≤b) (hb:b≤N) (hbig:N<1152921504606846976) :
 Calls Tryz.prog 195 #[.slice (some ⟨g,0,none⟩) N cap,.int .i64 (a:Nat),.int .i64 (b:Nat),.func (.func 108) #[recv] #[]] w fun r w'=>∃ p h:Nat,r=.returned (.tuple #[.int .i64 (p:Nat),.int .i64 (h:Nat)])∧a≤p∧p<b∧(h=0∨h=1∨h=2)∧Sx15 n g N w w' (fun M=>M=L):=by
 obtain ⟨l,hl⟩:∃ x,x=b-a:=⟨_,rfl⟩;obtain ⟨q,hq⟩:∃ x,x=l/4:=⟨_,rfl⟩;obtain ⟨q2,hq2⟩:∃ x,x=q*2:=⟨_,rfl⟩;obtain ⟨q3,hq3⟩:∃ x,x=q*3:=⟨_,rfl⟩;obtain ⟨i,hi⟩:∃ x,x=a+q:=⟨_,rfl⟩;obtain ⟨j,hj⟩:∃ x,x=a+q2:=⟨_,rfl⟩;obtain ⟨k,hk⟩:∃ x,x=a+q3:=⟨_,rfl⟩;have w1:IntKind.i64.wrap ((b:Int)-(a:Int))=(l:Int):=wrapZ (by omega) (by omega)
 have w2:Int.tdiv (l:Int) 4=(q:Int):=by rw [hq];rfl
 have w3:IntKind.i64.wrap (q:Int)=(q:Int):=wrapZ rfl (by omega)
 have w4:IntKind.i64.wrap ((q:Int)*1)=(q:Int):=wrapZ (by omega) (by omega)
 have w5:IntKind.i64.wrap ((q:Int)*2)=(q2:Int):=wrapZ (by omega) (by omega)
 have w6:IntKind.i64.wrap ((q:Int)*3)=(q3:Int):=wrapZ (by omega) (by omega)
 have w7:IntKind.i64.wrap ((a:Int)+(q:Int))=(i:Int):=wrapZ (by omega) (by omega)
 have w8:IntKind.i64.wrap ((a:Int)+(q2:Int))=(j:Int):=wrapZ (by omega) (by omega)
 have w9:IntKind.i64.wrap ((a:Int)+(q3:Int))=(k:Int):=wrapZ (by omega) (by omega)
 have d1:decide ((8:Int)≤(l:Int))=true:=by simp;omega
 have HC:=qsd hC;have HA:=qsd hS;have HQ:=(qsd (ai hl (ai hq (ai hq2 (ai hq3 (ai hi (ai hj hk)))))));have hl8:8≤l:=by omega
 clear hl hq hq2 hq3 hi hj hk hS hC;go_enter Tryz.func195,Tryz.ntmps195
 go_upto_region 7 with fail
 have hgw:g<w.heap.size:=HA.out.lt;replace HA:=qsd (Sq15.new HA.out);obtain ⟨W1,hW1⟩:∃ W,W=w.alloc (Obj.cells #[Value.int IntKind.i64 0] 3):=⟨_,rfl⟩;rw [←hW1] at HA ⊢;clear hW1;obtain ⟨G,hG⟩:∃ G,G=w.heap.size:=⟨_,rfl⟩;rw [←hG] at HA ⊢;clear hG
 by_cases h50:50≤l
 · have d2:decide ((50:Int)≤(l:Int))=true:=by simp;omega
   have C:=hid (adj15 K n g N G i cap L recv w W1 HA.out HC.out hgw (by have:=HQ.out;omega) (by have:=HQ.out;omega) hbig)
   clear HA
   go_wp2_with fail
   refine C.out.mono ?_;rintro r v1 ⟨i',rfl,e1,e2,h1⟩;have C2:=hid (adj15 K n g N G j cap L recv w v1 h1 HC.out hgw (by have:=HQ.out;omega) (by have:=HQ.out;omega) hbig)
   have E1:=qsd (ai e1 e2);clear C h1 e1 e2
   go_wp2_with fail
   refine C2.out.mono ?_;rintro r v2 ⟨j',rfl,e3,e4,h1⟩;have C3:=hid (adj15 K n g N G k cap L recv w v2 h1 HC.out hgw (by have:=HQ.out;omega) (by have:=HQ.out;omega) hbig)
   have E2:=qsd (ai e3 e4);clear C2 h1 e3 e4
   go_wp2_with fail
   refine C3.out.mono ?_;rintro r v3 ⟨k',rfl,e5,e6,h1⟩;have r1:Aside (a≤i'∧i'<b∧a≤j'∧j'<b∧a≤k'∧k'<b):=qsd (by have:=HQ.out;have:=E1.out;have:=E2.out;omega)
   have HA:=qsd h1;clear C3 h1 e5 e6;have C9:=hid (median15 K n g N G i' j' k' cap L recv w v3 HA.out HC.out hgw (by have:=r1.out;omega) (by have:=r1.out;omega) (by have:=r1.out;omega) hbig)
   clear HA
   go_wp2_with fail
   refine C9.out.mono ?_;rintro r v9 ⟨x,rfl,hx,h1⟩;have X:Aside (a≤x∧x<b):=qsd (by have:=r1.out;omega)
   have HR:=qsd h1.1;obtain ⟨_,_,s,c1,_⟩:=h1;clear C9 hx
   by_cases s0:s=0
   · subst s0
     go_wp2;refine bodyPost_ret (v:=.tuple #[.int .i64 (x:Nat),.int .i64 (1:Nat)]) (by simp [results,Tryz.results195,go_sem]) rfl ?_
     exact ⟨x,1,rfl,X.out.1,X.out.2,.inr (.inl rfl),HR.out⟩
   · have s1:(s==0)=false:=by simp [s0]
     have s1':decide (s=0)=false:=by simp [s0]
     by_cases s2:s=12
     · subst s2
       go_wp2;refine bodyPost_ret (v:=.tuple #[.int .i64 (x:Nat),.int .i64 (2:Nat)]) (by simp [results,Tryz.results195,go_sem]) rfl ?_
       exact ⟨x,2,rfl,X.out.1,X.out.2,.inr (.inr rfl),HR.out⟩
     · have s3:(s==12)=false:=by simp [s2]
       have s3':decide (s=12)=false:=by simp [s2]
       go_wp2;refine bodyPost_ret (v:=.tuple #[.int .i64 (x:Nat),.int .i64 (0:Nat)]) (by simp [results,Tryz.results195,go_sem]) rfl ?_
       exact ⟨x,0,rfl,X.out.1,X.out.2,.inl rfl,HR.out⟩
 · have d2:decide ((50:Int)≤(l:Int))=false:=by simp;omega
   have r1:Aside (a≤i∧i<b∧a≤j∧j<b∧a≤k∧k<b):=qsd (by have:=HQ.out;omega)
   have C9:=hid (median15 K n g N G i j k cap L recv w W1 HA.out HC.out hgw (by have:=r1.out;omega) (by have:=r1.out;omega) (by have:=r1.out;omega) hbig)
   clear HA
   go_wp2_with fail
   refine C9.out.mono ?_;rintro r v9 ⟨x,rfl,hx,h1⟩;have X:Aside (a≤x∧x<b):=qsd (by have:=r1.out;omega)
   have HR:=qsd h1.1;obtain ⟨_,_,s,c1,_⟩:=h1;clear C9 hx
   by_cases s0:s=0
   · subst s0
     go_wp2;refine bodyPost_ret (v:=.tuple #[.int .i64 (x:Nat),.int .i64 (1:Nat)]) (by simp [results,Tryz.results195,go_sem]) rfl ?_
     exact ⟨x,1,rfl,X.out.1,X.out.2,.inr (.inl rfl),HR.out⟩
   · have s1:(s==0)=false:=by simp [s0]
     have s1':decide (s=0)=false:=by simp [s0]
     by_cases s2:s=12
     · subst s2
       go_wp2;refine bodyPost_ret (v:=.tuple #[.int .i64 (x:Nat),.int .i64 (2:Nat)]) (by simp [results,Tryz.results195,go_sem]) rfl ?_
       exact ⟨x,2,rfl,X.out.1,X.out.2,.inr (.inr rfl),HR.out⟩
     · have s3:(s==12)=false:=by simp [s2]
       have s3':decide (s=12)=false:=by simp [s2]
       go_wp2;refine bodyPost_ret (v:=.tuple #[.int .i64 (x:Nat),.int .i64 (0:Nat)]) (by simp [results,Tryz.results195,go_sem]) rfl ?_
       exact ⟨x,0,rfl,X.out.1,X.out.2,.inl rfl,HR.out⟩
end
section
theorem ky_ne15 {K:Nat→Nat}{L0 L:List Nat}(hnd:L0.Nodup) (hK:∀ x ∈ L0,∀ y ∈ L0,K x=K y→x=y) (hP:L.Perm L0) (i j:Nat) (hi:i<L.length) (hj:j<L.length) (hne:i≠j):ky K L i≠ky K L j:=by
 have hn:L.Nodup:=hP.nodup_iff.2 hnd;intro h;unfold ky at h;have e1:L.getD i 0=L[i]:=by rw [List.getD_eq_getElem?_getD,List.getElem?_eq_getElem hi];rfl
 have e2:L.getD j 0=L[j]:=by rw [List.getD_eq_getElem?_getD,List.getElem?_eq_getElem hj];rfl
 rw [e1,e2] at h;have:=hK _ (hP.mem_iff.1 (List.getElem_mem hi)) _ (hP.mem_iff.1 (List.getElem_mem hj)) h
 rcases Nat.lt_or_gt_of_ne hne with q|q
 · exact (List.pairwise_iff_getElem.1 hn i j hi hj q) this
 · exact (List.pairwise_iff_getElem.1 hn j i hj hi q) this.symm
structure Pq (K:Nat→Nat) (a b c d:Nat) (L0 L:List Nat):Prop where
 ac:a≤c
 cd:c≤d
 db:d≤b
 pm:Pm a b L0 L
 fl:Fl K c d L
 go:∀ M,Pm c d L M→Up K c d M→Up K a b M
theorem Pq.start {K:Nat→Nat}{a b:Nat}{L:List Nat}(hab:a≤b) (hF:Fl K a b L):Pq K a b a b L L:=⟨Nat.le_refl _,hab,Nat.le_refl _,Pm.refl _ _ _,hF,fun _ _ h=>h⟩
theorem Pq.move {K:Nat→Nat}{a b c d:Nat}{L0 L M:List Nat}(h:Pq K a b c d L0 L) (hP:Pm c d L M):Pq K a b c d L0 M :=
 ⟨h.ac,h.cd,h.db,h.pm.trans (hP.mono h.ac h.db),h.fl.pm hP,fun X hX hU=>h.go X (hP.trans hX) hU⟩
theorem Pq.left {K:Nat→Nat}{a b c d m:Nat}{L0 L M:List Nat}(h:Pq K a b c d L0 L) (hR:Prt K c d m L) (hP:Pm c m L M) (hU:Up K c m M) (hn:∀ i j,i<d→j<d→i≠j→ky K M i≠ky K M j):Pq K a b (m+1) d L0 M:=by
 have h1:=hR.am;have h2:=hR.mb;have h3:=h.ac;have h4:=h.db;have hR':=hR.left hP;refine ⟨by omega,by omega,h4,h.pm.trans (hP.mono h3 (by omega)),hR'.fl hn,fun X hX hU2=>?_⟩
 exact h.go X ((hP.mono (Nat.le_refl _) (by omega)).trans (hX.mono (by omega) (Nat.le_refl _))) ((hR'.right hX).up (hU.out hX (.inl (by omega))) hU2)
theorem Pq.right {K:Nat→Nat}{a b c d m:Nat}{L0 L M:List Nat}(h:Pq K a b c d L0 L) (hR:Prt K c d m L) (hP:Pm (m+1) d L M) (hU:Up K (m+1) d M):Pq K a b c m L0 M:=by
 have h1:=hR.am;have h2:=hR.mb;have h3:=h.ac;have h4:=h.db;have hR':=hR.right hP;refine ⟨h3,h1,by omega,h.pm.trans (hP.mono (by omega) h4),(h.fl.pm (hP.mono (by omega) (Nat.le_refl _))).left (by omega),fun X hX hU2=>?_⟩
 exact h.go X ((hP.mono (by omega) (Nat.le_refl _)).trans (hX.mono (Nat.le_refl _) (by omega))) ((hR'.left hX).up hU2 (hU.out hX (.inr (by omega))))
theorem Pq.done {K:Nat→Nat}{a b c d:Nat}{L0 L M:List Nat}(h:Pq K a b c d L0 L) (hP:Pm c d L M) (hU:Up K c d M):Pm a b L0 M∧Up K a b M:=⟨(h.move hP).pm,h.go M hP hU⟩
theorem Up.snoc15 {K:Nat→Nat}{a i:Nat}{L:List Nat}(h:Up K a i L) (hi:a<i) (hle:ky K L (i-1)≤ky K L i):Up K a (i+1) L:=by
 intro x y h1 h2 h3
 by_cases q:y=i
 · rw [q]
   by_cases r:x=i-1
   · rw [r];exact hle
   · have:=h x (i-1) h1 (by omega) (by omega)
     omega
 · exact h x y h1 h2 (by omega)
theorem Ins.cut15 {K:Nat→Nat}{a i:Nat}{L:List Nat}(h:Up K a (i+1) L) (hl:i+1<L.length) (ha:a≤i):Ins K a i i (sw L (i+1) i):=by
 refine Ins.start (fun x y h1 h2 h3=>?_) ha
 rw [ky_sw (by omega) (by omega),ky_sw (by omega) (by omega),if_neg (by omega),if_neg (by omega),if_neg (by omega),if_neg (by omega)]
 exact h x y h1 h2 (by omega)
theorem Up.far15 {K:Nat→Nat}{a i p q:Nat}{L:List Nat}(h:Up K a i L) (hp:i≤p) (hq:i≤q) (hpl:p<L.length) (hql:q<L.length):Up K a i (sw L p q):=by
 intro x y h1 h2 h3;rw [ky_sw hpl hql,ky_sw hpl hql,if_neg (by omega),if_neg (by omega),if_neg (by omega),if_neg (by omega)]
 exact h x y h1 h2 h3
end
section
open Go.RowKit J
theorem partial15 (K:Nat→Nat) (n g N a b cap:Nat) (L:List Nat) (recv:Value) (w:World) (hS:Sx15 n g N w w (fun M=>M=L)) (hC:Cmp15 K n g recv w) (hF:Fl K a b L) (hab:a<b) (hb:b≤N) (hbig:N<1152921504606846976) :
 Calls Tryz.prog 197 #[.slice (some ⟨g,0,none⟩) N cap,.int .i64 (a:Nat),.int .i64 (b:Nat),.func (.func 108) #[recv] #[]] w fun r w'=>∃ t:Bool,r=.returned (.bool t)∧Sx15 n g N w w' (fun M=>Pm a b L M∧(t=true→Up K a b M)):=by
 obtain ⟨i0,hi0⟩:∃ x,x=a+1:=⟨_,rfl⟩;obtain ⟨l,hl⟩:∃ x,x=b-a:=⟨_,rfl⟩;have HC:=qsd hC;have HL:=qsd hF;have w1:IntKind.i64.wrap ((a:Int)+1)=(i0:Int):=wrapZ (by omega) (by omega)
 have w2:IntKind.i64.wrap ((b:Int)-(a:Int))=(l:Int):=wrapZ (by omega) (by omega)
 have c1:a<i0:=by omega
 have c2:i0≤b:=by omega
 have HA:Aside (Sx15 n g N w w (fun M=>Pm a b L M∧Up K a i0 M)):=(hS.imp (fun M _ e=>by
  subst e;exact ⟨Pm.refl _ _ _,fun x y h1 h2 h3=>by omega⟩):Sx15 n g N w w _)
 have HQ:=qsd (ai hi0 hl);clear hi0 hl hS hC hF;go_enter Tryz.func197,Tryz.ntmps197;go_wp2
 go_loopg [9,10] 5 (fun gk iv cv wr=>∃ i c:Nat,gk+c=5∧a<i∧i≤b∧iv=.int .i64 (i:Nat)∧cv=.int .i64 (c:Nat)∧Aside (Sx15 n g N w wr (fun M=>Pm a b L M∧Up K a i M)))
 case atStart=>exact ⟨i0,0,rfl,c1,c2,by first | rfl | simp,by first | rfl | simp,HA.out⟩
 case round =>
  clear HA c1 c2;obtain ⟨i9,c,hgc,c1,c2,rfl,rfl,HA⟩:=hrel
  by_cases hc5:c<5
  · have hd5:decide ((c:Int)<5)=true:=by simp;omega
    obtain ⟨cc,hcc⟩:∃ x,x=c+1:=⟨_,rfl⟩;have wcc:IntKind.i64.wrap ((c:Int)+1)=(cc:Int):=wrapZ (by omega) (by omega)
    have HG:=(qsd (ai hgc (ai hcc hc5)));clear hgc hcc hc5;go_wp2
    go_loopg [9] (b-i9) (fun gk iv wr=>∃ i:Nat,gk=b-i∧a<i∧i≤b∧iv=.int .i64 (i:Nat)∧Aside (Sx15 n g N w wr (fun M=>Pm a b L M∧Up K a i M)))
    case atStart=>exact ⟨i9,rfl,c1,c2,by first | rfl | simp,HA.out⟩
    case round =>
     clear HA c1 c2;obtain ⟨i,hgk,c1,c2,rfl,HA⟩:=hrel;obtain ⟨i1,hi1⟩:∃ x,x=i+1:=⟨_,rfl⟩;obtain ⟨im,him⟩:∃ x,x=i-1:=⟨_,rfl⟩;have wi1:IntKind.i64.wrap ((i:Int)+1)=(i1:Int):=wrapZ (by omega) (by omega)
     have wim:IntKind.i64.wrap ((i:Int)-1)=(im:Int):=wrapZ (by omega) (by omega)
     have bm:(im:Int)<(N:Int):=by omega
     have bm':im<N:=by omega
     have HI:=qsd (ai hi1 him);clear hi1 him
     go_upto_region 5 with fail
     go_cut [36] from 19 to 35 (fun v wx=>∃ t:Bool,v=.bool t∧Aside (Sx15 n g N w wx (fun M=>(fun M=>Pm a b L M∧Up K a i M) M∧(t=true↔(i<b∧¬ ky K M i<ky K M im)))))
     case first =>
      by_cases hgd:i<b
      · have hgdec:decide ((i:Int)<(b:Int))=true:=by simp;omega
        obtain ⟨x,y,z,c1',c2',C0,HF0⟩:=HA.out.cmpd HC.out i im (by omega) (by omega)
        have C:=hid C0;have HF:=qsd HF0;have kS:=qsd (ai c1' c2');clear HA C0 HF0 c1' c2';have bi:(i:Int)<(N:Int):=by omega
        have bi':i<N:=by omega
        go_region_held3 (fun w'=>w'.cell? ⟨g,i,none⟩=some (.int .i64 (x:Nat))∧w'.cell? ⟨g,im,none⟩=some (.int .i64 (y:Nat))) (with_reducible exact kS.out) (first
         | (go_at_call 108
            with_reducible refine C.out.mono ?_
            rintro r v ⟨rfl,hb⟩;have G:=qsd (HF.out v hb);have kS:Aside (v.cell? ⟨g,i,none⟩=some (.int .i64 (x:Nat))∧v.cell? ⟨g,im,none⟩=some (.int .i64 (y:Nat))):=⟨(hb.cell (p:=⟨g,i,none⟩) (lt_of_cell15 kS.out.1)).trans kS.out.1,(hb.cell (p:=⟨g,im,none⟩) (lt_of_cell15 kS.out.2)).trans kS.out.2⟩;clear hb))
        all_goals
         go_wp2_with fail
         go_meet
         case rel=>exact ⟨!decide (z<0),rfl,G.out.imp (fun M _ q=>⟨q.1,and_iff15 hgd (not_iff15 q.2)⟩)⟩
      · have hgdec:decide ((i:Int)<(b:Int))=false:=by simp;omega
        have HD:=qsd (HA.out.drew);clear HA
        go_region
        all_goals
         go_wp2_with fail
         go_meet
         case rel=>exact ⟨false,rfl,HD.out.imp (fun M _ q=>⟨q,and_no15 hgd⟩)⟩
     clear HA;obtain ⟨t,rfl,HA⟩:=hcut;obtain ⟨WC,hW⟩:∃ W,W=wc:=⟨_,rfl⟩;subst hW
     cases t
     · replace HA:Aside (Sx15 n g N w WC (fun M=>(Pm a b L M∧Up K a i M)∧(i<b→ky K M i<ky K M im))):=(HA.out.imp (fun M _ q=>⟨q.1,fun e=>Classical.byContradiction (fun h=>absurd (q.2.2 ⟨e,h⟩) (by decide))⟩):Sx15 n g N w WC _)
       by_cases hib:i=b
       · subst hib
         go_wp2;refine bodyPost_ret (v:=.bool true) (by simp [results,Tryz.results197,go_sem]) rfl ?_
         exact ⟨true,rfl,HA.out.imp (fun M _ q=>⟨q.1.1,fun _=>q.1.2⟩)⟩
       · have hib1:((i:Int)==(b:Int))=false:=by simp;omega
         have hib2:decide ((i:Int)=(b:Int))=false:=by simp;omega
         have hlt:i<b:=by omega
         by_cases h50:l<50
         · have hd50:decide ((l:Int)<50)=true:=by simp;omega
           go_wp2;refine bodyPost_ret (v:=.bool false) (by simp [results,Tryz.results197,go_sem]) rfl ?_
           exact ⟨false,rfl,HA.out.imp (fun M _ q=>⟨q.1.1,fun e=>absurd e (by decide)⟩)⟩
         · have hd50:decide ((l:Int)<50)=false:=by simp;omega
           obtain ⟨bl,hbl⟩:∃ x,x=i-a:=⟨_,rfl⟩;obtain ⟨br,hbr⟩:∃ x,x=b-i:=⟨_,rfl⟩;have wbl:IntKind.i64.wrap ((i:Int)-(a:Int))=(bl:Int):=wrapZ (by omega) (by omega)
           have wbr:IntKind.i64.wrap ((b:Int)-(i:Int))=(br:Int):=wrapZ (by omega) (by omega)
           have bi:(i:Int)<(N:Int):=by omega
           have bi':i<N:=by omega
           have HB:=qsd (ai hbl hbr);clear hbl hbr
           go_upto_region 11 with fail
           go_cut [9] from 39 to 61 (fun v wx=>v=.int .i64 (i:Nat)∧Aside (Sx15 n g N w wx (fun M=>∃ M0,(fun M=>(Pm a b L M∧Up K a i M)∧(i<b→ky K M i<ky K M im)) M0∧M0.length=N∧M=sw M0 i im)))
           case first =>
            obtain ⟨x,y,c1',c2',z1,z2,HF0⟩:=HA.out.swap i im (by omega) (by omega)
            have HF:=qsd HF0;clear HA HF0
            by_cases hse:i=im
            · subst hse
              have hxy:x=y:=by
               have h2:(x:Int)=(y:Int):=by (have:=c1'.symm.trans c2';simpa using this)
               omega
              subst hxy;clear c2' z2
              go_region
              all_goals
               go_wp2_with fail
               go_meet
               case rel=>exact ⟨rfl,HF.out _ (by first | exact .inl rfl | exact .inr rfl)⟩
            · have hse':im≠i:=fun e=>hse e.symm
              go_region
              all_goals
               go_wp2_with fail
               go_meet
               case rel=>exact ⟨rfl,HF.out _ (by first | exact .inl rfl | exact .inr rfl)⟩
           clear HA;obtain ⟨rfl,HA⟩:=hcut;obtain ⟨W1,hW⟩:∃ W,W=wc:=⟨_,rfl⟩;subst hW
           replace HA:Aside (Sx15 n g N w W1 (fun M=>Pm a b L M∧Ins K a im im M)):=(HA.out.imp (fun M _ q=>by
            obtain ⟨M0,q1,q2,rfl⟩:=q;have hi:=HI.out;have e:i=im+1:=by omega
            have u:=q1.1.2;rw [e] at u;refine ⟨q1.1.1.trans (Pm.swap (by omega) (by omega) (by omega) (by omega) (by omega)),?_⟩
            rw [e];exact Ins.cut15 u (by omega) (by omega)):Sx15 n g N w W1 _)
           by_cases h2l:2≤bl
           · have hdl2:decide ((2:Int)≤(bl:Int))=true:=by simp;omega
             go_wp2
             go_loopg [11] im (fun gk jv wr=>∃ j:Nat,gk=j∧a≤j∧j≤im∧jv=.int .i64 (j:Nat)∧Aside (Sx15 n g N w wr (fun M=>Pm a b L M∧Ins K a im j M)))
             case atStart=>exact ⟨im,rfl,by have:=HI.out;omega,Nat.le_refl _,by first | rfl | simp,HA.out⟩
             case round =>
              clear HA;obtain ⟨j,hgj,e1,e2,rfl,HA⟩:=hrel
              by_cases hj1:1≤j
              · have hdj:decide ((1:Int)≤(j:Int))=true:=by simp;omega
                obtain ⟨jm,hjm⟩:∃ x,x=j-1:=⟨_,rfl⟩;have wjm:IntKind.i64.wrap ((j:Int)-1)=(jm:Int):=wrapZ (by omega) (by omega)
                have bj:(j:Int)<(N:Int):=by omega
                have bj':j<N:=by omega
                have bjm:(jm:Int)<(N:Int):=by omega
                have bjm':jm<N:=by omega
                have hne1:j≠jm:=by omega
                have HJ:=qsd hjm;clear hjm
                go_upto_region 16 with fail
                go_cut [84] from 72 to 83 (fun v wx=>∃ t:Bool,v=.bool t∧Aside (Sx15 n g N w wx (fun M=>(fun M=>Pm a b L M∧Ins K a im j M) M∧(t=true↔(¬ ky K M j<ky K M jm)))))
                case first =>
                 obtain ⟨x,y,z,c1',c2',C0,HF0⟩:=HA.out.cmpd HC.out j jm (by omega) (by omega)
                 have C:=hid C0;have HF:=qsd HF0;have kS:=qsd (ai c1' c2');clear HA C0 HF0 c1' c2'
                 go_region_held3 (fun w'=>w'.cell? ⟨g,j,none⟩=some (.int .i64 (x:Nat))∧w'.cell? ⟨g,jm,none⟩=some (.int .i64 (y:Nat))) (with_reducible exact kS.out) (first
                  | (go_at_call 108
                     with_reducible refine C.out.mono ?_
                     rintro r v ⟨rfl,hb⟩;have G:=qsd (HF.out v hb);have kS:Aside (v.cell? ⟨g,j,none⟩=some (.int .i64 (x:Nat))∧v.cell? ⟨g,jm,none⟩=some (.int .i64 (y:Nat))):=⟨(hb.cell (p:=⟨g,j,none⟩) (lt_of_cell15 kS.out.1)).trans kS.out.1,(hb.cell (p:=⟨g,jm,none⟩) (lt_of_cell15 kS.out.2)).trans kS.out.2⟩;clear hb))
                 all_goals
                  go_wp2_with fail
                  go_meet
                  case rel=>exact ⟨!decide (z<0),rfl,G.out.imp (fun M _ q=>⟨q.1,not_iff15 q.2⟩)⟩
                clear HA;obtain ⟨t,rfl,HA⟩:=hcut;obtain ⟨W3,hW⟩:∃ W,W=wc:=⟨_,rfl⟩;subst hW
                cases t
                · have haj:a<j:=by
                   obtain ⟨M,_,hlen,_,_,q⟩:=HA.out
                   rcases Nat.lt_or_ge a j with h|h
                   · exact h
                   · exfalso
                     have ej:j=a:=by omega
                     have hjm:=HJ.out;have hi:=HI.out;have f:=(HL.out.pm q.1.1) (by omega) j (by omega) (by omega)
                     have k1:¬ ky K M j<ky K M jm:=by rw [hjm,ej] at *;omega
                     exact absurd (q.2.2 k1) (by decide)
                  go_upto_region 17 with fail
                  obtain ⟨x,y,c1',c2',z1,z2,HF0⟩:=HA.out.swap j jm (by omega) (by omega)
                  have hse:j≠jm:=by omega
                  have hse':jm≠j:=by omega
                  have HF:=qsd (fun v hv=>((HF0 v hv).imp (fun M _ q=>by
                   obtain ⟨M0,q1,q2,rfl⟩:=q;have hjm:=HJ.out;have hi:=HI.out;have k1:ky K M0 j<ky K M0 jm:=Classical.byContradiction (fun e=>absurd (q1.2.2 e) (by decide))
                   rw [hjm] at k1 ⊢;exact ⟨q1.1.1.trans (Pm.swap (by omega) (by omega) (by omega) (by omega) (by omega)),q1.1.2.step (by omega) haj k1⟩):Sx15 n g N w v (fun M=>Pm a b L M∧Ins K a im jm M)))
                  clear HA HF0
                  go_region
                  all_goals
                   go_wp2
                   go_roundg jm
                   case measure=>have:=HJ.out;omega
                   case rel=>exact ⟨jm,rfl,by have:=HJ.out;omega,by have:=HJ.out;omega,by first | rfl | simp,HF.out _ (by first | exact .inl rfl | exact .inr rfl)⟩
                · replace HA:Aside (Sx15 n g N w W3 (fun M=>Pm a b L M∧Up K a i M)):=(HA.out.imp (fun M _ q=>by
                   have hjm:=HJ.out;have hi:=HI.out;have k1:=Nat.le_of_not_lt (q.2.1 rfl);rw [hjm] at k1;have k2:=q.1.2.done (.inr k1);rw [show im+1=i by omega] at k2
                   exact ⟨q.1.1,k2⟩):Sx15 n g N w W3 _)
                  replace HA:Aside (Sx15 n g N w W3 (fun M=>Pm a b L M∧Up K a i M)):=HA
                  by_cases h2r:2≤br
                  · have hdr2:decide ((2:Int)≤(br:Int))=true:=by simp;omega
                    go_wp2
                    go_loopg [12] (b-i1) (fun gk jv wr=>∃ j:Nat,gk=b-j∧i<j∧j≤b∧jv=.int .i64 (j:Nat)∧Aside (Sx15 n g N w wr (fun M=>Pm a b L M∧Up K a i M)))
                    case atStart=>exact ⟨i1,rfl,by have:=HI.out;omega,by have:=HI.out;omega,by first | rfl | simp,HA.out⟩
                    case round =>
                     clear HA;obtain ⟨j,hgj,e1,e2,rfl,HA⟩:=hrel
                     by_cases hjb:j<b
                     · have hdj:decide ((j:Int)<(b:Int))=true:=by simp;omega
                       obtain ⟨j1,hj1⟩:∃ x,x=j+1:=⟨_,rfl⟩;obtain ⟨jm,hjm⟩:∃ x,x=j-1:=⟨_,rfl⟩;have wj1:IntKind.i64.wrap ((j:Int)+1)=(j1:Int):=wrapZ (by omega) (by omega)
                       have wjm:IntKind.i64.wrap ((j:Int)-1)=(jm:Int):=wrapZ (by omega) (by omega)
                       have bj:(j:Int)<(N:Int):=by omega
                       have bj':j<N:=by omega
                       have bjm:(jm:Int)<(N:Int):=by omega
                       have bjm':jm<N:=by omega
                       have hne1:j≠jm:=by omega
                       have HJ:=qsd (ai hj1 hjm);clear hj1 hjm
                       go_upto_region 22 with fail
                       go_cut [124] from 112 to 123 (fun v wx=>∃ t:Bool,v=.bool t∧Aside (Sx15 n g N w wx (fun M=>(fun M=>Pm a b L M∧Up K a i M) M∧(t=true↔(¬ ky K M j<ky K M jm)))))
                       case first =>
                        obtain ⟨x,y,z,c1',c2',C0,HF0⟩:=HA.out.cmpd HC.out j jm (by omega) (by omega)
                        have C:=hid C0;have HF:=qsd HF0;have kS:=qsd (ai c1' c2');clear HA C0 HF0 c1' c2'
                        go_region_held3 (fun w'=>w'.cell? ⟨g,j,none⟩=some (.int .i64 (x:Nat))∧w'.cell? ⟨g,jm,none⟩=some (.int .i64 (y:Nat))) (with_reducible exact kS.out) (first
                         | (go_at_call 108
                            with_reducible refine C.out.mono ?_
                            rintro r v ⟨rfl,hb⟩;have G:=qsd (HF.out v hb);have kS:Aside (v.cell? ⟨g,j,none⟩=some (.int .i64 (x:Nat))∧v.cell? ⟨g,jm,none⟩=some (.int .i64 (y:Nat))):=⟨(hb.cell (p:=⟨g,j,none⟩) (lt_of_cell15 kS.out.1)).trans kS.out.1,(hb.cell (p:=⟨g,jm,none⟩) (lt_of_cell15 kS.out.2)).trans kS.out.2⟩;clear hb))
                        all_goals
                         go_wp2_with fail
                         go_meet
                         case rel=>exact ⟨!decide (z<0),rfl,G.out.imp (fun M _ q=>⟨q.1,not_iff15 q.2⟩)⟩
                       clear HA;obtain ⟨t,rfl,HA⟩:=hcut;obtain ⟨W3,hW⟩:∃ W,W=wc:=⟨_,rfl⟩;subst hW;replace HA:Aside (Sx15 n g N w W3 (fun M=>Pm a b L M∧Up K a i M)):=(HA.out.imp (fun M _ q=>q.1):Sx15 n g N w W3 _)
                       cases t
                       · go_upto_region 23 with fail
                         obtain ⟨x,y,c1',c2',z1,z2,HF0⟩:=HA.out.swap j jm (by omega) (by omega)
                         have hse:j≠jm:=by omega
                         have hse':jm≠j:=by omega
                         have HF:=qsd (fun v hv=>((HF0 v hv).imp (fun M _ q=>by
                          obtain ⟨M0,q1,q2,rfl⟩:=q;have hj:=HJ.out;exact ⟨q1.1.trans (Pm.swap (by omega) (by omega) (by omega) (by omega) (by omega)),q1.2.far15 (by omega) (by omega) (by omega) (by omega)⟩):Sx15 n g N w v (fun M=>Pm a b L M∧Up K a i M)))
                         clear HA HF0
                         go_region
                         all_goals
                          go_wp2
                          go_roundg (b-j1)
                          case measure=>have:=HJ.out;omega
                          case rel=>exact ⟨j1,rfl,by have:=HJ.out;omega,by have:=HJ.out;omega,by first | rfl | simp,HF.out _ (by first | exact .inl rfl | exact .inr rfl)⟩
                       · go_wp2
                         go_roundg (5-cc)
                         case measure=>have:=HG.out;omega
                         case rel=>exact ⟨i,cc,by have:=HG.out;omega,c1,c2,by first | rfl | simp,by first | rfl | simp,HA.out⟩
                     · have hdj:decide ((j:Int)<(b:Int))=false:=by simp;omega
                       go_wp2
                       go_roundg (5-cc)
                       case measure=>have:=HG.out;omega
                       case rel=>exact ⟨i,cc,by have:=HG.out;omega,c1,c2,by first | rfl | simp,by first | rfl | simp,HA.out⟩
                  · have hdr2:decide ((2:Int)≤(br:Int))=false:=by simp;omega
                    go_wp2
                    go_roundg (5-cc)
                    case measure=>have:=HG.out;omega
                    case rel=>exact ⟨i,cc,by have:=HG.out;omega,c1,c2,by first | rfl | simp,by first | rfl | simp,HA.out⟩
              · have hdj:decide ((1:Int)≤(j:Int))=false:=by simp;omega
                replace HA:Aside (Sx15 n g N w wr (fun M=>Pm a b L M∧Up K a i M)):=(HA.out.imp (fun M _ q=>by
                 have hi:=HI.out;have k2:=q.2.done (.inl (by omega))
                 rw [show im+1=i by omega] at k2
                 exact ⟨q.1,k2⟩):Sx15 n g N w wr _)
                replace HA:Aside (Sx15 n g N w wr (fun M=>Pm a b L M∧Up K a i M)):=HA
                by_cases h2r:2≤br
                · have hdr2:decide ((2:Int)≤(br:Int))=true:=by simp;omega
                  go_wp2
                  go_loopg [12] (b-i1) (fun gk jv wr=>∃ j:Nat,gk=b-j∧i<j∧j≤b∧jv=.int .i64 (j:Nat)∧Aside (Sx15 n g N w wr (fun M=>Pm a b L M∧Up K a i M)))
                  case atStart=>exact ⟨i1,rfl,by have:=HI.out;omega,by have:=HI.out;omega,by first | rfl | simp,HA.out⟩
                  case round =>
                   clear HA;obtain ⟨j,hgj,e1,e2,rfl,HA⟩:=hrel
                   by_cases hjb:j<b
                   · have hdj:decide ((j:Int)<(b:Int))=true:=by simp;omega
                     obtain ⟨j1,hj1⟩:∃ x,x=j+1:=⟨_,rfl⟩;obtain ⟨jm,hjm⟩:∃ x,x=j-1:=⟨_,rfl⟩;have wj1:IntKind.i64.wrap ((j:Int)+1)=(j1:Int):=wrapZ (by omega) (by omega)
                     have wjm:IntKind.i64.wrap ((j:Int)-1)=(jm:Int):=wrapZ (by omega) (by omega)
                     have bj:(j:Int)<(N:Int):=by omega
                     have bj':j<N:=by omega
                     have bjm:(jm:Int)<(N:Int):=by omega
                     have bjm':jm<N:=by omega
                     have hne1:j≠jm:=by omega
                     have HJ:=qsd (ai hj1 hjm);clear hj1 hjm
                     go_upto_region 22 with fail
                     go_cut [124] from 112 to 123 (fun v wx=>∃ t:Bool,v=.bool t∧Aside (Sx15 n g N w wx (fun M=>(fun M=>Pm a b L M∧Up K a i M) M∧(t=true↔(¬ ky K M j<ky K M jm)))))
                     case first =>
                      obtain ⟨x,y,z,c1',c2',C0,HF0⟩:=HA.out.cmpd HC.out j jm (by omega) (by omega)
                      have C:=hid C0;have HF:=qsd HF0;have kS:=qsd (ai c1' c2');clear HA C0 HF0 c1' c2'
                      go_region_held3 (fun w'=>w'.cell? ⟨g,j,none⟩=some (.int .i64 (x:Nat))∧w'.cell? ⟨g,jm,none⟩=some (.int .i64 (y:Nat))) (with_reducible exact kS.out) (first
                       | (go_at_call 108
                          with_reducible refine C.out.mono ?_
                          rintro r v ⟨rfl,hb⟩;have G:=qsd (HF.out v hb);have kS:Aside (v.cell? ⟨g,j,none⟩=some (.int .i64 (x:Nat))∧v.cell? ⟨g,jm,none⟩=some (.int .i64 (y:Nat))):=⟨(hb.cell (p:=⟨g,j,none⟩) (lt_of_cell15 kS.out.1)).trans kS.out.1,(hb.cell (p:=⟨g,jm,none⟩) (lt_of_cell15 kS.out.2)).trans kS.out.2⟩;clear hb))
                      all_goals
                       go_wp2_with fail
                       go_meet
                       case rel=>exact ⟨!decide (z<0),rfl,G.out.imp (fun M _ q=>⟨q.1,not_iff15 q.2⟩)⟩
                     clear HA;obtain ⟨t,rfl,HA⟩:=hcut;obtain ⟨W3,hW⟩:∃ W,W=wc:=⟨_,rfl⟩;subst hW;replace HA:Aside (Sx15 n g N w W3 (fun M=>Pm a b L M∧Up K a i M)):=(HA.out.imp (fun M _ q=>q.1):Sx15 n g N w W3 _)
                     cases t
                     · go_upto_region 23 with fail
                       obtain ⟨x,y,c1',c2',z1,z2,HF0⟩:=HA.out.swap j jm (by omega) (by omega)
                       have hse:j≠jm:=by omega
                       have hse':jm≠j:=by omega
                       have HF:=qsd (fun v hv=>((HF0 v hv).imp (fun M _ q=>by
                        obtain ⟨M0,q1,q2,rfl⟩:=q;have hj:=HJ.out;exact ⟨q1.1.trans (Pm.swap (by omega) (by omega) (by omega) (by omega) (by omega)),q1.2.far15 (by omega) (by omega) (by omega) (by omega)⟩):Sx15 n g N w v (fun M=>Pm a b L M∧Up K a i M)))
                       clear HA HF0
                       go_region
                       all_goals
                        go_wp2
                        go_roundg (b-j1)
                        case measure=>have:=HJ.out;omega
                        case rel=>exact ⟨j1,rfl,by have:=HJ.out;omega,by have:=HJ.out;omega,by first | rfl | simp,HF.out _ (by first | exact .inl rfl | exact .inr rfl)⟩
                     · go_wp2
                       go_roundg (5-cc)
                       case measure=>have:=HG.out;omega
                       case rel=>exact ⟨i,cc,by have:=HG.out;omega,c1,c2,by first | rfl | simp,by first | rfl | simp,HA.out⟩
                   · have hdj:decide ((j:Int)<(b:Int))=false:=by simp;omega
                     go_wp2
                     go_roundg (5-cc)
                     case measure=>have:=HG.out;omega
                     case rel=>exact ⟨i,cc,by have:=HG.out;omega,c1,c2,by first | rfl | simp,by first | rfl | simp,HA.out⟩
                · have hdr2:decide ((2:Int)≤(br:Int))=false:=by simp;omega
                  go_wp2
                  go_roundg (5-cc)
                  case measure=>have:=HG.out;omega
                  case rel=>exact ⟨i,cc,by have:=HG.out;omega,c1,c2,by first | rfl | simp,by first | rfl | simp,HA.out⟩
           · have hdl2:decide ((2:Int)≤(bl:Int))=false:=by simp;omega
             replace HA:Aside (Sx15 n g N w W1 (fun M=>Pm a b L M∧Up K a i M)):=(HA.out.imp (fun M _ q=>by
              have hi:=HI.out;have hb:=HB.out;have k2:=q.2.done (.inl (by omega))
              rw [show im+1=i by omega] at k2
              exact ⟨q.1,k2⟩):Sx15 n g N w W1 _)
             replace HA:Aside (Sx15 n g N w W1 (fun M=>Pm a b L M∧Up K a i M)):=HA
             by_cases h2r:2≤br
             · have hdr2:decide ((2:Int)≤(br:Int))=true:=by simp;omega
               go_wp2
               go_loopg [12] (b-i1) (fun gk jv wr=>∃ j:Nat,gk=b-j∧i<j∧j≤b∧jv=.int .i64 (j:Nat)∧Aside (Sx15 n g N w wr (fun M=>Pm a b L M∧Up K a i M)))
               case atStart=>exact ⟨i1,rfl,by have:=HI.out;omega,by have:=HI.out;omega,by first | rfl | simp,HA.out⟩
               case round =>
                clear HA;obtain ⟨j,hgj,e1,e2,rfl,HA⟩:=hrel
                by_cases hjb:j<b
                · have hdj:decide ((j:Int)<(b:Int))=true:=by simp;omega
                  obtain ⟨j1,hj1⟩:∃ x,x=j+1:=⟨_,rfl⟩;obtain ⟨jm,hjm⟩:∃ x,x=j-1:=⟨_,rfl⟩;have wj1:IntKind.i64.wrap ((j:Int)+1)=(j1:Int):=wrapZ (by omega) (by omega)
                  have wjm:IntKind.i64.wrap ((j:Int)-1)=(jm:Int):=wrapZ (by omega) (by omega)
                  have bj:(j:Int)<(N:Int):=by omega
                  have bj':j<N:=by omega
                  have bjm:(jm:Int)<(N:Int):=by omega
                  have bjm':jm<N:=by omega
                  have hne1:j≠jm:=by omega
                  have HJ:=qsd (ai hj1 hjm);clear hj1 hjm
                  go_upto_region 22 with fail
                  go_cut [124] from 112 to 123 (fun v wx=>∃ t:Bool,v=.bool t∧Aside (Sx15 n g N w wx (fun M=>(fun M=>Pm a b L M∧Up K a i M) M∧(t=true↔(¬ ky K M j<ky K M jm)))))
                  case first =>
                   obtain ⟨x,y,z,c1',c2',C0,HF0⟩:=HA.out.cmpd HC.out j jm (by omega) (by omega)
                   have C:=hid C0;have HF:=qsd HF0;have kS:=qsd (ai c1' c2');clear HA C0 HF0 c1' c2'
                   go_region_held3 (fun w'=>w'.cell? ⟨g,j,none⟩=some (.int .i64 (x:Nat))∧w'.cell? ⟨g,jm,none⟩=some (.int .i64 (y:Nat))) (with_reducible exact kS.out) (first
                    | (go_at_call 108
                       with_reducible refine C.out.mono ?_
                       rintro r v ⟨rfl,hb⟩;have G:=qsd (HF.out v hb);have kS:Aside (v.cell? ⟨g,j,none⟩=some (.int .i64 (x:Nat))∧v.cell? ⟨g,jm,none⟩=some (.int .i64 (y:Nat))):=⟨(hb.cell (p:=⟨g,j,none⟩) (lt_of_cell15 kS.out.1)).trans kS.out.1,(hb.cell (p:=⟨g,jm,none⟩) (lt_of_cell15 kS.out.2)).trans kS.out.2⟩;clear hb))
                   all_goals
                    go_wp2_with fail
                    go_meet
                    case rel=>exact ⟨!decide (z<0),rfl,G.out.imp (fun M _ q=>⟨q.1,not_iff15 q.2⟩)⟩
                  clear HA;obtain ⟨t,rfl,HA⟩:=hcut;obtain ⟨W3,hW⟩:∃ W,W=wc:=⟨_,rfl⟩;subst hW;replace HA:Aside (Sx15 n g N w W3 (fun M=>Pm a b L M∧Up K a i M)):=(HA.out.imp (fun M _ q=>q.1):Sx15 n g N w W3 _)
                  cases t
                  · go_upto_region 23 with fail
                    obtain ⟨x,y,c1',c2',z1,z2,HF0⟩:=HA.out.swap j jm (by omega) (by omega)
                    have hse:j≠jm:=by omega
                    have hse':jm≠j:=by omega
                    have HF:=qsd (fun v hv=>((HF0 v hv).imp (fun M _ q=>by
                     obtain ⟨M0,q1,q2,rfl⟩:=q;have hj:=HJ.out;exact ⟨q1.1.trans (Pm.swap (by omega) (by omega) (by omega) (by omega) (by omega)),q1.2.far15 (by omega) (by omega) (by omega) (by omega)⟩):Sx15 n g N w v (fun M=>Pm a b L M∧Up K a i M)))
                    clear HA HF0
                    go_region
                    all_goals
                     go_wp2
                     go_roundg (b-j1)
                     case measure=>have:=HJ.out;omega
                     case rel=>exact ⟨j1,rfl,by have:=HJ.out;omega,by have:=HJ.out;omega,by first | rfl | simp,HF.out _ (by first | exact .inl rfl | exact .inr rfl)⟩
                  · go_wp2
                    go_roundg (5-cc)
                    case measure=>have:=HG.out;omega
                    case rel=>exact ⟨i,cc,by have:=HG.out;omega,c1,c2,by first | rfl | simp,by first | rfl | simp,HA.out⟩
                · have hdj:decide ((j:Int)<(b:Int))=false:=by simp;omega
                  go_wp2
                  go_roundg (5-cc)
                  case measure=>have:=HG.out;omega
                  case rel=>exact ⟨i,cc,by have:=HG.out;omega,c1,c2,by first | rfl | simp,by first | rfl | simp,HA.out⟩
             · have hdr2:decide ((2:Int)≤(br:Int))=false:=by simp;omega
               go_wp2
               go_roundg (5-cc)
               case measure=>have:=HG.out;omega
               case rel=>exact ⟨i,cc,by have:=HG.out;omega,c1,c2,by first | rfl | simp,by first | rfl | simp,HA.out⟩
     · have hlt:i<b:=by
        obtain ⟨_,_,_,_,_,q⟩:=HA.out;exact (q.2.1 rfl).1
       replace HA:Aside (Sx15 n g N w WC (fun M=>Pm a b L M∧Up K a i1 M)):=(HA.out.imp (fun M _ q=>by
        obtain ⟨hi1,him⟩:=HI.out;rw [hi1];have:=Nat.le_of_not_lt (q.2.1 rfl).2;rw [him] at this;exact ⟨q.1.1,q.1.2.snoc15 c1 this⟩):Sx15 n g N w WC _)
       go_wp2
       go_roundg (b-i1)
       case measure=>have:=HI.out;omega
       case rel=>exact ⟨i1,rfl,by have:=HI.out;omega,by have:=HI.out;omega,by first | rfl | simp,HA.out⟩
  · have hd5:decide ((c:Int)<5)=false:=by simp;omega
    go_wp2;refine bodyPost_ret (v:=.bool false) (by simp [results,Tryz.results197,go_sem]) rfl ?_
    exact ⟨false,rfl,HA.out.imp (fun M _ q=>⟨q.1,fun e=>absurd e (by decide)⟩)⟩
end
section
open Go.RowKit
set_option maxRecDepth 100000 in
theorem len64_int (x:Int) (w:World) (h0:0≤x) (h1:x≤18446744073709551615) :
 Calls Tryz.prog 200 #[.int .u64 x] w fun e w'=>e=.returned (.int .i64 (Lib.bitLen x.toNat))∧w'=w:=by
 have hsz:Lib.len8tab.size=256:=Lib.len8tab_size;go_enter Tryz.func200,Tryz.ntmps200;go_wp2
 all_goals (go_ret;refine ⟨congrArg (fun z=>Ending.returned (Value.int IntKind.i64 z)) ?_,rfl⟩)
 · exact fin_len x (x/4294967296/65536/256) 56 (by omega) (by omega) (by rw [Lib.bitLen_shift56 x.toNat (by omega) (by omega),show (x/4294967296/65536/256).toNat=x.toNat/72057594037927936 by omega]) (by omega) (by omega)
 · exact fin_len x (x/4294967296/65536) 48 (by omega) (by omega) (by rw [Lib.bitLen_shift48 x.toNat (by omega) (by omega),show (x/4294967296/65536).toNat=x.toNat/281474976710656 by omega]) (by omega) (by omega)
 · exact fin_len x (x/4294967296/256) 40 (by omega) (by omega) (by rw [Lib.bitLen_shift40 x.toNat (by omega) (by omega),show (x/4294967296/256).toNat=x.toNat/1099511627776 by omega]) (by omega) (by omega)
 · exact fin_len x (x/4294967296) 32 (by omega) (by omega) (by rw [Lib.bitLen_shift32 x.toNat (by omega) (by omega),show (x/4294967296).toNat=x.toNat/4294967296 by omega]) (by omega) (by omega)
 · exact fin_len x (x/65536/256) 24 (by omega) (by omega) (by rw [Lib.bitLen_shift24 x.toNat (by omega) (by omega),show (x/65536/256).toNat=x.toNat/16777216 by omega]) (by omega) (by omega)
 · exact fin_len x (x/65536) 16 (by omega) (by omega) (by rw [Lib.bitLen_shift16 x.toNat (by omega) (by omega),show (x/65536).toNat=x.toNat/65536 by omega]) (by omega) (by omega)
 · exact fin_len x (x/256) 8 (by omega) (by omega) (by rw [Lib.bitLen_shift8 x.toNat (by omega) (by omega),show (x/256).toNat=x.toNat/256 by omega]) (by omega) (by omega)
 · exact fin_len0 x (by omega) (by omega) (by omega)
theorem blen_any (x:Nat) (w:World) (h:x<18446744073709551616):Calls Tryz.prog 152 #[.int .u64 (x:Int)] w fun e w'=>e=.returned (.int .i64 (bl x:Nat))∧w'=w:=by
 have:=len64_int x w (by omega) (by omega)
 rw [Int.toNat_natCast,bitLen_bl x (by omega)] at this
 have H:=hid this;clear this;go_enter Tryz.func152,Tryz.ntmps152
 go_wp2_with fail
 refine H.out.mono ?_;rintro r w1 ⟨rfl,rfl⟩;go_wp2;go_ret;exact ⟨rfl,rfl⟩
end
end Go.Proofs.YtblkpkgebigojaaGreatDoor
