import Derived.Test.YtihjfhpoiheomaaGreatDoorRS2x
import Derived.Test.YtihjfhpoiheomaaGreatDoorM4x
import Derived.Test.YtihjfhpoiheomaaGreatDoorM1x
import Derived.Lib.Strings
import Derived.Lib.Slices
import Derived.Lib.Small
import Derived.Lib.Walk
import Derived.Lib.BitFns
import Derived.Lib.Tables
import Derived.Lib.ItoaNum
import Derived.Lib.TrailingZeros
import Derived.Laws.Closers25b
import Derived.Laws.Bits64b
import Derived.Deep.CutBlock
import Derived.Laws.StructEq
import Derived.Test.YtihjfhpoiheomaaGreatDoorW25x
set_option linter.unusedVariables false
set_option linter.unusedSimpArgs false
set_option maxHeartbeats 16000000
set_option maxRecDepth 20000
namespace Go.Proofs.YtihjfhpoiheomaaGreatDoor
namespace J
end J
section
open Go.RowKit J
theorem partial15 (K:Nat→Nat) (n g N a b cap:Nat) (L:List Nat) (recv:Value) (w:World) (hS:Sx15 n g N w w (fun M=>M=L)) (hC:Cmp15 K n g recv w) (hF:Fl K a b L) (hab:a<b) (hb:b≤N) (hbig:N<1152921504606846976) :
 Calls Tryz.prog 92 #[.slice (some ⟨g,0,none⟩) N cap,.int .i64 (a:Nat),.int .i64 (b:Nat),.func (.func 49) #[recv] #[]] w fun r w'=>∃ t:Bool,r=.returned (.bool t)∧Sx15 n g N w w' (fun M=>Pm a b L M∧(t=true→Up K a b M)):=by
 obtain ⟨i0,hi0⟩:∃ x,x=a+1:=⟨_,rfl⟩;obtain ⟨l,hl⟩:∃ x,x=b-a:=⟨_,rfl⟩;have HC:=qsd hC;have HL:=qsd hF;have w1:IntKind.i64.wrap ((a:Int)+1)=(i0:Int):=wrapZ (by omega) (by omega)
 have w2:IntKind.i64.wrap ((b:Int)-(a:Int))=(l:Int):=wrapZ (by omega) (by omega)
 have c1:a<i0:=by omega
 have c2:i0≤b:=by omega
 have HA:Aside (Sx15 n g N w w (fun M=>Pm a b L M∧Up K a i0 M)):=(hS.imp (fun M _ e=>by
  subst e;exact ⟨Pm.refl _ _ _,fun x y h1 h2 h3=>by omega⟩):Sx15 n g N w w _)
 have HQ:=qsd (ai hi0 hl);clear hi0 hl hS hC hF;go_enter Tryz.func92,Tryz.ntmps92;go_wp2
 go_loopg [9,10] 5 (fun gk iv cv wr=>∃ i c:Nat,gk+c=5∧a<i∧i≤b∧iv=.int .i64 (i:Nat)∧cv=.int .i64 (c:Nat)∧Aside (Sx15 n g N w wr (fun M=>Pm a b L M∧Up K a i M)))
 case atStart=>exact ⟨i0,0,rfl,c1,c2,by first | rfl | simp,by first | rfl | simp,HA.out⟩
 case round =>
  clear HA c1 c2;obtain ⟨i9,c,hgc,c1,c2,rfl,rfl,HA⟩:=hrel
  by_cases hc5:c<5
  · have hd5:decide ((c:Int)<5)=true:=by simp;omega
    obtain ⟨cc,hcc⟩:∃ x,x=c+1:=⟨_,rfl⟩;have wcc:IntKind.i64.wrap ((c:Int)+1)=(cc:Int):=wrapZ (by omega) (by omega)
    have HG:=(qsd (ai hgc (ai hcc hc5)));clear hgc hcc hc5;go_wp2
    go_loopg [9] (b-i9) (fun gk iv wr=>∃ i:Nat,gk=b-i∧a<i∧i≤b∧iv=.int .i64 (i:Nat)∧Aside (Sx15 n g N w wr (fun M=>Pm a b L M∧Up K a i M)))
    case atStart=>exact ⟨i9,rfl,c1,c2,by first | rfl | simp,HA.out⟩
    case round =>
     clear HA c1 c2;obtain ⟨i,hgk,c1,c2,rfl,HA⟩:=hrel;obtain ⟨i1,hi1⟩:∃ x,x=i+1:=⟨_,rfl⟩;obtain ⟨im,him⟩:∃ x,x=i-1:=⟨_,rfl⟩;have wi1:IntKind.i64.wrap ((i:Int)+1)=(i1:Int):=wrapZ (by omega) (by omega)
     have wim:IntKind.i64.wrap ((i:Int)-1)=(im:Int):=wrapZ (by omega) (by omega)
     have bm:(im:Int)<(N:Int):=by omega
     have bm':im<N:=by omega
     have HI:=qsd (ai hi1 him);clear hi1 him
     go_upto_region 5 with fail
     go_cut [36] from 19 to 35 (fun v wx=>∃ t:Bool,v=.bool t∧Aside (Sx15 n g N w wx (fun M=>(fun M=>Pm a b L M∧Up K a i M) M∧(t=true↔(i<b∧¬ ky K M i<ky K M im)))))
     case first =>
      by_cases hgd:i<b
      · have hgdec:decide ((i:Int)<(b:Int))=true:=by simp;omega
        obtain ⟨x,y,z,c1',c2',C0,HF0⟩:=HA.out.cmpd HC.out i im (by omega) (by omega)
        have C:=hid C0;have HF:=qsd HF0;have kS:=qsd (ai c1' c2');clear HA C0 HF0 c1' c2';have bi:(i:Int)<(N:Int):=by omega
        have bi':i<N:=by omega
        go_region_held3 (fun w'=>w'.cell? ⟨g,i,none⟩=some (.int .i64 (x:Nat))∧w'.cell? ⟨g,im,none⟩=some (.int .i64 (y:Nat))) (with_reducible exact kS.out) (first
         | (go_at_call 49
            with_reducible refine C.out.mono ?_
            rintro r v ⟨rfl,hb⟩;have G:=qsd (HF.out v hb);have kS:Aside (v.cell? ⟨g,i,none⟩=some (.int .i64 (x:Nat))∧v.cell? ⟨g,im,none⟩=some (.int .i64 (y:Nat))):=⟨(hb.cell (p:=⟨g,i,none⟩) (lt_of_cell15 kS.out.1)).trans kS.out.1,(hb.cell (p:=⟨g,im,none⟩) (lt_of_cell15 kS.out.2)).trans kS.out.2⟩;clear hb))
        all_goals
         go_wp2_with fail
         go_meet
         case rel=>exact ⟨!decide (z<0),rfl,G.out.imp (fun M _ q=>⟨q.1,and_iff15 hgd (not_iff15 q.2)⟩)⟩
      · have hgdec:decide ((i:Int)<(b:Int))=false:=by simp;omega
        have HD:=qsd (HA.out.drew);clear HA
        go_region
        all_goals
         go_wp2_with fail
         go_meet
         case rel=>exact ⟨false,rfl,HD.out.imp (fun M _ q=>⟨q,and_no15 hgd⟩)⟩
     clear HA;obtain ⟨t,rfl,HA⟩:=hcut;obtain ⟨WC,hW⟩:∃ W,W=wc:=⟨_,rfl⟩;subst hW
     cases t
     · replace HA:Aside (Sx15 n g N w WC (fun M=>(Pm a b L M∧Up K a i M)∧(i<b→ky K M i<ky K M im))):=(HA.out.imp (fun M _ q=>⟨q.1,fun e=>Classical.byContradiction (fun h=>absurd (q.2.2 ⟨e,h⟩) (by decide))⟩):Sx15 n g N w WC _)
       by_cases hib:i=b
       · subst hib
         go_wp2;refine bodyPost_ret (v:=.bool true) (by simp [results,Tryz.results92,go_sem]) rfl ?_
         exact ⟨true,rfl,HA.out.imp (fun M _ q=>⟨q.1.1,fun _=>q.1.2⟩)⟩
       · have hib1:((i:Int)==(b:Int))=false:=by simp;omega
         have hib2:decide ((i:Int)=(b:Int))=false:=by simp;omega
         have hlt:i<b:=by omega
         by_cases h50:l<50
         · have hd50:decide ((l:Int)<50)=true:=by simp;omega
           go_wp2;refine bodyPost_ret (v:=.bool false) (by simp [results,Tryz.results92,go_sem]) rfl ?_
           exact ⟨false,rfl,HA.out.imp (fun M _ q=>⟨q.1.1,fun e=>absurd e (by decide)⟩)⟩
         · have hd50:decide ((l:Int)<50)=false:=by simp;omega
           obtain ⟨bl,hbl⟩:∃ x,x=i-a:=⟨_,rfl⟩;obtain ⟨br,hbr⟩:∃ x,x=b-i:=⟨_,rfl⟩;have wbl:IntKind.i64.wrap ((i:Int)-(a:Int))=(bl:Int):=wrapZ (by omega) (by omega)
           have wbr:IntKind.i64.wrap ((b:Int)-(i:Int))=(br:Int):=wrapZ (by omega) (by omega)
           have bi:(i:Int)<(N:Int):=by omega
           have bi':i<N:=by omega
           have HB:=qsd (ai hbl hbr);clear hbl hbr
           go_upto_region 11 with fail
           go_cut [9] from 39 to 61 (fun v wx=>v=.int .i64 (i:Nat)∧Aside (Sx15 n g N w wx (fun M=>∃ M0,(fun M=>(Pm a b L M∧Up K a i M)∧(i<b→ky K M i<ky K M im)) M0∧M0.length=N∧M=sw M0 i im)))
           case first =>
            obtain ⟨x,y,c1',c2',z1,z2,HF0⟩:=HA.out.swap i im (by omega) (by omega)
            have HF:=qsd HF0;clear HA HF0
            by_cases hse:i=im
            · subst hse
              have hxy:x=y:=by
               have h2:(x:Int)=(y:Int):=by (have:=c1'.symm.trans c2';simpa using this)
               omega
              subst hxy;clear c2' z2
              go_region
              all_goals
               go_wp2_with fail
               go_meet
               case rel=>exact ⟨rfl,HF.out _ (by first | exact .inl rfl | exact .inr rfl)⟩
            · have hse':im≠i:=fun e=>hse e.symm
              go_region
              all_goals
               go_wp2_with fail
               go_meet
               case rel=>exact ⟨rfl,HF.out _ (by first | exact .inl rfl | exact .inr rfl)⟩
           clear HA;obtain ⟨rfl,HA⟩:=hcut;obtain ⟨W1,hW⟩:∃ W,W=wc:=⟨_,rfl⟩;subst hW
           replace HA:Aside (Sx15 n g N w W1 (fun M=>Pm a b L M∧Ins K a im im M)):=(HA.out.imp (fun M _ q=>by
            obtain ⟨M0,q1,q2,rfl⟩:=q;have hi:=HI.out;have e:i=im+1:=by omega
            have u:=q1.1.2;rw [e] at u;refine ⟨q1.1.1.trans (Pm.swap (by omega) (by omega) (by omega) (by omega) (by omega)),?_⟩
            rw [e];exact Ins.cut15 u (by omega) (by omega)):Sx15 n g N w W1 _)
           by_cases h2l:2≤bl
           · have hdl2:decide ((2:Int)≤(bl:Int))=true:=by simp;omega
             go_wp2
             go_loopg [11] im (fun gk jv wr=>∃ j:Nat,gk=j∧a≤j∧j≤im∧jv=.int .i64 (j:Nat)∧Aside (Sx15 n g N w wr (fun M=>Pm a b L M∧Ins K a im j M)))
             case atStart=>exact ⟨im,rfl,by have:=HI.out;omega,Nat.le_refl _,by first | rfl | simp,HA.out⟩
             case round =>
              clear HA;obtain ⟨j,hgj,e1,e2,rfl,HA⟩:=hrel
              by_cases hj1:1≤j
              · have hdj:decide ((1:Int)≤(j:Int))=true:=by simp;omega
                obtain ⟨jm,hjm⟩:∃ x,x=j-1:=⟨_,rfl⟩;have wjm:IntKind.i64.wrap ((j:Int)-1)=(jm:Int):=wrapZ (by omega) (by omega)
                have bj:(j:Int)<(N:Int):=by omega
                have bj':j<N:=by omega
                have bjm:(jm:Int)<(N:Int):=by omega
                have bjm':jm<N:=by omega
                have hne1:j≠jm:=by omega
                have HJ:=qsd hjm;clear hjm
                go_upto_region 16 with fail
                go_cut [84] from 72 to 83 (fun v wx=>∃ t:Bool,v=.bool t∧Aside (Sx15 n g N w wx (fun M=>(fun M=>Pm a b L M∧Ins K a im j M) M∧(t=true↔(¬ ky K M j<ky K M jm)))))
                case first =>
                 obtain ⟨x,y,z,c1',c2',C0,HF0⟩:=HA.out.cmpd HC.out j jm (by omega) (by omega)
                 have C:=hid C0;have HF:=qsd HF0;have kS:=qsd (ai c1' c2');clear HA C0 HF0 c1' c2'
                 go_region_held3 (fun w'=>w'.cell? ⟨g,j,none⟩=some (.int .i64 (x:Nat))∧w'.cell? ⟨g,jm,none⟩=some (.int .i64 (y:Nat))) (with_reducible exact kS.out) (first
                  | (go_at_call 49
                     with_reducible refine C.out.mono ?_
                     rintro r v ⟨rfl,hb⟩;have G:=qsd (HF.out v hb);have kS:Aside (v.cell? ⟨g,j,none⟩=some (.int .i64 (x:Nat))∧v.cell? ⟨g,jm,none⟩=some (.int .i64 (y:Nat))):=⟨(hb.cell (p:=⟨g,j,none⟩) (lt_of_cell15 kS.out.1)).trans kS.out.1,(hb.cell (p:=⟨g,jm,none⟩) (lt_of_cell15 kS.out.2)).trans kS.out.2⟩;clear hb))
                 all_goals
                  go_wp2_with fail
                  go_meet
                  case rel=>exact ⟨!decide (z<0),rfl,G.out.imp (fun M _ q=>⟨q.1,not_iff15 q.2⟩)⟩
                clear HA;obtain ⟨t,rfl,HA⟩:=hcut;obtain ⟨W3,hW⟩:∃ W,W=wc:=⟨_,rfl⟩;subst hW
                cases t
                · have haj:a<j:=by
                   obtain ⟨M,_,hlen,_,_,q⟩:=HA.out
                   rcases Nat.lt_or_ge a j with h|h
                   · exact h
                   · exfalso
                     have ej:j=a:=by omega
                     have hjm:=HJ.out;have hi:=HI.out;have f:=(HL.out.pm q.1.1) (by omega) j (by omega) (by omega)
                     have k1:¬ ky K M j<ky K M jm:=by rw [hjm,ej] at *;omega
                     exact absurd (q.2.2 k1) (by decide)
                  go_upto_region 17 with fail
                  obtain ⟨x,y,c1',c2',z1,z2,HF0⟩:=HA.out.swap j jm (by omega) (by omega)
                  have hse:j≠jm:=by omega
                  have hse':jm≠j:=by omega
                  have HF:=qsd (fun v hv=>((HF0 v hv).imp (fun M _ q=>by
                   obtain ⟨M0,q1,q2,rfl⟩:=q;have hjm:=HJ.out;have hi:=HI.out;have k1:ky K M0 j<ky K M0 jm:=Classical.byContradiction (fun e=>absurd (q1.2.2 e) (by decide))
                   rw [hjm] at k1 ⊢;exact ⟨q1.1.1.trans (Pm.swap (by omega) (by omega) (by omega) (by omega) (by omega)),q1.1.2.step (by omega) haj k1⟩):Sx15 n g N w v (fun M=>Pm a b L M∧Ins K a im jm M)))
                  clear HA HF0
                  go_region
                  all_goals
                   go_wp2
                   go_roundg jm
                   case measure=>have:=HJ.out;omega
                   case rel=>exact ⟨jm,rfl,by have:=HJ.out;omega,by have:=HJ.out;omega,by first | rfl | simp,HF.out _ (by first | exact .inl rfl | exact .inr rfl)⟩
                · replace HA:Aside (Sx15 n g N w W3 (fun M=>Pm a b L M∧Up K a i M)):=(HA.out.imp (fun M _ q=>by
                   have hjm:=HJ.out;have hi:=HI.out;have k1:=Nat.le_of_not_lt (q.2.1 rfl);rw [hjm] at k1;have k2:=q.1.2.done (.inr k1);rw [show im+1=i by omega] at k2
                   exact ⟨q.1.1,k2⟩):Sx15 n g N w W3 _)
                  replace HA:Aside (Sx15 n g N w W3 (fun M=>Pm a b L M∧Up K a i M)):=HA
                  by_cases h2r:2≤br
                  · have hdr2:decide ((2:Int)≤(br:Int))=true:=by simp;omega
                    go_wp2
                    go_loopg [12] (b-i1) (fun gk jv wr=>∃ j:Nat,gk=b-j∧i<j∧j≤b∧jv=.int .i64 (j:Nat)∧Aside (Sx15 n g N w wr (fun M=>Pm a b L M∧Up K a i M)))
                    case atStart=>exact ⟨i1,rfl,by have:=HI.out;omega,by have:=HI.out;omega,by first | rfl | simp,HA.out⟩
                    case round =>
                     clear HA;obtain ⟨j,hgj,e1,e2,rfl,HA⟩:=hrel
                     by_cases hjb:j<b
                     · have hdj:decide ((j:Int)<(b:Int))=true:=by simp;omega
                       obtain ⟨j1,hj1⟩:∃ x,x=j+1:=⟨_,rfl⟩;obtain ⟨jm,hjm⟩:∃ x,x=j-1:=⟨_,rfl⟩;have wj1:IntKind.i64.wrap ((j:Int)+1)=(j1:Int):=wrapZ (by omega) (by omega)
                       have wjm:IntKind.i64.wrap ((j:Int)-1)=(jm:Int):=wrapZ (by omega) (by omega)
                       have bj:(j:Int)<(N:Int):=by omega
                       have bj':j<N:=by omega
                       have bjm:(jm:Int)<(N:Int):=by omega
                       have bjm':jm<N:=by omega
                       have hne1:j≠jm:=by omega
                       have HJ:=qsd (ai hj1 hjm);clear hj1 hjm
                       go_upto_region 22 with fail
                       go_cut [124] from 112 to 123 (fun v wx=>∃ t:Bool,v=.bool t∧Aside (Sx15 n g N w wx (fun M=>(fun M=>Pm a b L M∧Up K a i M) M∧(t=true↔(¬ ky K M j<ky K M jm)))))
                       case first =>
                        obtain ⟨x,y,z,c1',c2',C0,HF0⟩:=HA.out.cmpd HC.out j jm (by omega) (by omega)
                        have C:=hid C0;have HF:=qsd HF0;have kS:=qsd (ai c1' c2');clear HA C0 HF0 c1' c2'
                        go_region_held3 (fun w'=>w'.cell? ⟨g,j,none⟩=some (.int .i64 (x:Nat))∧w'.cell? ⟨g,jm,none⟩=some (.int .i64 (y:Nat))) (with_reducible exact kS.out) (first
                         | (go_at_call 49
                            with_reducible refine C.out.mono ?_
                            rintro r v ⟨rfl,hb⟩;have G:=qsd (HF.out v hb);have kS:Aside (v.cell? ⟨g,j,none⟩=some (.int .i64 (x:Nat))∧v.cell? ⟨g,jm,none⟩=some (.int .i64 (y:Nat))):=⟨(hb.cell (p:=⟨g,j,none⟩) (lt_of_cell15 kS.out.1)).trans kS.out.1,(hb.cell (p:=⟨g,jm,none⟩) (lt_of_cell15 kS.out.2)).trans kS.out.2⟩;clear hb))
                        all_goals
                         go_wp2_with fail
                         go_meet
                         case rel=>exact ⟨!decide (z<0),rfl,G.out.imp (fun M _ q=>⟨q.1,not_iff15 q.2⟩)⟩
                       clear HA;obtain ⟨t,rfl,HA⟩:=hcut;obtain ⟨W3,hW⟩:∃ W,W=wc:=⟨_,rfl⟩;subst hW;replace HA:Aside (Sx15 n g N w W3 (fun M=>Pm a b L M∧Up K a i M)):=(HA.out.imp (fun M _ q=>q.1):Sx15 n g N w W3 _)
                       cases t
                       · go_upto_region 23 with fail
                         obtain ⟨x,y,c1',c2',z1,z2,HF0⟩:=HA.out.swap j jm (by omega) (by omega)
                         have hse:j≠jm:=by omega
                         have hse':jm≠j:=by omega
                         have HF:=qsd (fun v hv=>((HF0 v hv).imp (fun M _ q=>by
                          obtain ⟨M0,q1,q2,rfl⟩:=q;have hj:=HJ.out;exact ⟨q1.1.trans (Pm.swap (by omega) (by omega) (by omega) (by omega) (by omega)),q1.2.far15 (by omega) (by omega) (by omega) (by omega)⟩):Sx15 n g N w v (fun M=>Pm a b L M∧Up K a i M)))
                         clear HA HF0
                         go_region
                         all_goals
                          go_wp2
                          go_roundg (b-j1)
                          case measure=>have:=HJ.out;omega
                          case rel=>exact ⟨j1,rfl,by have:=HJ.out;omega,by have:=HJ.out;omega,by first | rfl | simp,HF.out _ (by first | exact .inl rfl | exact .inr rfl)⟩
                       · go_wp2
                         go_roundg (5-cc)
                         case measure=>have:=HG.out;omega
                         case rel=>exact ⟨i,cc,by have:=HG.out;omega,c1,c2,by first | rfl | simp,by first | rfl | simp,HA.out⟩
                     · have hdj:decide ((j:Int)<(b:Int))=false:=by simp;omega
                       go_wp2
                       go_roundg (5-cc)
                       case measure=>have:=HG.out;omega
                       case rel=>exact ⟨i,cc,by have:=HG.out;omega,c1,c2,by first | rfl | simp,by first | rfl | simp,HA.out⟩
                  · have hdr2:decide ((2:Int)≤(br:Int))=false:=by simp;omega
                    go_wp2
                    go_roundg (5-cc)
                    case measure=>have:=HG.out;omega
                    case rel=>exact ⟨i,cc,by have:=HG.out;omega,c1,c2,by first | rfl | simp,by first | rfl | simp,HA.out⟩
              · have hdj:decide ((1:Int)≤(j:Int))=false:=by simp;omega
                replace HA:Aside (Sx15 n g N w wr (fun M=>Pm a b L M∧Up K a i M)):=(HA.out.imp (fun M _ q=>by
                 have hi:=HI.out;have k2:=q.2.done (.inl (by omega))
                 rw [show im+1=i by omega] at k2
                 exact ⟨q.1,k2⟩):Sx15 n g N w wr _)
                replace HA:Aside (Sx15 n g N w wr (fun M=>Pm a b L M∧Up K a i M)):=HA
                by_cases h2r:2≤br
                · have hdr2:decide ((2:Int)≤(br:Int))=true:=by simp;omega
                  go_wp2
                  go_loopg [12] (b-i1) (fun gk jv wr=>∃ j:Nat,gk=b-j∧i<j∧j≤b∧jv=.int .i64 (j:Nat)∧Aside (Sx15 n g N w wr (fun M=>Pm a b L M∧Up K a i M)))
                  case atStart=>exact ⟨i1,rfl,by have:=HI.out;omega,by have:=HI.out;omega,by first | rfl | simp,HA.out⟩
                  case round =>
                   clear HA;obtain ⟨j,hgj,e1,e2,rfl,HA⟩:=hrel
                   by_cases hjb:j<b
                   · have hdj:decide ((j:Int)<(b:Int))=true:=by simp;omega
                     obtain ⟨j1,hj1⟩:∃ x,x=j+1:=⟨_,rfl⟩;obtain ⟨jm,hjm⟩:∃ x,x=j-1:=⟨_,rfl⟩;have wj1:IntKind.i64.wrap ((j:Int)+1)=(j1:Int):=wrapZ (by omega) (by omega)
                     have wjm:IntKind.i64.wrap ((j:Int)-1)=(jm:Int):=wrapZ (by omega) (by omega)
                     have bj:(j:Int)<(N:Int):=by omega
                     have bj':j<N:=by omega
                     have bjm:(jm:Int)<(N:Int):=by omega
                     have bjm':jm<N:=by omega
                     have hne1:j≠jm:=by omega
                     have HJ:=qsd (ai hj1 hjm);clear hj1 hjm
                     go_upto_region 22 with fail
                     go_cut [124] from 112 to 123 (fun v wx=>∃ t:Bool,v=.bool t∧Aside (Sx15 n g N w wx (fun M=>(fun M=>Pm a b L M∧Up K a i M) M∧(t=true↔(¬ ky K M j<ky K M jm)))))
                     case first =>
                      obtain ⟨x,y,z,c1',c2',C0,HF0⟩:=HA.out.cmpd HC.out j jm (by omega) (by omega)
                      have C:=hid C0;have HF:=qsd HF0;have kS:=qsd (ai c1' c2');clear HA C0 HF0 c1' c2'
                      go_region_held3 (fun w'=>w'.cell? ⟨g,j,none⟩=some (.int .i64 (x:Nat))∧w'.cell? ⟨g,jm,none⟩=some (.int .i64 (y:Nat))) (with_reducible exact kS.out) (first
                       | (go_at_call 49
                          with_reducible refine C.out.mono ?_
                          rintro r v ⟨rfl,hb⟩;have G:=qsd (HF.out v hb);have kS:Aside (v.cell? ⟨g,j,none⟩=some (.int .i64 (x:Nat))∧v.cell? ⟨g,jm,none⟩=some (.int .i64 (y:Nat))):=⟨(hb.cell (p:=⟨g,j,none⟩) (lt_of_cell15 kS.out.1)).trans kS.out.1,(hb.cell (p:=⟨g,jm,none⟩) (lt_of_cell15 kS.out.2)).trans kS.out.2⟩;clear hb))
                      all_goals
                       go_wp2_with fail
                       go_meet
                       case rel=>exact ⟨!decide (z<0),rfl,G.out.imp (fun M _ q=>⟨q.1,not_iff15 q.2⟩)⟩
                     clear HA;obtain ⟨t,rfl,HA⟩:=hcut;obtain ⟨W3,hW⟩:∃ W,W=wc:=⟨_,rfl⟩;subst hW;replace HA:Aside (Sx15 n g N w W3 (fun M=>Pm a b L M∧Up K a i M)):=(HA.out.imp (fun M _ q=>q.1):Sx15 n g N w W3 _)
                     cases t
                     · go_upto_region 23 with fail
                       obtain ⟨x,y,c1',c2',z1,z2,HF0⟩:=HA.out.swap j jm (by omega) (by omega)
                       have hse:j≠jm:=by omega
                       have hse':jm≠j:=by omega
                       have HF:=qsd (fun v hv=>((HF0 v hv).imp (fun M _ q=>by
                        obtain ⟨M0,q1,q2,rfl⟩:=q;have hj:=HJ.out;exact ⟨q1.1.trans (Pm.swap (by omega) (by omega) (by omega) (by omega) (by omega)),q1.2.far15 (by omega) (by omega) (by omega) (by omega)⟩):Sx15 n g N w v (fun M=>Pm a b L M∧Up K a i M)))
                       clear HA HF0
                       go_region
                       all_goals
                        go_wp2
                        go_roundg (b-j1)
                        case measure=>have:=HJ.out;omega
                        case rel=>exact ⟨j1,rfl,by have:=HJ.out;omega,by have:=HJ.out;omega,by first | rfl | simp,HF.out _ (by first | exact .inl rfl | exact .inr rfl)⟩
                     · go_wp2
                       go_roundg (5-cc)
                       case measure=>have:=HG.out;omega
                       case rel=>exact ⟨i,cc,by have:=HG.out;omega,c1,c2,by first | rfl | simp,by first | rfl | simp,HA.out⟩
                   · have hdj:decide ((j:Int)<(b:Int))=false:=by simp;omega
                     go_wp2
                     go_roundg (5-cc)
                     case measure=>have:=HG.out;omega
                     case rel=>exact ⟨i,cc,by have:=HG.out;omega,c1,c2,by first | rfl | simp,by first | rfl | simp,HA.out⟩
                · have hdr2:decide ((2:Int)≤(br:Int))=false:=by simp;omega
                  go_wp2
                  go_roundg (5-cc)
                  case measure=>have:=HG.out;omega
                  case rel=>exact ⟨i,cc,by have:=HG.out;omega,c1,c2,by first | rfl | simp,by first | rfl | simp,HA.out⟩
           · have hdl2:decide ((2:Int)≤(bl:Int))=false:=by simp;omega
             replace HA:Aside (Sx15 n g N w W1 (fun M=>Pm a b L M∧Up K a i M)):=(HA.out.imp (fun M _ q=>by
              have hi:=HI.out;have hb:=HB.out;have k2:=q.2.done (.inl (by omega))
              rw [show im+1=i by omega] at k2
              exact ⟨q.1,k2⟩):Sx15 n g N w W1 _)
             replace HA:Aside (Sx15 n g N w W1 (fun M=>Pm a b L M∧Up K a i M)):=HA
             by_cases h2r:2≤br
             · have hdr2:decide ((2:Int)≤(br:Int))=true:=by simp;omega
               go_wp2
               go_loopg [12] (b-i1) (fun gk jv wr=>∃ j:Nat,gk=b-j∧i<j∧j≤b∧jv=.int .i64 (j:Nat)∧Aside (Sx15 n g N w wr (fun M=>Pm a b L M∧Up K a i M)))
               case atStart=>exact ⟨i1,rfl,by have:=HI.out;omega,by have:=HI.out;omega,by first | rfl | simp,HA.out⟩
               case round =>
                clear HA;obtain ⟨j,hgj,e1,e2,rfl,HA⟩:=hrel
                by_cases hjb:j<b
                · have hdj:decide ((j:Int)<(b:Int))=true:=by simp;omega
                  obtain ⟨j1,hj1⟩:∃ x,x=j+1:=⟨_,rfl⟩;obtain ⟨jm,hjm⟩:∃ x,x=j-1:=⟨_,rfl⟩;have wj1:IntKind.i64.wrap ((j:Int)+1)=(j1:Int):=wrapZ (by omega) (by omega)
                  have wjm:IntKind.i64.wrap ((j:Int)-1)=(jm:Int):=wrapZ (by omega) (by omega)
                  have bj:(j:Int)<(N:Int):=by omega
                  have bj':j<N:=by omega
                  have bjm:(jm:Int)<(N:Int):=by omega
                  have bjm':jm<N:=by omega
                  have hne1:j≠jm:=by omega
                  have HJ:=qsd (ai hj1 hjm);clear hj1 hjm
                  go_upto_region 22 with fail
                  go_cut [124] from 112 to 123 (fun v wx=>∃ t:Bool,v=.bool t∧Aside (Sx15 n g N w wx (fun M=>(fun M=>Pm a b L M∧Up K a i M) M∧(t=true↔(¬ ky K M j<ky K M jm)))))
                  case first =>
                   obtain ⟨x,y,z,c1',c2',C0,HF0⟩:=HA.out.cmpd HC.out j jm (by omega) (by omega)
                   have C:=hid C0;have HF:=qsd HF0;have kS:=qsd (ai c1' c2');clear HA C0 HF0 c1' c2'
                   go_region_held3 (fun w'=>w'.cell? ⟨g,j,none⟩=some (.int .i64 (x:Nat))∧w'.cell? ⟨g,jm,none⟩=some (.int .i64 (y:Nat))) (with_reducible exact kS.out) (first
                    | (go_at_call 49
                       with_reducible refine C.out.mono ?_
                       rintro r v ⟨rfl,hb⟩;have G:=qsd (HF.out v hb);have kS:Aside (v.cell? ⟨g,j,none⟩=some (.int .i64 (x:Nat))∧v.cell? ⟨g,jm,none⟩=some (.int .i64 (y:Nat))):=⟨(hb.cell (p:=⟨g,j,none⟩) (lt_of_cell15 kS.out.1)).trans kS.out.1,(hb.cell (p:=⟨g,jm,none⟩) (lt_of_cell15 kS.out.2)).trans kS.out.2⟩;clear hb))
                   all_goals
                    go_wp2_with fail
                    go_meet
                    case rel=>exact ⟨!decide (z<0),rfl,G.out.imp (fun M _ q=>⟨q.1,not_iff15 q.2⟩)⟩
                  clear HA;obtain ⟨t,rfl,HA⟩:=hcut;obtain ⟨W3,hW⟩:∃ W,W=wc:=⟨_,rfl⟩;subst hW;replace HA:Aside (Sx15 n g N w W3 (fun M=>Pm a b L M∧Up K a i M)):=(HA.out.imp (fun M _ q=>q.1):Sx15 n g N w W3 _)
                  cases t
                  · go_upto_region 23 with fail
                    obtain ⟨x,y,c1',c2',z1,z2,HF0⟩:=HA.out.swap j jm (by omega) (by omega)
                    have hse:j≠jm:=by omega
                    have hse':jm≠j:=by omega
                    have HF:=qsd (fun v hv=>((HF0 v hv).imp (fun M _ q=>by
                     obtain ⟨M0,q1,q2,rfl⟩:=q;have hj:=HJ.out;exact ⟨q1.1.trans (Pm.swap (by omega) (by omega) (by omega) (by omega) (by omega)),q1.2.far15 (by omega) (by omega) (by omega) (by omega)⟩):Sx15 n g N w v (fun M=>Pm a b L M∧Up K a i M)))
                    clear HA HF0
                    go_region
                    all_goals
                     go_wp2
                     go_roundg (b-j1)
                     case measure=>have:=HJ.out;omega
                     case rel=>exact ⟨j1,rfl,by have:=HJ.out;omega,by have:=HJ.out;omega,by first | rfl | simp,HF.out _ (by first | exact .inl rfl | exact .inr rfl)⟩
                  · go_wp2
                    go_roundg (5-cc)
                    case measure=>have:=HG.out;omega
                    case rel=>exact ⟨i,cc,by have:=HG.out;omega,c1,c2,by first | rfl | simp,by first | rfl | simp,HA.out⟩
                · have hdj:decide ((j:Int)<(b:Int))=false:=by simp;omega
                  go_wp2
                  go_roundg (5-cc)
                  case measure=>have:=HG.out;omega
                  case rel=>exact ⟨i,cc,by have:=HG.out;omega,c1,c2,by first | rfl | simp,by first | rfl | simp,HA.out⟩
             · have hdr2:decide ((2:Int)≤(br:Int))=false:=by simp;omega
               go_wp2
               go_roundg (5-cc)
               case measure=>have:=HG.out;omega
               case rel=>exact ⟨i,cc,by have:=HG.out;omega,c1,c2,by first | rfl | simp,by first | rfl | simp,HA.out⟩
     · have hlt:i<b:=by
        obtain ⟨_,_,_,_,_,q⟩:=HA.out;exact (q.2.1 rfl).1
       replace HA:Aside (Sx15 n g N w WC (fun M=>Pm a b L M∧Up K a i1 M)):=(HA.out.imp (fun M _ q=>by
        obtain ⟨hi1,him⟩:=HI.out;rw [hi1];have:=Nat.le_of_not_lt (q.2.1 rfl).2;rw [him] at this;exact ⟨q.1.1,q.1.2.snoc15 c1 this⟩):Sx15 n g N w WC _)
       go_wp2
       go_roundg (b-i1)
       case measure=>have:=HI.out;omega
       case rel=>exact ⟨i1,rfl,by have:=HI.out;omega,by have:=HI.out;omega,by first | rfl | simp,HA.out⟩
  · have hd5:decide ((c:Int)<5)=false:=by simp;omega
    go_wp2;refine bodyPost_ret (v:=.bool false) (by simp [results,Tryz.results92,go_sem]) rfl ?_
    exact ⟨false,rfl,HA.out.imp (fun M _ q=>⟨q.1,fun e=>absurd e (by decide)⟩)⟩
end
section
open Go.RowKit
set_option maxRecDepth 100000 in
theorem len64_int (x:Int) (w:World) (h0:0≤x) (h1:x≤18446744073709551615) :
 Calls Tryz.prog 96 #[.int .u64 x] w fun e w'=>e=.returned (.int .i64 (Lib.bitLen x.toNat))∧w'=w:=by
 have hsz:Lib.len8tab.size=256:=Lib.len8tab_size;go_enter Tryz.func96,Tryz.ntmps96;go_wp2
 all_goals (go_ret;refine ⟨congrArg (fun z=>Ending.returned (Value.int IntKind.i64 z)) ?_,rfl⟩)
 · exact fin_len x (x/4294967296/65536/256) 56 (by omega) (by omega) (by rw [Lib.bitLen_shift56 x.toNat (by omega) (by omega),show (x/4294967296/65536/256).toNat=x.toNat/72057594037927936 by omega]) (by omega) (by omega)
 · exact fin_len x (x/4294967296/65536) 48 (by omega) (by omega) (by rw [Lib.bitLen_shift48 x.toNat (by omega) (by omega),show (x/4294967296/65536).toNat=x.toNat/281474976710656 by omega]) (by omega) (by omega)
 · exact fin_len x (x/4294967296/256) 40 (by omega) (by omega) (by rw [Lib.bitLen_shift40 x.toNat (by omega) (by omega),show (x/4294967296/256).toNat=x.toNat/1099511627776 by omega]) (by omega) (by omega)
 · exact fin_len x (x/4294967296) 32 (by omega) (by omega) (by rw [Lib.bitLen_shift32 x.toNat (by omega) (by omega),show (x/4294967296).toNat=x.toNat/4294967296 by omega]) (by omega) (by omega)
 · exact fin_len x (x/65536/256) 24 (by omega) (by omega) (by rw [Lib.bitLen_shift24 x.toNat (by omega) (by omega),show (x/65536/256).toNat=x.toNat/16777216 by omega]) (by omega) (by omega)
 · exact fin_len x (x/65536) 16 (by omega) (by omega) (by rw [Lib.bitLen_shift16 x.toNat (by omega) (by omega),show (x/65536).toNat=x.toNat/65536 by omega]) (by omega) (by omega)
 · exact fin_len x (x/256) 8 (by omega) (by omega) (by rw [Lib.bitLen_shift8 x.toNat (by omega) (by omega),show (x/256).toNat=x.toNat/256 by omega]) (by omega) (by omega)
 · exact fin_len0 x (by omega) (by omega) (by omega)
theorem blen_any (x:Nat) (w:World) (h:x<18446744073709551616):Calls Tryz.prog 66 #[.int .u64 (x:Int)] w fun e w'=>e=.returned (.int .i64 (bl x:Nat))∧w'=w:=by
 have:=len64_int x w (by omega) (by omega)
 rw [Int.toNat_natCast,bitLen_bl x (by omega)] at this
 have H:=hid this;clear this;go_enter Tryz.func66,Tryz.ntmps66
 go_wp2_with fail
 refine H.out.mono ?_;rintro r w1 ⟨rfl,rfl⟩;go_wp2;go_ret;exact ⟨rfl,rfl⟩
end
section
open Go.RowKit J
theorem pow_bl15 (l:Nat) (h:0<l):l<2^bl l∧2^bl l≤2*l:=by
 refine ⟨bl_lt l,?_⟩;have h1:=bl_ge l (by omega)
 have h2:=bl_pos l (by omega)
 rw [show bl l=(bl l-1)+1 by omega,Nat.pow_succ]
 omega
theorem nextPow15 (l:Nat) (w:World) (h0:0<l) (h:l<1152921504606846976):Calls Tryz.prog 123 #[.int .i64 (l:Nat)] w fun r w'=>r=.returned (.int .u64 ((2^bl l:Nat):Int))∧w'=w:=by
 have C:=hid (blen_any l w (by omega))
 have wl:IntKind.u64.wrap (l:Int)=(l:Int):=by simp [IntKind.wrap,IntKind.bits,IntKind.signed];omega
 have hp:=(pow_bl15 l h0).2;go_enter Tryz.func123,Tryz.ntmps123
 go_wp2_with fail
 refine C.out.mono ?_;rintro r w1 ⟨rfl,rfl⟩;obtain ⟨m,hm⟩:∃ m,m=bl l:=⟨_,rfl⟩;rw [←hm] at hp ⊢;have HP:=qsd hp;have HM:=qsd hm;clear C hm hp;go_wp2
 have hm64:m<64:=by
  rcases Nat.lt_or_ge m 64 with q|q
  · exact q
  · have:=Nat.pow_le_pow_right (n:=2) (by omega) q
    have:=HP.out;omega
 have e:IntKind.u64.wrap (2^min m 64)=((2^m:Nat):Int):=by
  rw [Nat.min_eq_left (by omega),show ((2:Int)^m)=((2^m:Nat):Int) by simp]
  have:=HP.out;rw [IntKind.wrap_u64];obtain ⟨P,hP⟩:∃ P,P=2^m:=⟨_,rfl⟩;rw [←hP] at this ⊢;exact Int.emod_eq_of_lt (by omega) (by omega)
 rw [e,HM.out];go_ret;exact ⟨rfl,rfl⟩
theorem xo15 (op:BinOp) (a b:Int):∃ y:Nat,y<18446744073709551616∧bits op .u64 a b=(y:Int):=by
 have h1:=bits_lo_u64 op a b;have h2:=bits_hi_u64 op a b;exact ⟨(bits op .u64 a b).toNat,by omega,by omega⟩
def Xq15 (q:Nat) (w wr:World):Prop:=∃ y:Nat,y<18446744073709551616∧wr.cell? ⟨q,0,none⟩=some (.int .u64 (y:Nat))∧wr.frozen? ⟨q,0,none⟩=false∧But q w wr
theorem Xq15.step {q y:Nat}{w wr:World}(h:Xq15 q w wr) (hy:y<18446744073709551616):Xq15 q w (wr.drew.setCell ⟨q,0,none⟩ (.int .u64 (y:Nat))):=by
 obtain ⟨x,h1,h2,h3,h4⟩:=h;refine ⟨y,hy,World.cell?_setCell_same _ _ _ (show wr.drew.cell? _=_ from h2),?_,(h4.drew).set _ _⟩
 rw [World.frozen?_setCell];exact h3
theorem next15 (q:Nat) (w:World) (h:Xq15 q w w):Calls Tryz.prog 124 #[.pointer (some ⟨q,0,none⟩)] w fun r w'=>∃ y:Nat,y<18446744073709551616∧r=.returned (.int .u64 (y:Nat))∧Xq15 q w w':=by
 have HA:=qsd h;clear h;go_enter Tryz.func124,Tryz.ntmps124
 go_upto_region 1 with fail
 go_cut [0] from 3 to 11 (fun v wx=>v=.pointer (some ⟨q,0,none⟩)∧Aside (Xq15 q w wx))
 case first =>
  obtain ⟨x,x1,x2,x3,x4⟩:=HA.out;obtain ⟨y,y1,y2⟩:=xo15 .xor (x:Int) (IntKind.u64.wrap ((x:Int)*8192));have HF:Aside (∀ v,v=(w.drew.setCell ⟨q,0,none⟩ (.int .u64 (y:Nat)))→Xq15 q w v):=fun v hv=>by rw [hv];exact HA.out.step y1
  have hx0:(0:Int)≤(x:Int):=by omega
  have X:=qsd (ai x1 y1);clear HA x4 x1 y1
  go_region
  all_goals
   go_wp2_with fail
   go_meet
   case rel=>exact ⟨rfl,HF.out _ rfl⟩
 clear HA;obtain ⟨rfl,HA⟩:=hcut;obtain ⟨W1,hW⟩:∃ W,W=wc:=⟨_,rfl⟩;subst hW
 go_upto_region 2 with fail
 go_cut [0] from 12 to 20 (fun v wx=>v=.pointer (some ⟨q,0,none⟩)∧Aside (Xq15 q w wx))
 case first =>
  obtain ⟨x,x1,x2,x3,x4⟩:=HA.out;obtain ⟨y,y1,y2⟩:=xo15 .xor (x:Int) ((x:Int)/128);have HF:Aside (∀ v,v=(W1.drew.setCell ⟨q,0,none⟩ (.int .u64 (y:Nat)))→Xq15 q w v):=fun v hv=>by rw [hv];exact HA.out.step y1
  have hx0:(0:Int)≤(x:Int):=by omega
  have X:=qsd (ai x1 y1);clear HA x4 x1 y1
  go_region
  all_goals
   go_wp2_with fail
   go_meet
   case rel=>exact ⟨rfl,HF.out _ rfl⟩
 clear HA;obtain ⟨rfl,HA⟩:=hcut;obtain ⟨W2,hW⟩:∃ W,W=wc:=⟨_,rfl⟩;subst hW
 go_upto_region 3 with fail
 go_cut [0] from 21 to 29 (fun v wx=>v=.pointer (some ⟨q,0,none⟩)∧Aside (Xq15 q w wx))
 case first =>
  obtain ⟨x,x1,x2,x3,x4⟩:=HA.out;obtain ⟨y,y1,y2⟩:=xo15 .xor (x:Int) (IntKind.u64.wrap ((x:Int)*131072));have HF:Aside (∀ v,v=(W2.drew.setCell ⟨q,0,none⟩ (.int .u64 (y:Nat)))→Xq15 q w v):=fun v hv=>by rw [hv];exact HA.out.step y1
  have hx0:(0:Int)≤(x:Int):=by omega
  have X:=qsd (ai x1 y1);clear HA x4 x1 y1
  go_region
  all_goals
   go_wp2_with fail
   go_meet
   case rel=>exact ⟨rfl,HF.out _ rfl⟩
 clear HA;obtain ⟨rfl,HA⟩:=hcut;obtain ⟨W3,hW⟩:∃ W,W=wc:=⟨_,rfl⟩;subst hW;obtain ⟨x,x1,x2,x3,x4⟩:=HA.out;go_wp2;refine bodyPost_ret (v:=.int .u64 (x:Nat)) (by simp [results,Tryz.results124,go_sem]) rfl ?_
 exact ⟨x,x1,rfl,HA.out⟩
def Xs15 (n g N q:Nat) (w wr:World) (S:List Nat→Prop):Prop:=Sx15 n g N w wr S∧w.heap.size≤q∧∃ y:Nat,y<18446744073709551616∧wr.cell? ⟨q,0,none⟩=some (.int .u64 (y:Nat))∧wr.frozen? ⟨q,0,none⟩=false
theorem Xs15.xq {n g N q:Nat}{w wr:World}{S:List Nat→Prop}(h:Xs15 n g N q w wr S):Xq15 q wr wr:=by
 obtain ⟨h1,h2,y,h3,h4,h5⟩:=h;exact ⟨y,h3,h4,h5,But.refl _ _⟩
theorem Xs15.imp {n g N q:Nat}{w wr:World}{S T:List Nat→Prop}(h:Xs15 n g N q w wr S) (f:∀ L,L.length=N→S L→T L):Xs15 n g N q w wr T:=⟨h.1.imp f,h.2⟩
theorem Xs15.next {n g N q:Nat}{w wr v:World}{S:List Nat→Prop}(h:Xs15 n g N q w wr S) (hv:Xq15 q wr v) (hg:g<w.heap.size):Xs15 n g N q w v S:=by
 obtain ⟨⟨M,o1,o2,o3,o4,o5⟩,h2,_⟩:=h;obtain ⟨y,y1,y2,y3,y4⟩:=hv;refine ⟨⟨M,?_,o2,o3,⟨y4.os.trans o4.os,y4.tape.trans o4.tape,y4.output.trans o4.output,Nat.le_trans o4.size y4.size,fun k hk hkg=>?_⟩,o5⟩,h2,y,y1,y2,y3⟩
 · unfold OwnI
   rw [y4.block g o1.lt (by omega)];exact o1
 · rw [y4.block k (Nat.lt_of_lt_of_le hk o4.size) (by omega)];exact o4.block k hk hkg
theorem Xs15.swap {n g N q:Nat}{w wr:World}{S:List Nat→Prop}(h:Xs15 n g N q w wr S) (i j:Nat) (hg:g<w.heap.size) (hi:i<N) (hj:j<N) :
 ∃ (x y:Nat),wr.cell? ⟨g,i,none⟩=some (.int .i64 (x:Nat))∧wr.cell? ⟨g,j,none⟩=some (.int .i64 (y:Nat))∧wr.frozen? ⟨g,i,none⟩=false∧wr.frozen? ⟨g,j,none⟩=false ∧
   (∀ v:World,(v=(wr.drew.setCell ⟨g,i,none⟩ (.int .i64 (y:Nat))).setCell ⟨g,j,none⟩ (.int .i64 (x:Nat))∨v=(wr.drew.setCell ⟨g,j,none⟩ (.int .i64 (x:Nat))).setCell ⟨g,i,none⟩ (.int .i64 (y:Nat)))→Xs15 n g N q w v (fun L=>∃ M,S M∧M.length=N∧L=sw M i j)):=by
 obtain ⟨h1,h2,z,z1,z2,z3⟩:=h;obtain ⟨x,y,c1,c2,f1,f2,F⟩:=h1.swap i j hi hj;have hqg:q≠g:=by omega
 refine ⟨x,y,c1,c2,f1,f2,fun v hv=>⟨F v hv,h2,z,z1,?_,?_⟩⟩
 · have e:∀ k k' a a',((wr.drew.setCell ⟨g,k,none⟩ a).setCell ⟨g,k',none⟩ a').heap[q]?=wr.heap[q]?:=fun k k' a a'=>by
    simp only [World.setCell,Array.getElem?_modify];rw [if_neg (fun e=>hqg e.symm),if_neg (fun e=>hqg e.symm)];rfl
   unfold World.cell? at z2 ⊢
   rcases hv with rfl|rfl <;> rw [e] <;> exact z2
 · have e:∀ k k' a a',((wr.drew.setCell ⟨g,k,none⟩ a).setCell ⟨g,k',none⟩ a').heap[q]?=wr.heap[q]?:=fun k k' a a'=>by
    simp only [World.setCell,Array.getElem?_modify];rw [if_neg (fun e=>hqg e.symm),if_neg (fun e=>hqg e.symm)];rfl
   unfold World.frozen? at z3 ⊢
   rcases hv with rfl|rfl <;> rw [e] <;> exact z3
theorem break15 (n g N a b cap:Nat) (L:List Nat) (recv:Value) (w:World) (hS:Sx15 n g N w w (fun M=>M=L)) (hab:a+8≤b) (hb:b≤N) (hbig:N<1152921504606846976) :
 Calls Tryz.prog 89 #[.slice (some ⟨g,0,none⟩) N cap,.int .i64 (a:Nat),.int .i64 (b:Nat),.func (.func 49) #[recv] #[]] w fun r w'=>r=.returned (.tuple #[])∧Sx15 n g N w w' (fun M=>Pm a b L M):=by
 obtain ⟨l,hl⟩:∃ x,x=b-a:=⟨_,rfl⟩;obtain ⟨q,hq⟩:∃ x,x=l/4:=⟨_,rfl⟩;obtain ⟨q2,hq2⟩:∃ x,x=q*2:=⟨_,rfl⟩;obtain ⟨m,hm⟩:∃ x,x=a+q2:=⟨_,rfl⟩;obtain ⟨i0,hi0⟩:∃ x,x=m-1:=⟨_,rfl⟩;obtain ⟨i3,hi3⟩:∃ x,x=m+1:=⟨_,rfl⟩;have w1:IntKind.i64.wrap ((b:Int)-(a:Int))=(l:Int):=wrapZ (by omega) (by omega)
 have w2:Int.tdiv (l:Int) 4=(q:Int):=by rw [hq];rfl
 have w3:IntKind.i64.wrap (q:Int)=(q:Int):=wrapZ rfl (by omega)
 have w5:IntKind.i64.wrap ((q:Int)*2)=(q2:Int):=wrapZ (by omega) (by omega)
 have w8:IntKind.i64.wrap ((a:Int)+(q2:Int))=(m:Int):=wrapZ (by omega) (by omega)
 have w9:IntKind.i64.wrap ((m:Int)-1)=(i0:Int):=wrapZ (by omega) (by omega)
 have w10:IntKind.i64.wrap ((m:Int)+1)=(i3:Int):=wrapZ (by omega) (by omega)
 have wl:IntKind.u64.wrap (l:Int)=(l:Int):=by simp [IntKind.wrap,IntKind.bits,IntKind.signed];omega
 have d1:decide ((8:Int)≤(l:Int))=true:=by simp;omega
 have HA:=qsd hS;have HQ:=(qsd (ai hl (ai hq (ai hq2 (ai hm (ai hi0 hi3))))));have hl8:8≤l:=by omega
 have hlb:l<1152921504606846976:=by omega
 clear hl hq hq2 hm hi0 hi3 hS;go_enter Tryz.func89,Tryz.ntmps89
 go_upto_region 3 with fail
 have hgw:g<w.heap.size:=HA.out.lt;have HX:Aside (Xs15 n g N w.heap.size w (w.alloc (Obj.cells #[Value.int IntKind.u64 (l:Nat)] 141)) (fun M=>Pm a b L M)):=(⟨(HA.out.below ((Below.refl w.heap.size w).alloc (Nat.le_refl _) _)).imp (fun M _ e=>by subst e;exact Pm.refl _ _ _),Nat.le_refl _,l,by omega,by rw [World.cell?_alloc_new];rfl,World.frozen?_alloc_new _ _ _ _⟩:Xs15 n g N _ w _ _)
 obtain ⟨W1,hW1⟩:∃ W,W=w.alloc (Obj.cells #[Value.int IntKind.u64 (l:Nat)] 141):=⟨_,rfl⟩;rw [←hW1] at HX ⊢;clear hW1 HA;obtain ⟨G,hG⟩:∃ G,G=w.heap.size:=⟨_,rfl⟩;rw [←hG] at HX ⊢;clear hG;have C:=hid (nextPow15 l W1 (by omega) hlb)
 obtain ⟨P,hP⟩:∃ P,P=2^bl l:=⟨_,rfl⟩;have hp1:=(pow_bl15 l (by omega)).1
 have hp2:=(pow_bl15 l (by omega)).2
 rw [←hP] at C hp1 hp2;clear hP
 go_wp2_with fail
 refine C.out.mono ?_;rintro r v ⟨rfl,rfl⟩;clear C;obtain ⟨P1,hP1⟩:∃ x,x=P-1:=⟨_,rfl⟩
 have em:IntKind.u64.wrap ((P:Int)-1)=(P1:Int):=by
  rw [IntKind.wrap_u64,show (P:Int)-1=(P1:Int) by omega]
  exact Int.emod_eq_of_lt (by omega) (by omega)
 have hP2:P1<2*l:=by omega
 clear hP1 hp1 hp2;go_wp2
 go_loopg [11] 3 (fun gk iv wr=>∃ i:Nat,i0≤i∧gk=i3+1-i∧i≤i3+1∧iv=.int .i64 (i:Nat)∧Aside (Xs15 n g N G w wr (fun M=>Pm a b L M)))
 case atStart=>exact ⟨i0,Nat.le_refl _,by have:=HQ.out;omega,by have:=HQ.out;omega,by first | rfl | simp,HX.out⟩
 case round =>
  clear HX;obtain ⟨i,hii,hgk,hie,rfl,HX⟩:=hrel
  by_cases hi3:i≤i3
  · have hdi:decide ((i:Int)≤(i3:Int))=true:=by simp;omega
    obtain ⟨i1,hi1⟩:∃ x,x=i+1:=⟨_,rfl⟩;have wi1:IntKind.i64.wrap ((i:Int)+1)=(i1:Int):=wrapZ (by omega) (by have:=HQ.out;omega)
    have bi:(i:Int)<(N:Int):=by have:=HQ.out;omega
    have bi':i<N:=by omega
    have hai:a≤i:=by have:=HQ.out;omega
    have hib:i<b:=by have:=HQ.out;omega
    have HI:=qsd hi1;clear hi1;have C:=hid (next15 G wr (HX.out.xq))
    go_wp2_with fail
    refine C.out.mono ?_;rintro r v ⟨y,hy,rfl,hv⟩;obtain ⟨o,ho,eo⟩:∃ o:Nat,o≤P1∧bits .and .u64 (y:Int) (P1:Int)=(o:Int):=⟨y &&& P1,Nat.and_le_right,bits_and_u64_nat y P1 hy (by omega)⟩
    have wo:IntKind.i64.wrap (o:Int)=(o:Int):=wrapZ rfl (by omega)
    replace HX:=qsd (HX.out.next hv hgw);clear C hv hy;have HA:=qsd HX.out.1
    by_cases hol:l≤o
    · have hdo:decide ((l:Int)≤(o:Int))=true:=by simp;omega
      obtain ⟨o1,ho1⟩:∃ x,x=o-l:=⟨_,rfl⟩;have wo1:IntKind.i64.wrap ((o:Int)-(l:Int))=(o1:Int):=wrapZ (by omega) (by omega)
      obtain ⟨p,hp⟩:∃ x,x=a+o1:=⟨_,rfl⟩;have wp:IntKind.i64.wrap ((a:Int)+(o1:Int))=(p:Int):=wrapZ (by omega) (by omega)
      have hap:a≤p:=by omega
      have hpb:p<b:=by have:=HQ.out;omega
      have bp:(p:Int)<(N:Int):=by omega
      have bp':p<N:=by omega
      clear hp ho1
      go_upto_region 10 with fail
      obtain ⟨x,y',c1',c2',z1,z2,HF0⟩:=HX.out.swap i p hgw (by omega) (by omega)
      have HF:=qsd (fun u hu=>((HF0 u hu).imp (fun M _ q=>by
       obtain ⟨M0,q1,q2,rfl⟩:=q;exact q1.trans (Pm.swap (by omega) (by omega) (by omega) (by omega) (by omega))):Xs15 n g N G w u (fun M=>Pm a b L M)))
      clear HA HX HF0
      by_cases hse:i=p
      · subst hse
        have hxy:x=y':=by
         have h2:(x:Int)=(y':Int):=by (have:=c1'.symm.trans c2';simpa using this)
         omega
        subst hxy;clear c2' z2
        go_region
        all_goals
         go_wp2
         go_roundg (i3+1-i1)
         case measure=>have:=HI.out;omega
         case rel=>exact ⟨i1,by have:=HI.out;omega,rfl,by have:=HI.out;omega,by first | rfl | simp,HF.out _ (by first | exact .inl rfl | exact .inr rfl)⟩
      · have hse':p≠i:=fun e=>hse e.symm
        go_region
        all_goals
         go_wp2
         go_roundg (i3+1-i1)
         case measure=>have:=HI.out;omega
         case rel=>exact ⟨i1,by have:=HI.out;omega,rfl,by have:=HI.out;omega,by first | rfl | simp,HF.out _ (by first | exact .inl rfl | exact .inr rfl)⟩
    · have hdo:decide ((l:Int)≤(o:Int))=false:=by simp;omega
      obtain ⟨p,hp⟩:∃ x,x=a+o:=⟨_,rfl⟩;have wp:IntKind.i64.wrap ((a:Int)+(o:Int))=(p:Int):=wrapZ (by omega) (by have:=HQ.out;omega)
      have hap:a≤p:=by omega
      have hpb:p<b:=by have:=HQ.out;omega
      have bp:(p:Int)<(N:Int):=by omega
      have bp':p<N:=by omega
      clear hp
      go_upto_region 10 with fail
      obtain ⟨x,y',c1',c2',z1,z2,HF0⟩:=HX.out.swap i p hgw (by omega) (by omega)
      have HF:=qsd (fun u hu=>((HF0 u hu).imp (fun M _ q=>by
       obtain ⟨M0,q1,q2,rfl⟩:=q;exact q1.trans (Pm.swap (by omega) (by omega) (by omega) (by omega) (by omega))):Xs15 n g N G w u (fun M=>Pm a b L M)))
      clear HA HX HF0
      by_cases hse:i=p
      · subst hse
        have hxy:x=y':=by
         have h2:(x:Int)=(y':Int):=by (have:=c1'.symm.trans c2';simpa using this)
         omega
        subst hxy;clear c2' z2
        go_region
        all_goals
         go_wp2
         go_roundg (i3+1-i1)
         case measure=>have:=HI.out;omega
         case rel=>exact ⟨i1,by have:=HI.out;omega,rfl,by have:=HI.out;omega,by first | rfl | simp,HF.out _ (by first | exact .inl rfl | exact .inr rfl)⟩
      · have hse':p≠i:=fun e=>hse e.symm
        go_region
        all_goals
         go_wp2
         go_roundg (i3+1-i1)
         case measure=>have:=HI.out;omega
         case rel=>exact ⟨i1,by have:=HI.out;omega,rfl,by have:=HI.out;omega,by first | rfl | simp,HF.out _ (by first | exact .inl rfl | exact .inr rfl)⟩
  · have hdi:decide ((i:Int)≤(i3:Int))=false:=by simp;omega
    go_wp2;refine bodyPost_end (v:=.tuple #[]) (by simp [results,Tryz.results89,go_sem]) rfl ?_
    exact ⟨rfl,HX.out.1⟩
end
section
open Go.RowKit J
theorem pdq15 (K:Nat→Nat) (n g N cap:Nat) (recv:Value) (hbig:N<1152921504606846976):∀ (d a b lim:Nat) (L:List Nat) (w:World),b-a≤d→a≤b→b≤N→lim<1152921504606846976→Sx15 n g N w w (fun M=>M=L)→Cmp15 K n g recv w→Fl K a b L→L.Nodup→(∀ x ∈ L,∀ y ∈ L,K x=K y→x=y) →
 Calls Tryz.prog 65 #[.slice (some ⟨g,0,none⟩) N cap,.int .i64 (a:Nat),.int .i64 (b:Nat),.int .i64 (lim:Nat),.func (.func 49) #[recv] #[]] w fun r w'=>r=.returned (.tuple #[])∧Sx15 n g N w w' (fun M=>Pm a b L M∧Up K a b M):=by
 intro d
 induction d using Nat.strongRecOn with
 | _ d ih =>
 intro a b lim L w hd hab hb hlim hS hC hF hnd hK
 have IH:Aside (∀ (a b lim:Nat) (L:List Nat) (w:World),b-a<d→a≤b→b≤N→lim<1152921504606846976→Sx15 n g N w w (fun M=>M=L)→Cmp15 K n g recv w→Fl K a b L→L.Nodup→(∀ x ∈ L,∀ y ∈ L,K x=K y→x=y) →
  Calls Tryz.prog 65 #[.slice (some ⟨g,0,none⟩) N cap,.int .i64 (a:Nat),.int .i64 (b:Nat),.int .i64 (lim:Nat),.func (.func 49) #[recv] #[]] w fun r w'=>r=.returned (.tuple #[])∧Sx15 n g N w w' (fun M=>Pm a b L M∧Up K a b M)) :=
  fun a b lim L w h=>ih (b-a) h a b lim L w (Nat.le_refl _)
 have HC:=qsd hC;have HK:=qsd (ai hnd hK);have HA:Aside (Sx15 n g N w w (fun M=>Pq K a b a b L M)):=(hS.imp (fun M _ e=>by subst e;exact Pq.start hab hF):Sx15 n g N w w _)
 clear ih hS hC hF hnd hK;go_enter Tryz.func65,Tryz.ntmps65;go_wp2
 go_loopg [1,2,3,10,11] (b-a) (fun gk av bv lv v10 v11 wr=>∃ (c e lm:Nat) (bt pt:Bool),gk=e-c∧a≤c∧c≤e∧e≤b∧lm<1152921504606846976∧av=.int .i64 (c:Nat)∧bv=.int .i64 (e:Nat)∧lv=.int .i64 (lm:Nat)∧v10=.bool bt∧v11=.bool pt∧Aside (Sx15 n g N w wr (fun M=>Pq K a b c e L M)))
 case atStart=>exact ⟨a,b,lim,true,true,rfl,Nat.le_refl _,hab,Nat.le_refl _,hlim,by first | rfl | simp,by first | rfl | simp,by first | rfl | simp,by first | rfl | simp,by first | rfl | simp,HA.out⟩
 case round =>
  clear HA;obtain ⟨c,e,lm,bt,pt,hgk,h1,h2,h3,hlm,rfl,rfl,rfl,rfl,rfl,HA⟩:=hrel;obtain ⟨l,hl⟩:∃ x,x=e-c:=⟨_,rfl⟩;have wl:IntKind.i64.wrap ((e:Int)-(c:Int))=(l:Int):=wrapZ (by omega) (by omega)
  have heN:e≤N:=by omega
  by_cases h12:l≤12
  · have hd12:decide ((l:Int)≤12)=true:=by simp;omega
    obtain ⟨L1,s1,s2,s3,s4⟩:=HA.out.use;have C:=hid (insX K n g N c e cap L1 recv wr s3 (HC.out.at s4) h2 heN hbig);have HF:Aside (∀ v,Sx15 n g N wr v (fun M=>Pm c e L1 M∧Up K c e M)→Sx15 n g N w v (fun M=>Pm a b L M∧Up K a b M)):=fun v hv=>(hv.re s4).imp (fun M _ q=>s1.done q.1 q.2)
    have HL:=qsd hl;clear HA s1 s2 s3 s4 hl
    go_wp2_with fail
    refine C.out.mono ?_;rintro r v ⟨rfl,hv⟩;have HR:=qsd (HF.out v hv);clear C HF hv;go_wp2;refine bodyPost_ret (v:=.tuple #[]) (by simp [results,Tryz.results65,go_sem]) rfl ?_
    exact ⟨rfl,HR.out⟩
  · have hd12:decide ((l:Int)≤12)=false:=by simp;omega
    have hl13:13≤l:=by omega
    by_cases hl0:lm=0
    · subst hl0
      obtain ⟨L1,s1,s2,s3,s4⟩:=HA.out.use;have C:=hid (heap15 K n g N c e cap L1 recv wr s3 (HC.out.at s4) (by omega) heN hbig)
      have HF:Aside (∀ v,Sx15 n g N wr v (fun M=>Pm c e L1 M∧Up K c e M)→Sx15 n g N w v (fun M=>Pm a b L M∧Up K a b M)):=fun v hv=>(hv.re s4).imp (fun M _ q=>s1.done q.1 q.2)
      have HL:=qsd hl;clear HA s1 s2 s3 s4 hl
      go_wp2_with fail
      refine C.out.mono ?_;rintro r v ⟨rfl,hv⟩;have HR:=qsd (HF.out v hv);clear C HF hv;go_wp2;refine bodyPost_ret (v:=.tuple #[]) (by simp [results,Tryz.results65,go_sem]) rfl ?_
      exact ⟨rfl,HR.out⟩
    · have hl01:((lm:Int)==0)=false:=by simp;omega
      have hl02:decide ((lm:Int)=0)=false:=by simp;omega
      obtain ⟨lm1,hlm1⟩:∃ x,x=lm-1:=⟨_,rfl⟩;have wlm:IntKind.i64.wrap ((lm:Int)-1)=(lm1:Int):=wrapZ (by omega) (by omega)
      have hlm2:lm1<1152921504606846976:=by omega
      have HL:=qsd (ai hl hlm1);have hce:c+13≤e:=by omega
      clear hl hlm1
      go_upto_region 7 with fail
      go_cut [39] from 38 to 38 (fun v wx=>v=.bool (!bt)∧wx=wr)
      case first =>
       go_wp2_with fail
       go_meet
       case rel=>exact ⟨rfl,rfl⟩
      obtain ⟨rfl,hW⟩:=hcut;rw [hW];clear hW
      go_upto_if 39 with fail
      go_cut [3] from 40 to 46 (fun v wx=>∃ lm':Nat,lm'<1152921504606846976∧v=.int .i64 (lm':Nat)∧Aside (Sx15 n g N w wx (fun M=>Pq K a b c e L M)))
      case first =>
       cases bt
       · obtain ⟨L1,s1,s2,s3,s4⟩:=HA.out.use
         have C:=hid (break15 n g N c e cap L1 recv wr s3 (by omega) heN hbig)
         have HF:Aside (∀ v,Sx15 n g N wr v (fun M=>Pm c e L1 M)→Sx15 n g N w v (fun M=>Pq K a b c e L M)):=fun v hv=>(hv.re s4).imp (fun M _ q=>s1.move q)
         clear HA s1 s2 s3 s4
         go_wp2_with fail
         refine C.out.mono ?_;rintro r v ⟨rfl,hv⟩;have HR:=qsd (HF.out v hv);clear C HF hv
         go_wp2_with fail
         go_meet
         case rel=>exact ⟨lm1,hlm2,rfl,HR.out⟩
       · go_wp2_with fail
         go_meet
         case rel=>exact ⟨lm,hlm,rfl,HA.out⟩
      clear HA wlm hlm2 hl01 hl02 hl0 hlm;obtain ⟨lm',hlm',rfl,HA⟩:=hcut;obtain ⟨W1,hW⟩:∃ W,W=wc:=⟨_,rfl⟩;subst hW;obtain ⟨L1,s1,s2,s3,s4⟩:=HA.out.use;have C:=hid (choose15 K n g N c e cap L1 recv W1 s3 (HC.out.at s4) (by omega) heN hbig)
      have HF:Aside (∀ v,Sx15 n g N W1 v (fun M=>M=L1)→Sx15 n g N w v (fun M=>Pq K a b c e L M)):=fun v hv=>(hv.re s4).imp (fun M _ q=>by rw [q];exact s1)
      clear HA s1 s2 s3 s4
      go_wp2_with fail
      refine C.out.mono ?_;rintro r W2 ⟨p,h,rfl,hp1,hp2,hh,hv⟩;have HA:=qsd (HF.out W2 hv);clear C HF hv hh
      go_upto_region 11 with fail
      go_cut [56] from 55 to 55 (fun v wx=>∃ t:Bool,v=.bool t∧wx=W2)
      case first =>
       by_cases hh2:h=2
       · subst hh2
         go_wp2_with fail
         go_meet
         case rel=>exact ⟨_,rfl,rfl⟩
       · have k1:((h:Int)==2)=false:=by simp;omega
         have k2:decide ((h:Int)=2)=false:=by simp;omega
         go_wp2_with fail
         go_meet
         case rel=>exact ⟨_,rfl,rfl⟩
      obtain ⟨t,rfl,hW⟩:=hcut;rw [hW];clear hW
      go_upto_if 56 with fail
      go_cut [13,14] from 57 to 67 (fun pv hv wx=>∃ p' h':Nat,c≤p'∧p'<e∧pv=.int .i64 (p':Nat)∧hv=.int .i64 (h':Nat)∧Aside (Sx15 n g N w wx (fun M=>Pq K a b c e L M)))
      case first =>
       cases t
       · go_wp2_with fail
         go_meet
         case rel=>exact ⟨p,h,hp1,hp2,rfl,rfl,HA.out⟩
       · obtain ⟨e1,he1⟩:∃ x,x=e-1:=⟨_,rfl⟩
         obtain ⟨pc,hpc⟩:∃ x,x=p-c:=⟨_,rfl⟩;obtain ⟨pp,hpp⟩:∃ x,x=e1-pc:=⟨_,rfl⟩;have v1:IntKind.i64.wrap ((e:Int)-1)=(e1:Int):=wrapZ (by omega) (by omega)
         have v2:IntKind.i64.wrap ((p:Int)-(c:Int))=(pc:Int):=wrapZ (by omega) (by omega)
         have v3:IntKind.i64.wrap ((e1:Int)-(pc:Int))=(pp:Int):=wrapZ (by omega) (by omega)
         have k1:c≤pp:=by omega
         have k2:pp<e:=by omega
         obtain ⟨L1,s1,s2,s3,s4⟩:=HA.out.use;have C:=hid (reverse15 n g N c e cap L1 recv W2 s3 (by omega) heN hbig)
         have HF:Aside (∀ v,Sx15 n g N W2 v (fun M=>Pm c e L1 M)→Sx15 n g N w v (fun M=>Pq K a b c e L M)):=fun v hv=>(hv.re s4).imp (fun M _ q=>s1.move q)
         clear HA s1 s2 s3 s4 he1 hpc hpp
         go_wp2_with fail
         refine C.out.mono ?_;rintro r v ⟨rfl,hv⟩;have HR:=qsd (HF.out v hv);clear C HF hv
         go_wp2_with fail
         go_meet
         case rel=>exact ⟨pp,1,k1,k2,rfl,rfl,HR.out⟩
      clear HA hp1 hp2;obtain ⟨p',h',hp1,hp2,rfl,rfl,HA⟩:=hcut;obtain ⟨W3,hW⟩:∃ W,W=wc:=⟨_,rfl⟩;subst hW
      go_upto_region 15 with fail
      go_cut [75] from 68 to 74 (fun v wx=>∃ t:Bool,v=.bool t∧wx=W3)
      case first =>
       by_cases hh1:h'=1
       · subst hh1
         cases bt <;> cases pt
         all_goals
          go_wp2_with fail
          go_meet
          case rel=>exact ⟨_,rfl,rfl⟩
       · have k1:((h':Int)==1)=false:=by simp;omega
         have k2:decide ((h':Int)=1)=false:=by simp;omega
         cases bt <;> cases pt
         all_goals
          go_wp2_with fail
          go_meet
          case rel=>exact ⟨_,rfl,rfl⟩
      obtain ⟨t,rfl,hW⟩:=hcut;rw [hW];clear hW
      go_upto_if 75 with fail
      go_cut [13] from 76 to 80 (fun v wx=>v=.int .i64 (p':Nat)∧Aside (Sx15 n g N w wx (fun M=>Pq K a b c e L M)))
      case first =>
       cases t
       · go_wp2_with fail
         go_meet
         case rel=>exact ⟨rfl,HA.out⟩
       · obtain ⟨L1,s1,s2,s3,s4⟩:=HA.out.use
         have C:=hid (partial15 K n g N c e cap L1 recv W3 s3 (HC.out.at s4) s1.fl (by omega) heN hbig)
         have HF:Aside (∀ v t,Sx15 n g N W3 v (fun M=>Pm c e L1 M∧(t=true→Up K c e M))→Sx15 n g N w v (fun M=>Pq K a b c e L M∧(t=true→Pm a b L M∧Up K a b M))):=fun v t hv=>(hv.re s4).imp (fun M _ q=>⟨s1.move q.1,fun ht=>s1.done q.1 (q.2 ht)⟩)
         clear HA s1 s2 s3 s4
         go_wp2_with fail
         refine C.out.mono ?_;rintro r v ⟨t,rfl,hv⟩;have HR:=qsd (HF.out v t hv);clear C HF hv
         cases t
         · go_wp2_with fail
           go_meet
           case rel=>exact ⟨rfl,HR.out.imp (fun M _ q=>q.1)⟩
         · go_wp2
           refine bodyPost_ret (v:=.tuple #[]) (by simp [results,Tryz.results65,go_sem]) rfl ?_
           exact ⟨rfl,HR.out.imp (fun M _ q=>by first | exact q.2 rfl | exact q.2 trivial | simpa using q.2)⟩
      clear HA;obtain ⟨rfl,HA⟩:=hcut;obtain ⟨W4,hW⟩:∃ W,W=wc:=⟨_,rfl⟩;subst hW;obtain ⟨cm,hcm⟩:∃ x,x=c-1:=⟨_,rfl⟩;have bcm:(cm:Int)<(N:Int):=by omega
      have bcm':cm<N:=by omega
      have bp:(p':Int)<(N:Int):=by omega
      have bp':p'<N:=by omega
      have HM:=qsd hcm;clear hcm
      go_upto_region 17 with fail
      go_cut [97] from 81 to 96 (fun v wx=>∃ t:Bool,v=.bool t∧Aside (Sx15 n g N w wx (fun M=>(fun M=>Pq K a b c e L M) M∧(t=true↔(0<c∧¬ ky K M cm<ky K M p')))))
      case first =>
       by_cases hgd:0<c
       · have hgdec:decide ((0:Int)<(c:Int))=true:=by simp;omega
         obtain ⟨x,y,z,c1',c2',C0,HF0⟩:=HA.out.cmpd HC.out cm p' (by omega) (by omega)
         have C:=hid C0;have HF:=qsd HF0;have kS:=qsd (ai c1' c2');clear HA C0 HF0 c1' c2';have wcm:IntKind.i64.wrap ((c:Int)-1)=(cm:Int):=wrapZ (by have:=HM.out;omega) (by have:=HM.out;omega)
         go_region_held3 (fun w'=>w'.cell? ⟨g,cm,none⟩=some (.int .i64 (x:Nat))∧w'.cell? ⟨g,p',none⟩=some (.int .i64 (y:Nat))) (with_reducible exact kS.out) (first
          | (go_at_call 49
             with_reducible refine C.out.mono ?_
             rintro r v ⟨rfl,hb⟩;have G:=qsd (HF.out v hb);have kS:Aside (v.cell? ⟨g,cm,none⟩=some (.int .i64 (x:Nat))∧v.cell? ⟨g,p',none⟩=some (.int .i64 (y:Nat))):=⟨(hb.cell (p:=⟨g,cm,none⟩) (lt_of_cell15 kS.out.1)).trans kS.out.1,(hb.cell (p:=⟨g,p',none⟩) (lt_of_cell15 kS.out.2)).trans kS.out.2⟩;clear hb))
         all_goals
          go_wp2_with fail
          go_meet
          case rel=>exact ⟨!decide (z<0),rfl,G.out.imp (fun M _ q=>⟨q.1,and_iff15 hgd (not_iff15 q.2)⟩)⟩
       · have hgdec:decide ((0:Int)<(c:Int))=false:=by simp;omega
         have HD:=qsd (HA.out.drew);clear HA
         go_region
         all_goals
          go_wp2_with fail
          go_meet
          case rel=>exact ⟨false,rfl,HD.out.imp (fun M _ q=>⟨q,and_no15 hgd⟩)⟩
      clear HA;obtain ⟨t,rfl,HA⟩:=hcut;obtain ⟨W5,hW⟩:∃ W,W=wc:=⟨_,rfl⟩;subst hW
      have ht:t=false:=by
       obtain ⟨M,_,_,_,_,q⟩:=HA.out
       cases t
       · rfl
       · exfalso
         have k:=q.2.1 rfl;have hcm:=HM.out;have f:=q.1.fl k.1 p' hp1 hp2;rw [←hcm] at f;exact k.2 f
      subst ht;obtain ⟨L1,s1,s2,s3,s4⟩:=HA.out.use;have C:=hid (partition15 K n g N c e p' cap L1 recv W5 s3 (HC.out.at s4) (by omega) heN hp1 hp2 hbig)
      have HF:Aside (∀ m v,Sx15 n g N W5 v (fun M=>Pm c e L1 M∧Prt K c e m M)→Sx15 n g N w v (fun M=>Pq K a b c e L M∧Prt K c e m M)):=fun m v hv=>(hv.re s4).imp (fun M _ q=>⟨s1.1.move q.1,q.2⟩)
      clear HA s1 s2 s3 s4
      go_wp2_with fail
      refine C.out.mono ?_;rintro r W6 ⟨m,t,rfl,m1,m2,hv⟩;have HA:=qsd (HF.out m W6 hv);clear C HF hv;obtain ⟨lf,hlf⟩:∃ x,x=m-c:=⟨_,rfl⟩;obtain ⟨rt,hrt⟩:∃ x,x=e-m:=⟨_,rfl⟩;obtain ⟨th,hth⟩:∃ x,x=l/8:=⟨_,rfl⟩;obtain ⟨mp,hmp⟩:∃ x,x=m+1:=⟨_,rfl⟩;have v1:IntKind.i64.wrap ((m:Int)-(c:Int))=(lf:Int):=wrapZ (by omega) (by omega)
      have v2:IntKind.i64.wrap ((e:Int)-(m:Int))=(rt:Int):=wrapZ (by omega) (by omega)
      have v3:Int.tdiv (l:Int) 8=(th:Int):=by rw [hth];rfl
      have v4:IntKind.i64.wrap (th:Int)=(th:Int):=wrapZ rfl (by have:=HL.out;omega)
      have v5:IntKind.i64.wrap ((m:Int)+1)=(mp:Int):=wrapZ (by omega) (by omega)
      have HE:=(qsd (ai hlf (ai hrt (ai hth hmp))));clear hlf hrt hth hmp
      by_cases hlr:lf<rt
      · have hdl:decide ((lf:Int)<(rt:Int))=true:=by simp;omega
        obtain ⟨L2,s1,s2,s3,s4⟩:=HA.out.use;have C:=hid (IH.out c m lm' L2 W6 (by omega) m1 (by omega) hlm' s3 (HC.out.at s4) (s1.1.fl.left (by omega)) (s1.1.pm.perm.nodup_iff.2 HK.out.1) (fun x hx y hy=>HK.out.2 x (s1.1.pm.perm.mem_iff.1 hx) y (s1.1.pm.perm.mem_iff.1 hy)))
        have HF:Aside (∀ v,Sx15 n g N W6 v (fun M=>Pm c m L2 M∧Up K c m M)→Sx15 n g N w v (fun M=>Pq K a b mp e L M)):=fun v hv=>(hv.re s4).imp (fun M hM q=>by
         rw [HE.out.2.2.2];exact s1.1.left s1.2 q.1 q.2 (fun i j hi hj hne=>ky_ne15 HK.out.1 HK.out.2 (q.1.perm.trans s1.1.pm.perm) i j (by omega) (by omega) hne))
        clear HA s1 s2 s3 s4
        go_wp2_with fail
        refine C.out.mono ?_;rintro r v ⟨rfl,hv⟩;have HR:=qsd (HF.out v hv);clear C HF hv;go_wp2
        go_roundg (e-mp)
        case measure=>have:=HE.out;omega
        case rel=>exact ⟨mp,e,lm',_,t,rfl,by have:=HE.out;omega,by have:=HE.out;omega,h3,hlm',rfl,rfl,rfl,rfl,rfl,HR.out⟩
      · have hdl:decide ((lf:Int)<(rt:Int))=false:=by simp;omega
        obtain ⟨L2,s1,s2,s3,s4⟩:=HA.out.use
        have C:=hid (IH.out mp e lm' L2 W6 (by have:=HE.out;omega) (by have:=HE.out;omega) (by omega) hlm' s3 (HC.out.at s4) (by
         rw [HE.out.2.2.2];exact s1.2.fl (fun i j hi hj hne=>ky_ne15 HK.out.1 HK.out.2 s1.1.pm.perm i j (by omega) (by omega) hne)) (s1.1.pm.perm.nodup_iff.2 HK.out.1) (fun x hx y hy=>HK.out.2 x (s1.1.pm.perm.mem_iff.1 hx) y (s1.1.pm.perm.mem_iff.1 hy)))
        have HF:Aside (∀ v,Sx15 n g N W6 v (fun M=>Pm mp e L2 M∧Up K mp e M)→Sx15 n g N w v (fun M=>Pq K a b c m L M)):=fun v hv=>(hv.re s4).imp (fun M hM q=>by
         rw [HE.out.2.2.2] at q;exact s1.1.right s1.2 q.1 q.2)
        clear HA s1 s2 s3 s4
        go_wp2_with fail
        refine C.out.mono ?_;rintro r v ⟨rfl,hv⟩;have HR:=qsd (HF.out v hv);clear C HF hv;go_wp2
        go_roundg (m-c)
        case measure=>have:=HE.out;omega
        case rel=>exact ⟨c,m,lm',_,t,rfl,h1,m1,by omega,hlm',rfl,rfl,rfl,rfl,rfl,HR.out⟩
end
namespace B
open Go.RowKit
attribute [local go_sem] f64bits f64frombits
theorem eqParts (a c:Bool) (k l x y f g:Int) (w:World):(Op.equalIn 10000 80 (.agg #[.bool a,.int .i64 k,.int .i64 x,.int .u64 f]) (.agg #[.bool c,.int .i64 l,.int .i64 y,.int .u64 g])).run Tryz.prog w=.ok (a==c&&(k==l&&(x==y&&f==g))) w:=by
 have u3:=Tryz.underlying3;have u4:=Tryz.underlying4;have u23:=Tryz.underlying64;have hS:Tryz.prog.underlying 80=some (.struct (Tryz.prog.fieldsOf 80)):=by kernel_rfl
 have hp:Tryz.prog.stoodInHeld 80=false:=by kernel_rfl
 rw [show (10000:Nat)=9999+1 from rfl,run_equalIn_agg w 9999 80 _ _ hS hp]
 simp only [Program.fieldsOf,Tryz.underlying80]
 go_simp
 by_cases h1:a=c <;> by_cases h2:k=l <;> by_cases h3:x=y <;> by_cases h4:f=g <;> simp [h1,h2,h3,h4]
attribute [local go_sem] eqParts
theorem fld0 (a:Bool) (k x f:Int) (w:World):(Instr.field 80 (.agg #[.bool a,.int .i64 k,.int .i64 x,.int .u64 f]) 0).run Tryz.prog w=.ok (.bool a) w:=by kernel_rfl
theorem fld1 (a:Bool) (k x f:Int) (w:World):(Instr.field 80 (.agg #[.bool a,.int .i64 k,.int .i64 x,.int .u64 f]) 1).run Tryz.prog w=.ok (.int .i64 k) w:=by kernel_rfl
theorem fld2 (a:Bool) (k x f:Int) (w:World):(Instr.field 80 (.agg #[.bool a,.int .i64 k,.int .i64 x,.int .u64 f]) 2).run Tryz.prog w=.ok (.int .i64 x) w:=by kernel_rfl
theorem fld3 (a:Bool) (k x f:Int) (w:World):(Instr.field 80 (.agg #[.bool a,.int .i64 k,.int .i64 x,.int .u64 f]) 3).run Tryz.prog w=.ok (.int .u64 f) w:=by kernel_rfl
attribute [local go_sem] fld0 fld1 fld2 fld3
theorem Class_any (s:Bool) (e f:Nat) (he:e<2048) (hf:f<4503599627370496) (w:World) :
 Calls Tryz.prog 50 #[.float .f64 (bw s e f)] w fun r w'=>r=.returned (.int .i64 (cls e f))∧Below w.heap.size w w':=by
 go_enter Tryz.func50,Tryz.ntmps50
 go_wp2_with (go_at_call 70;refine (Split_any s e f he hf _).mono ?_;rintro r w1 ⟨rfl,hb⟩)
 go_ret;exact ⟨rfl,hb⟩
theorem Same_any (s t:Bool) (e f u v:Nat) (he:e<2048) (hf:f<4503599627370496) (hu:u<2048) (hv:v<4503599627370496) (w:World) :
 Calls Tryz.prog 56 #[.float .f64 (bw s e f),.float .f64 (bw t u v)] w fun r w'=>r=.returned (.bool (decide (cb s e f=cb t u v)))∧w'=w:=by
 cases h1:odd e f
 · cases h2:odd u v
   · have h3:((bw s e f:Int)==(bw t u v:Int))=decide (cb s e f=cb t u v):=by
      rw [cb_else s e f (not_odd e f h1),cb_else t u v (not_odd u v h2),Bool.eq_iff_iff];simp;omega
     go_enter Tryz.func56,Tryz.ntmps56
     go_wp2_with fail
     refine (isNaN_any s e f he hf _).mono ?_;rintro r w1 ⟨rfl,rfl⟩
     go_wp2_with fail
     refine (isNaN_any t u v hu hv _).mono ?_;rintro r w1 ⟨rfl,rfl⟩
     go_wp2_with fail
     go_ret;exact ⟨rfl,rfl⟩
   · have h3:decide (cb s e f=cb t u v)=false:=by
      rw [cb_else s e f (not_odd e f h1),cb_odd t u v (is_odd u v h2)];exact decide_eq_false (bw_ne_nan s e f he hf h1)
     rw [h3];clear h3;go_enter Tryz.func56,Tryz.ntmps56
     go_wp2_with fail
     refine (isNaN_any s e f he hf _).mono ?_;rintro r w1 ⟨rfl,rfl⟩
     go_wp2_with fail
     refine (isNaN_any t u v hu hv _).mono ?_;rintro r w1 ⟨rfl,rfl⟩
     go_wp2_with fail
     refine (isNaN_any s e f he hf _).mono ?_;rintro r w1 ⟨rfl,rfl⟩
     go_wp2_with fail
     go_ret;exact ⟨rfl,rfl⟩
 · have h3:decide (cb s e f=cb t u v)=odd u v:=by
    rw [cb_odd s e f (is_odd e f h1)]
    cases h2:odd u v
    · rw [cb_else t u v (not_odd u v h2)]
      exact decide_eq_false (fun h=>bw_ne_nan t u v hu hv h2 h.symm)
    · rw [cb_odd t u v (is_odd u v h2)];rfl
   rw [h3];clear h3;go_enter Tryz.func56,Tryz.ntmps56
   go_wp2_with fail
   refine (isNaN_any s e f he hf _).mono ?_;rintro r w1 ⟨rfl,rfl⟩
   go_wp2_with fail
   refine (isNaN_any s e f he hf _).mono ?_;rintro r w1 ⟨rfl,rfl⟩
   go_wp2_with fail
   refine (isNaN_any t u v hu hv _).mono ?_;rintro r w1 ⟨rfl,rfl⟩
   go_wp2_with fail
   go_ret;exact ⟨rfl,rfl⟩
end B
namespace B
open Go.RowKit
attribute [local go_sem] f64bits f64frombits
theorem ret_bool {a b:Bool}(h:a=b):Ending.returned (.bool a)=.returned (.bool b):=by rw [h]
theorem negF (s:Bool) (e f:Nat) (he:e<2048) (hf:f<4503599627370496) (w:World):(Op.unary .neg (.float .f64 (bw s e f))).run Tryz.prog w=.ok (.float .f64 (bw (!s) e f)) w:=by
 rw [←neg_bw s e f he hf];rfl
theorem isInf_pos (s:Bool) (e f:Nat) (he:e<2048) (hf:f<4503599627370496) (w:World) :
 Calls Tryz.prog 57 #[.float .f64 (bw s e f),.int .i64 1] w fun r w'=>r=.returned (.bool (!s&&(e==2047&&f==0)))∧w'=w:=by
 have h1:=gt_max s e f he hf;generalize (!s&&(e==2047&&f==0))=k at *;go_enter Tryz.func57,Tryz.ntmps57;go_wp2;go_ret;exact ⟨rfl,rfl⟩
theorem isInf_neg (s:Bool) (e f:Nat) (he:e<2048) (hf:f<4503599627370496) (w:World) :
 Calls Tryz.prog 57 #[.float .f64 (bw s e f),.int .i64 (-1)] w fun r w'=>r=.returned (.bool (s&&(e==2047&&f==0)))∧w'=w:=by
 have h1:=gt_max (!s) e f he hf;rw [Bool.not_not] at h1;have h2:=negF s e f he hf;generalize (s&&(e==2047&&f==0))=k at *;generalize bw (!s) e f=g at *;go_enter Tryz.func57,Tryz.ntmps57;go_wp2;go_ret;exact ⟨rfl,rfl⟩
theorem sign_any (s:Bool) (e f:Nat) (he:e<2048) (hf:f<4503599627370496) (w:World) :
 Calls Tryz.prog 97 #[.float .f64 (bw s e f)] w fun r w'=>r=.returned (.bool s)∧w'=w:=by
 have hl:=bw_lt s e f he hf
 cases s
 · have h1:bw false e f<9223372036854775808:=by unfold bw;simp only [Bool.toNat_false];omega
   go_enter Tryz.func97,Tryz.ntmps97;go_wp2;go_ret;exact ⟨ret_bool (decide_eq_false (by omega)),rfl⟩
 · have h1:9223372036854775808≤bw true e f:=by unfold bw;simp only [Bool.toNat_true];omega
   go_enter Tryz.func97,Tryz.ntmps97;go_wp2;go_ret;exact ⟨ret_bool (decide_eq_true (by unfold wrap64;omega)),rfl⟩
theorem abs_any (s:Bool) (e f:Nat) (he:e<2048) (hf:f<4503599627370496) (w:World) :
 Calls Tryz.prog 72 #[.float .f64 (bw s e f)] w fun r w'=>r=.returned (.float .f64 (bw false e f))∧w'=w:=by
 have h1:=abs_bw s e f he hf;go_enter Tryz.func72,Tryz.ntmps72;go_wp2;go_ret;exact ⟨rfl,rfl⟩
theorem order_any (s t:Bool) (e f u v:Nat) (he:e<2048) (hf:f<4503599627370496) (hu:u<2048) (hv:v<4503599627370496) (w:World) :
 Calls Tryz.prog 68 #[.float .f64 (bw s e f),.float .f64 (bw t u v)] w fun r w'=>r=.returned (.int .i64 (oc (ky s e f) (ky t u v)))∧w'=w:=by
 have HS:=Same_any s t e f u v he hf hu hv;have hgt:=gt_f64 s t e f u v he hf hu hv;have hlt:=lt_f64 s t e f u v he hf hu hv
 cases hd:decide (cb s e f=cb t u v)
 · rw [hd] at HS
   have H2:Hid (∀ w,Calls Tryz.prog 56 #[.float .f64 (bw s e f),.float .f64 (bw t u v)] w fun r w'=>r=.returned (.bool false)∧w'=w):=HS
   have hne:=of_decide_eq_false hd;clear HS hd
   cases h1:odd e f
   · cases h2:odd u v
     · rw [h1,h2] at hgt hlt
       simp only [Bool.not_false,Bool.true_and] at hgt hlt;rw [cb_else s e f (not_odd e f h1),cb_else t u v (not_odd u v h2)] at hne
       by_cases c1:pl t u v<pl s e f
       · rw [oc_gt (ky_of_pl t s u v e f h2 h1 c1)]
         rw [decide_eq_true c1] at hgt;clear hne c1 hlt;go_enter Tryz.func68,Tryz.ntmps68
         go_wp2_with fail
         refine (H2.out _).mono ?_;rintro r w1 ⟨rfl,rfl⟩
         go_wp2_with fail
         refine (isNaN_any s e f he hf _).mono ?_;rintro r w1 ⟨rfl,rfl⟩
         go_wp2_with fail
         go_ret;exact ⟨rfl,rfl⟩
       · by_cases c2:pl s e f<pl t u v
         · rw [oc_lt (ky_of_pl s t e f u v h1 h2 c2)]
           rw [decide_eq_true c2] at hlt;rw [decide_eq_false c1] at hgt;clear hne c1 c2;go_enter Tryz.func68,Tryz.ntmps68
           go_wp2_with fail
           refine (H2.out _).mono ?_;rintro r w1 ⟨rfl,rfl⟩
           go_wp2_with fail
           refine (isNaN_any s e f he hf _).mono ?_;rintro r w1 ⟨rfl,rfl⟩
           go_wp2_with fail
           refine (isNaN_any t u v hu hv _).mono ?_;rintro r w1 ⟨rfl,rfl⟩
           go_wp2_with fail
           go_ret;exact ⟨rfl,rfl⟩
         · rw [decide_eq_false c1] at hgt
           rw [decide_eq_false c2] at hlt;have hk:=ky_zero s t e f u v h1 h2 hne (by omega)
           clear hne c1 c2
           cases s
           · rw [oc_gt (hk.1 rfl)]
             clear hk;go_enter Tryz.func68,Tryz.ntmps68
             go_wp2_with fail
             refine (H2.out _).mono ?_;rintro r w1 ⟨rfl,rfl⟩
             go_wp2_with fail
             refine (isNaN_any false e f he hf _).mono ?_;rintro r w1 ⟨rfl,rfl⟩
             go_wp2_with fail
             refine (isNaN_any t u v hu hv _).mono ?_;rintro r w1 ⟨rfl,rfl⟩
             go_wp2_with fail
             refine (sign_any false e f he hf _).mono ?_;rintro r w1 ⟨rfl,rfl⟩
             go_wp2_with fail
             go_ret;exact ⟨rfl,rfl⟩
           · rw [oc_lt (hk.2 rfl)]
             clear hk;go_enter Tryz.func68,Tryz.ntmps68
             go_wp2_with fail
             refine (H2.out _).mono ?_;rintro r w1 ⟨rfl,rfl⟩
             go_wp2_with fail
             refine (isNaN_any true e f he hf _).mono ?_;rintro r w1 ⟨rfl,rfl⟩
             go_wp2_with fail
             refine (isNaN_any t u v hu hv _).mono ?_;rintro r w1 ⟨rfl,rfl⟩
             go_wp2_with fail
             refine (sign_any true e f he hf _).mono ?_;rintro r w1 ⟨rfl,rfl⟩
             go_wp2_with fail
             go_ret;exact ⟨rfl,rfl⟩
     · rw [ky_odd t u v h2,oc_lt (ky_lt s e f he hf h1)]
       rw [h1,h2] at hgt hlt;simp only [Bool.not_false,Bool.true_and,Bool.not_true,Bool.false_and] at hgt hlt;clear hne hlt;go_enter Tryz.func68,Tryz.ntmps68
       go_wp2_with fail
       refine (H2.out _).mono ?_;rintro r w1 ⟨rfl,rfl⟩
       go_wp2_with fail
       refine (isNaN_any s e f he hf _).mono ?_;rintro r w1 ⟨rfl,rfl⟩
       go_wp2_with fail
       refine (isNaN_any t u v hu hv _).mono ?_;rintro r w1 ⟨rfl,rfl⟩
       go_wp2_with fail
       go_ret;exact ⟨rfl,rfl⟩
   · have h2:odd u v=false:=by
      cases h2:odd u v
      · rfl
      · exact absurd ((cb_odd s e f (is_odd e f h1)).trans (cb_odd t u v (is_odd u v h2)).symm) hne
     rw [ky_odd s e f h1,oc_gt (ky_lt t u v hu hv h2)];clear hne hgt hlt;go_enter Tryz.func68,Tryz.ntmps68
     go_wp2_with fail
     refine (H2.out _).mono ?_;rintro r w1 ⟨rfl,rfl⟩
     go_wp2_with fail
     refine (isNaN_any s e f he hf _).mono ?_;rintro r w1 ⟨rfl,rfl⟩
     go_wp2_with fail
     go_ret;exact ⟨rfl,rfl⟩
 · rw [hd] at HS
   have H2:Hid (∀ w,Calls Tryz.prog 56 #[.float .f64 (bw s e f),.float .f64 (bw t u v)] w fun r w'=>r=.returned (.bool true)∧w'=w):=HS
   rw [oc_eq (ky_of_cb s t e f u v he hf hu hv (of_decide_eq_true hd))];clear HS hd hgt hlt;go_enter Tryz.func68,Tryz.ntmps68
   go_wp2_with fail
   refine (H2.out _).mono ?_;rintro r w1 ⟨rfl,rfl⟩
   go_wp2_with fail
   go_ret;exact ⟨rfl,rfl⟩
end B
section
open Go.RowKit
theorem But.setC {g:Nat}(w:World) (i:Nat) (u:Value):But g w (w.setCell ⟨g,i,none⟩ u):=(But.refl g w).set _ _
theorem Nt.setC {lo:Nat}{w:World}{v:Value}{X:Nat}(h:Nt lo w v X) (b i:Nat) (u:Value) (hb:b<lo):Nt lo (w.setCell ⟨b,i,none⟩ u) v X:=h.but (But.setC w i u) hb
theorem Nt.allocC {lo:Nat}{w:World}{v:Value}{X:Nat}(h:Nt lo w v X) (o:Obj):Nt lo (w.alloc o) v X:=h.below (below_alloc w o)
theorem Below.setC {lo:Nat}{w0 w:World}(h:Below lo w0 w) (b i:Nat) (u:Value) (hb:lo≤b) (hs:lo≤w.heap.size):Below lo w0 (w.setCell ⟨b,i,none⟩ u):=But.below h (But.setC w i u) hs hb
structure Fin (lo m:Nat) (w0 w:World) (v:Value) (X:Nat):Prop where
 nt:Nt m w v X
 bel:Below lo w0 w
 size:lo≤w.heap.size
theorem Fin.set {lo m:Nat}{w0 w:World}{v:Value}{X:Nat}(H:Fin lo m w0 w v X) (b i:Nat) (u:Value) (h1:lo≤b) (h2:b<m):Fin lo m w0 (w.setCell ⟨b,i,none⟩ u) v X :=
 ⟨H.nt.setC b i u h2,Below.setC H.bel b i u h1 H.size,by simpa [World.setCell] using H.size⟩
theorem Fin.alloc {lo m:Nat}{w0 w:World}{v:Value}{X:Nat}(H:Fin lo m w0 w v X) (o:Obj):Fin lo m w0 (w.alloc o) v X :=
 ⟨H.nt.allocC o,H.bel.alloc H.size o,by have:=H.size;simp;omega⟩
theorem Fin.of {lo:Nat}{w0 W1 w2:World}{v:Value}{X:Nat}(k:Nat) (hB:Below lo w0 W1) (hk:W1.heap.size=lo+k) (hN:Nt W1.heap.size w2 v X) (hb:Below W1.heap.size W1 w2):Fin lo (lo+k) w0 w2 v X :=
 ⟨hk ▸ hN,hB.trans (hb.mono (by omega)),by have:=hb.size;omega⟩
theorem Fin.dans {lo m:Nat}{w0 w:World}{n:Bool}{v:Value}{X:Nat}{e:Int}{k:Value}(H:Fin lo m w0 w v X) (h:lo≤m) :
 (∃ v',Ending.returned (.tuple #[.agg #[.bool n,v,.int .i64 e],k])=.returned (.tuple #[.agg #[.bool n,v',.int .i64 e],k])∧Nt lo w v' X)∧Below lo w0 w:=⟨⟨v,rfl,H.nt.mono h⟩,H.bel⟩
end
section
open Go.RowKit
theorem form_any {w:World}{a:Option Addr}{n c:Nat}{xs:List Nat}(h1:Arg w a n c xs) (hT:Tab w) (neg:Bool) (e:Int) (he0:-9223372036854775808≤e) (he1:e≤9223372036854775807) :
 Calls Tryz.prog 100 #[.agg #[.bool neg,.slice a n c,.int .i64 e]] w fun r w'=>DAns w.heap.size w' r (mkS neg (val xs) e)∧Below w.heap.size w w':=by
 have HB:=qsd (show Below w.heap.size w ((w.alloc (.cells #[.bool neg,.slice a n c,.int .i64 e] 77)).alloc (.cells #[.bool false,.slice none 0 0,.int .i64 0] 77)) from (((Below.refl _ _).alloc (Nat.le_refl _) _).alloc (by simp) _))
 have H1:=hid (Make_any (h1.below HB.out) (hT.belows HB.out) neg e he0 he1);have hl:=mkS_len neg (val xs) e;obtain ⟨o,ho⟩:∃ o,mkS neg (val xs) e=o:=⟨_,rfl⟩;rw [ho] at H1 hl ⊢;unfold DAns at H1 ⊢;obtain ⟨dn,hdn⟩:∃ d,dN o=d:=⟨_,rfl⟩;obtain ⟨X,hdx⟩:∃ d,dX o=d:=⟨_,rfl⟩;obtain ⟨de,hde⟩:∃ d,dE o=d:=⟨_,rfl⟩;obtain ⟨er,her⟩:∃ d,erS o=d:=⟨_,rfl⟩;rw [hdn,hdx,hde,her] at H1 ⊢;rw [hdx] at hl;clear h1 ho hdn hdx hde her hT he0 he1;go_enter Tryz.func100,Tryz.ntmps100
 go_wp2_with fail
 refine H1.out.mono ?_;rintro r w2 ⟨⟨v,rfl,hN⟩,hb⟩;obtain ⟨a2,c2,rfl,_⟩:=hN.arg (by omega)
 obtain ⟨hc,hf⟩:=bcell hb;have HF:=qsd (Fin.of 2 HB.out (by simp) hN hb)
 have hz:w.heap.size+1<w2.heap.size:=by have:=hb.size;simp at this;omega
 clear hN hb;go_wp2;exact bodyPost_ret (v:=.tuple #[.agg #[.bool dn,.slice a2 (ws X).length c2,.int .i64 de],.int .i64 er]) (by simp [results,Tryz.results100,go_sem,hc]) rfl (Fin.dans (m:=w.heap.size+2) (by repeat (first | exact HF.out | refine Fin.alloc ?_ _ | refine Fin.set ?_ _ _ _ (by omega) (by omega))) (by omega))
def DVal (lo:Nat) (w:World) (r:Ending) (o:Option (Bool×Nat×Int)):Prop :=
 ∃ v,r=.returned (.agg #[.bool (dN o),v,.int .i64 (dE o)])∧Nt lo w v (dX o)
end
end Go.Proofs.YtihjfhpoiheomaaGreatDoor
