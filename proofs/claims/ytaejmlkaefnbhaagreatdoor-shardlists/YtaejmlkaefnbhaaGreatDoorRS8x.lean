import Derived.Test.YtaejmlkaefnbhaaGreatDoorRS2x
import Derived.Test.YtaejmlkaefnbhaaGreatDoorM1x
import Derived.Lib.Strings
import Derived.Lib.Slices
import Derived.Lib.Small
import Derived.Lib.Walk
import Derived.Lib.BitFns
import Derived.Lib.Tables
import Derived.Lib.ItoaNum
import Derived.Lib.TrailingZeros
import Derived.Laws.Closers25b
import Derived.Laws.Bits64b
import Derived.Deep.CutBlock
import Derived.Test.YtaejmlkaefnbhaaGreatDoorBW6x
import Derived.Test.YtaejmlkaefnbhaaGreatDoorS11ax
import Derived.Test.YtaejmlkaefnbhaaGreatDoorD30x
import Derived.Test.YtaejmlkaefnbhaaGreatDoorSN4x
import Derived.Test.YtaejmlkaefnbhaaGreatDoorSM7x
import Derived.Deep.RegionWith
import Derived.OwnWalk
import Derived.ArgAppend
import Derived.WalkMore
set_option linter.unusedVariables false
set_option linter.unusedSimpArgs false
set_option maxHeartbeats 16000000
set_option maxRecDepth 20000
namespace Go.Proofs.YtaejmlkaefnbhaaGreatDoor
namespace J
end J
section
open Go.RowKit J
theorem ZD{P:Prop}(h:P:=by
 by_cases h2r:2<=br
 · have UN:decide ((2:Int)<=(br:Int))=true:=by simp;omega
   go_wp2
   go_loopg [12] (b-i1) (fun gk jv wr=>∃ j:Nat,gk=b-j/\i<j/\j<=b/\jv=.int .i64 (j:Nat)/\Aside (aK n g N w wr (fun M=>Pm a b L M/\Up K a i M)))
   case atStart=>exact⟨i1,rfl,by have:=HI.o;omega,by have:=HI.o;omega,by first | rfl | simp,HA.o⟩
   case round =>
    clear HA;obtain⟨j,hgj,e1,e2,rfl,HA⟩:=hrel
    by_cases hjb:j<b
    · have hdj:decide ((j:Int)<(b:Int))=true:=by simp;omega
      obtain⟨j1,hj1⟩:=ah (j+1);obtain⟨jm,hjm⟩:=ah (j-1);have wj1:IntKind.i64.wrap ((j:Int)+1)=(j1:Int):=aQ af af;have wjm:IntKind.i64.wrap ((j:Int)-1)=(jm:Int):=aQ af af;have bj:(j:Int)<(N:Int):=af
      have bj':j<N:=af
      have bjm:(jm:Int)<(N:Int):=af
      have bjm':jm<N:=af
      have hne1:j≠jm:=af
      have HJ:=aT hj1 hjm;clear hj1 hjm
      go_upto_region 22 with fail
      go_cut [124] from 112 to 123 (fun v wx=>∃ t:Bool,v=.bool t/\Aside (aK n g N w wx (fun M=>(fun M=>Pm a b L M/\Up K a i M) M/\(t=true↔(¬ ky K M j<ky K M jm)))))
      case first =>
       obtain⟨x,y,z,c1',c2',C0,ik⟩:=HA.o.zy HC.o j jm af af;have C:=hid C0;have HF:=au ik;have kS:=aT c1' c2';clear HA C0 ik c1' c2'
       go_region_held3 (fun w'=>w'.cell? ⟨g,j,none⟩=some (.int .i64 (x:Nat))/\w'.cell? ⟨g,jm,none⟩=some (.int .i64 (y:Nat))) (with_reducible exact kS.o) (first
        | (go_at_call 134
           with_reducible refine C.o.mono ?_
           rintro r v ⟨rfl,hb⟩;have G:=au (HF.o v hb);have kS:Aside (v.cell? ⟨g,j,none⟩=some (.int .i64 (x:Nat))/\v.cell? ⟨g,jm,none⟩=some (.int .i64 (y:Nat))):=⟨(hb.cell (p:=⟨g,j,none⟩) (aH kS.o.1)).trans kS.o.1,(hb.cell (p:=⟨g,jm,none⟩) (aH kS.o.2)).trans kS.o.2⟩
           clear hb))
       all_goals
        go_wp2_with fail
        go_meet
        case rel=>exact⟨!decide (z<0),rfl,G.o.imp (fun M _ q=>⟨q.1,jg q.2⟩)⟩
      clear HA;obtain⟨t,rfl,HA⟩:=hcut;obtain⟨W3,hW⟩:=ah wc;subst hW;replace HA:Aside (aK n g N w W3 (fun M=>Pm a b L M/\Up K a i M)):=(HA.o.imp (fun M _ q=>q.1):aK n g N w W3 _)
      cases t
      · go_upto_region 23 with fail
        obtain⟨x,y,c1',c2',z1,z2,ik⟩:=HA.o.swap j jm af af;have hse:j≠jm:=af
        have uL:jm≠j:=af
        have HF:=au (fun v hv=>((ik v hv).imp (fun M _ q=>by
         obtain⟨M0,q1,q2,rfl⟩:=q;have hj:=HJ.o
         exact⟨q1.1.trans (Pm.swap af af af af af),q1.2.UM af af af af⟩):aK n g N w v (fun M=>Pm a b L M/\Up K a i M)))
        clear HA ik
        go_region
        all_goals
         go_wp2;go_roundg (b-j1)
         case measure=>have:=HJ.o;omega
         case rel=>exact⟨j1,rfl,by have:=HJ.o;omega,by have:=HJ.o;omega,by first | rfl | simp,HF.o _ (by first | exact .inl rfl | exact .inr rfl)⟩
      · go_wp2;go_roundg (5-cc)
        case measure=>have:=HG.o;omega
        case rel=>exact⟨i,cc,by have:=HG.o;omega,c1,c2,by first | rfl | simp,by first | rfl | simp,HA.o⟩
    · have hdj:decide ((j:Int)<(b:Int))=false:=by simp;omega
      go_wp2;go_roundg (5-cc)
      case measure=>have:=HG.o;omega
      case rel=>exact⟨i,cc,by have:=HG.o;omega,c1,c2,by first | rfl | simp,by first | rfl | simp,HA.o⟩
 · have UN:decide ((2:Int)<=(br:Int))=false:=by simp;omega
   go_wp2;go_roundg (5-cc)
   case measure=>have:=HG.o;omega
   case rel=>exact⟨i,cc,by have:=HG.o;omega,c1,c2,by first | rfl | simp,by first | rfl | simp,HA.o⟩):P:=h
theorem Qn(K:Nat->Nat)(n g N a b cap:Nat)(L:List Nat)(recv:Value)(w:World)(hS:aK n g N w w (fun M=>M=L))(hC:iQ K n g recv w)(hF:Fl K a b L)(hab:a<b)(hb:b<=N)(hbig:N<1152921504606846976) :
 Calls Tryz.prog 262 #[.slice (some ⟨g,0,none⟩) N cap,.int .i64 (a:Nat),.int .i64 (b:Nat),.func (.func 134) #[recv] #[]] w fun r w'=>∃ t:Bool,r=.returned (.bool t)/\aK n g N w w' (fun M=>Pm a b L M/\(t=true->Up K a b M)):=by
 obtain⟨i0,hi0⟩:=ah (a+1);obtain⟨l,hl⟩:=ah (b-a);have HC:=au hC;have HL:=au hF;have w1:IntKind.i64.wrap ((a:Int)+1)=(i0:Int):=aQ af af;have w2:IntKind.i64.wrap ((b:Int)-(a:Int))=(l:Int):=aQ af af;have c1:a<i0:=af
 have c2:i0<=b:=af
 have HA:Aside (aK n g N w w (fun M=>Pm a b L M/\Up K a i0 M)):=(hS.imp (fun M _ e=>by
  subst e
  exact⟨Pm.refl _ _ _,fun x y h1 h2 h3=>by omega⟩):aK n g N w w _)
 have HQ:=aT hi0 hl;clear hi0 hl hS hC hF;go_enter Tryz.func262,Tryz.ntmps262;go_wp2
 go_loopg [9,10] 5 (fun gk iv cv wr=>∃ i c:Nat,gk+c=5/\a<i/\i<=b/\iv=.int .i64 (i:Nat)/\cv=.int .i64 (c:Nat)/\Aside (aK n g N w wr (fun M=>Pm a b L M/\Up K a i M)))
 case atStart=>exact⟨i0,0,rfl,c1,c2,by first | rfl | simp,by first | rfl | simp,HA.o⟩
 case round =>
  clear HA c1 c2;obtain⟨i9,c,hgc,c1,c2,rfl,rfl,HA⟩:=hrel
  by_cases hc5:c<5
  · have hd5:decide ((c:Int)<5)=true:=by simp;omega
    obtain⟨cc,hcc⟩:=ah (c+1);have wcc:IntKind.i64.wrap ((c:Int)+1)=(cc:Int):=aQ af af;have HG:=(bM hgc hcc hc5);clear hgc hcc hc5;go_wp2
    go_loopg [9] (b-i9) (fun gk iv wr=>∃ i:Nat,gk=b-i/\a<i/\i<=b/\iv=.int .i64 (i:Nat)/\Aside (aK n g N w wr (fun M=>Pm a b L M/\Up K a i M)))
    case atStart=>exact⟨i9,rfl,c1,c2,by first | rfl | simp,HA.o⟩
    case round =>
     clear HA c1 c2;obtain⟨i,iL,c1,c2,rfl,HA⟩:=hrel;obtain⟨i1,hi1⟩:=ah (i+1);obtain⟨im,him⟩:=ah (i-1);have wi1:IntKind.i64.wrap ((i:Int)+1)=(i1:Int):=aQ af af;have wim:IntKind.i64.wrap ((i:Int)-1)=(im:Int):=aQ af af;have bm:(im:Int)<(N:Int):=af
     have bm':im<N:=af
     have HI:=aT hi1 him;clear hi1 him
     go_upto_region 5 with fail
     go_cut [36] from 19 to 35 (fun v wx=>∃ t:Bool,v=.bool t/\Aside (aK n g N w wx (fun M=>(fun M=>Pm a b L M/\Up K a i M) M/\(t=true↔(i<b/\¬ ky K M i<ky K M im)))))
     case first =>
      by_cases hgd:i<b
      · have pI:decide ((i:Int)<(b:Int))=true:=by simp;omega
        obtain⟨x,y,z,c1',c2',C0,ik⟩:=HA.o.zy HC.o i im af af;have C:=hid C0;have HF:=au ik;have kS:=aT c1' c2';clear HA C0 ik c1' c2';have bi:(i:Int)<(N:Int):=af
        have bi':i<N:=af
        go_region_held3 (fun w'=>w'.cell? ⟨g,i,none⟩=some (.int .i64 (x:Nat))/\w'.cell? ⟨g,im,none⟩=some (.int .i64 (y:Nat))) (with_reducible exact kS.o) (first
         | (go_at_call 134
            with_reducible refine C.o.mono ?_
            rintro r v ⟨rfl,hb⟩;have G:=au (HF.o v hb);have kS:Aside (v.cell? ⟨g,i,none⟩=some (.int .i64 (x:Nat))/\v.cell? ⟨g,im,none⟩=some (.int .i64 (y:Nat))):=⟨(hb.cell (p:=⟨g,i,none⟩) (aH kS.o.1)).trans kS.o.1,(hb.cell (p:=⟨g,im,none⟩) (aH kS.o.2)).trans kS.o.2⟩
            clear hb))
        all_goals
         exact yy
      · have pI:decide ((i:Int)<(b:Int))=false:=by simp;omega
        exact q7
     clear HA;obtain⟨t,rfl,HA⟩:=hcut;obtain⟨WC,hW⟩:=ah wc;subst hW
     cases t
     · replace HA:Aside (aK n g N w WC (fun M=>(Pm a b L M/\Up K a i M)/\(i<b->ky K M i<ky K M im))):=(HA.o.imp (fun M _ q=>⟨q.1,fun e=>I5 (fun h=>absurd (q.2.2 ⟨e,h⟩) aA)⟩):aK n g N w WC _)
       by_cases hib:i=b
       · subst hib;go_wp2;refine aJ (v:=.bool true) (by simp[results,Tryz.results262,go_sem]) rfl ?_;exact⟨true,rfl,HA.o.imp (fun M _ q=>⟨q.1.1,fun _=>q.1.2⟩)⟩
       · have hib1:((i:Int)==(b:Int))=false:=by simp;omega
         have hib2:decide ((i:Int)=(b:Int))=false:=by simp;omega
         have hlt:i<b:=af
         by_cases h50:l<50
         · have hd50:decide ((l:Int)<50)=true:=by simp;omega
           go_wp2;refine aJ (v:=.bool false) (by simp[results,Tryz.results262,go_sem]) rfl ?_;exact⟨false,rfl,HA.o.imp (fun M _ q=>⟨q.1.1,fun e=>absurd e aA⟩)⟩
         · have hd50:decide ((l:Int)<50)=false:=by simp;omega
           obtain⟨bl,hbl⟩:=ah (i-a);obtain⟨br,hbr⟩:=ah (b-i);have wbl:IntKind.i64.wrap ((i:Int)-(a:Int))=(bl:Int):=aQ af af;have wbr:IntKind.i64.wrap ((b:Int)-(i:Int))=(br:Int):=aQ af af;have bi:(i:Int)<(N:Int):=af
           have bi':i<N:=af
           have HB:=aT hbl hbr;clear hbl hbr
           go_upto_region 11 with fail
           go_cut [9] from 39 to 61 (fun v wx=>v=.int .i64 (i:Nat)/\Aside (aK n g N w wx (fun M=>∃ M0,(fun M=>(Pm a b L M/\Up K a i M)/\(i<b->ky K M i<ky K M im)) M0/\M0.length=N/\M=sw M0 i im)))
           case first =>
            obtain⟨x,y,c1',c2',z1,z2,ik⟩:=HA.o.swap i im af af;have HF:=au ik;clear HA ik
            by_cases hse:i=im
            · subst hse
              have hxy:x=y:=by
               exact ya
              subst hxy;clear c2' z2
              exact Xs
            · have uL:im≠i:=fun e=>hse e.symm
              exact Xs
           clear HA;obtain⟨rfl,HA⟩:=hcut;obtain⟨W1,hW⟩:=ah wc;subst hW
           replace HA:Aside (aK n g N w W1 (fun M=>Pm a b L M/\Ins K a im im M)):=(HA.o.imp (fun M _ q=>by
            obtain⟨M0,q1,q2,rfl⟩:=q;have hi:=HI.o;have e:i=im+1:=af
            have u:=q1.1.2;rw[e] at u;refine⟨q1.1.1.trans (Pm.swap af af af af af),?_⟩;rw[e]
            exact Ins.cut15 u af af):aK n g N w W1 _)
           by_cases h2l:2<=bl
           · have hdl2:decide ((2:Int)<=(bl:Int))=true:=by simp;omega
             go_wp2
             go_loopg [11] im (fun gk jv wr=>∃ j:Nat,gk=j/\a<=j/\j<=im/\jv=.int .i64 (j:Nat)/\Aside (aK n g N w wr (fun M=>Pm a b L M/\Ins K a im j M)))
             case atStart=>exact⟨im,rfl,by have:=HI.o;omega,aB _,by first | rfl | simp,HA.o⟩
             case round =>
              clear HA;obtain⟨j,hgj,e1,e2,rfl,HA⟩:=hrel
              by_cases hj1:1<=j
              · have hdj:decide ((1:Int)<=(j:Int))=true:=by simp;omega
                obtain⟨jm,hjm⟩:=ah (j-1);have wjm:IntKind.i64.wrap ((j:Int)-1)=(jm:Int):=aQ af af;have bj:(j:Int)<(N:Int):=af
                have bj':j<N:=af
                have bjm:(jm:Int)<(N:Int):=af
                have bjm':jm<N:=af
                have hne1:j≠jm:=af
                have HJ:=au hjm;clear hjm
                go_upto_region 16 with fail
                go_cut [84] from 72 to 83 (fun v wx=>∃ t:Bool,v=.bool t/\Aside (aK n g N w wx (fun M=>(fun M=>Pm a b L M/\Ins K a im j M) M/\(t=true↔(¬ ky K M j<ky K M jm)))))
                case first =>
                 obtain⟨x,y,z,c1',c2',C0,ik⟩:=HA.o.zy HC.o j jm af af;have C:=hid C0;have HF:=au ik;have kS:=aT c1' c2';clear HA C0 ik c1' c2'
                 go_region_held3 (fun w'=>w'.cell? ⟨g,j,none⟩=some (.int .i64 (x:Nat))/\w'.cell? ⟨g,jm,none⟩=some (.int .i64 (y:Nat))) (with_reducible exact kS.o) (first
                  | (go_at_call 134
                     with_reducible refine C.o.mono ?_
                     rintro r v ⟨rfl,hb⟩;have G:=au (HF.o v hb);have kS:Aside (v.cell? ⟨g,j,none⟩=some (.int .i64 (x:Nat))/\v.cell? ⟨g,jm,none⟩=some (.int .i64 (y:Nat))):=⟨(hb.cell (p:=⟨g,j,none⟩) (aH kS.o.1)).trans kS.o.1,(hb.cell (p:=⟨g,jm,none⟩) (aH kS.o.2)).trans kS.o.2⟩
                     clear hb))
                 all_goals
                  go_wp2_with fail
                  go_meet
                  case rel=>exact⟨!decide (z<0),rfl,G.o.imp (fun M _ q=>⟨q.1,jg q.2⟩)⟩
                clear HA;obtain⟨t,rfl,HA⟩:=hcut;obtain⟨W3,hW⟩:=ah wc;subst hW
                cases t
                · have haj:a<j:=by
                   obtain⟨M,_,hlen,_,_,q⟩:=HA.o;rcases iJ a j with h|h
                   · exact h
                   · exfalso;have ej:j=a:=af
                     have hjm:=HJ.o;have hi:=HI.o;have f:=(HL.o.pm q.1.1) af j af af;have k1:¬ ky K M j<ky K M jm:=by rw[hjm,ej] at *;omega
                     exact absurd (q.2.2 k1) aA
                  go_upto_region 17 with fail
                  obtain⟨x,y,c1',c2',z1,z2,ik⟩:=HA.o.swap j jm af af;have hse:j≠jm:=af
                  have uL:jm≠j:=af
                  have HF:=au (fun v hv=>((ik v hv).imp (fun M _ q=>by
                   obtain⟨M0,q1,q2,rfl⟩:=q;have hjm:=HJ.o;have hi:=HI.o;have k1:ky K M0 j<ky K M0 jm:=I5 (fun e=>absurd (q1.2.2 e) aA);rw[hjm] at k1 |-
                   exact⟨q1.1.1.trans (Pm.swap af af af af af),q1.1.2.step af haj k1⟩):aK n g N w v (fun M=>Pm a b L M/\Ins K a im jm M)))
                  clear HA ik
                  go_region
                  all_goals
                   go_wp2;go_roundg jm
                   case measure=>have:=HJ.o;omega
                   case rel=>exact⟨jm,rfl,by have:=HJ.o;omega,by have:=HJ.o;omega,by first | rfl | simp,HF.o _ (by first | exact .inl rfl | exact .inr rfl)⟩
                · replace HA:Aside (aK n g N w W3 (fun M=>Pm a b L M/\Up K a i M)):=(HA.o.imp (fun M _ q=>by
                   have hjm:=HJ.o;have hi:=HI.o;have k1:=lM (q.2.1 rfl);rw[hjm] at k1;have k2:=q.1.2.done (.inr k1);rw[show im+1=i by omega] at k2
                   exact⟨q.1.1,k2⟩):aK n g N w W3 _)
                  replace HA:Aside (aK n g N w W3 (fun M=>Pm a b L M/\Up K a i M)):=HA
                  exact ZD
              · have hdj:decide ((1:Int)<=(j:Int))=false:=by simp;omega
                replace HA:Aside (aK n g N w wr (fun M=>Pm a b L M/\Up K a i M)):=(HA.o.imp (fun M _ q=>by
                 have hi:=HI.o;have k2:=q.2.done (.inl af);rw[show im+1=i by omega] at k2
                 exact⟨q.1,k2⟩):aK n g N w wr _)
                replace HA:Aside (aK n g N w wr (fun M=>Pm a b L M/\Up K a i M)):=HA
                exact ZD
           · have hdl2:decide ((2:Int)<=(bl:Int))=false:=by simp;omega
             replace HA:Aside (aK n g N w W1 (fun M=>Pm a b L M/\Up K a i M)):=(HA.o.imp (fun M _ q=>by
              have hi:=HI.o;have hb:=HB.o;have k2:=q.2.done (.inl af);rw[show im+1=i by omega] at k2
              exact⟨q.1,k2⟩):aK n g N w W1 _)
             replace HA:Aside (aK n g N w W1 (fun M=>Pm a b L M/\Up K a i M)):=HA
             exact ZD
     · have hlt:i<b:=by
        obtain⟨_,_,_,_,_,q⟩:=HA.o;exact(q.2.1 rfl).1
       replace HA:Aside (aK n g N w WC (fun M=>Pm a b L M/\Up K a i1 M)):=(HA.o.imp (fun M _ q=>by
        obtain⟨hi1,him⟩:=HI.o;rw[hi1];have:=lM (q.2.1 rfl).2;rw[him] at this
        exact⟨q.1.1,q.1.2.snoc15 c1 this⟩):aK n g N w WC _)
       go_wp2;go_roundg (b-i1)
       case measure=>have:=HI.o;omega
       case rel=>exact⟨i1,rfl,by have:=HI.o;omega,by have:=HI.o;omega,by first | rfl | simp,HA.o⟩
  · have hd5:decide ((c:Int)<5)=false:=by simp;omega
    go_wp2;refine aJ (v:=.bool false) (by simp[results,Tryz.results262,go_sem]) rfl ?_;exact⟨false,rfl,HA.o.imp (fun M _ q=>⟨q.1,fun e=>absurd e aA⟩)⟩
end
section
open Go.RowKit
set_option maxRecDepth 100000 in
theorem Qo(x:Int)(w:World)(h0:0<=x)(h1:x<=18446744073709551615) :
 Calls Tryz.prog 265 #[.int .u64 x] w fun e w'=>e=.returned (.int .i64 (Lib.bitLen x.toNat))/\w'=w:=by
 have hsz:Lib.len8tab.size=256:=Lib.len8tab_size;go_enter Tryz.func265,Tryz.ntmps265;go_wp2
 all_goals (go_ret;refine⟨congrArg (fun z=>Ending.returned (Value.int IntKind.i64 z)) ?_,rfl⟩)
 · exact jQ x (x/4294967296/65536/256) 56 af af (by rw[Lib.bitLen_shift56 x.toNat af af,show(x/4294967296/65536/256).toNat=x.toNat/72057594037927936 by omega]) af af
 · exact jQ x (x/4294967296/65536) 48 af af (by rw[Lib.bitLen_shift48 x.toNat af af,show(x/4294967296/65536).toNat=x.toNat/281474976710656 by omega]) af af
 · exact jQ x (x/4294967296/256) 40 af af (by rw[Lib.bitLen_shift40 x.toNat af af,show(x/4294967296/256).toNat=x.toNat/1099511627776 by omega]) af af
 · exact jQ x (x/4294967296) 32 af af (by rw[Lib.bitLen_shift32 x.toNat af af,show(x/4294967296).toNat=x.toNat/4294967296 by omega]) af af
 · exact jQ x (x/65536/256) 24 af af (by rw[Lib.bitLen_shift24 x.toNat af af,show(x/65536/256).toNat=x.toNat/16777216 by omega]) af af
 · exact jQ x (x/65536) 16 af af (by rw[Lib.bitLen_shift16 x.toNat af af,show(x/65536).toNat=x.toNat/65536 by omega]) af af
 · exact jQ x (x/256) 8 af af (by rw[Lib.bitLen_shift8 x.toNat af af,show(x/256).toNat=x.toNat/256 by omega]) af af
 · exact EZ x af af af
theorem Ir(x:Nat)(w:World)(h:x<18446744073709551616):Calls Tryz.prog 212 #[.int .u64 (x:Int)] w fun e w'=>e=.returned (.int .i64 (bl x:Nat))/\w'=w:=by
 have:=Qo x w af af;rw[kV,Al x af] at this;have H:=hid this;clear this;go_enter Tryz.func212,Tryz.ntmps212;go_wp2_with fail;refine H.o.mono ?_;rintro r w1 ⟨rfl,rfl⟩;go_wp2;exact Ks
end
section
open Go.RowKit J
theorem zB(l:Nat)(h:0<l):l<2^bl l/\2^bl l<=2*l:=by
 refine⟨iF l,?_⟩;have h1:=iM l af;have h2:=fH l af;rw[show bl l=(bl l-1)+1 by omega,fw];omega
theorem Qp(l:Nat)(w:World)(h0:0<l)(h:l<1152921504606846976):Calls Tryz.prog 283 #[.int .i64 (l:Nat)] w fun r w'=>r=.returned (.int .u64 ((2^bl l:Nat):Int))/\w'=w:=by
 have C:=hid (Ir l w af);have wl:IntKind.u64.wrap (l:Int)=(l:Int):=by simp[IntKind.wrap,IntKind.bits,IntKind.signed];omega
 have hp:=(zB l h0).2;go_enter Tryz.func283,Tryz.ntmps283;go_wp2_with fail;refine C.o.mono ?_;rintro r w1 ⟨rfl,rfl⟩;obtain⟨m,hm⟩:=ah (bl l);rw[<-hm] at hp |-;have HP:=au hp;have HM:=au hm;clear C hm hp;go_wp2
 have hm64:m<64:=by
  rcases iJ m 64 with q|q
  · exact q
  · have:=gF (n:=2) af q;have:=HP.o;omega
 have e:IntKind.u64.wrap (2^min m 64)=((2^m:Nat):Int):=by
  rw[iy af,show((2:Int)^m)=((2^m:Nat):Int) by simp];have:=HP.o;rw[Cs];obtain⟨P,hP⟩:=ah (2^m);rw[<-hP] at this |-;exact uT af af
 rw[e,HM.o];exact Ks
theorem xo15(op:BinOp)(a b:Int):∃ y:Nat,y<18446744073709551616/\bits op .u64 a b=(y:Int):=by
 have h1:=bits_lo_u64 op a b;have h2:=bits_hi_u64 op a b;exact⟨(bits op .u64 a b).toNat,af,af⟩
def uN(q:Nat)(w wr:World):Prop:=∃ y:Nat,y<18446744073709551616/\wr.cell? ⟨q,0,none⟩=some (.int .u64 (y:Nat))/\wr.frozen? ⟨q,0,none⟩=false/\But q w wr
theorem uN.step{q y:Nat}{w wr:World}(h:uN q w wr)(hy:y<18446744073709551616):uN q w (wr.drew.setCell ⟨q,0,none⟩ (.int .u64 (y:Nat))):=by
 obtain⟨x,h1,h2,h3,h4⟩:=h;refine⟨y,hy,World.cell?_setCell_same _ _ _ (show wr.drew.cell? _=_ from h2),?_,(h4.drew).set _ _⟩;rw[World.frozen?_setCell];exact h3
theorem jn{P:Prop}(h:P:=by
 have hx0:(0:Int)<=(x:Int):=af
 have X:=aT x1 y1;clear HA x4 x1 y1
 go_region
 all_goals
  go_wp2_with fail
  go_meet
  case rel=>exact⟨rfl,HF.o _ rfl⟩):P:=h
theorem next15(q:Nat)(w:World)(h:uN q w w):Calls Tryz.prog 284 #[.pointer (some ⟨q,0,none⟩)] w fun r w'=>∃ y:Nat,y<18446744073709551616/\r=.returned (.int .u64 (y:Nat))/\uN q w w':=by
 have HA:=au h;clear h;go_enter Tryz.func284,Tryz.ntmps284
 go_upto_region 1 with fail
 go_cut [0] from 3 to 11 (fun v wx=>v=.pointer (some ⟨q,0,none⟩)/\Aside (uN q w wx))
 case first =>
  obtain⟨x,x1,x2,x3,x4⟩:=HA.o;obtain⟨y,y1,y2⟩:=xo15 .xor (x:Int) (IntKind.u64.wrap ((x:Int)*8192));have HF:Aside (∀ v,v=(w.drew.setCell ⟨q,0,none⟩ (.int .u64 (y:Nat)))->uN q w v):=fun v hv=>by rw[hv];exact HA.o.step y1
  exact jn
 clear HA;obtain⟨rfl,HA⟩:=hcut;obtain⟨W1,hW⟩:=ah wc;subst hW
 go_upto_region 2 with fail
 go_cut [0] from 12 to 20 (fun v wx=>v=.pointer (some ⟨q,0,none⟩)/\Aside (uN q w wx))
 case first =>
  obtain⟨x,x1,x2,x3,x4⟩:=HA.o;obtain⟨y,y1,y2⟩:=xo15 .xor (x:Int) ((x:Int)/128);have HF:Aside (∀ v,v=(W1.drew.setCell ⟨q,0,none⟩ (.int .u64 (y:Nat)))->uN q w v):=fun v hv=>by rw[hv];exact HA.o.step y1
  exact jn
 clear HA;obtain⟨rfl,HA⟩:=hcut;obtain⟨W2,hW⟩:=ah wc;subst hW
 go_upto_region 3 with fail
 go_cut [0] from 21 to 29 (fun v wx=>v=.pointer (some ⟨q,0,none⟩)/\Aside (uN q w wx))
 case first =>
  obtain⟨x,x1,x2,x3,x4⟩:=HA.o;obtain⟨y,y1,y2⟩:=xo15 .xor (x:Int) (IntKind.u64.wrap ((x:Int)*131072));have HF:Aside (∀ v,v=(W2.drew.setCell ⟨q,0,none⟩ (.int .u64 (y:Nat)))->uN q w v):=fun v hv=>by rw[hv];exact HA.o.step y1
  exact jn
 clear HA;obtain⟨rfl,HA⟩:=hcut;obtain⟨W3,hW⟩:=ah wc;subst hW;obtain⟨x,x1,x2,x3,x4⟩:=HA.o;go_wp2;refine aJ (v:=.int .u64 (x:Nat)) (by simp[results,Tryz.results284,go_sem]) rfl ?_;exact⟨x,x1,rfl,HA.o⟩
def qA(n g N q:Nat)(w wr:World)(S:List Nat->Prop):Prop:=aK n g N w wr S/\w.heap.size<=q/\∃ y:Nat,y<18446744073709551616/\wr.cell? ⟨q,0,none⟩=some (.int .u64 (y:Nat))/\wr.frozen? ⟨q,0,none⟩=false
theorem qA.xq{n g N q:Nat}{w wr:World}{S:List Nat->Prop}(h:qA n g N q w wr S):uN q wr wr:=by
 obtain⟨h1,h2,y,h3,h4,h5⟩:=h;exact⟨y,h3,h4,h5,But.refl _ _⟩
theorem qA.imp{n g N q:Nat}{w wr:World}{S T:List Nat->Prop}(h:qA n g N q w wr S)(f:∀ L,L.length=N->S L->T L):qA n g N q w wr T:=⟨h.1.imp f,h.2⟩
theorem qA.next{n g N q:Nat}{w wr v:World}{S:List Nat->Prop}(h:qA n g N q w wr S)(hv:uN q wr v)(hg:g<w.heap.size):qA n g N q w v S:=by
 obtain⟨⟨M,o1,o2,o3,o4,o5⟩,h2,_⟩:=h;obtain⟨y,y1,y2,y3,y4⟩:=hv;refine⟨⟨M,?_,o2,o3,⟨y4.os.trans o4.os,y4.tape.trans o4.tape,y4.output.trans o4.output,aV o4.size y4.size,fun k hk hkg=>?_⟩,o5⟩,h2,y,y1,y2,y3⟩
 · unfold bE;rw[y4.block g o1.lt af];exact o1
 · rw[y4.block k (gG hk o4.size) af];exact o4.block k hk hkg
theorem qA.swap{n g N q:Nat}{w wr:World}{S:List Nat->Prop}(h:qA n g N q w wr S)(i j:Nat)(hg:g<w.heap.size)(hi:i<N)(hj:j<N) :
 ∃ (x y:Nat),wr.cell? ⟨g,i,none⟩=some (.int .i64 (x:Nat))/\wr.cell? ⟨g,j,none⟩=some (.int .i64 (y:Nat))/\wr.frozen? ⟨g,i,none⟩=false/\wr.frozen? ⟨g,j,none⟩=false /\
   (∀ v:World,(v=(wr.drew.setCell ⟨g,i,none⟩ (.int .i64 (y:Nat))).setCell ⟨g,j,none⟩ (.int .i64 (x:Nat))\/v=(wr.drew.setCell ⟨g,j,none⟩ (.int .i64 (x:Nat))).setCell ⟨g,i,none⟩ (.int .i64 (y:Nat)))->qA n g N q w v (fun L=>∃ M,S M/\M.length=N/\L=sw M i j)):=by
 obtain⟨h1,h2,z,z1,z2,z3⟩:=h;obtain⟨x,y,c1,c2,f1,f2,F⟩:=h1.swap i j hi hj;have hqg:q≠g:=af
 refine⟨x,y,c1,c2,f1,f2,fun v hv=>⟨F v hv,h2,z,z1,?_,?_⟩⟩
 · have e:∀ k k' a a',((wr.drew.setCell ⟨g,k,none⟩ a).setCell ⟨g,k',none⟩ a').heap[q]?=wr.heap[q]?:=fun k k' a a'=>by
    simp only[World.setCell,iA];rw[if_neg (fun e=>hqg e.symm),if_neg (fun e=>hqg e.symm)];rfl
   unfold World.cell? at z2 |-;rcases hv with rfl|rfl <;> rw[e] <;> exact z2
 · have e:∀ k k' a a',((wr.drew.setCell ⟨g,k,none⟩ a).setCell ⟨g,k',none⟩ a').heap[q]?=wr.heap[q]?:=fun k k' a a'=>by
    simp only[World.setCell,iA];rw[if_neg (fun e=>hqg e.symm),if_neg (fun e=>hqg e.symm)];rfl
   unfold World.frozen? at z3 |-;rcases hv with rfl|rfl <;> rw[e] <;> exact z3
theorem qt{P:Prop}(h:P:=by
 go_upto_region 10 with fail
 obtain⟨x,y',c1',c2',z1,z2,ik⟩:=HX.o.swap i p hgw af af
 have HF:=au (fun u hu=>((ik u hu).imp (fun M _ q=>by
  obtain⟨M0,q1,q2,rfl⟩:=q
  exact q1.trans (Pm.swap af af af af af)):qA n g N G w u (fun M=>Pm a b L M)))
 clear HA HX ik
 by_cases hse:i=p
 · subst hse
   have hxy:x=y':=by
    have h2:(x:Int)=(y':Int):=by (have:=c1'.symm.trans c2';simpa using this)
    omega
   subst hxy;clear c2' z2
   go_region
   all_goals
    go_wp2;go_roundg (i3+1-i1)
    case measure=>have:=HI.o;omega
    case rel=>exact⟨i1,by have:=HI.o;omega,rfl,by have:=HI.o;omega,by first | rfl | simp,HF.o _ (by first | exact .inl rfl | exact .inr rfl)⟩
 · have uL:p≠i:=fun e=>hse e.symm
   go_region
   all_goals
    go_wp2;go_roundg (i3+1-i1)
    case measure=>have:=HI.o;omega
    case rel=>exact⟨i1,by have:=HI.o;omega,rfl,by have:=HI.o;omega,by first | rfl | simp,HF.o _ (by first | exact .inl rfl | exact .inr rfl)⟩):P:=h
theorem Yb(n g N a b cap:Nat)(L:List Nat)(recv:Value)(w:World)(hS:aK n g N w w (fun M=>M=L))(hab:a+8<=b)(hb:b<=N)(hbig:N<1152921504606846976) :
 Calls Tryz.prog 259 #[.slice (some ⟨g,0,none⟩) N cap,.int .i64 (a:Nat),.int .i64 (b:Nat),.func (.func 134) #[recv] #[]] w fun r w'=>r=.returned (.tuple #[])/\aK n g N w w' (fun M=>Pm a b L M):=by
 obtain⟨l,hl⟩:=ah (b-a);obtain⟨q,hq⟩:=ah (l/4);obtain⟨q2,hq2⟩:=ah (q*2);obtain⟨m,hm⟩:=ah (a+q2);obtain⟨i0,hi0⟩:=ah (m-1);obtain⟨i3,hi3⟩:=ah (m+1);have w1:IntKind.i64.wrap ((b:Int)-(a:Int))=(l:Int):=aQ af af;have w2:Int.tdiv (l:Int) 4=(q:Int):=by rw[hq];rfl
 have w3:IntKind.i64.wrap (q:Int)=(q:Int):=aQ rfl af;have w5:IntKind.i64.wrap ((q:Int)*2)=(q2:Int):=aQ af af;have w8:IntKind.i64.wrap ((a:Int)+(q2:Int))=(m:Int):=aQ af af;have w9:IntKind.i64.wrap ((m:Int)-1)=(i0:Int):=aQ af af;have w10:IntKind.i64.wrap ((m:Int)+1)=(i3:Int):=aQ af af;have wl:IntKind.u64.wrap (l:Int)=(l:Int):=by simp[IntKind.wrap,IntKind.bits,IntKind.signed];omega
 have d1:decide ((8:Int)<=(l:Int))=true:=by simp;omega
 have HA:=au hS;have HQ:=(rG hl hq hq2 hm hi0 hi3);have hl8:8<=l:=af
 have hlb:l<1152921504606846976:=af
 clear hl hq hq2 hm hi0 hi3 hS;go_enter Tryz.func259,Tryz.ntmps259
 go_upto_region 3 with fail
 have hgw:g<w.heap.size:=HA.o.lt;have HX:Aside (qA n g N w.heap.size w (w.alloc (Obj.cells #[Value.int IntKind.u64 (l:Nat)] 281)) (fun M=>Pm a b L M)):=(⟨(HA.o.below ((aG w.heap.size w).alloc (aB _) _)).imp (fun M _ e=>by subst e;exact Pm.refl _ _ _),aB _,l,af,by rw[World.cell?_alloc_new];rfl,World.frozen?_alloc_new _ _ _ _⟩:qA n g N _ w _ _);obtain⟨W1,hW1⟩:=ah (w.alloc (Obj.cells #[Value.int IntKind.u64 (l:Nat)] 281));rw[<-hW1] at HX |-;clear hW1 HA;obtain⟨G,hG⟩:=ah (w.heap.size);rw[<-hG] at HX |-;clear hG;have C:=hid (Qp l W1 af hlb);obtain⟨P,hP⟩:=ah (2^bl l);have hp1:=(zB l af).1;have hp2:=(zB l af).2;rw[<-hP] at C hp1 hp2;clear hP;go_wp2_with fail;refine C.o.mono ?_;rintro r v ⟨rfl,rfl⟩;clear C;obtain⟨P1,hP1⟩:=ah (P-1)
 have em:IntKind.u64.wrap ((P:Int)-1)=(P1:Int):=by
  rw[Cs,show(P:Int)-1=(P1:Int) by omega];exact uT af af
 have hP2:P1<2*l:=af
 clear hP1 hp1 hp2;go_wp2
 go_loopg [11] 3 (fun gk iv wr=>∃ i:Nat,i0<=i/\gk=i3+1-i/\i<=i3+1/\iv=.int .i64 (i:Nat)/\Aside (qA n g N G w wr (fun M=>Pm a b L M)))
 case atStart=>exact⟨i0,aB _,by have:=HQ.o;omega,by have:=HQ.o;omega,by first | rfl | simp,HX.o⟩
 case round =>
  clear HX;obtain⟨i,hii,iL,hie,rfl,HX⟩:=hrel
  by_cases hi3:i<=i3
  · have hdi:decide ((i:Int)<=(i3:Int))=true:=by simp;omega
    obtain⟨i1,hi1⟩:=ah (i+1);have wi1:IntKind.i64.wrap ((i:Int)+1)=(i1:Int):=aQ af (by have:=HQ.o;omega);have bi:(i:Int)<(N:Int):=by have:=HQ.o;omega
    have bi':i<N:=af
    have hai:a<=i:=by have:=HQ.o;omega
    have hib:i<b:=by have:=HQ.o;omega
    have HI:=au hi1;clear hi1;have C:=hid (next15 G wr (HX.o.xq));go_wp2_with fail;refine C.o.mono ?_;rintro r v ⟨y,hy,rfl,hv⟩;obtain⟨o,ho,eo⟩:∃ o:Nat,o<=P1/\bits .and .u64 (y:Int) (P1:Int)=(o:Int):=⟨y &&& P1,Nat.and_le_right,bits_and_u64_nat y P1 hy af⟩;have wo:IntKind.i64.wrap (o:Int)=(o:Int):=aQ rfl af;replace HX:=au (HX.o.next hv hgw);clear C hv hy;have HA:=au HX.o.1
    by_cases hol:l<=o
    · have hdo:decide ((l:Int)<=(o:Int))=true:=by simp;omega
      obtain⟨o1,ho1⟩:=ah (o-l);have wo1:IntKind.i64.wrap ((o:Int)-(l:Int))=(o1:Int):=aQ af af;obtain⟨p,hp⟩:=ah (a+o1);have wp:IntKind.i64.wrap ((a:Int)+(o1:Int))=(p:Int):=aQ af af;have hap:a<=p:=af
      have hpb:p<b:=by have:=HQ.o;omega
      have bp:(p:Int)<(N:Int):=af
      have bp':p<N:=af
      clear hp ho1
      exact qt
    · have hdo:decide ((l:Int)<=(o:Int))=false:=by simp;omega
      obtain⟨p,hp⟩:=ah (a+o);have wp:IntKind.i64.wrap ((a:Int)+(o:Int))=(p:Int):=aQ af (by have:=HQ.o;omega);have hap:a<=p:=af
      have hpb:p<b:=by have:=HQ.o;omega
      have bp:(p:Int)<(N:Int):=af
      have bp':p<N:=af
      clear hp
      exact qt
  · have hdi:decide ((i:Int)<=(i3:Int))=false:=by simp;omega
    go_wp2;refine bodyPost_end (v:=.tuple #[]) (by simp[results,Tryz.results259,go_sem]) rfl ?_;exact⟨rfl,HX.o.1⟩
theorem Qad{P:Prop}(h:P:=by
 go_wp2_with fail
 go_meet
 case rel=>exact⟨_,rfl,rfl⟩):P:=h
theorem ye{P:Prop}(h:P:=by
 have HF:Aside (∀ v,aK n g N wr v (fun M=>Pm c e L1 M/\Up K c e M)->aK n g N w v (fun M=>Pm a b L M/\Up K a b M)):=fun v hv=>(hv.re s4).imp (fun M _ q=>s1.done q.1 q.2);have HL:=au hl;clear HA s1 s2 s3 s4 hl;go_wp2_with fail;refine C.o.mono ?_;rintro r v ⟨rfl,hv⟩;have HR:=au (HF.o v hv);clear C HF hv;go_wp2;refine aJ (v:=.tuple #[]) (by simp[results,Tryz.results211,go_sem]) rfl ?_;exact⟨rfl,HR.o⟩):P:=h
theorem pdq15(K:Nat->Nat)(n g N cap:Nat)(recv:Value)(hbig:N<1152921504606846976):∀ (d a b lim:Nat) (L:List Nat) (w:World),b-a<=d->a<=b->b<=N->lim<1152921504606846976->aK n g N w w (fun M=>M=L)->iQ K n g recv w->Fl K a b L->L.Nodup->(∀ x ∈ L,∀ y ∈ L,K x=K y->x=y) ->
 Calls Tryz.prog 211 #[.slice (some ⟨g,0,none⟩) N cap,.int .i64 (a:Nat),.int .i64 (b:Nat),.int .i64 (lim:Nat),.func (.func 134) #[recv] #[]] w fun r w'=>r=.returned (.tuple #[])/\aK n g N w w' (fun M=>Pm a b L M/\Up K a b M):=by
 intro d
 induction d using Nat.strongRecOn with
 | _ d ih =>
 intro a b lim L w hd hab hb hlim hS hC hF hnd hK
 have IH:Aside (∀ (a b lim:Nat) (L:List Nat) (w:World),b-a<d->a<=b->b<=N->lim<1152921504606846976->aK n g N w w (fun M=>M=L)->iQ K n g recv w->Fl K a b L->L.Nodup->(∀ x ∈ L,∀ y ∈ L,K x=K y->x=y) ->
  Calls Tryz.prog 211 #[.slice (some ⟨g,0,none⟩) N cap,.int .i64 (a:Nat),.int .i64 (b:Nat),.int .i64 (lim:Nat),.func (.func 134) #[recv] #[]] w fun r w'=>r=.returned (.tuple #[])/\aK n g N w w' (fun M=>Pm a b L M/\Up K a b M)) :=
  fun a b lim L w h=>ih (b-a) h a b lim L w (aB _)
 have HC:=au hC;have HK:=aT hnd hK;have HA:Aside (aK n g N w w (fun M=>Pq K a b a b L M)):=(hS.imp (fun M _ e=>by subst e;exact Pq.start hab hF):aK n g N w w _);clear ih hS hC hF hnd hK;go_enter Tryz.func211,Tryz.ntmps211;go_wp2
 go_loopg [1,2,3,10,11] (b-a) (fun gk av bv lv v10 v11 wr=>∃ (c e lm:Nat) (bt pt:Bool),gk=e-c/\a<=c/\c<=e/\e<=b/\lm<1152921504606846976/\av=.int .i64 (c:Nat)/\bv=.int .i64 (e:Nat)/\lv=.int .i64 (lm:Nat)/\v10=.bool bt/\v11=.bool pt/\Aside (aK n g N w wr (fun M=>Pq K a b c e L M)))
 case atStart=>exact⟨a,b,lim,true,true,rfl,aB _,hab,aB _,hlim,by first | rfl | simp,by first | rfl | simp,by first | rfl | simp,by first | rfl | simp,by first | rfl | simp,HA.o⟩
 case round =>
  clear HA;obtain⟨c,e,lm,bt,pt,iL,h1,h2,h3,hlm,rfl,rfl,rfl,rfl,rfl,HA⟩:=hrel;obtain⟨l,hl⟩:=ah (e-c);have wl:IntKind.i64.wrap ((e:Int)-(c:Int))=(l:Int):=aQ af af;have heN:e<=N:=af
  by_cases h12:l<=12
  · have hd12:decide ((l:Int)<=12)=true:=by simp;omega
    obtain⟨L1,s1,s2,s3,s4⟩:=HA.o.use;have C:=hid (insX K n g N c e cap L1 recv wr s3 (HC.o.at s4) h2 heN hbig);exact ye
  · have hd12:decide ((l:Int)<=12)=false:=by simp;omega
    have hl13:13<=l:=af
    by_cases hl0:lm=0
    · subst hl0;obtain⟨L1,s1,s2,s3,s4⟩:=HA.o.use;have C:=hid (heap15 K n g N c e cap L1 recv wr s3 (HC.o.at s4) af heN hbig);exact ye
    · have hl01:((lm:Int)==0)=false:=by simp;omega
      have hl02:decide ((lm:Int)=0)=false:=by simp;omega
      obtain⟨lm1,hlm1⟩:=ah (lm-1);have wlm:IntKind.i64.wrap ((lm:Int)-1)=(lm1:Int):=aQ af af;have hlm2:lm1<1152921504606846976:=af
      have HL:=aT hl hlm1;have hce:c+13<=e:=af
      clear hl hlm1
      go_upto_region 7 with fail
      go_cut [39] from 38 to 38 (fun v wx=>v=.bool (!bt)/\wx=wr)
      case first =>
       go_wp2_with fail
       go_meet
       case rel=>exact KK
      obtain⟨rfl,hW⟩:=hcut;rw[hW];clear hW
      go_upto_if 39 with fail
      go_cut [3] from 40 to 46 (fun v wx=>∃ lm':Nat,lm'<1152921504606846976/\v=.int .i64 (lm':Nat)/\Aside (aK n g N w wx (fun M=>Pq K a b c e L M)))
      case first =>
       cases bt
       · obtain⟨L1,s1,s2,s3,s4⟩:=HA.o.use;have C:=hid (Yb n g N c e cap L1 recv wr s3 af heN hbig);have HF:Aside (∀ v,aK n g N wr v (fun M=>Pm c e L1 M)->aK n g N w v (fun M=>Pq K a b c e L M)):=fun v hv=>(hv.re s4).imp (fun M _ q=>s1.move q);clear HA s1 s2 s3 s4;go_wp2_with fail;refine C.o.mono ?_;rintro r v ⟨rfl,hv⟩;have HR:=au (HF.o v hv);clear C HF hv;go_wp2_with fail
         go_meet
         case rel=>exact⟨lm1,hlm2,rfl,HR.o⟩
       · go_wp2_with fail
         go_meet
         case rel=>exact⟨lm,hlm,rfl,HA.o⟩
      clear HA wlm hlm2 hl01 hl02 hl0 hlm;obtain⟨lm',Yc,rfl,HA⟩:=hcut;obtain⟨W1,hW⟩:=ah wc;subst hW;obtain⟨L1,s1,s2,s3,s4⟩:=HA.o.use;have C:=hid (UL K n g N c e cap L1 recv W1 s3 (HC.o.at s4) af heN hbig);have HF:Aside (∀ v,aK n g N W1 v (fun M=>M=L1)->aK n g N w v (fun M=>Pq K a b c e L M)):=fun v hv=>(hv.re s4).imp (fun M _ q=>by rw[q];exact s1);clear HA s1 s2 s3 s4;go_wp2_with fail;refine C.o.mono ?_;rintro r W2 ⟨p,h,rfl,hp1,hp2,hh,hv⟩;have HA:=au (HF.o W2 hv);clear C HF hv hh
      go_upto_region 11 with fail
      go_cut [56] from 55 to 55 (fun v wx=>∃ t:Bool,v=.bool t/\wx=W2)
      case first =>
       by_cases hh2:h=2
       · subst hh2;exact Qad
       · have k1:((h:Int)==2)=false:=by simp;omega
         have k2:decide ((h:Int)=2)=false:=by simp;omega
         exact Qad
      obtain⟨t,rfl,hW⟩:=hcut;rw[hW];clear hW
      go_upto_if 56 with fail
      go_cut [13,14] from 57 to 67 (fun pv hv wx=>∃ p' h':Nat,c<=p'/\p'<e/\pv=.int .i64 (p':Nat)/\hv=.int .i64 (h':Nat)/\Aside (aK n g N w wx (fun M=>Pq K a b c e L M)))
      case first =>
       cases t
       · go_wp2_with fail
         go_meet
         case rel=>exact⟨p,h,hp1,hp2,rfl,rfl,HA.o⟩
       · obtain⟨e1,he1⟩:=ah (e-1);obtain⟨pc,hpc⟩:=ah (p-c);obtain⟨pp,hpp⟩:=ah (e1-pc);have v1:IntKind.i64.wrap ((e:Int)-1)=(e1:Int):=aQ af af;have v2:IntKind.i64.wrap ((p:Int)-(c:Int))=(pc:Int):=aQ af af;have v3:IntKind.i64.wrap ((e1:Int)-(pc:Int))=(pp:Int):=aQ af af;have k1:c<=pp:=af
         have k2:pp<e:=af
         obtain⟨L1,s1,s2,s3,s4⟩:=HA.o.use;have C:=hid (Qm n g N c e cap L1 recv W2 s3 af heN hbig);have HF:Aside (∀ v,aK n g N W2 v (fun M=>Pm c e L1 M)->aK n g N w v (fun M=>Pq K a b c e L M)):=fun v hv=>(hv.re s4).imp (fun M _ q=>s1.move q);clear HA s1 s2 s3 s4 he1 hpc hpp;go_wp2_with fail;refine C.o.mono ?_;rintro r v ⟨rfl,hv⟩;have HR:=au (HF.o v hv);clear C HF hv;go_wp2_with fail
         go_meet
         case rel=>exact⟨pp,1,k1,k2,rfl,rfl,HR.o⟩
      clear HA hp1 hp2;obtain⟨p',h',hp1,hp2,rfl,rfl,HA⟩:=hcut;obtain⟨W3,hW⟩:=ah wc;subst hW
      go_upto_region 15 with fail
      go_cut [75] from 68 to 74 (fun v wx=>∃ t:Bool,v=.bool t/\wx=W3)
      case first =>
       by_cases hh1:h'=1
       · subst hh1
         cases bt <;> cases pt
         all_goals
          exact Qad
       · have k1:((h':Int)==1)=false:=by simp;omega
         have k2:decide ((h':Int)=1)=false:=by simp;omega
         cases bt <;> cases pt
         all_goals
          exact Qad
      obtain⟨t,rfl,hW⟩:=hcut;rw[hW];clear hW
      go_upto_if 75 with fail
      go_cut [13] from 76 to 80 (fun v wx=>v=.int .i64 (p':Nat)/\Aside (aK n g N w wx (fun M=>Pq K a b c e L M)))
      case first =>
       cases t
       · go_wp2_with fail
         go_meet
         case rel=>exact⟨rfl,HA.o⟩
       · obtain⟨L1,s1,s2,s3,s4⟩:=HA.o.use;have C:=hid (Qn K n g N c e cap L1 recv W3 s3 (HC.o.at s4) s1.fl af heN hbig);have HF:Aside (∀ v t,aK n g N W3 v (fun M=>Pm c e L1 M/\(t=true->Up K c e M))->aK n g N w v (fun M=>Pq K a b c e L M/\(t=true->Pm a b L M/\Up K a b M))):=fun v t hv=>(hv.re s4).imp (fun M _ q=>⟨s1.move q.1,fun ht=>s1.done q.1 (q.2 ht)⟩);clear HA s1 s2 s3 s4;go_wp2_with fail;refine C.o.mono ?_;rintro r v ⟨t,rfl,hv⟩;have HR:=au (HF.o v t hv);clear C HF hv
         cases t
         · go_wp2_with fail
           go_meet
           case rel=>exact⟨rfl,HR.o.imp (fun M _ q=>q.1)⟩
         · go_wp2;refine aJ (v:=.tuple #[]) (by simp[results,Tryz.results211,go_sem]) rfl ?_;exact⟨rfl,HR.o.imp (fun M _ q=>by first | exact q.2 rfl | exact q.2 trivial | simpa using q.2)⟩
      clear HA;obtain⟨rfl,HA⟩:=hcut;obtain⟨W4,hW⟩:=ah wc;subst hW;obtain⟨cm,hcm⟩:=ah (c-1);have bcm:(cm:Int)<(N:Int):=af
      have bcm':cm<N:=af
      have bp:(p':Int)<(N:Int):=af
      have bp':p'<N:=af
      have HM:=au hcm;clear hcm
      go_upto_region 17 with fail
      go_cut [97] from 81 to 96 (fun v wx=>∃ t:Bool,v=.bool t/\Aside (aK n g N w wx (fun M=>(fun M=>Pq K a b c e L M) M/\(t=true↔(0<c/\¬ ky K M cm<ky K M p')))))
      case first =>
       by_cases hgd:0<c
       · have pI:decide ((0:Int)<(c:Int))=true:=by simp;omega
         obtain⟨x,y,z,c1',c2',C0,ik⟩:=HA.o.zy HC.o cm p' af af;have C:=hid C0;have HF:=au ik;have kS:=aT c1' c2';clear HA C0 ik c1' c2';have wcm:IntKind.i64.wrap ((c:Int)-1)=(cm:Int):=aQ (by have:=HM.o;omega) (by have:=HM.o;omega)
         go_region_held3 (fun w'=>w'.cell? ⟨g,cm,none⟩=some (.int .i64 (x:Nat))/\w'.cell? ⟨g,p',none⟩=some (.int .i64 (y:Nat))) (with_reducible exact kS.o) (first
          | (go_at_call 134
             with_reducible refine C.o.mono ?_
             rintro r v ⟨rfl,hb⟩;have G:=au (HF.o v hb);have kS:Aside (v.cell? ⟨g,cm,none⟩=some (.int .i64 (x:Nat))/\v.cell? ⟨g,p',none⟩=some (.int .i64 (y:Nat))):=⟨(hb.cell (p:=⟨g,cm,none⟩) (aH kS.o.1)).trans kS.o.1,(hb.cell (p:=⟨g,p',none⟩) (aH kS.o.2)).trans kS.o.2⟩
             clear hb))
         all_goals
          exact yy
       · have pI:decide ((0:Int)<(c:Int))=false:=by simp;omega
         exact q7
      clear HA;obtain⟨t,rfl,HA⟩:=hcut;obtain⟨W5,hW⟩:=ah wc;subst hW
      have ht:t=false:=by
       obtain⟨M,_,_,_,_,q⟩:=HA.o
       cases t
       · rfl
       · exfalso;have k:=q.2.1 rfl;have hcm:=HM.o;have f:=q.1.fl k.1 p' hp1 hp2;rw[<-hcm] at f;exact k.2 f
      subst ht;obtain⟨L1,s1,s2,s3,s4⟩:=HA.o.use;have C:=hid (Ip K n g N c e p' cap L1 recv W5 s3 (HC.o.at s4) af heN hp1 hp2 hbig);have HF:Aside (∀ m v,aK n g N W5 v (fun M=>Pm c e L1 M/\EI K c e m M)->aK n g N w v (fun M=>Pq K a b c e L M/\EI K c e m M)):=fun m v hv=>(hv.re s4).imp (fun M _ q=>⟨s1.1.move q.1,q.2⟩);clear HA s1 s2 s3 s4;go_wp2_with fail;refine C.o.mono ?_;rintro r W6 ⟨m,t,rfl,m1,m2,hv⟩;have HA:=au (HF.o m W6 hv);clear C HF hv;obtain⟨lf,hlf⟩:=ah (m-c);obtain⟨rt,hrt⟩:=ah (e-m);obtain⟨th,hth⟩:=ah (l/8);obtain⟨mp,hmp⟩:=ah (m+1);have v1:IntKind.i64.wrap ((m:Int)-(c:Int))=(lf:Int):=aQ af af;have v2:IntKind.i64.wrap ((e:Int)-(m:Int))=(rt:Int):=aQ af af;have v3:Int.tdiv (l:Int) 8=(th:Int):=by rw[hth];rfl
      have v4:IntKind.i64.wrap (th:Int)=(th:Int):=aQ rfl (by have:=HL.o;omega);have v5:IntKind.i64.wrap ((m:Int)+1)=(mp:Int):=aQ af af;have HE:=(mh hlf hrt hth hmp);clear hlf hrt hth hmp
      by_cases hlr:lf<rt
      · have hdl:decide ((lf:Int)<(rt:Int))=true:=by simp;omega
        obtain⟨L2,s1,s2,s3,s4⟩:=HA.o.use;have C:=hid (IH.o c m lm' L2 W6 af m1 af Yc s3 (HC.o.at s4) (s1.1.fl.left af) (s1.1.pm.perm.nodup_iff.2 HK.o.1) (fun x hx y hy=>HK.o.2 x (s1.1.pm.perm.mem_iff.1 hx) y (s1.1.pm.perm.mem_iff.1 hy)))
        have HF:Aside (∀ v,aK n g N W6 v (fun M=>Pm c m L2 M/\Up K c m M)->aK n g N w v (fun M=>Pq K a b mp e L M)):=fun v hv=>(hv.re s4).imp (fun M hM q=>by
         rw[HE.o.r3]
         exact s1.1.left s1.2 q.1 q.2 (fun i j hi hj hne=>Nc HK.o.1 HK.o.2 (q.1.perm.trans s1.1.pm.perm) i j af af hne))
        clear HA s1 s2 s3 s4;go_wp2_with fail;refine C.o.mono ?_;rintro r v ⟨rfl,hv⟩;have HR:=au (HF.o v hv);clear C HF hv;go_wp2;go_roundg (e-mp)
        case measure=>have:=HE.o;omega
        case rel=>exact⟨mp,e,lm',_,t,rfl,by have:=HE.o;omega,by have:=HE.o;omega,h3,Yc,rfl,rfl,rfl,rfl,rfl,HR.o⟩
      · have hdl:decide ((lf:Int)<(rt:Int))=false:=by simp;omega
        obtain⟨L2,s1,s2,s3,s4⟩:=HA.o.use
        have C:=hid (IH.o mp e lm' L2 W6 (by have:=HE.o;omega) (by have:=HE.o;omega) af Yc s3 (HC.o.at s4) (by
         rw[HE.o.r3]
         exact s1.2.fl (fun i j hi hj hne=>Nc HK.o.1 HK.o.2 s1.1.pm.perm i j af af hne)) (s1.1.pm.perm.nodup_iff.2 HK.o.1) (fun x hx y hy=>HK.o.2 x (s1.1.pm.perm.mem_iff.1 hx) y (s1.1.pm.perm.mem_iff.1 hy)))
        have HF:Aside (∀ v,aK n g N W6 v (fun M=>Pm mp e L2 M/\Up K mp e M)->aK n g N w v (fun M=>Pq K a b c m L M)):=fun v hv=>(hv.re s4).imp (fun M hM q=>by
         rw[HE.o.r3] at q
         exact s1.1.right s1.2 q.1 q.2)
        clear HA s1 s2 s3 s4;go_wp2_with fail;refine C.o.mono ?_;rintro r v ⟨rfl,hv⟩;have HR:=au (HF.o v hv);clear C HF hv;go_wp2;go_roundg (m-c)
        case measure=>have:=HE.o;omega
        case rel=>exact⟨c,m,lm',_,t,rfl,h1,m1,af,Yc,rfl,rfl,rfl,rfl,rfl,HR.o⟩
def tkQ(x:Nat):Int:=if 9218868437227405312<aP x then 9221120237041090560 else if fM x then -1-(aP x:Int) else aP x
theorem bw15{x:Nat}(hx:x<18446744073709551616):∃ s e f,e<2048/\f<4503599627370496/\x=B.bw s e f/\s=fM x/\e=aP x/4503599627370496/\f=aP x%4503599627370496:=by
 exact ju
theorem ky_tk{x:Nat}(hx:x<18446744073709551616):B.ky (fM x) (aP x/4503599627370496) (aP x%4503599627370496)=tkQ x:=by
 have hm:aP x<9223372036854775808:=by unfold aP;omega
 have e:((aP x/4503599627370496:Nat):Int)*4503599627370496+(aP x%4503599627370496:Nat)=(aP x:Int):=af
 unfold B.ky tkQ
 exact Qbf
theorem Iu{x:Nat}(hx:x<18446744073709551616):∃ s e f,e<2048/\f<4503599627370496/\x=B.bw s e f/\B.ky s e f=tkQ x:=by
 obtain⟨s,e,f,h1,h2,h3,rfl,rfl,rfl⟩:=bw15 hx;exact⟨_,_,_,h1,h2,h3,ky_tk hx⟩
theorem Yd{x y:Nat}(hx:x<18446744073709551616)(hy:y<18446744073709551616)(w:World) :
 Calls Tryz.prog 100 #[.float .f64 x,.float .f64 y] w fun r w'=>r=.returned (.int .i64 (B.oc (tkQ x) (tkQ y)))/\w'=w:=by
 obtain⟨s,e,f,h1,h2,h3,h4⟩:=Iu hx;obtain⟨t,u,v,i1,i2,i3,i4⟩:=Iu hy;have h:=B.A7 s t e f u v h1 h2 i1 i2 w;rw[h4,i4,<-h3,<-i3] at h;exact h
def leI(xs:List Nat)(i j:Nat):Bool:=decide (tkQ (xs.getD i 0)<tkQ (xs.getD j 0)\/tkQ (xs.getD i 0)=tkQ (xs.getD j 0)/\i<=j)
theorem Qq(xs:List Nat)(a b c:Nat)(h1:leI xs a b=true)(h2:leI xs b c=true):leI xs a c=true:=by unfold leI at *;simp only[decide_eq_true_eq] at *;omega
theorem Qr(xs:List Nat)(a b:Nat):(leI xs a b || leI xs b a)=true:=by unfold leI;simp only[Bool.or_eq_true,decide_eq_true_eq];omega
theorem Iw(xs:List Nat)(a b:Nat)(h1:leI xs a b=true)(h2:leI xs b a=true):a=b:=by unfold leI at *;simp only[decide_eq_true_eq] at *;omega
def Ye(xs is:List Nat):List Nat:=is.mergeSort (leI xs)
theorem BP(xs is:List Nat):(Ye xs is).Perm is:=List.mergeSort_perm is (leI xs)
theorem UO(xs is:List Nat):(Ye xs is).length=is.length:=(BP xs is).length_eq
theorem pM(xs is:List Nat):(Ye xs is).Pairwise (fun a b=>leI xs a b=true):=List.pairwise_mergeSort (Qq xs) (Qr xs) is
theorem nJ{A:List Nat}{i:Nat}(h:i<A.length):A.getD i 0 ∈ A:=by rw[aS,aY h];exact iw _
def jO(xs:List Nat):List Nat:=Ye xs (List.range xs.length)
theorem ko(xs:List Nat):(jO xs).length=xs.length:=by unfold jO;rw[UO,Cr]
theorem BQ(xs:List Nat):(jO xs).Perm (List.range xs.length):=BP _ _
theorem zC{xs:List Nat}{i:Nat}:i ∈ jO xs↔i<xs.length:=by rw[(BQ xs).mem_iff,kX]
theorem Nf{xs:List Nat}{k:Nat}(h:k<xs.length):(jO xs).getD k 0<xs.length:=zC.1 (nJ (by rw[ko];exact h))
def zD(xs:List Nat)(i:Nat):Nat:=(jO xs).idxOf i
theorem KD{xs:List Nat}{i:Nat}(h:i<xs.length):zD xs i<xs.length:=by
 have:=List.idxOf_lt_length_of_mem (zC.2 h);rw[ko] at this;exact this
theorem tF{xs:List Nat}{i:Nat}(h:i<xs.length):(jO xs).getD (zD xs i) 0=i:=by
 have h1:=List.idxOf_lt_length_of_mem (zC.2 h);unfold zD;rw[aS,aY h1];exact List.getElem_idxOf h1
def iR(xs:List Nat):List Nat:=(jO xs).map fun i=>IM (xs.getD i 0)
theorem jh(xs:List Nat):(iR xs).length=xs.length:=by unfold iR;rw[qC,ko]
theorem BR{xs:List Nat}{k:Nat}(h:k<xs.length):(iR xs).getD k 0=IM (xs.getD ((jO xs).getD k 0) 0):=by
 have hk:k<(jO xs).length:=by rw[ko];exact h
 unfold iR;rw[aS,uX,aS (l:=jO xs),aY hk];rfl
theorem Ez{xs:List Nat}{i j:Nat}(hi:i<xs.length)(hj:j<xs.length)(h:zD xs i<zD xs j):leI xs i j=true:=by
 have p1:=KD hi;have p2:=KD hj;have hl:=ko xs;have:=(Ah.1 (show(jO xs).Pairwise (fun a b=>leI xs a b=true) from pM xs _)) (zD xs i) (zD xs j) af af h;have e1:=tF hi;have e2:=tF hj;rw[aS,aY af] at e1 e2;simp only[Cf] at e1 e2;rw[e1,e2] at this;exact this
theorem EC{xs:List Nat}{i j:Nat}(hi:i<xs.length)(hj:j<xs.length)(h:zD xs i=zD xs j):i=j:=by
 rw[<-tF hi,<-tF hj,h]
theorem Yf{xs:List Nat}{i j:Nat}(hi:i<xs.length)(hj:j<xs.length)(hne:i≠j):zD xs i<zD xs j↔leI xs i j=true:=by
 refine⟨Ez hi hj,fun h=>?_⟩;rcases Nat.lt_trichotomy (zD xs i) (zD xs j) with q|q|q
 · exact q
 · exact absurd (EC hi hj q) hne
 · exact absurd (Iw xs i j h (Ez hj hi q)) hne
def uO(x y:Int):Int:=if x<y then -1 else if y<x then 1 else 0
theorem Yg(x:Int)(w:World):Calls Tryz.prog 266 #[.int .i64 x] w fun r w'=>r=.returned (.bool false)/\w'=w:=by
 go_enter Tryz.func266,Tryz.ntmps266;go_wp2;exact xa
theorem zY(x y:Int)(w:World):Calls Tryz.prog 214 #[.int .i64 x,.int .i64 y] w fun r w'=>r=.returned (.int .i64 (uO x y))/\w'=w:=by
 have H:=hid Yg;unfold uO
 by_cases h1:x<y
 · rw[if_pos h1];go_enter Tryz.func214,Tryz.ntmps214
   go_wp2_with (go_at_call 266;refine(H.o _ _).mono ?_;rintro r w1 ⟨rfl,rfl⟩)
   exact Ks
 · rw[if_neg h1];have d1:decide (x<y)=false:=by simp;omega
   by_cases h2:y<x
   · rw[if_pos h2];go_enter Tryz.func214,Tryz.ntmps214
     go_wp2_with (go_at_call 266;refine(H.o _ _).mono ?_;rintro r w1 ⟨rfl,rfl⟩)
     exact Ks
   · rw[if_neg h2];have d2:decide (y<x)=false:=by simp;omega
     go_enter Tryz.func214,Tryz.ntmps214
     go_wp2_with (go_at_call 266;refine(H.o _ _).mono ?_;rintro r w1 ⟨rfl,rfl⟩)
     exact Ks
def tH(x y:Int):Int:=if x=0 then y else x
theorem Qbg{P:Prop}(h:P:=by
 go_wp2;go_ret;exact⟨by rw[E.o];rfl,rfl⟩):P:=h
theorem or15(g cap:Nat)(x y:Int)(w:World)(c1:w.cell? ⟨g,0,none⟩=some (.int .i64 x))(c2:w.cell? ⟨g,1,none⟩=some (.int .i64 y)):Calls Tryz.prog 213 #[.slice (some ⟨g,0,none⟩) 2 cap] w fun r w'=>r=.returned (.int .i64 (tH x y))/\w'=w:=by
 obtain⟨z,hz⟩:=ah (tH x y);rw[<-hz];have HZ:=au hz;clear hz;go_enter Tryz.func213,Tryz.ntmps213;go_wp2
 go_loopg [8] 2 (fun gk iv wr=>∃ i:Nat,gk+i=2/\iv=.int .i64 (i:Nat)/\Aside ((0<i->x=0)/\(1<i->y=0))/\wr=w)
 case atStart=>exact⟨0,rfl,rfl,⟨fun h=>by omega,fun h=>by omega⟩,rfl⟩
 case round =>
  obtain⟨i,h1,rfl,H,rfl⟩:=hrel;have hi:i=0\/i=1\/i=2:=af
  rcases hi with rfl|rfl|rfl
  · by_cases hx:x=0
    · subst hx;go_wp2;go_roundg 1
      case measure=>omega
      case rel=>exact⟨1,rfl,by first | rfl | simp,⟨fun _=>by first | rfl | trivial,fun h=>by omega⟩,rfl⟩
    · have e1:(x==0)=false:=by simp[hx]
      have e2:(x != 0)=true:=by simp[hx]
      have e3:decide (x=0)=false:=by simp[hx]
      have E:Aside (z=x):=au (by rw[HZ.o];unfold tH;rw[if_neg hx]);exact Qbg
  · by_cases hy:y=0
    · subst hy;go_wp2;go_roundg 0
      case measure=>omega
      case rel=>exact⟨2,rfl,by first | rfl | simp,⟨fun _=>H.o.1 af,fun h=>by first | rfl | trivial⟩,rfl⟩
    · have e1:(y==0)=false:=by simp[hy]
      have e2:(y != 0)=true:=by simp[hy]
      have e3:decide (y=0)=false:=by simp[hy]
      have E:Aside (z=y):=au (by rw[HZ.o];unfold tH;rw[if_pos (H.o.1 af)]);exact Qbg
  · have E:Aside (z=0):=au (by rw[HZ.o];unfold tH;rw[if_pos (H.o.1 af),H.o.2 af]);exact Qbg
theorem oc_z15(p q:Int)(i j:Nat)(hne:i≠j):tH (B.oc p q) (uO (i:Int) (j:Int))<0↔(p<q\/p=q/\i<=j):=by
 have e:B.oc p q=if p<q then -1 else if q<p then 1 else 0:=by unfold B.oc;rfl
 rw[e];unfold tH uO
 by_cases a:p<q
 · rw[if_pos a,if_neg af];omega
 · rw[if_neg a]
   by_cases b:q<p
   · rw[if_pos b,if_neg af];omega
   · rw[if_neg b,if_pos rfl]
     by_cases c:(i:Int)<(j:Int)
     · rw[if_pos c];omega
     · rw[if_neg c,if_pos af];omega
theorem Yh(xs:List Nat)(i j:Nat)(hi:i<xs.length)(hj:j<xs.length):tH (B.oc (tkQ (xs.getD i 0)) (tkQ (xs.getD j 0))) (uO (i:Int) (j:Int))<0↔zD xs i<zD xs j:=by
 by_cases hne:i=j
 · subst hne;have e:B.oc (tkQ (xs.getD i 0)) (tkQ (xs.getD i 0))=0:=by unfold B.oc;simp
   rw[e];unfold tH uO;simp
 · rw[Yf hi hj hne,oc_z15 _ _ i j hne];unfold leI;rw[decide_eq_true_eq]
theorem ED (b off n cap i j:Nat) (at':Value) (p q:Nat) (o c z:Int) (u:World) (c1:u.cell? ⟨b,off+i,none⟩=some (.float .f64 p)) (c2:u.cell? ⟨b,off+j,none⟩=some (.float .f64 q)) (hi:i<n) (hj:j<n)
 (HO:Hid (∀ w,Calls Tryz.prog 100 #[.float .f64 p,.float .f64 q] w fun r w'=>r=.returned (.int .i64 o)/\w'=w))
 (HM:Hid (∀ w,Calls Tryz.prog 214 #[.int .i64 (i:Nat),.int .i64 (j:Nat)] w fun r w'=>r=.returned (.int .i64 c)/\w'=w))
 (HR:Hid (∀ (g cap:Nat) (w:World),w.cell? ⟨g,0,none⟩=some (.int .i64 o)->w.cell? ⟨g,1,none⟩=some (.int .i64 c)->Calls Tryz.prog 213 #[.slice (some ⟨g,0,none⟩) 2 cap] w fun r w'=>r=.returned (.int .i64 z)/\w'=w)) :
 Calls Tryz.prog 134 #[.agg #[.slice (some ⟨b,off,none⟩) n cap,at'],.int .i64 (i:Nat),.int .i64 (j:Nat)] u fun r w'=>r=.returned (.int .i64 z)/\Below u.heap.size u w':=by
 have b1:(i:Int)<(n:Int):=af
 have b2:(j:Int)<(n:Int):=af
 have hb:b<u.heap.size:=by
  unfold World.cell? at c1;rcases iJ b u.heap.size with q|q
  · exact q
  · rw[xE q] at c1;cases c1
 go_enter Tryz.func134,Tryz.ntmps134
 go_upto_region 1 with fail
 go_region_with (first
  | (go_at_call 100
     refine(HO.o _).mono ?_
     rintro r v ⟨rfl,rfl⟩)
  | (go_at_call 214
     refine(HM.o _).mono ?_
     rintro r v ⟨rfl,rfl⟩)
  | (go_at_call 213
     refine(HR.o _ _ _ (by simp[go_sem]) (by simp[go_sem])).mono ?_
     rintro r v ⟨rfl,rfl⟩))
 all_goals
  go_wp2;go_ret;refine⟨rfl,?_⟩
  first
   | exact((((aG u.heap.size u).alloc (aB _) _).drew).alloc aL _)
   | exact((((aG u.heap.size u).alloc (aB _) _).alloc aL _).drew)
theorem UQ(xs:List Nat)(ao:Option Addr)(n cap g G:Nat)(at':Value)(w:World)(hF:Fs G w ao xs)(hG:G<=g)(hGw:G<=w.heap.size)(hn:n=xs.length)(hW:eD xs):iQ (zD xs) n g (.agg #[.slice ao n cap,at']) w:=by
 intro u x y hB hx hy;subst hn;obtain⟨b,off,h1,rfl,h3⟩:=hF (by intro e;subst e;simp at hx)
 have k:∀ i,i<xs.length->u.cell? ⟨b,off+i,none⟩=some (.float .f64 (xs.getD i 0)):=fun i hi =>
  (rR (a:=⟨b,off+i,none⟩) (hB.block b af af)).trans (h3 i hi)
 have hm:∀ i,i<xs.length->xs.getD i 0<18446744073709551616:=fun i hi=>hW _ (nJ hi);exact⟨_,Yh xs x y hx hy,ED b off xs.length cap x y at' _ _ _ _ _ u (k x hx) (k y hy) hx hy (fun w=>Yd (hm x hx) (hm y hy) w) (fun w=>zY _ _ w) (fun g cap w c1 c2=>or15 g cap _ _ w c1 c2)⟩
theorem Tryz.UR:Tryz.prog.underlying 114=some (.slice 3):=by kernel_rfl
theorem Tryz.KG:(Tryz.prog.info? 3).map (fun i=>(i.zero,i.size,i.bytes))=some (some (.int .i64 0),1,8):=by kernel_rfl
theorem Qs(z:Int)(n:Nat)(hz:z=(n:Int))(hn:n<=17592186044416)(w:World) :
 (Instr.makeSlice 114 (.int .i64 z) (.int .i64 z)).run Tryz.prog w=.ok (.slice (some ⟨w.heap.size,0,none⟩) n n) (w.alloc (.cells (madeCells #[.int .i64 0] n) 3)):=by
 subst hz;exact run_make_row' 114 3 (.int .i64 0) 8 Tryz.UR Tryz.KG rfl .i64 .i64 n af af w
theorem bE.made(w:World)(n:Nat):bE (w.alloc (.cells (madeCells #[.int .i64 0] n) 3)) w.heap.size (List.replicate n 0):=by
 unfold bE;have h1:=jC w (.cells (madeCells #[.int .i64 0] n) 3);rw[h1];congr 2;apply BX.1;rw[toList_madeCells_one];simp[X9]
theorem Iy{xs M:List Nat}(hP:M.Perm (List.range xs.length))(hU:Up (zD xs) 0 xs.length M):M=jO xs:=by
 have hl:M.length=xs.length:=by rw[hP.length_eq,Cr]
 have hlt:∀ i (h:i<M.length),M[i]<xs.length:=fun i h=>kX.1 (hP.mem_iff.1 (iw h));have hnd:M.Nodup:=hP.nodup_iff.2 List.nodup_range;refine List.Perm.eq_of_pairwise (le:=fun a b=>leI xs a b=true) (fun a b ha hb h1 h2=>Iw xs a b h1 h2) ?_ (pM xs _) (hP.trans (BQ xs).symm);refine Ah.2 fun i j hi hj hij=>?_;have h:=hU i j (jd _) hij af;unfold ky at h;rw[aS,aY hi,aS,aY hj] at h;simp only[Cf] at h;have hne:M[i]≠M[j]:=Ah.1 hnd i j hi hj hij;rcases iJ (zD xs M[i]) (zD xs M[j]) with q|q
 · exact Ez (hlt i hi) (hlt j hj) q
 · exact absurd (EC (hlt i hi) (hlt j hj) af) hne
theorem KH(xs:List Nat)(n g cap:Nat)(recv:Value)(w:World)(hO:bE w g (List.range xs.length))(hn:n=xs.length)(hb:n<=17592186044416)(hC:iQ (zD xs) n g recv w) :
 Calls Tryz.prog 133 #[.slice (some ⟨g,0,none⟩) n cap,.func (.func 134) #[recv] #[]] w fun r w'=>r=.returned (.tuple #[])/\bE w' g (jO xs)/\But g w w':=by
 have hS:aK n g n w w (fun M=>M=List.range xs.length):=by
  subst hn;exact⟨List.range xs.length,hO,Cr,fun k hk=>by simp[aS,hk],But.refl _ _,rfl⟩
 have hlim:bl n<1152921504606846976:=by
  have:bl n<=64:=by
   rcases iJ 64 (bl n) with q|q
   · have h1:=iM n (by intro e;subst e;simp[eY] at q);have h2:=gF (n:=2) af (show 64<=bl n-1 by omega);omega
   · exact q
  omega
 have C:=hid (pdq15 (zD xs) n g n cap recv af n 0 n (bl n) (List.range xs.length) w af (jd _) (aB _) hlim hS hC (fun h=>by omega) List.nodup_range (fun x hx y hy h=>EC (kX.1 hx) (kX.1 hy) h));have D:=hid (Ir n w af);have wl:IntKind.u64.wrap (n:Int)=(n:Int):=by simp[IntKind.wrap,IntKind.bits,IntKind.signed];omega
 obtain⟨m,hm⟩:=ah (bl n);rw[<-hm] at C D;have HN:=au hn;clear hS hlim hC hO hn hm;go_enter Tryz.func133,Tryz.ntmps133;go_wp2_with fail;refine D.o.mono ?_;rintro r w1 ⟨rfl,rfl⟩;go_wp2_with fail;refine C.o.mono ?_;rintro r v ⟨rfl,hv⟩;have HR:=au hv;clear C D hv;go_wp2;refine bodyPost_end (v:=.tuple #[]) (by simp[results,Tryz.results133,go_sem]) rfl ?_;obtain⟨M,h1,h2,h3,h4,h5,h6⟩:=HR.o;refine⟨rfl,?_,h4⟩;have hn:=HN.o;subst hn;rw[<-Iy h5.perm h6];exact h1
end
end Go.Proofs.YtaejmlkaefnbhaaGreatDoor
