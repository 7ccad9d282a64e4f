import Derived.Test.YtfmfhehbdfhnbaaGreatDoorBIeeex
import Derived.Deep.RegionWith
import Derived.Lib.Strings
import Derived.Lib.Slices
import Derived.Lib.Small
import Derived.Lib.Walk
import Derived.Lib.BitFns
import Derived.Lib.Tables
import Derived.Lib.ItoaNum
import Derived.Lib.TrailingZeros
import Derived.Deep.OwnRows
import Derived.BigQuiet
set_option linter.unusedVariables false
set_option linter.unusedSimpArgs false
set_option maxHeartbeats 16000000
set_option maxRecDepth 20000
namespace Go.Proofs.YtfmfhehbdfhnbaaGreatDoor
section
theorem Qay{P:Prop}(h:P:=by
 subst hT;have e:o*(t1*b+t2)=o*t1*b+o*t2:=by grind
 have e2:(o*t1+l)*b=o*t1*b+l*b:=by grind
 omega):P:=h
theorem LX(b o t1 t2 l u2 T:Nat)(hT:o*t1+l=T)(h:o*t2<=l*b+u2):o*(t1*b+t2)<=T*b+u2:=by
 exact Qay
theorem Eu(b o t1 t2 l u2 T:Nat)(hT:o*t1+l=T)(h:l*b+u2<o*t2):T*b+u2<o*(t1*b+t2):=by
 exact Qay
theorem Ev(b t1 t2 u2 T:Nat)(h1:0<t1)(h2:u2<b):T*b+u2<(T/t1+1)*(t1*b+t2):=by
 have h:=Nat.lt_div_mul_add (a:=T) (b:=t1) h1;have h3:T+1<=(T/t1+1)*t1:=by rw[fI,jq];omega
 have h4:(T+1)*b<=(T/t1+1)*t1*b:=eZ _ h3;have e:(T/t1+1)*(t1*b+t2)=(T/t1+1)*t1*b+(T/t1+1)*t2:=by grind
 rw[fI,jq] at h4;omega
theorem wB(b o t1 t2 l u2 T:Nat)(hT:o*t1+l=T)(hl:b<=l)(hT2:T<t1*b+b)(ht:t2<b)(h1:0<t1):o<b/\o*t2<=l*b+u2:=by
 have ho:o<b:=by
  by_cases h:o<b
  · exact h
  · exfalso;have:b*t1<=o*t1:=eZ _ ae;rw[cu b] at this;omega
 have h2:o*t2<=b*b:=kC ae ae;have h3:b*b<=l*b:=eZ _ hl;exact⟨ho,ae⟩
theorem Ig(b o D W P u v U V:Nat)(hP:0<P)(hU:U=W*P+u)(hu:u<P)(hV:V=D*P+v)(hv:v<P)(h1:o*D<=W)(h2:b<=o+1\/W<(o+1)*D)(hlt:U<V*b)(ho:o<b)(hD:b<=D) :
 U<(o+1)*V/\o*V<=U+V:=by
 constructor
 · rcases h2 with h2 | h2
   · obtain rfl:b=o+1:=ae
     rw[cu];exact hlt
   · have h3:(W+1)*P<=(o+1)*D*P:=eZ _ h2;have h4:(o+1)*V=(o+1)*D*P+(o+1)*v:=by rw[hV];grind
     rw[fI] at h3;omega
 · rcases o with _ | o
   · omega
   · have h3:(o+1)*D*P<=W*P:=eZ _ h1;have h4:(o+1)*V=(o+1)*D*P+o*v+v:=by rw[hV];grind
     have h5:o*v<=D*P:=kC ae ae;omega
theorem LY(b P t1 t2 u0 u1 u2 u v U V:Nat)(hU:U=((u0*b+u1)*b+u2)*P+u)(hV:V=(t1*b+t2)*P+v)(hv:v<P)(ht:t2<b)(hlt:U<V*b):u0<=t1:=by
 by_cases h:u0<=t1
 · exact h
 · exfalso;have h1:(t1*b+t2+1)*P<=(t1+1)*b*P:=eZ _ (by rw[fI,jq];omega)
   have h2:V<(t1+1)*b*P:=by
    rw[fI,jq] at h1;omega
   have h3:V*b<=(t1+1)*b*P*b:=eZ _ ae;have h4:(t1+1)*(b*P*b)<=u0*(b*P*b):=eZ _ ae;have h5:(t1+1)*b*P*b=(t1+1)*(b*P*b):=by grind
   have h6:U=u0*(b*P*b)+(u1*b+u2)*P+u:=by rw[hU];grind
   omega
theorem Ka(L:List Nat)(off k:Nat)(hL:Wf L)(h:off+(k+2)<=L.length):sg L off (k+2)=(L.getD (off+(k+1)) 0*4294967296+L.getD (off+k) 0)*pw k+sg L off k/\sg L off k<pw k:=by
 refine⟨?_,qb L off k hL ae⟩;rw[show k+2=k+1+1 by omega,bZ L off (k+1) ae,bZ L off k ae,cO]
 grind
theorem LZ(L:List Nat)(off k:Nat)(hL:Wf L)(h:off+(k+3)<=L.length):sg L off (k+3)=((L.getD (off+(k+2)) 0*4294967296+L.getD (off+(k+1)) 0)*4294967296+L.getD (off+k) 0)*pw k+sg L off k/\sg L off k<pw k:=by
 refine⟨?_,qb L off k hL ae⟩;rw[show k+3=k+2+1 by omega,bZ L off (k+2) ae,(Ka L off k hL ae).1,show k+2=k+1+1 by omega,cO,cO]
 grind
end
section
open Go.RowKit
set_option maxRecDepth 20000 in
theorem L6 (L bs:List Nat) (g off cap:Nat) (ao:Option Addr) (n bG B:Nat) (w:World) (k:Nat) (hnk:n=k+2)
 (hO:Own w g L) (hoff:off+(k+3)<=L.length) (hm:k+2=bs.length) (hcap:n+1<=cap) (hbig:n<=4611686018427387904) (hL:Wf L) (hb:Wf bs) (hR:Rd B w ao bs)
 (htop:2147483648<=bs.getD (k+1) 0) (hlt:sg L off (k+3)<val bs*4294967296) :
 Calls Tryz.prog 195 #[.slice (some ⟨g,off,none⟩) (n+1) cap,.slice ao n bG] w fun r w' =>
  ∃ o:Nat,r=.returned (.int .u32 (o:Nat))/\o<4294967296/\sg L off (k+3)<(o+1)*val bs/\o*val bs<=sg L off (k+3)+val bs/\Below w.heap.size w w':=by
 obtain⟨b,ik,Pb,rfl,hbc⟩:=hR (by intro e;subst e;simp at hm);have c1:=hbc (k+1) ae;have c2:=hbc k ae;have d0:=hO.cell (off+(k+2)) ae;have d1:=hO.cell (off+(k+1)) ae;have d2:=hO.cell (off+k) ae;have en1:k+1=n-1:=ae
 have en2:ik+k=ik+(n-2):=ae
 have en3:off+k=off+(n-2):=ae
 have en4:off+(k+2)=off+n:=ae
 have en5:off+(k+1)=off+(n-1):=ae
 have en6:ik+(k+1)=ik+(n-1):=ae
 have hn2:2<=n:=ae
 have b1:=hb.get (k+1);have b2:=hb.get k;have l0:=hL.get (off+(k+2));have l1:=hL.get (off+(k+1));have l2:=hL.get (off+k);obtain⟨eU,hu⟩:=LZ L off k hL hoff;obtain⟨eV,hv⟩:=Ka bs 0 k hb ae;rw[eP,eP,show k+2=bs.length from hm,eQ] at eV;have HN:=(aA hnk);clear en1;generalize bs.getD (k+1) 0=t1 at *;generalize bs.getD k 0=t2 at *;generalize L.getD (off+(k+2)) 0=u0 at *;generalize L.getD (off+(k+1)) 0=u1 at *;generalize L.getD (off+k) 0=u2 at *;generalize sg L off (k+3)=U at *;generalize val bs=V at *;generalize sg L off k=u at *;generalize sg bs 0 k=v at *;rw[en6] at c1;rw[en2] at c2;rw[en4] at d0;rw[en5] at d1;rw[en3] at d2;have hu0:u0<=t1:=LY 4294967296 (pw k) t1 t2 u0 u1 u2 u v U V eU eV hv b2 hlt;have hlt1:0<t1:=ae
 obtain⟨T,hT⟩:=ah (u0*4294967296+u1);have eT:bits BinOp.or IntKind.u64 ((u0:Int)*4294967296) (u1:Int)=(T:Int):=by rw[qN u0 u1 l0 l1,hT]
 obtain⟨o0,ho0⟩:=ah (T/t1);obtain⟨r0,hr0⟩:=ah (T%t1);have eo:(T:Int)/(t1:Int)=(o0:Int):=by rw[ho0];simp
 have er:(T:Int)%(t1:Int)=(r0:Int):=by rw[hr0];simp
 have hTl:(T:Int)<18446744073709551616:=ae
 have hr0l:r0<t1:=by rw[hr0];exact lU _ hlt1
 have Kb:o0*t1+r0=T:=by rw[ho0,hr0,cu];exact qh T t1
 have Kc:T*4294967296+u2<(o0+1)*(t1*4294967296+t2):=by rw[ho0];exact Ev 4294967296 t1 t2 u2 T hlt1 l2
 have ho0l:(o0:Int)<18446744073709551616:=by have:o0<=T:=by rw[ho0];exact p8 _ _
                                             omega
 have HH:=(Cs hu0 hT eU hu eV hv Kb Kc hlt htop);clear en2 en3 en4 en5 en6 hnk;clear hT ho0 hr0 eU hu eV hv Kb Kc hlt hR hbc hm hb hL hO hoff htop;go_enter Tryz.func195,Tryz.ntmps195;go_wp2
 go_big_region
 go_wp2
 go_big_region
 go_wp2;have hbw:=mO w _ c2;have hgw:=mO w _ d2
 go_loopg [8,9] o0 (fun gk o l wr=>∃ lv:Nat,o=.int .u64 (gk:Nat)/\l=.int .u64 (lv:Nat)/\lv<4294967296/\Hid (Below w.heap.size w wr) /\
  Aside (gk*t1+lv=T/\(4294967296<=gk+1\/T*4294967296+u2<(gk+1)*(t1*4294967296+t2))))
 case atStart=>exact⟨r0,by first | rfl | rw[eo],by first | rfl | rw[er],ae,by first | exact(aD _ _).drew.drew | exact(aD _ _).drew | exact aD _ _,HH.o.r6.1,.inr HH.o.r7.1⟩
 case round =>
  obtain⟨lv,rfl,rfl,hlv,HB,HA⟩:=hrel;have c2':wr.cell? ⟨b,ik+(n-2),none⟩=some (.int .u32 (t2:Int)):=(HB.o.cell (p:=⟨b,ik+(n-2),none⟩) hbw).trans c2;have d2':wr.cell? ⟨g,off+(n-2),none⟩=some (.int .u32 (u2:Int)):=(HB.o.cell (p:=⟨g,off+(n-2),none⟩) hgw).trans d2;clear c2 d2 c1 d0 d1 hTl eo er;obtain⟨hu0,hT,eU,hu,eV,hv,Kb,Kc,hlt,htop⟩:=HH.o;obtain⟨hsum,hmax⟩:=HA.o;have hTb:T<t1*4294967296+4294967296:=ae
  have hgb:gk<=4294967297:=by
   by_cases h:gk<=4294967297
   · exact h
   · exfalso;have:4294967298*t1<=gk*t1:=eZ _ ae;omega
  have HE:Aside (∀ o l,o*t1+l=T->o*t2<=l*4294967296+u2->o<4294967296->(4294967296<=o+1\/T*4294967296+u2<(o+1)*(t1*4294967296+t2))->U<(o+1)*V/\o*V<=U+V):=by
   intro o l h1 h2 h3 h4;rw[<-hT] at eU;exact Ig 4294967296 o _ _ (pw k) u v U V (lI k) eU hu eV hv (LX 4294967296 o t1 t2 l u2 T h1 h2) h4 hlt h3 ae
  have HT:=(aA hTb);clear hu0 hT eU hu eV hv Kb Kc hlt htop hsum hmax hTb;have hgbi:(gk:Int)<=4294967297:=ae
  by_cases hbig2:4294967295<gk
  · have hg1:(4294967295:Int)<(gk:Int):=ae
    by_cases hl2:lv+t1<=4294967295
    · have hl3:(lv:Int)+(t1:Int)<=4294967295:=ae
      have hl4:decide ((4294967295:Int)<(lv:Int)+(t1:Int))=false:=decide_eq_false ae;have HG:=(ic hbig2 hl2 hgb hlv);clear hbig2 hl2 hgb;go_wp2
      go_big_region
      all_goals (
       go_wp2;go_roundg (gk-1)
       case measure=>have:=HG.o.1;omega
       case rel =>
        obtain⟨hsum,hmax⟩:=HA.o;obtain⟨hbig2,hl2,hgb,hlv⟩:=HG.o;refine⟨lv+t1,by first | go_num | (congr 1;omega),by first | rfl | go_num,ae,HB.o.drew,?_,.inl ae⟩;obtain⟨o,rfl⟩:∃ o,gk=o+1:=⟨gk-1,ae⟩;rw[mI];rw[fI] at hsum
        omega)
    · have hl3:(4294967295:Int)<(lv:Int)+(t1:Int):=ae
      go_wp2
      go_big_region
      all_goals (
       go_wp2;go_ret;obtain⟨hsum,hmax⟩:=HA.o;obtain⟨o,rfl⟩:∃ o,gk=o+1:=⟨gk-1,ae⟩;have hs2:o*t1+(lv+t1)=T:=by rw[fI] at hsum;omega
       obtain⟨hb1,hb2⟩:=wB 4294967296 o t1 t2 (lv+t1) u2 T hs2 ae HT.o b2 hlt1;obtain⟨h1,h2⟩:=HE.o o (lv+t1) hs2 hb2 hb1 (.inl ae);refine⟨o,?_,hb1,h1,h2,HB.o.drew⟩
       exact congrArg (fun z=>Ending.returned (Value.int IntKind.u32 z)) ae)
  · have hg1:(gk:Int)<=4294967295:=ae
    have hg2:decide ((4294967295:Int)<(gk:Int))=false:=by simp;omega
    have hp0:gk*t2<=4294967295*4294967295:=kC ae ae;have hp2:(gk:Int)*(t2:Int)<=18446744065119617025:=by rw[<-gM];omega
    have hp1:0<=(gk:Int)*(t2:Int):=by rw[<-gM];omega
    obtain⟨lu,hlu⟩:=ah (lv*4294967296+u2);have eL:bits BinOp.or IntKind.u64 ((lv:Int)*4294967296) (u2:Int)=(lu:Int):=by rw[qN lv u2 hlv l2,hlu]
    have HL:=(aA hlu)
    by_cases hmore:lu<gk*t2
    · have hm1:(lu:Int)<(gk:Int)*(t2:Int):=by rw[<-gM];omega
      have hgk0:0<gk:=by
       rcases jZ gk with h|h
       · subst h;rw[dL] at hmore;omega
       · exact h
      by_cases hl2:lv+t1<=4294967295
      · have hl3:(lv:Int)+(t1:Int)<=4294967295:=ae
        have hl4:decide ((4294967295:Int)<(lv:Int)+(t1:Int))=false:=decide_eq_false ae;have HG:=(fO hbig2 hl2 hgb hlv hmore);clear hlu hp0 hbig2 hl2 hgb hmore;go_wp2
        go_big_region
        all_goals (
         go_wp2;go_roundg (gk-1)
         case measure=>omega
         case rel =>
          obtain⟨hsum,hmax⟩:=HA.o;obtain⟨hbig2,hl2,hgb,hlv,hmore⟩:=HG.o;have hno:=Eu 4294967296 gk t1 t2 lv u2 T hsum (by rw[<-HL.o];exact hmore);refine⟨lv+t1,by first | go_num | (congr 1;omega),by first | rfl | go_num,ae,HB.o.drew,?_,.inr ?_⟩
          · obtain⟨o,rfl⟩:∃ o,gk=o+1:=⟨gk-1,ae⟩;rw[mI];rw[fI] at hsum;omega
          · rw[show gk-1+1=gk by omega];exact hno)
      · have hl3:(4294967295:Int)<(lv:Int)+(t1:Int):=ae
        clear hlu hp0;go_wp2
        go_big_region
        all_goals (
         go_wp2;go_ret;obtain⟨hsum,hmax⟩:=HA.o;have hno:=Eu 4294967296 gk t1 t2 lv u2 T hsum (by rw[<-HL.o];exact hmore);obtain⟨o,rfl⟩:∃ o,gk=o+1:=⟨gk-1,ae⟩;have hs2:o*t1+(lv+t1)=T:=by rw[fI] at hsum;omega
         obtain⟨hb1,hb2⟩:=wB 4294967296 o t1 t2 (lv+t1) u2 T hs2 ae HT.o b2 hlt1;obtain⟨h1,h2⟩:=HE.o o (lv+t1) hs2 hb2 hb1 (.inr hno);refine⟨o,?_,hb1,h1,h2,HB.o.drew⟩
         exact congrArg (fun z=>Ending.returned (Value.int IntKind.u32 z)) ae)
    · have hm1:(gk:Int)*(t2:Int)<=(lu:Int):=by rw[<-gM];omega
      have hm2:decide ((lu:Int)<(gk:Int)*(t2:Int))=false:=decide_eq_false ae;have HG:=(ic hbig2 hgb hlv hmore);clear hlu hp0 hbig2 hgb hmore;go_wp2
      go_big_region
      all_goals (
       go_wp2;go_ret;obtain⟨hsum,hmax⟩:=HA.o;obtain⟨hbig2,hgb,hlv,hmore⟩:=HG.o;obtain⟨h1,h2⟩:=HE.o gk lv hsum (by rw[<-HL.o];omega) ae hmax;refine⟨gk,?_,ae,h1,h2,HB.o.drew⟩
       first | rfl | exact congrArg (fun z=>Ending.returned (Value.int IntKind.u32 z)) ae)
theorem zj{P:Prop}(h:P:=by
 exact(CQ (a:=⟨b,ik+k,none⟩) h1).trans (hbc k ae)):P:=h
theorem uR (L bs:List Nat) (g off n cap:Nat) (ao:Option Addr) (m bG B:Nat) (w:World)
 (hO:Own w g L) (hoff:off+n<=L.length) (hm:m=bs.length) (Ih:m<=n) (hcap:n<=cap) (hbig:n<=4611686018427387904) (hL:Wf L) (hb:Wf bs) (hR:Rd B w ao bs) (hB:B<=g) :
 Calls Tryz.prog 183 #[.slice (some ⟨g,off,none⟩) n cap,.slice ao m bG] w fun r w' =>
  ∃ M c,r=.returned (.int .u32 (c:Nat))/\c<=1/\Own w' g M/\Wf M/\Out L M off n/\sg M off n+c*pw n=sg L off n+val bs/\But g w w':=by
 have HR:Aside (Rd B w ao bs/\m=bs.length/\Wf bs/\Wf L/\off+n<=L.length):=⟨hR,hm,hb,hL,hoff⟩;have HO:Hid (Own w g L):=hO;have Ew:Hid (∀ x y c s d w,_->_->_->_->_->_):=LQ;clear hR hm hb hL hO hoff;go_enter Tryz.func183,Tryz.ntmps183;go_wp2
 go_loopg [5,11] m (fun gk c i wr=>∃ (k cv:Nat) (M:List Nat),gk+k=m/\c=.int .u32 (cv:Nat)/\cv<=1/\i=.int .i64 (k:Nat) /\
  Hid (Own wr g M)/\Aside (Wf M/\Out L M off k/\sg M off k+cv*pw k=sg L off k+sg bs 0 k/\But g w wr))
 case atStart=>exact⟨0,0,L,ae,rfl,ae,rfl,HO,HR.o.r3.1,Out.refl _ _ _,by simp[fK],But.refl _ _⟩
 case round =>
  obtain⟨k,cv,M,Ex,rfl,hcv,rfl,HM,HA⟩:=hrel
  by_cases hk:k<m
  · obtain⟨hR,hm,hb,hL,hoff⟩:=HR.o;obtain⟨dQ,ib,hMs,aI⟩:=HA.o;obtain⟨b,ik,Pb,rfl,hbc⟩:=hR (by intro e;subst e;simp at hm;omega)
    have hbk:wr.cell? ⟨b,ik+k,none⟩=some (.int .u32 ((bs.getD k 0:Nat):Int)):=by
     have h1:=aI.block b (mO w ⟨b,ik+k,none⟩ (hbc k ae)) ae;exact zj
    have hgc:=HM.o.cell (off+k) (by rw[ib.1];omega);have hgf:=HM.o.frozen (off+k);obtain⟨x,hx⟩:∃ x:Nat,M.getD (off+k) 0=x:=⟨_,rfl⟩;obtain⟨y,hy⟩:∃ y:Nat,bs.getD k 0=y:=⟨_,rfl⟩;have hxl:x<4294967296:=hx ▸ dQ.get _;have hyl:y<4294967296:=hy ▸ hb.get _;rw[hx] at hgc;rw[hy] at hbk;obtain⟨s,hs⟩:∃ s:Nat,s=(x+y+cv)%4294967296:=⟨_,rfl⟩;obtain⟨d,hd⟩:∃ d:Nat,d=(x+y+cv)/4294967296:=⟨_,rfl⟩;have HX:Aside (M.getD (off+k) 0=x/\bs.getD k 0=y/\s=(x+y+cv)%4294967296/\d=(x+y+cv)/4294967296):=⟨hx,hy,hs,hd⟩;clear hx hy hs hd hR hm hb hL hoff dQ ib hMs aI hbc;go_wp2_with fail;refine(Ew.o x y cv s d _ hxl hyl hcv HX.o.r2.1 HX.o.r3).mono ?_;rintro r w1 ⟨rfl,rfl⟩;go_wp2;go_roundg (gk-1)
    case measure=>omega
    case rel =>
     obtain⟨hx,hy,hs,hd⟩:=HX.o;obtain⟨hR,hm,hb,hL,hoff⟩:=HR.o;obtain⟨dQ,ib,hMs,aI⟩:=HA.o;refine⟨k+1,d,M.set (off+k) s,ae,rfl,ae,by go_num,HM.o.set _ _,dQ.set _ _ ae,(ib.mono ae).set _ _ ae ae,?_,aI.set _ _⟩;rw[di _ _ _ _ (by rw[ib.1];omega),bZ L off k ae,bZ bs 0 k ae,eP,hy,cO];have e:L.getD (off+k) 0=x:=by rw[<-hx];exact(ib.2 _ ae).symm
     rw[e];exact rY _ _ _ _ _ _ _ _ _ hMs ae
  · obtain rfl:k=m:=ae
    have HA2:Aside (Wf M/\Out L M off k/\sg M off k+cv*pw k=sg L off k+val bs/\But g w wr):=by
     obtain⟨hR,hm,hb,hL,hoff⟩:=HR.o;obtain⟨dQ,ib,hMs,aI⟩:=HA.o;refine⟨dQ,ib,?_,aI⟩;rw[hMs,hm,eQ]
    clear HA Ex HO hk;go_wp2
    go_loopg [5,8] (n-k) (fun g2 c i w2=>∃ (j cv:Nat) (M:List Nat),g2+j=n/\k<=j/\c=.int .u32 (cv:Nat)/\cv<=1/\i=.int .i64 (j:Nat) /\
     Hid (Own w2 g M)/\Aside (Wf M/\Out L M off j/\sg M off j+cv*pw j=sg L off j+val bs/\But g w w2))
    case atStart=>exact⟨k,cv,M,ae,aC _,rfl,hcv,rfl,HM,HA2.o⟩
    case round =>
     clear HM HA2 hcv;obtain⟨j,cv,M,hgj,hkj,rfl,hcv,rfl,HM,HA⟩:=hrel
     by_cases hj:j<n
     · by_cases h0:cv=0
       · subst h0;go_wp2;go_ret;obtain⟨hR,hm,hb,hL,hoff⟩:=HR.o;obtain⟨dQ,ib,hMs,aI⟩:=HA.o;refine⟨M,0,rfl,ae,HM.o,dQ,ib.mono ae,?_,aI⟩;rw[dL,fT] at hMs |-;exact PR ae ae ib hMs
       · obtain rfl:cv=1:=ae
         obtain⟨hR,hm,hb,hL,hoff⟩:=HR.o;obtain⟨dQ,ib,hMs,aI⟩:=HA.o;have hgc:=HM.o.cell (off+j) (by rw[ib.1];omega);have hgf:=HM.o.frozen (off+j);obtain⟨x,hx⟩:∃ x:Nat,M.getD (off+j) 0=x:=⟨_,rfl⟩;have hxl:x<4294967296:=hx ▸ dQ.get _;rw[hx] at hgc;obtain⟨s,hs⟩:∃ s:Nat,s=(x+0+1)%4294967296:=⟨_,rfl⟩;obtain⟨d,hd⟩:∃ d:Nat,d=(x+0+1)/4294967296:=⟨_,rfl⟩;have HX:Aside (M.getD (off+j) 0=x/\s=(x+0+1)%4294967296/\d=(x+0+1)/4294967296):=⟨hx,hs,hd⟩;clear hx hs hd hR hm hb hL hoff dQ ib hMs aI h0;go_wp2_with fail;refine(Ew.o x 0 1 s d _ hxl ae ae HX.o.2.1 HX.o.r2).mono ?_;rintro r w1 ⟨rfl,rfl⟩;go_wp2;go_roundg (gk-1)
         case measure=>omega
         case rel =>
          obtain⟨hx,hs,hd⟩:=HX.o;obtain⟨hR,hm,hb,hL,hoff⟩:=HR.o;obtain⟨dQ,ib,hMs,aI⟩:=HA.o;refine⟨j+1,d,M.set (off+j) s,ae,ae,rfl,ae,by go_num,HM.o.set _ _,dQ.set _ _ ae,(ib.mono ae).set _ _ ae ae,?_,aI.set _ _⟩;rw[di _ _ _ _ (by rw[ib.1];omega),bZ L off j ae,cO];have e:L.getD (off+j) 0=x:=by rw[<-hx];exact(ib.2 _ ae).symm
          rw[e];have:=rY (pw j) _ _ _ _ x 0 s d hMs ae;omega
     · obtain rfl:j=n:=ae
       go_wp2;go_ret;obtain⟨dQ,ib,hMs,aI⟩:=HA.o;exact⟨M,cv,rfl,hcv,HM.o,dQ,ib,hMs,aI⟩
theorem Ay (L bs:List Nat) (g off n cap:Nat) (ao:Option Addr) (m bG B q:Nat) (w:World)
 (hO:Own w g L) (hoff:off+n<=L.length) (hm:m=bs.length) (Ih:n=m+1) (hcap:n<=cap) (hbig:n<=4611686018427387904) (hL:Wf L) (hb:Wf bs) (hR:Rd B w ao bs) (hB:B<=g) (hq:q<4294967296) :
 Calls Tryz.prog 196 #[.slice (some ⟨g,off,none⟩) n cap,.slice ao m bG,.int .u32 (q:Nat)] w fun r w' =>
  ∃ M,∃ c:Nat,r=.returned (.bool (decide (0<c)))/\c<=1/\Own w' g M/\Wf M/\Out L M off n/\sg M off n+val bs*q=sg L off n+c*pw n/\But g w w':=by
 have HR:Aside (Rd B w ao bs/\m=bs.length/\Wf bs/\Wf L/\off+n<=L.length/\n=m+1):=⟨hR,hm,hb,hL,hoff,Ih⟩;have HO:Hid (Own w g L):=hO;have Ew:Hid (∀ x y c s d w,_->_->_->_->_->_):=Bw;have hmn1:m<n:=ae
 clear hR hm hb hL hO hoff Ih;go_enter Tryz.func196,Tryz.ntmps196;go_wp2
 go_loopg [7,8,14] m (fun gk c bo i wr=>∃ (k cv bv:Nat) (M:List Nat),gk+k=m/\c=.int .u64 (cv:Nat)/\cv<4294967296/\bo=.int .u32 (bv:Nat)/\bv<=1/\i=.int .i64 (k:Nat) /\
  Hid (Own wr g M)/\Aside (Wf M/\Out L M off k/\sg M off k+sg bs 0 k*q=sg L off k+(cv+bv)*pw k/\But g w wr))
 case atStart=>exact⟨0,0,0,L,ae,rfl,ae,rfl,ae,rfl,HO,HR.o.r3.1,Out.refl _ _ _,by simp[fK],But.refl _ _⟩
 case round =>
  obtain⟨k,cv,bv,M,Ex,rfl,hcv,rfl,hbv,rfl,HM,HA⟩:=hrel
  by_cases hk:k<m
  · obtain⟨hR,hm,hb,hL,hoff,Ih⟩:=HR.o;obtain⟨dQ,ib,hMs,aI⟩:=HA.o;obtain⟨b,ik,Pb,rfl,hbc⟩:=hR (by intro e;subst e;simp at hm;omega)
    have hbk:wr.cell? ⟨b,ik+k,none⟩=some (.int .u32 ((bs.getD k 0:Nat):Int)):=by
     have h1:=aI.block b (mO w ⟨b,ik+k,none⟩ (hbc k ae)) ae;exact zj
    have hgc:=HM.o.cell (off+k) (by rw[ib.1];omega);have hgf:=HM.o.frozen (off+k);obtain⟨x,hx⟩:∃ x:Nat,M.getD (off+k) 0=x:=⟨_,rfl⟩;obtain⟨y,hy⟩:∃ y:Nat,bs.getD k 0=y:=⟨_,rfl⟩;have hxl:x<4294967296:=hx ▸ dQ.get _;have hyl:y<4294967296:=hy ▸ hb.get _;rw[hx] at hgc;rw[hy] at hbk;have hp0:=uQ y q hyl hq;have hp2:(y:Int)*(q:Int)<=18446744065119617025:=by rw[<-gM];omega
    have hp1:0<=(y:Int)*(q:Int):=by rw[<-gM];omega
    obtain⟨tl,htl⟩:∃ s:Nat,s=(y*q+cv)%4294967296:=⟨_,rfl⟩;obtain⟨d,hd⟩:∃ d:Nat,d=(y*q+cv)/4294967296:=⟨_,rfl⟩;have e0:((y*q+cv:Nat):Int)=(y:Int)*q+cv:=by simp only[Cx,gM]
    have e1:((y:Int)*q+cv)%4294967296=(tl:Int):=by rw[<-e0];omega
    have e2:((y:Int)*q+cv)/4294967296=(d:Int):=by rw[<-e0];omega
    obtain⟨s,hs⟩:∃ s:Nat,(s:Int)=((x:Int)-tl-bv)%4294967296:=⟨(((x:Int)-tl-bv)%4294967296).toNat,ae⟩;obtain⟨bn,hbn⟩:∃ bn:Nat,bn=if x<tl+bv then 1 else 0:=⟨_,rfl⟩
    have htl2:tl<4294967296:=ae
    have HX:Aside (M.getD (off+k) 0=x/\bs.getD k 0=y/\tl+d*4294967296=y*q+cv/\d<4294967296/\(s:Int)=((x:Int)-tl-bv)%4294967296/\bn=if x<tl+bv then 1 else 0):=⟨hx,hy,ae,ae,hs,hbn⟩;clear hx hy hs hd hR hm hb hL hoff dQ ib hMs aI hbc e0 hp0 hbn htl Ih;go_wp2_with fail;refine(Ew.o x tl bv s bn _ hxl htl2 hbv HX.o.r4.1 HX.o.r5).mono ?_;rintro r w1 ⟨rfl,rfl⟩;go_wp2;go_roundg (gk-1)
    case measure=>omega
    case rel =>
     obtain⟨hx,hy,he,hd,hs,hbn⟩:=HX.o;obtain⟨hR,hm,hb,hL,hoff,Ih⟩:=HR.o;obtain⟨dQ,ib,hMs,aI⟩:=HA.o;have YK:bn<=1:=by rw[hbn];split <;> omega
     have hsum:s+tl+bv=x+bn*4294967296:=by rw[hbn];split <;> omega
     refine⟨k+1,d,bn,M.set (off+k) s,ae,rfl,hd,rfl,YK,by go_num,HM.o.set _ _,dQ.set _ _ ae,(ib.mono ae).set _ _ ae ae,?_,aI.set _ _⟩;rw[di _ _ _ _ (by rw[ib.1];omega),bZ L off k ae,bZ bs 0 k ae,eP,hy,cO];have e:L.getD (off+k) 0=x:=by rw[<-hx];exact(ib.2 _ ae).symm
     rw[e];exact yL _ _ _ _ _ _ _ _ _ _ hMs (by rw[fI];omega)
  · obtain rfl:k=m:=ae
    obtain⟨hR,hm,hb,hL,hoff,Ih⟩:=HR.o;obtain⟨dQ,ib,hMs,aI⟩:=HA.o;have hgc:=HM.o.cell (off+k) (by rw[ib.1];omega);have hgf:=HM.o.frozen (off+k);obtain⟨x,hx⟩:∃ x:Nat,M.getD (off+k) 0=x:=⟨_,rfl⟩;have hxl:x<4294967296:=hx ▸ dQ.get _;rw[hx] at hgc;obtain⟨s,hs⟩:∃ s:Nat,(s:Int)=((x:Int)-cv-bv)%4294967296:=⟨(((x:Int)-cv-bv)%4294967296).toNat,ae⟩;obtain⟨bn,hbn⟩:∃ bn:Nat,bn=if x<cv+bv then 1 else 0:=⟨_,rfl⟩
    have HX:Aside (M.getD (off+k) 0=x/\(s:Int)=((x:Int)-cv-bv)%4294967296/\bn=if x<cv+bv then 1 else 0):=⟨hx,hs,hbn⟩;clear hx hs hR hm hb hL hoff dQ ib hMs aI hbn Ih;go_wp2_with fail;refine(Ew.o x cv bv s bn _ hxl hcv hbv HX.o.2.1 HX.o.r2).mono ?_;rintro r w1 ⟨rfl,rfl⟩;go_wp2;go_ret;obtain⟨hx,hs,hbn⟩:=HX.o;obtain⟨hR,hm,hb,hL,hoff,Ih⟩:=HR.o;obtain⟨dQ,ib,hMs,aI⟩:=HA.o;have YK:bn<=1:=by rw[hbn];split <;> omega
    have hsum:s+cv+bv=x+bn*4294967296:=by rw[hbn];split <;> omega
    refine⟨M.set (off+k) s,bn,rfl,YK,HM.o.set _ _,dQ.set _ _ ae,(ib.mono ae).set _ _ ae ae,?_,aI.set _ _⟩;subst Ih;rw[di _ _ _ _ (by rw[ib.1];omega),bZ L off k ae,cO];have e:L.getD (off+k) 0=x:=by rw[<-hx];exact(ib.2 _ ae).symm
    rw[e];have h2:=yL (pw k) _ _ _ _ x 0 q s bn hMs ae;rw[jY,fT,hm,eQ] at h2;exact hm ▸ h2
theorem PT(U V P o c m:Nat)(h1:m+V*o=U+c*P)(hc:c<=1)(h2:U<(o+1)*V)(h3:o*V<=U+V)(hm:m<P)(hV:V<=P)(h0:c=0):m=U-o*V/\m<V/\U=o*V+m:=by
 subst h0;rw[cu V] at h1;rw[fI,jq] at h2;refine⟨ae,ae,ae⟩
theorem L8(U V P o c m M d:Nat)(h1:m+V*(o+1)=U+1*P)(h2:U<(o+1+1)*V)(h3:(o+1)*V<=U+V)(hm:m<P)(hM:M<P)(hb:M+d*P=m+V)(hd:d<=1)(hU:U<V*4294967296)(XR:V*4294967296<=P*4294967296)(hV:V<=P) :
 U=o*V+M/\M<V:=by
 rw[jq] at h1;have e:V*(o+1)=o*V+V:=by grind
 rw[e] at h1;rw[fI,jq] at h3;rcases(by omega:d=0\/d=1) with rfl|rfl
 · exfalso;rw[dL] at hb;omega
 · rw[jq] at hb;constructor
   · omega
   · omega
theorem Ey (L bs:List Nat) (g off cap:Nat) (ao:Option Addr) (n bG B:Nat) (w:World) (k:Nat) (hnk:n=k+2)
 (hO:Own w g L) (hoff:off+(k+3)<=L.length) (hm:k+2=bs.length) (hcap:n+1<=cap) (hbig:n+1<=4611686018427387904) (hL:Wf L) (hb:Wf bs) (hR:Rd B w ao bs) (hB:B<=g)
 (htop:2147483648<=bs.getD (k+1) 0) (hlt:sg L off (k+3)<val bs*4294967296) :
 Calls Tryz.prog 187 #[.slice (some ⟨g,off,none⟩) (n+1) cap,.slice ao n bG] w fun r w' =>
  ∃ o:Nat,∃ M,r=.returned (.int .u32 (o:Nat))/\o<4294967296/\Own w' g M/\Wf M/\Out L M off (n+1)/\sg L off (n+1)=o*val bs+sg M off (n+1)/\sg M off (n+1)<val bs/\But g w w':=by
 have G:=hid (L6 L bs g off cap ao n bG B w k hnk hO hoff hm hcap ae hL hb hR htop hlt);have HH:=(uI hO hoff hm hL hb hR hlt hnk);clear hO hoff hm hL hb hR hlt hnk htop;go_enter Tryz.func187,Tryz.ntmps187;go_wp2_with fail;refine G.o.mono ?_;rintro r w1 ⟨o,rfl,ho,h2,h3,hbel⟩;obtain⟨hO,hoff,hm,hL,hb,hR,hlt,hnk⟩:=HH.o;have hg:=hO.lt;have oM:=hO.below hbel hg;have Ak:Rd B w1 ao bs:=hR.below (hbel.mono ae);have T:=hid (Ay L bs g off (n+1) cap ao n bG B o w1 oM ae ae rfl hcap hbig hL hb Ak hB ho);have HI:=(dC h2 h3 hbel);clear hO hoff hm hL hb hR hlt hnk hg oM Ak h2 h3 hbel G;go_wp2_with fail;refine T.o.mono ?_;rintro r w2 ⟨M,c,rfl,hc,hO2,hM,hout,hsum,aI⟩;obtain⟨hO,hoff,hm,hL,hb,hR,hlt,hnk⟩:=HH.o;obtain⟨h2,h3,hbel⟩:=HI.o;have e3:k+3=n+1:=ae
 rw[e3] at h2 h3 hlt;have yM:=qb M off (n+1) hM (by rw[hout.1];omega);have Ke:=bM bs hb
 have XR:val bs<=pw (n+1):=by
  have:=kL (show bs.length<=n+1 by omega);omega
 by_cases h0:c=0
 · obtain⟨e,hlt2,hU⟩:=PT _ _ _ _ _ _ hsum hc h2 h3 yM XR h0;have HJ:=(nU hO2 hM hout hU hlt2 aI hbel);subst h0;clear hO hoff hm hL hb hR hlt hnk h2 h3 hbel hO2 hM hout hsum aI yM Ke XR e hlt2 hU T HI e3 hc;go_wp2;go_ret;obtain⟨hO2,hM,hout,hU,hlt2,aI,hbel⟩:=HJ.o;exact⟨o,M,rfl,ho,hO2,hM,hout,hU,hlt2,(But.refl _ _).of_below hbel |>.trans aI⟩
 · obtain rfl:c=1:=ae
   have ho1:1<=o:=by
    rcases jZ o with h|h
    · subst h;rw[jY] at hsum;have:=qb L off (n+1) hL ae;omega
    · exact h
   obtain⟨p,hp⟩:∃ p,o=p+1:=⟨o-1,ae⟩;have hR2:Rd B w2 ao bs:=(hR.below (hbel.mono (by have:=hO.lt;omega))).but aI (by have:=hbel.size;have:=hO.lt;omega) hB;have A:=hid (uR M bs g off (n+1) cap ao n bG B w2 hO2 (by rw[hout.1];omega) ae ae hcap hbig hM hb hR2 hB);have HJ:=(YF hM hout hsum aI hbel h2 h3 yM XR hlt hp);clear hO hoff hm hL hb hR hlt hnk h2 h3 hbel hO2 hM hout hsum aI yM Ke XR T HI hR2 h0 hp e3 hc;go_wp2_with fail;refine A.o.mono ?_;rintro r w3 ⟨M2,d,rfl,hd,hO3,hM2,hout2,Kg,tK⟩;have HK:=(jJ hd hO3 hM2 hout2 Kg tK);clear hd hO3 hM2 hout2 Kg tK A;go_wp2;go_ret;obtain⟨hM,hout,hsum,aI,hbel,h2,h3,yM,XR,hlt,hp⟩:=HJ.o;obtain⟨hd,hO3,hM2,hout2,Kg,tK⟩:=HK.o;obtain⟨hO,hoff,hm,hL,hb,hR,hlt',hnk⟩:=HH.o;have hm2:=qb M2 off (n+1) hM2 (by rw[hout2.1,hout.1];omega);subst hp;obtain⟨hU,hlt2⟩:=L8 _ _ _ p 1 _ _ d hsum h2 h3 yM hm2 Kg hd hlt (eZ _ XR) XR;refine⟨p,M2,?_,ae,hO3,hM2,hout.trans hout2,hU,hlt2,(((But.refl _ _).of_below hbel).trans aI).trans tK⟩;exact congrArg (fun z=>Ending.returned (Value.int IntKind.u32 z)) ae
def bl(n:Nat):Nat:=if n=0 then 0 else n.log2+1
theorem dZ:bl 0=0:=rfl
theorem iT(n:Nat):n<2^bl n:=by
 unfold bl
 split
 · next h=>subst h;decide
 · exact Nat.lt_log2_self
theorem iU(n:Nat)(h:n≠0):2^(bl n-1)<=n:=by
 unfold bl;rw[if_neg h];exact Nat.log2_self_le h
theorem eu(n:Nat)(h:n≠0):0<bl n:=by unfold bl;rw[if_neg h];omega
theorem Ez(n k:Nat)(h1:2^k<=n)(h2:n<2^(k+1)):bl n=k+1:=by
 have hn:n≠0:=by have:=aZ k;omega
 have a:k<bl n:=(ku (a:=2) aj).1 (iP h1 (iT n));have b:bl n-1<k+1:=(ku (a:=2) aj).1 (iP (iU n hn) h2);omega
theorem BA(x:Nat)(h:x<18446744073709551616):Lib.bitLen x=bl x:=by
 by_cases h0:x=0
 · subst h0;decide
 · obtain⟨h1,h2,h3⟩:=Lib.bitLenAux_bounds 64 x h h0;obtain⟨k,hk⟩:∃ k,Lib.bitLen x=k+1:=⟨Lib.bitLen x-1,by unfold Lib.bitLen;omega⟩;have hk':Lib.bitLenAux 64 x=k+1:=hk;rw[hk'] at h2 h3;rw[hk,Ez x k h2 h3]
theorem tab8(n:Nat)(h:n<Lib.len8tab.size):(Lib.len8tab[n]'h).toNat=Lib.bitLen n:=by
 have hn:n<256:=by rw[Lib.len8tab_size] at h;exact h
 have e:=Lib.len8_eq ⟨n,hn⟩;simp only[Lib.len8,nW] at e;rw[getElem?_pos Lib.len8tab n h] at e;exact Int.natCast_inj.1 (by simpa using e)
theorem kP(x i:Int)(c:Nat)(hc:c<=56)(hi:i<256)(hs:Lib.bitLen x.toNat=c+Lib.bitLen i.toNat)(hh:i.toNat<Lib.len8tab.size)(hi0:0<=i) :
 wrap64 ((c:Int)+wrap64 ((Lib.len8tab[i.toNat]'hh).toNat:Int))=(Lib.bitLen x.toNat:Int):=by
 have l:=Lib.bitLen_le8 ⟨i.toNat,ae⟩;simp only at l;rw[tab8,hs];unfold wrap64;omega
theorem EC(x:Int)(hi:x<256)(hi0:0<=x)(hh:x.toNat<Lib.len8tab.size) :
 wrap64 (wrap64 ((Lib.len8tab[x.toNat]'hh).toNat:Int))=(Lib.bitLen x.toNat:Int):=by
 have l:=Lib.bitLen_le8 ⟨x.toNat,ae⟩;simp only at l;rw[tab8];unfold wrap64;omega
set_option maxRecDepth 100000 in
theorem L9(x:Int)(w:World)(h0:0<=x)(h1:x<=4294967295) :
 Calls Tryz.prog 130 #[.int .u32 x] w fun e w'=>e=.returned (.int .i64 (Lib.bitLen x.toNat))/\w'=w:=by
 have hsz:Lib.len8tab.size=256:=Lib.len8tab_size;go_enter Tryz.func130,Tryz.ntmps130;go_wp2
 all_goals (go_ret;refine⟨congrArg (fun z=>Ending.returned (Value.int IntKind.i64 z)) ?_,rfl⟩)
 · exact kP x (x/65536/256) 24 ae ae (by rw[Lib.bitLen_shift24 x.toNat ae ae,show(x/65536/256).toNat=x.toNat/16777216 by omega]) ae ae
 · exact kP x (x/65536) 16 ae ae (by rw[Lib.bitLen_shift16 x.toNat ae ae,show(x/65536).toNat=x.toNat/65536 by omega]) ae ae
 · exact kP x (x/256) 8 ae ae (by rw[Lib.bitLen_shift8 x.toNat ae ae,show(x/256).toNat=x.toNat/256 by omega]) ae ae
 · exact EC x ae ae ae
theorem BH(x:Nat)(w:World)(h:x<4294967296):Calls Tryz.prog 130 #[.int .u32 (x:Int)] w fun e w'=>e=.returned (.int .i64 (bl x:Nat))/\w'=w:=by
 have:=L9 x w ae ae;rw[nW,BA x ae] at this;exact this
theorem xJ(x:Nat)(h:x<4294967296):bl x<=32:=by
 by_cases h0:x=0
 · subst h0;decide
 · have:=iU x h0;have:2^(bl x-1)<2^32:=ae
   have:=(ku (a:=2) aj).1 this;omega
theorem Ii(x:Nat)(w:World)(h:x<4294967296):Calls Tryz.prog 186 #[.int .u32 (x:Int)] w fun e w'=>e=.returned (.int .i64 ((32-bl x:Nat):Int))/\w'=w:=by
 have H:=hid (BH x w h);have hb:=xJ x h;obtain⟨k,hk⟩:∃ k,bl x=k:=⟨_,rfl⟩;rw[hk] at H hb |-;clear hk;obtain⟨z,hz⟩:=ah (32-k);have e:(32:Int)-(k:Int)=(z:Int):=ae
 rw[<-hz];clear hz;go_enter Tryz.func186,Tryz.ntmps186;go_wp2_with fail;refine H.o.mono ?_;rintro r w1 ⟨rfl,rfl⟩;go_wp2;go_ret;exact⟨by first | rfl | rw[e],rfl⟩
set_option maxRecDepth 100000 in
theorem Ma(x:Int)(w:World)(h0:0<=x)(h1:x<=18446744073709551615) :
 Calls Tryz.prog 191 #[.int .u64 x] w fun e w'=>e=.returned (.int .i64 (Lib.bitLen x.toNat))/\w'=w:=by
 have hsz:Lib.len8tab.size=256:=Lib.len8tab_size;go_enter Tryz.func191,Tryz.ntmps191;go_wp2
 all_goals (go_ret;refine⟨congrArg (fun z=>Ending.returned (Value.int IntKind.i64 z)) ?_,rfl⟩)
 · exact kP x (x/4294967296/65536/256) 56 ae ae (by rw[Lib.bitLen_shift56 x.toNat ae ae,show(x/4294967296/65536/256).toNat=x.toNat/72057594037927936 by omega]) ae ae
 · exact kP x (x/4294967296/65536) 48 ae ae (by rw[Lib.bitLen_shift48 x.toNat ae ae,show(x/4294967296/65536).toNat=x.toNat/281474976710656 by omega]) ae ae
 · exact kP x (x/4294967296/256) 40 ae ae (by rw[Lib.bitLen_shift40 x.toNat ae ae,show(x/4294967296/256).toNat=x.toNat/1099511627776 by omega]) ae ae
 · exact kP x (x/4294967296) 32 ae ae (by rw[Lib.bitLen_shift32 x.toNat ae ae,show(x/4294967296).toNat=x.toNat/4294967296 by omega]) ae ae
 · exact kP x (x/65536/256) 24 ae ae (by rw[Lib.bitLen_shift24 x.toNat ae ae,show(x/65536/256).toNat=x.toNat/16777216 by omega]) ae ae
 · exact kP x (x/65536) 16 ae ae (by rw[Lib.bitLen_shift16 x.toNat ae ae,show(x/65536).toNat=x.toNat/65536 by omega]) ae ae
 · exact kP x (x/256) 8 ae ae (by rw[Lib.bitLen_shift8 x.toNat ae ae,show(x/256).toNat=x.toNat/256 by omega]) ae ae
 · exact EC x ae ae ae
theorem XS{P:Prop}(h:P:=by
 go_wp2;go_ret;exact⟨rfl,rfl⟩):P:=h
theorem PU(x:Nat)(w:World)(h:x<18446744073709551616):Calls Tryz.prog 178 #[.int .u64 (x:Int)] w fun e w'=>e=.returned (.int .i64 (bl x:Nat))/\w'=w:=by
 have:=Ma x w ae ae;rw[nW,BA x ae] at this;have H:=hid this;clear this;go_enter Tryz.func178,Tryz.ntmps178;go_wp2_with fail;refine H.o.mono ?_;rintro r w1 ⟨rfl,rfl⟩;exact XS
def dU(w:World):Prop:=∀ j,j<32->w.cell? ⟨1,j,none⟩=some (.int .u8 (Lib.deBruijn32tab.getD j 0))
theorem dU.below{B:Nat}{w w':World}(h:dU w)(hb:Below B w w')(hB:1<B):dU w':=fun j hj=>(hb.cell (p:=⟨1,j,none⟩) hB).trans (h j hj)
theorem dU.pos{w:World}(h:dU w):1<w.heap.size:=mO w ⟨1,0,none⟩ (h 0 aj)
theorem dU.belows{w w':World}(h:dU w)(hb:Below w.heap.size w w'):dU w':=h.below hb h.pos
theorem UI (x k idx:Nat) (w:World) (hx0:((x:Int)==0)=false)
 (key:bits BinOp.and IntKind.u32 (x:Int) (-(x:Int)%4294967296)*125613361%4294967296/134217728=(idx:Int))
 (hi:idx<32) (hk:k<32) (hcell:w.cell? ⟨1,idx,none⟩=some (.int .u8 k)) :
 Calls Tryz.prog 165 #[.int .u32 x] w fun e w'=>e=.returned (.int .i64 k)/\w'=w:=by
 go_enter Tryz.func165,Tryz.ntmps165
 go_wp2_with (simp only[key])
 go_ret;exact⟨rfl,rfl⟩
theorem YL(x a:Nat)(hx:x<4294967296)(hx0:x≠0)(hlow:x &&& (4294967296-x)=a) :
 bits BinOp.and IntKind.u32 (x:Int) (-(x:Int)%4294967296)*125613361%4294967296/134217728=((a*125613361%4294967296/134217728:Nat):Int):=by
 rw[show -(x:Int)%4294967296=((4294967296-x:Nat):Int) by omega,J9 x _ hx ae,hlow];omega
theorem YM(x:Nat)(hx:x<4294967296)(hx0:x≠0)(w:World)(hT:dU w) :
 Calls Tryz.prog 165 #[.int .u32 (x:Int)] w fun e w'=>e=.returned (.int .i64 (Lib.ctz 32 x:Nat))/\w'=w:=by
 obtain⟨hlow,hk⟩:=Lib.lowest_bit 32 x hx0 hx;obtain⟨hi,htab⟩:=Lib.deBruijn32_at _ hk;have hcell:=hT _ hi;rw[htab] at hcell;exact UI x _ _ w (by simp;omega) (YL x _ hx hx0 hlow) hi hk hcell
def lo(n:Nat):Nat:=if h:n=0 then 0 else if n%2=1 then 0 else lo (n/2)+1
termination_by n
decreasing_by omega
theorem CX:lo 0=0:=by rw[lo];simp
theorem PV(m:Nat):lo (2*m+1)=0:=by rw[lo];simp
theorem Kh(i m:Nat):lo (2^i*(2*m+1))=i:=by
 induction i with
 | zero=>rw[gK,jq];exact PV m
 | succ i ih =>
   have h:2^(i+1)*(2*m+1)=2*(2^i*(2*m+1)):=by rw[fC];grind
   have hp:0<2^i*(2*m+1):=iq (aZ i) ae;rw[h,lo,dif_neg ae,if_neg ae,Bh _ aj,ih]
theorem PW(xs:List Nat)(k:Nat)(hx:Wf xs)(hk:k<xs.length)(h0:sg xs 0 k=0)(hw:xs.getD k 0≠0):lo (val xs)=32*k+Lib.ctz 32 (xs.getD k 0):=by
 have hl:=hx.get k;obtain⟨m,hm,hc⟩:=Lib.ctzFrom_spec 32 (xs.getD k 0) ae hl;have hcz:Lib.ctz 32 (xs.getD k 0)=Lib.ctzFrom 32 (xs.getD k 0):=by simp only[Lib.ctz,if_neg hw]
 rw[hcz];obtain⟨c,hc'⟩:∃ c,Lib.ctzFrom 32 (xs.getD k 0)=c:=⟨_,rfl⟩;rw[hc'] at hm hc |-;have e:=gZ xs k ae;rw[<-kX,h0,eP,fD xs k hk,hm] at e
 have e2:4294967296=2^c*(2*2^(31-c)):=by
  rw[<-aM,cu (2^c) 2,aM,<-aJ,show c+(31-c)=31 by omega]
 have e3:val xs=2^(32*k+c)*(2*(m+2^(31-c)*val (xs.drop (k+1)))+1):=by
  rw[e,aJ,kD];have:(2^32:Nat)^k=pw k:=rfl;rw[this];have:4294967296*val (xs.drop (k+1))=2^c*(2*2^(31-c))*val (xs.drop (k+1)):=by rw[<-e2]
  rw[this]
  grind
 rw[e3,Kh]
theorem Qa9{P:Prop}(h:P:=by
 exact⟨congrArg (fun z=>Ending.returned (Value.int IntKind.i64 z)) ae,rfl⟩):P:=h
theorem UJ(xs:List Nat)(ao:Option Addr)(n cap B:Nat)(w:World)(hn:n=xs.length)(hm:n<=70368744177664)(hx:Wf xs)(hR:Rd B w ao xs)(hT:dU w) :
 Calls Tryz.prog 127 #[.slice ao n cap] w fun r w'=>r=.returned (.int .i64 (lo (val xs):Nat))/\w'=w:=by
 have HT:=(hid hT);have HR:=(dC hR hn hx);clear hR hn hx hT;go_enter Tryz.func127,Tryz.ntmps127;go_wp2
 go_loopg [7] n (fun gk i wr=>∃ k:Nat,gk+k=n/\i=.int .i64 (k:Nat)/\wr=w/\Aside (sg xs 0 k=0))
 case atStart=>exact⟨0,ae,rfl,rfl,fK _ _⟩
 case round =>
  obtain⟨k,Ex,rfl,rfl,HA⟩:=hrel
  by_cases hk:k<n
  · obtain⟨hR,hn,hx⟩:=HR.o;obtain⟨b,ik,Pb,rfl,hbc⟩:=hR (by intro e;subst e;simp at hn;omega);have hbk:=hbc k ae;obtain⟨x,iB⟩:∃ x:Nat,xs.getD k 0=x:=⟨_,rfl⟩;have hxl:x<4294967296:=iB ▸ hx.get _;rw[iB] at hbk
    by_cases h0:x=0
    · subst h0;have HX:=(aA iB);clear iB hR hn hx hbc;go_wp2;go_roundg (gk-1)
      case measure=>omega
      case rel =>
       obtain⟨hR,hn,hx⟩:=HR.o;refine⟨k+1,ae,by go_num,rfl,?_⟩;have h1:=HA.o;rw[Aside,bZ xs 0 k ae,eP,HX.o,h1];omega
    · have hz:=PW xs k hx ae HA.o (by rw[iB];exact h0);rw[iB] at hz;obtain⟨hc,hc32⟩:=Lib.lowest_bit 32 x h0 hxl;have H:=hid (YM x hxl h0 wr HT.o);obtain⟨c,hcc⟩:∃ c,Lib.ctz 32 x=c:=⟨_,rfl⟩;rw[hcc] at H hz hc32;have HZ:=(aA hz);clear iB hR hn hx hbc hc hz hcc;go_wp2_with fail;refine H.o.mono ?_;rintro r w1 ⟨rfl,rfl⟩;go_wp2;go_ret;rw[HZ.o];exact Qa9
  · obtain rfl:k=n:=ae
    obtain⟨hR,hn,hx⟩:=HR.o;have h1:=HA.o;have h2:val xs=0:=by rw[<-eQ,<-hn];exact h1
    have H2:=(aA h2);clear hR hn hx h1 h2 HA HR;go_wp2;go_ret;rw[H2.o,CX];exact⟨rfl,rfl⟩
theorem eF(z:Int)(n:Nat)(hz:z=(n:Int))(hn:n<=70368744177664)(w:World) :
 (Instr.makeSlice 23 (.int .i64 z) (.int .i64 z)).run Tryz.prog w=.ok (.slice (some ⟨w.heap.size,0,none⟩) n n) (w.alloc (.cells (madeCells #[.int .u32 0] n) 51)):=by
 subst hz;exact run_make_row' 23 51 (.int .u32 0) 4 Tryz.underlying23 Tryz.Ib rfl .i64 .i64 n ae ae w
theorem Own.made(w:World)(n:Nat):Own (w.alloc (.cells (madeCells #[.int .u32 0] n) 51)) w.heap.size (List.replicate n 0):=by
 unfold Own;have h1:=gY w (.cells (madeCells #[.int .u32 0] n) 51);rw[h1];congr 2;apply Array.toList_inj.1;rw[toList_madeCells_one];simp[U]
theorem Rd.drop{B:Nat}{w:World}{b off:Nat}{xs:List Nat}(h:Rd B w (some ⟨b,off,none⟩) xs)(k:Nat):Rd B w (some ⟨b,off+k,none⟩) (xs.drop k):=by
 intro hx;have hx':xs≠[]:=by intro e;subst e;simp at hx
 obtain⟨b',off',hlt,e,hc⟩:=h hx'
 cases e
 refine⟨b,off+k,hlt,rfl,fun i hi=>?_⟩;simp only[sZ] at hi;rw[pR,hc (k+i) ae];simp[fF]
theorem kG (w:World) (g dLen dCap:Nat) (ao:Option Addr) (sLen sCap B:Nat) (ty:TypeId)
 (L xs:List Nat) (hO:Own w g L) (hL:dLen<=L.length) (hx:sLen=xs.length) (hR:Rd B w ao xs) (hle:sLen<=dLen) :
 ∃ w',(Builtin.copy_ #[23,23] ty #[.slice (some ⟨g,0,none⟩) dLen dCap,.slice ao sLen sCap]).run Tryz.prog w=.ok (.int .i64 (sLen:Int)) w'/\Own w' g (xs++L.drop sLen)/\But g w w':=by
 subst hx;have hmin:Nat.min xs.length dLen=xs.length:=iO hle
 by_cases h0:xs=[]
 · subst h0;exact⟨w,run_copy_none (P:=Tryz.prog) w 23 23 ty 51 _ _ _ _ _ _ Tryz.underlying23 df (by simp at hmin |-),by simpa using hO,But.refl _ _⟩
 · obtain⟨b,off,hlt,rfl,hc⟩:=hR h0;have hadd:∀ j,(⟨b,off,none⟩:Addr).add j=⟨b,off+j,none⟩:=by intro j;unfold Addr.add;split <;> simp_all
   have hrun:=run_copy_row (P:=Tryz.prog) w 23 23 ty 51 g 0 dLen dCap ⟨b,off,none⟩ xs.length sCap (L.map U).toArray 51 (xs.map U) Tryz.underlying23 df hO (by rw[hmin];simp) (by
    intro j v hv;rw[hadd]
    have hj:j<xs.length:=by
     have:=(Hm.1 hv).1;simpa using this
    rw[hc j hj];simp[hj,U] at hv
    simp[hj,<-hv]) (by simp;omega) (by
    intro v hv;obtain⟨n,_,rfl⟩:=yx.1 hv
    rfl)
   refine⟨w.setRow g (((xs++L.drop xs.length).map U)).toArray,?_,setRow_heap w g _ _ 51 _ hO,⟨rfl,rfl,rfl,by simp[World.setRow],fun k _ hk=>setRow_other w g k _ hk⟩⟩;simpa [yg,List.map_drop,goInt] using hrun
theorem ED(xs:List Nat)(ao:Option Addr)(n cap B:Nat)(w:World)(hn:n=xs.length)(hc:n<=cap)(hm:n<=70368744177664)(hx:Wf xs)(hR:Rd B w ao xs)(hB:B<=w.heap.size) :
 Calls Tryz.prog 184 #[.slice ao n cap] w fun r w'=>r=.returned (.slice (some ⟨w.heap.size,0,none⟩) (ws (val xs)).length (ws (val xs)).length)/\Own w' w.heap.size (ws (val xs))/\Below w.heap.size w w':=by
 have H:=hid (fG xs ao n cap B w hn hc ae hR);have hl:nl xs<=n:=by rw[hn];exact kW xs
 obtain⟨k,hk⟩:∃ k,nl xs=k:=⟨_,rfl⟩;have HF:Aside (xs.take k=ws (val xs)):=by rw[<-hk];exact oU xs hx
 have HR:Aside (Rd B w ao (xs.take k)/\k=(xs.take k).length):=⟨hR.take k,by rw[ig];omega⟩;rw[hk] at H hl;rw[<-HF.o];have hmk:=eF (k:Int) k rfl ae;have HO:=Own.made w k;have HO2:Hid (Own (w.alloc (.cells (madeCells #[.int .u32 0] k) 51)) w.heap.size (List.replicate k 0)):=HO;clear hk hR hn hx HO;go_enter Tryz.func184,Tryz.ntmps184;go_wp2_with fail;refine H.o.mono ?_;rintro r w1 ⟨rfl,rfl⟩;obtain⟨w2,hcp,hO2,aI⟩:=kG _ w1.heap.size k k ao k cap B 3 (List.replicate k 0) (xs.take k) HO2.o aQ HR.o.2 (HR.o.1.below ((aD _ _).alloc hB _)) (aC _);have HH:=hid (ai hO2 aI);clear hO2 aI HO2;go_wp2;go_ret;obtain⟨hO2,aI⟩:=HH.o;rw[<-HR.o.2];refine⟨rfl,by simpa using hO2,But.below ((aD _ _).alloc (aC _) _) aI aQ (aC _)⟩
theorem mf(rest:Nat)(h:rest<32):2^rest*2^(32-rest)=4294967296:=by
 rw[<-aJ,show rest+(32-rest)=32 by omega]
theorem YN(x y rest:Nat)(hr:rest<32)(hx:x<2^rest):x ||| (y*2^rest%4294967296)=x+y*2^rest%4294967296:=by
 have e:y*2^rest%4294967296=2^rest*(y%2^(32-rest)):=by
  rw[<-mf rest hr,cu y,Nat.mul_mod_mul_left]
 rw[e,Nat.or_comm,<-Hl hx,pV]
theorem YO(y rest:Nat)(hy:y<4294967296):y*2^rest/4294967296<2^rest:=by
 rw[rE aj,cu];exact rG hy (aZ _)
theorem rZ(rest:Nat)(h:rest<32):2^rest<=2147483648:=by
 have:2^rest<=2^31:=fe aj ae;omega
theorem up_lt(y rest:Nat)(hy:y<4294967296)(hr:rest<32):y*2^rest<18446744073709551616:=by
 have h:=rZ rest hr;have:y*2^rest<=4294967295*2147483648:=kC ae h;omega
theorem Mc(n:Int)(h0:0<=n)(h1:n<18446744073709551616):IntKind.u64.wrap n=n:=by
 rw[nJ];omega
theorem nL(words rest:Nat):2^(32*words+rest)=pw words*2^rest:=by
 rw[aJ,kD];rfl
theorem UK(p S x t q b s d y r:Nat)(hS:S+p*x=b*r)(ht:t=y*r)(hs:s=x+t%4294967296)(hd:d=t/4294967296):S+p*s+4294967296*p*d=(b+p*y)*r:=by
 have e:t%4294967296+4294967296*d=t:=by rw[hd];exact Nat.mod_add_div _ _
 have e2:p*s+4294967296*p*d=p*x+p*t:=by
  have:p*(s+4294967296*d)=p*(x+t):=by rw[hs];congr 1;omega
  grind
 have e3:(b+p*y)*r=b*r+p*t:=by rw[ht];grind
 omega
theorem yN(xs:List Nat)(hx:Wf xs)(k:Nat)(hk:nl xs=k+1):val xs=sg xs 0 k+pw k*xs.getD k 0/\sg xs 0 k<pw k/\xs.getD k 0≠0/\k<xs.length:=by
 have hl:=kW xs;have h1:=mP xs hx;rw[hk,nK xs k ae,<-kX] at h1;have h2:=J8 xs ae;rw[hk,mI] at h2;exact⟨h1.symm,qb xs 0 k hx ae,h2,ae⟩
theorem EF(xs:List Nat)(hx:Wf xs)(k:Nat)(hk:nl xs=k+1):bl (val xs)=32*k+bl (xs.getD k 0):=by
 obtain⟨e,hlt,h0,hl⟩:=yN xs hx k hk;obtain⟨t,ht⟩:∃ t,xs.getD k 0=t:=⟨_,rfl⟩;rw[ht] at e h0 |-;obtain⟨c,hc⟩:∃ c,bl t=c+1:=⟨bl t-1,by have:=eu t h0;omega⟩;have h1:=iU t h0;have h2:=iT t;rw[hc] at h1 h2 |-;rw[mI] at h1;have p1:2^(32*k+c)=pw k*2^c:=nL k c;have p2:2^(32*k+c+1)=pw k*2^(c+1):=by rw[pR,nL]
 have:=Ez (val xs) (32*k+c) (by
  rw[p1,e];have:=iw (pw k) h1
  omega) (by
  rw[p2,e];have:pw k*(t+1)<=pw k*2^(c+1):=iw (pw k) ae;rw[kz] at this
  omega)
 omega
theorem qO(xs:List Nat)(ao:Option Addr)(n cap B:Nat)(w:World)(hn:n=xs.length)(hc:n<=cap)(hm:n<=70368744177664)(hx:Wf xs)(hR:Rd B w ao xs) :
 Calls Tryz.prog 93 #[.slice ao n cap] w fun r w'=>r=.returned (.int .i64 (bl (val xs):Nat))/\w'=w:=by
 have H:=hid (fG xs ao n cap B w hn hc ae hR);have hl:=kW xs;rcases hk:nl xs with _|k
 · rw[(jN xs).1 hk,dZ];rw[hk] at H;clear hk hl hn hx hR;go_enter Tryz.func93,Tryz.ntmps93;go_wp2_with fail;refine H.o.mono ?_;rintro r w1 ⟨rfl,rfl⟩;go_wp2;go_ret;exact⟨rfl,rfl⟩
 · rw[EF xs hx k hk];rw[hk] at H hl;obtain⟨e,hlt,h0,hl2⟩:=yN xs hx k hk;obtain⟨b,off,hB,rfl,hcell⟩:=hR (by intro e;subst e;simp at hl);have hck:=hcell k hl2;obtain⟨t,ht⟩:∃ t,xs.getD k 0=t:=⟨_,rfl⟩;have htl:t<4294967296:=ht ▸ hx.get k;rw[ht] at hck |-;have H2:=hid (BH t w htl);have hb:=xJ t htl;obtain⟨c,hc'⟩:∃ c,bl t=c:=⟨_,rfl⟩;rw[hc'] at H2 hb |-;have hkn:k<n:=ae
   clear hk hl hn hx hR e hlt h0 hl2 hcell ht hc';go_enter Tryz.func93,Tryz.ntmps93;go_wp2_with fail;refine H.o.mono ?_;rintro r w1 ⟨rfl,rfl⟩;go_wp2_with fail;refine H2.o.mono ?_;rintro r w1 ⟨rfl,rfl⟩;go_wp2;go_ret;exact Qa9
theorem r9(x:Nat)(w:World)(hx:x<18446744073709551616) :
 Calls Tryz.prog 91 #[.int .u64 (x:Int)] w fun r w'=>∃ v,r=.returned v/\Nt w.heap.size w' v x/\Below w.heap.size w w':=by
 obtain⟨a,ha⟩:=ah (x%4294967296);obtain⟨b,hb⟩:=ah (x/4294967296);have e1:(x:Int)%4294967296=(a:Int):=ae
 have e2:(x:Int)/4294967296=(b:Int):=ae
 have hx2:(x:Int)<18446744073709551616:=ae
 have hO:Own (w.alloc (.cells #[.int .u32 (a:Int),.int .u32 (b:Int)] 51)) w.heap.size [a,b]:=by
  unfold Own;rw[gY];rfl
 have hW:Wf [a,b]:=Wf.cons ae (Wf.cons ae Wf.nil);have hv:val [a,b]=x:=by simp only[val];omega
 have T:=hid (fG [a,b] (some ⟨w.heap.size,0,none⟩) 2 2 (w.heap.size+1) _ rfl ae ae (by simpa using Rd.iA hO 0 2));have HH:=(dC hO hW hv);clear hO hW hv ha hb hx;go_enter Tryz.func91,Tryz.ntmps91;go_wp2_with fail;refine T.o.mono ?_;rintro r w1 ⟨rfl,rfl⟩;go_wp2;go_ret;obtain⟨hO,hW,hv⟩:=HH.o;refine⟨_,rfl,?_,(aD _ _).alloc (aC _) _⟩;have N:=Nt.iA (lo:=w.heap.size) hO (aC _) hW (by simp[maxLen]);rw[hv] at N;exact N
theorem Own.but{w w':World}{g k:Nat}{L:List Nat}(h:Own w k L)(hb:But g w w')(hk:k≠g):Own w' k L:=by
 have:=h.lt;unfold Own at h |-;rw[hb.block k this hk];exact h
def Apart(v1 v2:Value):Prop:=∀ g,v1.ownBlock=some g->v2.ownBlock≠some g
theorem Nt.lt{lo:Nat}{w:World}{v:Value}{X:Nat}(h:Nt lo w v X):∀ g,v.ownBlock=some g->lo<=g/\g<w.heap.size:=fun g hg=>World.ownsRow.lt h g hg
theorem tL{lo m hi:Nat}{w w2:World}{v1 v2:Value}{X Y:Nat}(h1:Nt lo w v1 X)(h2:Nt m w2 v2 Y)(hm:w.heap.size<=m):Apart v1 v2:=by
 intro g hg e;have a:=(h1.lt g hg).2;have b:=(h2.lt g e).1;omega
theorem nZ(v:Value):Apart (.slice none 0 0) v:=by intro g hg;simp[Value.ownBlock] at hg
theorem PX(p b q V o a c:Nat):b*p*q*V+(a+p*(o*V+c))=p*(o+b*q)*V+(a+p*c):=by grind
theorem Ki(M:List Nat)(i k d:Nat)(hd:M.length=i+k+d)(hz:sg M (i+k) d=0):val M=sg M 0 i+pw i*sg M i k:=by
 have h1:=eQ M;rw[hd] at h1;have h2:=jF M 0 (i+k) d ae;have h3:=jF M 0 i k ae;rw[eP] at h2 h3;rw[hz,jY,fT] at h2;rw[<-h1,h2,h3]
theorem YP(Q:List Nat)(i r o:Nat)(hQ:i+1+r=Q.length):sg (Q.set i o) i (r+1)=o+4294967296*sg Q (i+1) r:=by
 have h1:=mQ (Q.set i o) i r (by simp;omega);have h2:=jr Q i o ae;have h3:=tH Q (i+1) r i o ae ae;rw[h2,h3] at h1;exact h1
theorem YQ(a p s V:Nat)(h1:a<p)(h2:s<V):a+p*s<p*V:=by
 have h:p*(s+1)<=p*V:=iw _ h2;rw[kz,fU] at h;omega
theorem PY (M M2 Q:List Nat) (i m r V o X:Nat) (hM:Wf M) (hi:i+(m+1)<=M.length) (ho:Out M M2 i (m+1))
 (hinv:X=pw (i+1)*sg Q (i+1) r*V+val M) (hz:sg M (i+(m+1)) (M.length-(i+(m+1)))=0) (hQ:i+1+r=Q.length)
 (hs:sg M i (m+1)=o*V+sg M2 i (m+1)) (hlt:sg M2 i (m+1)<V) :
 X=pw i*sg (Q.set i o) i (r+1)*V+val M2/\val M2<pw i*V:=by
 obtain⟨d,hd⟩:=ah (M.length-(i+(m+1)));rw[<-hd] at hz;have hl:M2.length=M.length:=ho.1;have e1:=Ki M i (m+1) d ae hz;have hz2:sg M2 (i+(m+1)) d=0:=by rw[ho.above (i+(m+1)) d ae ae];exact hz
 have e2:=Ki M2 i (m+1) d ae hz2;have e3:sg M2 0 i=sg M 0 i:=ho.below 0 i ae ae;have e4:=YP Q i r o hQ;have h1:=qb M 0 i hM ae;rw[e3] at e2;rw[hs] at e1;refine⟨?_,by rw[e2];exact YQ _ _ _ _ h1 hlt⟩;rw[hinv,e1,e2,e4,cO];exact PX _ _ _ _ _ _ _
theorem PZ(M:List Nat)(i m V:Nat)(hM:Wf M)(hi:i+(m+1)<=M.length)(hV:V<pw m)(hlt:val M<pw (i+1)*V) :
 sg M (i+(m+1)) (M.length-(i+(m+1)))=0/\sg M i (m+1)<V*4294967296:=by
 obtain⟨d,hd⟩:∃ d,M.length=i+(m+1)+d:=⟨M.length-(i+(m+1)),ae⟩
 have e1:val M=sg M 0 i+pw i*(sg M i (m+1)+pw (m+1)*sg M (i+(m+1)) d):=by
  rw[<-eQ M,hd,show i+(m+1)+d=i+(m+1+d) by omega,jF M 0 i (m+1+d) ae,eP,jF M i (m+1) d ae]
 rw[hd,Nat.add_sub_cancel_left];obtain⟨S,hS⟩:∃ S,sg M i (m+1)+pw (m+1)*sg M (i+(m+1)) d=S:=⟨_,rfl⟩;rw[hS] at e1
 have h1:S<4294967296*V:=by
  by_cases h:S<4294967296*V
  · exact h
  · exfalso;have:pw i*(4294967296*V)<=pw i*S:=iw _ ae;have e:pw (i+1)*V=pw i*(4294967296*V):=by rw[cO,cu 4294967296,aM]
    omega
 have h2:4294967296*V<pw (m+1):=by rw[cO];exact rG hV aj
 constructor
 · rcases jZ (sg M (i+(m+1)) d) with h | h
   · exact h
   · exfalso;have:pw (m+1)*1<=pw (m+1)*sg M (i+(m+1)) d:=iw _ h;omega
 · rw[cu];omega
theorem UL(Y m z:Nat)(hY:Y≠0)(h1:pw (m-1)*2^(31-z)<=Y)(h2:Y<pw (m-1)*2^(32-z))(hz:z<32)(hm:0<m) :
 (ws (Y*2^z)).length=m/\Y*2^z<pw m/\2147483648<=(ws (Y*2^z)).getD (m-1) 0:=by
 obtain⟨k,rfl⟩:∃ k,m=k+1:=⟨m-1,ae⟩;rw[mI] at h1 h2 |-
 have a1:pw k*2147483648<=Y*2^z:=by
  have:=eZ (2^z) h1;rw[aM,<-aJ,show 31-z+z=31 by omega] at this;exact this
 have a2:Y*2^z<pw (k+1):=by
  have:=dO h2 (aZ z);rw[aM,<-aJ,show 32-z+z=32 by omega] at this;rw[cO,cu 4294967296];exact this
 have hp:=lI k;have hl:=LK (Y*2^z) k ae a2;refine⟨hl,a2,?_⟩;have hw:=dP (Y*2^z);have hv:=ak (Y*2^z);rw[<-eQ,hl,bZ _ 0 k ae,eP] at hv;have hs:=qb (ws (Y*2^z)) 0 k hw ae
 by_cases h:2147483648<=(ws (Y*2^z)).getD k 0
 · exact h
 · exfalso;have:pw k*((ws (Y*2^z)).getD k 0+1)<=pw k*2147483648:=iw _ ae;rw[kz] at this;omega
theorem UM(X Y P q r:Nat)(hP:0<P)(h:X*P=q*(Y*P)+r)(hr:r<Y*P):q=X/Y/\r/P=X%Y:=by
 have hY:0<Y:=by
  rcases jZ Y with e|e
  · subst e;rw[dL] at hr;omega
  · exact e
 have hq:X*P/(Y*P)=q:=by
  rw[h,pV,Nat.add_mul_div_right _ _ (iq hY hP),iN hr,eP]
 have hm:X*P%(Y*P)=r:=by
  rw[h,pV,Nat.add_mul_mod_self_right,nk hr]
 rw[Nat.mul_div_mul_right _ _ hP] at hq;rw[Nat.mul_mod_mul_right] at hm;exact⟨hq.symm,by rw[<-hm,Nat.mul_div_cancel _ hP]⟩
theorem Qan{P:Prop}(h:P:=by
 have N:=Nt.iA (lo:=g) HM.o (aC _) dQ (by rw[iF];unfold maxLen;omega);rw[<-e4,<-hg];rw[iF] at N;exact N):P:=h
theorem CY (xs:List Nat) (ao:Option Addr) (n cap B by' words rest:Nat) (w:World) (hn:n=xs.length) (hc:n<=cap) (hby:by'=32*words+rest) (hrest:rest<32) (hbig:words+n<=70368744177663)
 (hx:Wf xs) (hR:Rd B w ao xs) (hB:B<=w.heap.size) :
 Calls Tryz.prog 170 #[.slice ao n cap,.int .i64 (by':Nat)] w fun r w'=>∃ v,r=.returned v/\Nt w.heap.size w' v (val xs*2^by')/\Below w.heap.size w w':=by
 obtain⟨W1,hW1⟩:=ah (w.alloc (.cells (madeCells #[.int .u32 0] (words+n+1)) 51));have oM:Own W1 w.heap.size (List.replicate (words+n+1) 0):=by rw[hW1];exact Own.made w _
 have hB1:Below w.heap.size w W1:=by rw[hW1];exact(aD _ _).alloc (aC _) _
 have hmk:=eF ((words:Int)+n+1) (words+n+1) ae ae w;rw[<-hW1] at hmk;have Ak:Rd B W1 ao xs:=hR.below (hB1.mono hB);have e1:(by':Int)/32=(words:Int):=ae
 have e2:(by':Int)%32=(rest:Int):=ae
 obtain⟨g,hg⟩:=ah (w.heap.size);rw[<-hg] at oM hmk hB1 hB;have HR:=(jJ Ak hx hn hB1 hg hby);have HO:=hid oM;clear hn hx hR oM hB1 hW1 Ak hg hby;go_enter Tryz.func170,Tryz.ntmps170;go_wp2
 go_loopg [23] n (fun gk i wr=>∃ (k:Nat) (M:List Nat),gk+k=n/\i=.int .i64 (k:Nat) /\
  Hid (Own wr g M)/\Aside (Wf M/\M.length=words+n+1/\sg M 0 words=0/\M.getD (words+k) 0<2^rest/\sg M words (k+1)=sg xs 0 k*2^rest/\But g W1 wr))
 case atStart=>exact⟨0,_,ae,rfl,HO,Wf.zeros _,aQ,tJ _ _ _,by rw[yJ];exact aZ _,by rw[tJ,fK];simp,But.refl _ _⟩
 case round =>
  obtain⟨k,M,Ex,rfl,HM,HA⟩:=hrel
  by_cases hk:k<n
  · obtain⟨hR,hx,hn,hB1,hg,hby⟩:=HR.o;obtain⟨dQ,iF,hM0,hMt,hMs,aI⟩:=HA.o;have UN:g<=W1.heap.size:=by have:=hB1.size;omega
    obtain⟨b,ik,Pb,rfl,hbc⟩:=hR (by intro e;subst e;simp at hn;omega)
    have hbk:wr.cell? ⟨b,ik+k,none⟩=some (.int .u32 ((xs.getD k 0:Nat):Int)):=by
     have h1:=aI.block b (mO W1 ⟨b,ik+k,none⟩ (hbc k ae)) ae;exact zj
    obtain⟨y,hy⟩:∃ y:Nat,xs.getD k 0=y:=⟨_,rfl⟩;have hyl:y<4294967296:=hy ▸ hx.get _;rw[hy] at hbk;have hgc:=HM.o.cell (words+k) ae;have hgf:=HM.o.frozen (words+k);have hgf2:=HM.o.frozen (words+k+1);have hgc2:=HM.o.cell (words+k+1) ae;obtain⟨x,iB⟩:∃ x:Nat,M.getD (words+k) 0=x:=⟨_,rfl⟩;have hxl:x<4294967296:=iB ▸ dQ.get _;rw[iB] at hgc;obtain⟨t,ht⟩:∃ t:Nat,t=y*2^rest:=⟨_,rfl⟩;have htl:t<18446744073709551616:=by rw[ht];exact up_lt y rest hyl hrest
    have e3:IntKind.u64.wrap ((y:Int)*2^rest)=(t:Int):=by
     have ec:(y:Int)*2^rest=(t:Int):=by rw[ht,gM,Int.natCast_pow];rfl
     rw[ec];exact Mc _ ae ae
    obtain⟨s,hs⟩:∃ s:Nat,s=x+t%4294967296:=⟨_,rfl⟩;obtain⟨d,hd⟩:∃ d:Nat,d=t/4294967296:=⟨_,rfl⟩;have e4':x ||| (t%4294967296)=s:=by rw[hs,ht];exact YN x y rest hrest (by rw[<-iB];exact hMt)
    have e4:bits BinOp.or IntKind.u32 (x:Int) ((t:Int)%4294967296)=(s:Int):=by
     have:=or32 x (t%4294967296) hxl ae;rw[e4'] at this;rw[<-this];simp
    have e5:(t:Int)/4294967296=(d:Int):=ae
    have htl':(t:Int)<18446744073709551616:=ae
    have hsl:s<4294967296:=by rw[<-e4'];exact Nat.or_lt_two_pow (n:=32) hxl ae
    have HX:=(nU hy hn iB ht hs hd hsl);clear hy iB hR hx hn hB1 hg dQ iF hM0 hMt hMs aI hbc UN hby ht hs hd htl e4' hsl;go_wp2;go_roundg (gk-1)
    case measure=>omega
    case rel =>
     obtain⟨hy,hn,iB,ht,hs,hd,hsl⟩:=HX.o;obtain⟨dQ,iF,hM0,hMt,hMs,aI⟩:=HA.o;have hdl:d<2^rest:=by rw[hd,ht];exact YO y rest hyl
     have h2:=rZ rest hrest;refine⟨k+1,(M.set (words+k) s).set (words+k+1) d,ae,by go_num,(HM.o.set _ _).set _ _,(dQ.set _ _ hsl).set _ _ ae,by simp[iF],?_,?_,?_,(aI.set _ _).set _ _⟩
     · rw[oZ _ _ _ _ _ ae (by simp;omega),oZ _ _ _ _ _ ae ae];exact hM0
     · rw[show words+(k+1)=words+k+1 by omega,jr _ _ _ (by simp;omega)];exact hdl
     · have e1:=di (M.set (words+k) s) words (k+1) d (by simp;omega);rw[show words+(k+1)=words+k+1 by omega] at e1;rw[e1,di _ _ _ _ ae,bZ xs 0 k ae,eP,hy,cO];rw[bZ _ _ _ ae,iB] at hMs;exact UK (pw k) _ x t 0 _ s d y _ hMs ht hs hd
  · obtain rfl:k=n:=ae
    obtain⟨dQ,iF,hM0,hMt,hMs,aI⟩:=HA.o;have T:=hid (fG M (some ⟨g,0,none⟩) (words+k+1) (words+k+1) (g+1) wr iF.symm (aC _) ae (by simpa [iF,iR] using Rd.iA HM.o 0 (words+k+1)));clear dQ iF hM0 hMt hMs aI;go_wp2_with fail;refine T.o.mono ?_;rintro r w1 ⟨rfl,rfl⟩;go_wp2;go_ret;obtain⟨hR,hx,hn,hB1,hg,hby⟩:=HR.o;obtain⟨dQ,iF,hM0,hMt,hMs,aI⟩:=HA.o;have e3:sg xs 0 k=val xs:=by rw[hn];exact eQ xs
    have e4:val M=val xs*2^by':=by
     rw[<-eQ M,iF,show words+k+1=words+(k+1) by omega,jF M 0 words (k+1) ae,hM0,eP,eP,hMs,e3,hby,nL]
     grind
    refine⟨_,rfl,?_,?_⟩
    · exact Qan
    · rw[<-hg];exact But.below hB1 aI (by have:=hB1.size;omega) (aC _)
theorem yO(l x:Nat)(hl:l<4294967296)(hx:x<4294967296):bits BinOp.or IntKind.u64 (x:Int) ((l:Int)*4294967296)=((x+l*4294967296:Nat):Int):=by
 have e:((l:Int)*4294967296)=((l*4294967296:Nat):Int):=by simp only[gM];rfl
 rw[e,bits_or_u64_nat _ _ ae ae];have:=Hl (i:=32) (b:=x) ae l;have e2:2^32*l=l*4294967296:=by rw[cu]
 rw[e2] at this;rw[Nat.or_comm,<-this,pV]
theorem BI(L:List Nat)(i rest:Nat)(hL:Wf L)(hr:rest<32)(hi:i<L.length) :
 (val L/2^rest/pw i)%4294967296=((L.getD i 0+L.getD (i+1) 0*4294967296)/2^rest)%4294967296:=by
 have h1:val L/2^rest/pw i=val (L.drop i)/2^rest:=by
  rw[p9,cu,<-p9,gZ L i ae];have:=bM (L.take i) (hL.take i);rw[ig,iO ae] at this;rw[tq _ _ (lI i),iN this,eP]
 rw[h1,fD L i hi]
 obtain⟨R,hR⟩:∃ R,val (L.drop (i+1))=L.getD (i+1) 0+4294967296*R:=by
  by_cases h:i+1<L.length
  · exact⟨_,fD L (i+1) h⟩
  · refine⟨0,?_⟩;rw[Bj ae,fF,qi ae];rfl
 rw[hR]
 have e:L.getD i 0+4294967296*(L.getD (i+1) 0+4294967296*R)=(L.getD i 0+L.getD (i+1) 0*4294967296)+2^rest*(4294967296*(2^(32-rest)*R)):=by
  have:=mf rest hr;have:2^rest*(4294967296*(2^(32-rest)*R))=4294967296*(4294967296*R):=by rw[<-this];grind
  rw[this];omega
 rw[e,tq _ _ (aZ _),Cy]
theorem EG(V p:Nat)(hp:0<p):V%p+p*(V/p%4294967296)=V%(4294967296*p):=by
 rw[cu 4294967296,Nat.mod_mul]
theorem qS{P:Prop}(h:P:=by
 go_wp2;go_roundg (gk-1)
 case measure=>omega
 case rel =>
  obtain⟨uT,uS,hn,hB2,hg,hby,hL⟩:=HR.o;obtain⟨dQ,iF,Pd,hMs,aI⟩:=HA.o;obtain⟨hs,hsl⟩:=HX.o;refine⟨k+1,M.set k s,ae,by go_num,HM.o.set _ _,dQ.set _ _ hsl,by simp[iF],fun j hj=>?_,?_,aI.set _ _⟩
  · rw[getD_set_ne _ _ _ _ ae];exact Pd j ae
  · have e1:=di M 0 k s ae;rw[eP] at e1;rw[e1,hMs,hs,<-BI L k rest uT hrest ae,cO];exact EG _ _ (lI k)):P:=h
theorem yP (xs:List Nat) (ao:Option Addr) (n cap B by' words rest:Nat) (w:World) (hn:n=xs.length) (hc:n<=cap) (hby:by'=32*words+rest) (hrest:rest<32) (hbig:n<=70368744177663) (hby2:by'<=9223372036854775807)
 (hx:Wf xs) (hR:Rd B w ao xs) (hB:B<=w.heap.size) :
 Calls Tryz.prog 169 #[.slice ao n cap,.int .i64 (by':Nat)] w fun r w'=>∃ v,r=.returned v/\Nt w.heap.size w' v (val xs/2^by')/\Below w.heap.size w w':=by
 have e1:(by':Int)/32=(words:Int):=ae
 have e2:(by':Int)%32=(rest:Int):=ae
 by_cases hw:n<=words
 · have hv:val xs/2^by'=0:=by
    have h1:=bM xs hx;rw[<-hn] at h1
    have h2:pw n<=2^by':=by
     rw[hby,nL];have:=kL hw;have:=kC this (aZ rest);omega
    exact iN ae
   rw[hv];clear hv hn hx hR hby;go_enter Tryz.func169,Tryz.ntmps169;go_wp2;go_ret;exact⟨_,rfl,Nt.nil _ _,aD _ _⟩
 · have hwn:words<n:=ae
   obtain⟨b,ik,Pb,rfl,hbc⟩:=hR (by intro e;subst e;simp at hn;omega);obtain⟨k0,hk0⟩:=ah (n-words);obtain⟨W1,hW1⟩:=ah (w.alloc (.cells (madeCells #[.int .u32 0] (n-words)) 51));have oM:Own W1 w.heap.size (List.replicate (n-words) 0):=by rw[hW1];exact Own.made w _
   have hB1:Below w.heap.size w W1:=by rw[hW1];exact(aD _ _).alloc (aC _) _
   have hmk:=eF ((n:Int)-words) (n-words) ae ae w;rw[<-hW1] at hmk;obtain⟨W2,hcp,hO2,hb2⟩:=kG W1 w.heap.size (n-words) (n-words) (some ⟨b,ik+words,none⟩) (n-words) (cap-words) B 3 (List.replicate (n-words) 0) (xs.drop words) oM aQ (by simp;omega) ((hR.below (hB1.mono hB)).drop words) ae;have ed:(List.replicate (n-words) 0).drop (n-words)=([]:List Nat):=by simp
   rw[ed,Cz] at hO2;clear ed;have hB2:Below w.heap.size w W2:=But.below hB1 hb2 hB1.size (aC _);obtain⟨g,hg⟩:=ah (w.heap.size);rw[<-hg] at hO2 hmk hB2 hB hcp;obtain⟨L,hL⟩:=ah (xs.drop words);have uS:L.length=n-words:=by rw[hL];simp;omega
   have uT:Wf L:=by rw[hL];exact hx.drop words
   rw[<-hL] at hO2;have HR:=(nU uT uS hn hB2 hg hby hL);have hxw:=hid hx;have HO:=hid hO2;clear hn hx hR oM hB1 hW1 hg hby hO2 hB2 hL uS uT hb2 hbc hk0;go_enter Tryz.func169,Tryz.ntmps169;go_wp2
   go_loopg [30] (n-words) (fun gk i wr=>∃ (k:Nat) (M:List Nat),gk+k=n-words/\i=.int .i64 (k:Nat) /\
    Hid (Own wr g M)/\Aside (Wf M/\M.length=n-words/\(∀ j,k<=j->M.getD j 0=L.getD j 0)/\sg M 0 k=val L/2^rest%pw k/\But g W2 wr))
   case atStart=>exact⟨0,_,ae,rfl,HO,HR.o.1,HR.o.2.1,fun _ _=>rfl,by rw[fK,j3,Nat.mod_one],But.refl _ _⟩
   case round =>
    obtain⟨k,M,Ex,rfl,HM,HA⟩:=hrel
    by_cases hk:k<n-words
    · obtain⟨uT,uS,hn,hB2,hg,hby,hL⟩:=HR.o;obtain⟨dQ,iF,Pd,hMs,aI⟩:=HA.o;have hgc:=HM.o.cell k ae;have hgf:=HM.o.frozen k;obtain⟨x,iB⟩:∃ x:Nat,M.getD k 0=x:=⟨_,rfl⟩;have hxl:x<4294967296:=iB ▸ dQ.get _;rw[iB] at hgc
      by_cases hk1:k+1<n-words
      · have hgc1:=HM.o.cell (k+1) ae;obtain⟨y,rO⟩:∃ y:Nat,M.getD (k+1) 0=y:=⟨_,rfl⟩;have hyl:y<4294967296:=rO ▸ dQ.get _;rw[rO] at hgc1;obtain⟨t,ht⟩:∃ t:Nat,t=x+y*4294967296:=⟨_,rfl⟩;have e3:bits BinOp.or IntKind.u64 (x:Int) ((y:Int)*4294967296)=(t:Int):=by rw[yO y x hyl hxl,ht]
        obtain⟨s,hs⟩:∃ s:Nat,s=t/2^rest%4294967296:=⟨_,rfl⟩;have e4:(t:Int)/2^rest%4294967296=(s:Int):=by rw[hs];simp
        have hs2:s=(L.getD k 0+L.getD (k+1) 0*4294967296)/2^rest%4294967296:=by
         rw[hs,ht,<-iB,<-rO,Pd k ae,Pd (k+1) ae]
        have hsl:s<4294967296:=ae
        have HX:=(aP hs2 hsl);clear iB rO uT uS hn hB2 hg hby hL dQ iF Pd hMs aI hs hs2 hsl ht;exact qS
      · obtain⟨s,hs⟩:∃ s:Nat,s=x/2^rest:=⟨_,rfl⟩;have e4:(x:Int)/2^rest=(s:Int):=by rw[hs];simp
        have hsx:s<=x:=by rw[hs];exact p8 _ _
        have hs2:s=(L.getD k 0+L.getD (k+1) 0*4294967296)/2^rest%4294967296:=by
         have:L.getD (k+1) 0=0:=by rw[fF,qi ae];rfl
         rw[this,dL,fT,<-Pd k ae,iB,<-hs];omega
        have hsl:s<4294967296:=ae
        have HX:=(aP hs2 hsl);have e5:(s:Int)%4294967296=(s:Int):=ae
        clear iB uT uS hn hB2 hg hby hL dQ iF Pd hMs aI hs hs2;exact qS
    · obtain rfl:k=n-words:=ae
      obtain⟨dQ,iF,Pd,hMs,aI⟩:=HA.o;have T:=hid (fG M (some ⟨g,0,none⟩) (n-words) (n-words) (g+1) wr iF.symm (aC _) ae (by simpa [iF,iR] using Rd.iA HM.o 0 (n-words)));clear dQ iF Pd hMs aI;go_wp2_with fail;refine T.o.mono ?_;rintro r w1 ⟨rfl,rfl⟩;go_wp2;go_ret;obtain⟨uT,uS,hn,hB2,hg,hby,hL⟩:=HR.o;obtain⟨dQ,iF,Pd,hMs,aI⟩:=HA.o
      have e4:val M=val xs/2^by':=by
       have h1:val L<pw (n-words):=by rw[<-uS];exact bM L uT
       have h2:val L/2^rest<pw (n-words):=iP (p8 _ _) h1;rw[nk h2] at hMs;rw[<-eQ M,iF,hMs,hby,nL,<-p9];congr 1;have h3:=gZ xs words ae
       have h4:val (xs.take words)<pw words:=by
        have:(xs.take words).length=words:=by rw[ig];omega
        have h5:Wf xs:=hxw.o;have:=bM _ (h5.take words);rwa [‹(xs.take words).length=words›] at this
       rw[h3,tq _ _ (lI words),iN h4,eP,hL]
      refine⟨_,rfl,?_,?_⟩
      · exact Qan
      · rw[<-hg];exact But.below hB2 aI (by have:=hB2.size;omega) (aC _)
def Two(lo:Nat)(w:World)(r:Ending)(X Y:Nat):Prop:=∃ v u,r=.returned (.tuple #[v,u])/\Nt lo w v X/\Nt lo w u Y/\Apart v u
theorem P9 (xs ys:List Nat) (ao bo:Option Addr) (n cap m bG B:Nat) (w:World) (hn:n=xs.length) (hm:m=ys.length) (hnm:n<m) (hc:n<=cap) (hbig:n<=35184372088833)
 (hx:Wf xs) (hy:Wf ys) (htop:ys.getD (m-1) 0≠0) (hR:Rd B w ao xs) (hB:B<=w.heap.size) :
 Calls Tryz.prog 173 #[.slice ao n cap,.slice bo m bG] w fun r w'=>Two w.heap.size w' r (val xs/val ys) (val xs%val ys)/\Below w.heap.size w w':=by
 have hlt:val xs<val ys:=by
  have h1:=bM xs hx
  have h2:pw (m-1)<=val ys:=by
   have e:=bZ ys 0 (m-1) ae;rw[eP,show m-1+1=ys.length by omega,eQ] at e;have:=iw (pw (m-1)) (show 1<=ys.getD (m-1) 0 by omega);omega
  have h3:=kL (show xs.length<=m-1 by omega);omega
 have N:=hid (ED xs ao n cap B w hn hc ae hx hR hB);have HL:=(aA hlt);have hlen:Hid ((ws (val xs)).length<=n):=by rw[<-gX xs hx,hn];exact kW xs
 clear hn hm hx hy htop hR hlt;go_enter Tryz.func173,Tryz.ntmps173;go_wp2_with fail;refine N.o.mono ?_;rintro r w1 ⟨rfl,hO,hb⟩;have HO:=(aP hO hb);clear hO hb N;go_wp2
 go_ret2
 obtain⟨hO,hb⟩:=HO.o;rw[iN HL.o,nk HL.o];refine⟨⟨_,_,rfl,Nt.nil _ _,?_,nZ _⟩,hb⟩
 have T:=Nt.iA (lo:=w.heap.size) hO (aC _) (dP _) (by
  have:(ws (val xs)).length<=35184372088833:=by
   have h:=hlen.o;omega
  unfold maxLen;omega)
 rw[ak,J7] at T;exact T
theorem div_one (xs ys:List Nat) (ao bo:Option Addr) (n cap bG B:Nat) (w:World) (hn:n=xs.length) (hm:1=ys.length) (hnm:1<=n) (hc:n<=cap) (hcb:1<=bG) (hbig:n<=35184372088833)
 (hx:Wf xs) (hy:Wf ys) (htop:ys.getD 0 0≠0) (hR:Rd B w ao xs) (hS:Rd B w bo ys) (hB:B<=w.heap.size) :
 Calls Tryz.prog 173 #[.slice ao n cap,.slice bo 1 bG] w fun r w'=>Two w.heap.size w' r (val xs/val ys) (val xs%val ys)/\Below w.heap.size w w':=by
 have N:=hid (ED xs ao n cap B w hn hc ae hx hR hB);have hlen:(ws (val xs)).length<=n:=by rw[<-gX xs hx,hn];exact kW xs
 obtain⟨b,ik,Pb,rfl,hbc⟩:=hS (by intro e;subst e;simp at hm);have hb0:=hbc 0 ae;rw[fT] at hb0
 have hv:val ys=ys.getD 0 0:=by
  rw[<-eQ ys,<-hm,show(1:Nat)=0+1 from rfl,bZ ys 0 0 ae,fK,j3];simp
 have hyl:=hy.get 0;obtain⟨y,rO⟩:∃ y,ys.getD 0 0=y:=⟨_,rfl⟩;rw[rO] at hb0 hv hyl htop;rw[hv];obtain⟨k,hk⟩:∃ k,(ws (val xs)).length=k:=⟨_,rfl⟩;rw[hk] at N hlen;obtain⟨X,hX⟩:∃ X,val xs=X:=⟨_,rfl⟩;rw[hX] at N hk |-;have HH:=(aP hk hX);clear hn hm hx hy hR hS hbc hv rO hk hX;go_enter Tryz.func173,Tryz.ntmps173;go_wp2_with fail;refine N.o.mono ?_;rintro r w1 ⟨rfl,hO,hb⟩;have hb1:w1.cell? ⟨b,ik,none⟩=some (.int .u32 (y:Int)):=(hb.cell (p:=⟨b,ik,none⟩) (by exact iQ Pb hB)).trans hb0;have C:=hid (UH (ws X) w.heap.size 0 k k y w1 hO (by rw[HH.o.1];omega) (aC _) ae (dP X) hyl ae);have H1:=(aA hb);clear hO hb N hb0;go_wp2_with fail;refine C.o.mono ?_;rintro r w2 ⟨M,c,rfl,hcy,hO2,hM,hout,hsum,aI⟩;have hl:M.length=k:=by rw[hout.1];exact HH.o.1
 have T:=hid (fG M (some ⟨w.heap.size,0,none⟩) k k (w.heap.size+1) w2 hl.symm (aC _) ae (by simpa [hl,iR] using Rd.iA hO2 0 k));have H2:=(jJ hO2 hM hout hsum aI hl);clear hO2 hM hout hsum aI hl C hb1;go_wp2_with fail;refine T.o.mono ?_;rintro r w3 ⟨rfl,rfl⟩;have F:=hid (r9 c w3 ae);clear T;go_wp2_with fail;refine F.o.mono ?_;rintro r w4 ⟨vr,rfl,iX,hb4⟩;have H4:=(aP iX hb4);clear iX hb4 F;go_wp2
 go_ret2
 obtain⟨hO2,hM,hout,hsum,aI,hl⟩:=H2.o;obtain⟨iX,hb4⟩:=H4.o;have hb:=H1.o
 have hs2:X=val M*y+c:=by
  have e1:sg (ws X) 0 k=X:=by rw[<-HH.o.1,eQ,ak]
  have e2:sg M 0 k=val M:=by rw[<-hl,eQ]
  rw[e1,e2] at hsum;exact hsum
 have hq:X/y=val M:=by rw[hs2,pV,Nat.add_mul_div_right _ _ ae,iN hcy,eP]
 have hr:X%y=c:=by rw[hs2,pV,Nat.add_mul_mod_self_right,nk hcy]
 rw[hq,hr];have hsz:w.heap.size<=w3.heap.size:=dW hb.size aI.size;have Q:=Nt.iA (lo:=w.heap.size) hO2 (aC _) hM (by rw[hl];unfold maxLen;omega);rw[hl] at Q;refine⟨⟨_,_,rfl,Q.below hb4,iX.mono hsz,tL (hi:=0) Q iX (aC _)⟩,?_⟩;exact(But.below hb aI hb.size (aC _)).trans (hb4.mono hsz)
end
end Go.Proofs.YtfmfhehbdfhnbaaGreatDoor
