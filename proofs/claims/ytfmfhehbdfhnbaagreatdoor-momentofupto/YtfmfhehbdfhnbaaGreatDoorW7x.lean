import Derived.Test.YtfmfhehbdfhnbaaGreatDoorM1x
import Derived.BigQuiet
set_option linter.unusedVariables false
set_option linter.unusedSimpArgs false
set_option maxHeartbeats 16000000
set_option maxRecDepth 20000
namespace Go.Proofs.YtfmfhehbdfhnbaaGreatDoor
section
open Go.RowKit
theorem Bw (xs:List Nat) (ao:Option Addr) (n cap B:Nat) (w:World) (hn:n=xs.length) (hc:n<=cap) (hm:n<=70368744177664) (hx:Wf xs) (hR:Rd B w ao xs) (hB:B<=w.heap.size) :
 Calls Tryz.prog 184 #[.slice ao n cap] w fun r w'=>r=.returned (.slice (some ⟨w.heap.size,0,none⟩) (ws (val xs)).length (ws (val xs)).length)/\Own w' w.heap.size (ws (val xs))/\Below w.heap.size w w':=by
 have H:=hid (dV xs ao n cap B w hn hc af hR);have hl:nl xs<=n:=by rw [hn];exact jH xs
 obtain ⟨k,hk⟩:∃ k,nl xs=k:=⟨_,rfl⟩;have HF:Aside (xs.take k=ws (val xs)):=by rw [<-hk];exact mV xs hx
 have HR:Aside (Rd B w ao (xs.take k)/\k=(xs.take k).length):=⟨hR.take k,by rw [gz];omega⟩;rw [hk] at H hl;rw [<-HF.o];have hmk:=dw (k:Int) k rfl af;have HO:=Own.made w k;have WK:Hid (Own (w.alloc (.cells (madeCells #[.int .u32 0] k) 51)) w.heap.size (List.replicate k 0)):=HO;clear hk hR hn hx HO;go_enter Tryz.func184,Tryz.ntmps184;go_wp2_with fail;refine H.o.mono ?_;rintro r w1 ⟨rfl,rfl⟩;obtain ⟨w2,hcp,hO2,aH⟩:=iN _ w1.heap.size k k ao k cap B 3 (List.replicate k 0) (xs.take k) WK.o aO HR.o.2 (HR.o.1.below ((aD _ _).alloc hB _)) (aC _);have HH:=hid (ai hO2 aH);clear hO2 aH WK;go_wp2;go_ret;obtain ⟨hO2,aH⟩:=HH.o;rw [<-HR.o.2];refine ⟨rfl,by simpa using hO2,But.below ((aD _ _).alloc (aC _) _) aH aO (aC _)⟩
theorem vP (xs:List Nat) (hx:Wf xs) (k:Nat) (hk:nl xs=k+1):val xs=sg xs 0 k+pw k*xs.getD k 0/\sg xs 0 k<pw k/\xs.getD k 0≠0/\k<xs.length:=by
 have hl:=jH xs;have h1:=kL xs hx;rw [hk,lK xs k af,<-jI] at h1;have h2:=Gg xs af;rw [hk,kD] at h2;exact ⟨h1.symm,nL xs 0 k hx af,h2,af⟩
theorem Bz (xs:List Nat) (hx:Wf xs) (k:Nat) (hk:nl xs=k+1):bl (val xs)=32*k+bl (xs.getD k 0):=by
 obtain ⟨e,hlt,h0,hl⟩:=vP xs hx k hk;obtain ⟨t,ht⟩:∃ t,xs.getD k 0=t:=⟨_,rfl⟩;rw [ht] at e h0 |-;obtain ⟨c,hc⟩:∃ c,bl t=c+1:=⟨bl t-1,by have:=dI t h0;omega⟩;have h1:=gT t h0;have h2:=il t;rw [hc] at h1 h2 |-;rw [kD] at h1;have p1:2^(32*k+c)=pw k*2^c:=lN k c;have p2:2^(32*k+c+1)=pw k*2^(c+1):=by rw [pJ,lN]
 have:=Bt (val xs) (32*k+c) (by
  rw [p1,e];have:=gP (pw k) h1
  omega) (by
  rw [p2,e];have:pw k*(t+1)<=pw k*2^(c+1):=gP (pw k) af;rw [jG] at this
  omega)
 omega
theorem oG (xs:List Nat) (ao:Option Addr) (n cap B:Nat) (w:World) (hn:n=xs.length) (hc:n<=cap) (hm:n<=70368744177664) (hx:Wf xs) (hR:Rd B w ao xs) :
 Calls Tryz.prog 93 #[.slice ao n cap] w fun r w'=>r=.returned (.int .i64 (bl (val xs):Nat))/\w'=w:=by
 have H:=hid (dV xs ao n cap B w hn hc af hR);have hl:=jH xs;rcases hk:nl xs with _|k
 · rw [(iU xs).1 hk,dG];rw [hk] at H;clear hk hl hn hx hR;go_enter Tryz.func93,Tryz.ntmps93;go_wp2_with fail;refine H.o.mono ?_;rintro r w1 ⟨rfl,rfl⟩;go_wp2;go_ret;exact ⟨rfl,rfl⟩
 · rw [Bz xs hx k hk];rw [hk] at H hl;obtain ⟨e,hlt,h0,hl2⟩:=vP xs hx k hk;obtain ⟨b,off,hB,rfl,hcell⟩:=hR (by intro e;subst e;simp at hl);have hck:=hcell k hl2;obtain ⟨t,ht⟩:∃ t,xs.getD k 0=t:=⟨_,rfl⟩;have htl:t<4294967296:=ht ▸ hx.get k;rw [ht] at hck |-;have H2:=hid (yo t w htl);have hb:=ve t htl;obtain ⟨c,hc'⟩:∃ c,bl t=c:=⟨_,rfl⟩;rw [hc'] at H2 hb |-;have hkn:k<n:=af
   clear hk hl hn hx hR e hlt h0 hl2 hcell ht hc';go_enter Tryz.func93,Tryz.ntmps93;go_wp2_with fail;refine H.o.mono ?_;rintro r w1 ⟨rfl,rfl⟩;go_wp2_with fail;refine H2.o.mono ?_;rintro r w1 ⟨rfl,rfl⟩;go_wp2;go_ret;exact ⟨congrArg (fun z=>Ending.returned (Value.int IntKind.i64 z)) af,rfl⟩
theorem qf (x:Nat) (w:World) (hx:x<18446744073709551616) :
 Calls Tryz.prog 91 #[.int .u64 (x:Int)] w fun r w'=>∃ v,r=.returned v/\Nt w.heap.size w' v x/\Below w.heap.size w w':=by
 obtain ⟨a,ha⟩:=ah (x%4294967296);obtain ⟨b,hb⟩:=ah (x/4294967296);have e1:(x:Int)%4294967296=(a:Int):=af
 have e2:(x:Int)/4294967296=(b:Int):=af
 have hx2:(x:Int)<18446744073709551616:=af
 have hO:Own (w.alloc (.cells #[.int .u32 (a:Int),.int .u32 (b:Int)] 51)) w.heap.size [a,b]:=by
  unfold Own;rw [ib];rfl
 have hW:Wf [a,b]:=Wf.cons af (Wf.cons af Wf.nil);have hv:val [a,b]=x:=by simp only [val];omega
 have T:=hid (dV [a,b] (some ⟨w.heap.size,0,none⟩) 2 2 (w.heap.size+1) _ rfl af af (by simpa using Rd.fM hO 0 2));have HH:=(aZ hO hW hv);clear hO hW hv ha hb hx;go_enter Tryz.func91,Tryz.ntmps91;go_wp2_with fail;refine T.o.mono ?_;rintro r w1 ⟨rfl,rfl⟩;go_wp2;go_ret;obtain ⟨hO,hW,hv⟩:=HH.o;refine ⟨_,rfl,?_,(aD _ _).alloc (aC _) _⟩;have N:=Nt.fM (lo:=w.heap.size) hO (aC _) hW (by simp [maxLen]);rw [hv] at N;exact N
theorem Own.but {w w':World}{g k:Nat}{L:List Nat}(h:Own w k L) (hb:But g w w') (hk:k≠g):Own w' k L:=by
 have:=h.lt;unfold Own at h |-;rw [hb.block k this hk];exact h
def Apart (v1 v2:Value):Prop:=∀ g,v1.ownBlock=some g->v2.ownBlock≠some g
theorem Nt.lt {lo:Nat}{w:World}{v:Value}{X:Nat}(h:Nt lo w v X):∀ g,v.ownBlock=some g->lo<=g/\g<w.heap.size:=fun g hg=>World.ownsRow.lt h g hg
theorem qO {lo m hi:Nat}{w w2:World}{v1 v2:Value}{X Y:Nat}(h1:Nt lo w v1 X) (h2:Nt m w2 v2 Y) (hm:w.heap.size<=m):Apart v1 v2:=by
 intro g hg e;have a:=(h1.lt g hg).2;have b:=(h2.lt g e).1;omega
theorem mo (v:Value):Apart (.slice none 0 0) v:=by intro g hg;simp [Value.ownBlock] at hg
theorem LJ (p b q V o a c:Nat):b*p*q*V+(a+p*(o*V+c))=p*(o+b*q)*V+(a+p*c):=by grind
theorem Gr (M:List Nat) (i k d:Nat) (hd:M.length=i+k+d) (hz:sg M (i+k) d=0):val M=sg M 0 i+pw i*sg M i k:=by
 have h1:=dM M;rw [hd] at h1;have h2:=iM M 0 (i+k) d af;have h3:=iM M 0 i k af;rw [dS] at h2 h3;rw [hz,nG,gM] at h2;rw [<-h1,h2,h3]
theorem UN (Q:List Nat) (i r o:Nat) (hQ:i+1+r=Q.length):sg (Q.set i o) i (r+1)=o+4294967296*sg Q (i+1) r:=by
 have h1:=kP (Q.set i o) i r (by simp;omega);have h2:=iE Q i o af;have h3:=qL Q (i+1) r i o af af;rw [h2,h3] at h1;exact h1
theorem UO (a p s V:Nat) (h1:a<p) (h2:s<V):a+p*s<p*V:=by
 have h:p*(s+1)<=p*V:=gP _ h2;rw [jG,fo] at h;omega
theorem LK (M M2 Q:List Nat) (i m r V o X:Nat) (hM:Wf M) (hi:i+(m+1)<=M.length) (ho:Out M M2 i (m+1))
 (hinv:X=pw (i+1)*sg Q (i+1) r*V+val M) (hz:sg M (i+(m+1)) (M.length-(i+(m+1)))=0) (hQ:i+1+r=Q.length)
 (hs:sg M i (m+1)=o*V+sg M2 i (m+1)) (hlt:sg M2 i (m+1)<V) :
 X=pw i*sg (Q.set i o) i (r+1)*V+val M2/\val M2<pw i*V:=by
 obtain ⟨d,hd⟩:=ah (M.length-(i+(m+1)));rw [<-hd] at hz;have hl:M2.length=M.length:=ho.1;have e1:=Gr M i (m+1) d af hz;have hz2:sg M2 (i+(m+1)) d=0:=by rw [ho.above (i+(m+1)) d af af];exact hz
 have e2:=Gr M2 i (m+1) d af hz2;have e3:sg M2 0 i=sg M 0 i:=ho.below 0 i af af;have e4:=UN Q i r o hQ;have h1:=nL M 0 i hM af;rw [e3] at e2;rw [hs] at e1;refine ⟨?_,by rw [e2];exact UO _ _ _ _ h1 hlt⟩;rw [hinv,e1,e2,e4,bK];exact LJ _ _ _ _ _ _ _
theorem LM (M:List Nat) (i m V:Nat) (hM:Wf M) (hi:i+(m+1)<=M.length) (hV:V<pw m) (hlt:val M<pw (i+1)*V) :
 sg M (i+(m+1)) (M.length-(i+(m+1)))=0/\sg M i (m+1)<V*4294967296:=by
 obtain ⟨d,hd⟩:∃ d,M.length=i+(m+1)+d:=⟨M.length-(i+(m+1)),af⟩
 have e1:val M=sg M 0 i+pw i*(sg M i (m+1)+pw (m+1)*sg M (i+(m+1)) d):=by
  rw [<-dM M,hd,show i+(m+1)+d=i+(m+1+d) by omega,iM M 0 i (m+1+d) af,dS,iM M i (m+1) d af]
 rw [hd,Nat.add_sub_cancel_left];obtain ⟨S,hS⟩:∃ S,sg M i (m+1)+pw (m+1)*sg M (i+(m+1)) d=S:=⟨_,rfl⟩;rw [hS] at e1
 have h1:S<4294967296*V:=by
  by_cases h:S<4294967296*V
  · exact h
  · exfalso;have:pw i*(4294967296*V)<=pw i*S:=gP _ af;have e:pw (i+1)*V=pw i*(4294967296*V):=by rw [bK,df 4294967296,aN]
    omega
 have h2:4294967296*V<pw (m+1):=by rw [bK];exact xW hV au
 constructor
 · rcases kF (sg M (i+(m+1)) d) with h | h
   · exact h
   · exfalso;have:pw (m+1)*1<=pw (m+1)*sg M (i+(m+1)) d:=gP _ h;omega
 · rw [df];omega
theorem Qe (Y m z:Nat) (hY:Y≠0) (h1:pw (m-1)*2^(31-z)<=Y) (h2:Y<pw (m-1)*2^(32-z)) (hz:z<32) (hm:0<m) :
 (ws (Y*2^z)).length=m/\Y*2^z<pw m/\2147483648<=(ws (Y*2^z)).getD (m-1) 0:=by
 obtain ⟨k,rfl⟩:∃ k,m=k+1:=⟨m-1,af⟩;rw [kD] at h1 h2 |-
 have a1:pw k*2147483648<=Y*2^z:=by
  have:=fO (2^z) h1;rw [aN,<-aL,show 31-z+z=31 by omega] at this;exact this
 have a2:Y*2^z<pw (k+1):=by
  have:=fD h2 (bu z);rw [aN,<-aL,show 32-z+z=32 by omega] at this;rw [bK,df 4294967296];exact this
 have hp:=jQ k;have hl:=Im (Y*2^z) k af a2;refine ⟨hl,a2,?_⟩;have hw:=dz (Y*2^z);have hv:=aj (Y*2^z);rw [<-dM,hl,bJ _ 0 k af,dS] at hv;have hs:=nL (ws (Y*2^z)) 0 k hw af
 by_cases h:2147483648<=(ws (Y*2^z)).getD k 0
 · exact h
 · exfalso;have:pw k*((ws (Y*2^z)).getD k 0+1)<=pw k*2147483648:=gP _ af;rw [jG] at this;omega
theorem Qf (X Y P q r:Nat) (hP:0<P) (h:X*P=q*(Y*P)+r) (hr:r<Y*P):q=X/Y/\r/P=X%Y:=by
 have hY:0<Y:=by
  rcases kF Y with e|e
  · subst e;rw [eQ] at hr;omega
  · exact e
 have hq:X*P/(Y*P)=q:=by
  rw [h,pM,Nat.add_mul_div_right _ _ (ik hY hP),gQ hr,dS]
 have hm:X*P%(Y*P)=r:=by
  rw [h,pM,Nat.add_mul_mod_self_right,lD hr]
 rw [Nat.mul_div_mul_right _ _ hP] at hq;rw [Nat.mul_mod_mul_right] at hm;exact ⟨hq.symm,by rw [<-hm,Nat.mul_div_cancel _ hP]⟩
theorem zz (xs:List Nat) (ao:Option Addr) (n cap B by' words rest:Nat) (w:World) (hn:n=xs.length) (hc:n<=cap) (hby:by'=32*words+rest) (hrest:rest<32) (hbig:words+n<=70368744177663)
 (hx:Wf xs) (hR:Rd B w ao xs) (hB:B<=w.heap.size) :
 Calls Tryz.prog 170 #[.slice ao n cap,.int .i64 (by':Nat)] w fun r w'=>∃ v,r=.returned v/\Nt w.heap.size w' v (val xs*2^by')/\Below w.heap.size w w':=by
 obtain ⟨W1,hW1⟩:=ah (w.alloc (.cells (madeCells #[.int .u32 0] (words+n+1)) 51));have mU:Own W1 w.heap.size (List.replicate (words+n+1) 0):=by rw [hW1];exact Own.made w _
 have hB1:Below w.heap.size w W1:=by rw [hW1];exact (aD _ _).alloc (aC _) _
 have hmk:=dw ((words:Int)+n+1) (words+n+1) af af w;rw [<-hW1] at hmk;have uf:Rd B W1 ao xs:=hR.below (hB1.mono hB);have e1:(by':Int)/32=(words:Int):=af
 have e2:(by':Int)%32=(rest:Int):=af
 obtain ⟨g,hg⟩:=ah (w.heap.size);rw [<-hg] at mU hmk hB1 hB;have HR:=(iI uf hx hn hB1 hg hby);have HO:=hid mU;clear hn hx hR mU hB1 hW1 uf hg hby;go_enter Tryz.func170,Tryz.ntmps170;go_wp2
 go_loopg [23] n (fun gk i wr=>∃ (k:Nat) (M:List Nat),gk+k=n/\i=.int .i64 (k:Nat) /\
  Hid (Own wr g M)/\Aside (Wf M/\M.length=words+n+1/\sg M 0 words=0/\M.getD (words+k) 0<2^rest/\sg M words (k+1)=sg xs 0 k*2^rest/\But g W1 wr))
 case atStart=>exact ⟨0,_,af,rfl,HO,Wf.zeros _,aO,qM _ _ _,by rw [vM];exact bu _,by rw [qM,dW];simp,But.refl _ _⟩
 case round =>
  obtain ⟨k,M,Gm,rfl,HM,HA⟩:=hrel
  by_cases hk:k<n
  · obtain ⟨hR,hx,hn,hB1,hg,hby⟩:=HR.o;obtain ⟨dA,gF,hM0,hMt,hMs,aH⟩:=HA.o;have Qg:g<=W1.heap.size:=by have:=hB1.size;omega
    obtain ⟨b,fQ,K7,rfl,hbc⟩:=hR (by intro e;subst e;simp at hn;omega)
    have hbk:wr.cell? ⟨b,fQ+k,none⟩=some (.int .u32 ((xs.getD k 0:Nat):Int)):=by
     have h1:=aH.block b (lh W1 ⟨b,fQ+k,none⟩ (hbc k af)) af;exact (zw (a:=⟨b,fQ+k,none⟩) h1).trans (hbc k af)
    obtain ⟨y,hy⟩:∃ y:Nat,xs.getD k 0=y:=⟨_,rfl⟩;have hyl:y<4294967296:=hy ▸ hx.get _;rw [hy] at hbk;have hgc:=HM.o.cell (words+k) af;have hgf:=HM.o.frozen (words+k);have hgf2:=HM.o.frozen (words+k+1);have hgc2:=HM.o.cell (words+k+1) af;obtain ⟨x,fZ⟩:∃ x:Nat,M.getD (words+k) 0=x:=⟨_,rfl⟩;have hxl:x<4294967296:=fZ ▸ dA.get _;rw [fZ] at hgc;obtain ⟨t,ht⟩:∃ t:Nat,t=y*2^rest:=⟨_,rfl⟩;have htl:t<18446744073709551616:=by rw [ht];exact WG y rest hyl hrest
    have e3:IntKind.u64.wrap ((y:Int)*2^rest)=(t:Int):=by
     have ec:(y:Int)*2^rest=(t:Int):=by rw [ht,fU,Int.natCast_pow];rfl
     rw [ec];exact Iw _ af af
    obtain ⟨s,hs⟩:∃ s:Nat,s=x+t%4294967296:=⟨_,rfl⟩;obtain ⟨d,hd⟩:∃ d:Nat,d=t/4294967296:=⟨_,rfl⟩;have e4':x ||| (t%4294967296)=s:=by rw [hs,ht];exact UI x y rest hrest (by rw [<-fZ];exact hMt)
    have e4:bits BinOp.or IntKind.u32 (x:Int) ((t:Int)%4294967296)=(s:Int):=by
     have:=WE x (t%4294967296) hxl af;rw [e4'] at this;rw [<-this];simp
    have e5:(t:Int)/4294967296=(d:Int):=af
    have htl':(t:Int)<18446744073709551616:=af
    have hsl:s<4294967296:=by rw [<-e4'];exact Nat.or_lt_two_pow (n:=32) hxl af
    have HX:=(l7 hy hn fZ ht hs hd hsl);clear hy fZ hR hx hn hB1 hg dA gF hM0 hMt hMs aH hbc Qg hby ht hs hd htl e4' hsl;go_wp2;go_roundg (gk-1)
    case measure=>omega
    case rel =>
     obtain ⟨hy,hn,fZ,ht,hs,hd,hsl⟩:=HX.o;obtain ⟨dA,gF,hM0,hMt,hMs,aH⟩:=HA.o;have hdl:d<2^rest:=by rw [hd,ht];exact UJ y rest hyl
     have h2:=qd rest hrest;refine ⟨k+1,(M.set (words+k) s).set (words+k+1) d,af,by go_num,(HM.o.set _ _).set _ _,(dA.set _ _ hsl).set _ _ af,by simp [gF],?_,?_,?_,(aH.set _ _).set _ _⟩
     · rw [mW _ _ _ _ _ af (by simp;omega),mW _ _ _ _ _ af af];exact hM0
     · rw [show words+(k+1)=words+k+1 by omega,iE _ _ _ (by simp;omega)];exact hdl
     · have e1:=cB (M.set (words+k) s) words (k+1) d (by simp;omega);rw [show words+(k+1)=words+k+1 by omega] at e1;rw [e1,cB _ _ _ _ af,bJ xs 0 k af,dS,hy,bK];rw [bJ _ _ _ af,fZ] at hMs;exact Qb (pw k) _ x t 0 _ s d y _ hMs ht hs hd
  · obtain rfl:k=n:=af
    obtain ⟨dA,gF,hM0,hMt,hMs,aH⟩:=HA.o;have T:=hid (dV M (some ⟨g,0,none⟩) (words+k+1) (words+k+1) (g+1) wr gF.symm (aC _) af (by simpa [gF,ic] using Rd.fM HM.o 0 (words+k+1)));clear dA gF hM0 hMt hMs aH;go_wp2_with fail;refine T.o.mono ?_;rintro r w1 ⟨rfl,rfl⟩;go_wp2;go_ret;obtain ⟨hR,hx,hn,hB1,hg,hby⟩:=HR.o;obtain ⟨dA,gF,hM0,hMt,hMs,aH⟩:=HA.o;have e3:sg xs 0 k=val xs:=by rw [hn];exact dM xs
    have e4:val M=val xs*2^by':=by
     rw [<-dM M,gF,show words+k+1=words+(k+1) by omega,iM M 0 words (k+1) af,hM0,dS,dS,hMs,e3,hby,lN]
     grind
    refine ⟨_,rfl,?_,?_⟩
    · have N:=Nt.fM (lo:=g) HM.o (aC _) dA (by rw [gF];unfold maxLen;omega);rw [<-e4,<-hg];rw [gF] at N;exact N
    · rw [<-hg];exact But.below hB1 aH (by have:=hB1.size;omega) (aC _)
theorem vQ (l x:Nat) (hl:l<4294967296) (hx:x<4294967296):bits BinOp.or IntKind.u64 (x:Int) ((l:Int)*4294967296)=((x+l*4294967296:Nat):Int):=by
 have e:((l:Int)*4294967296)=((l*4294967296:Nat):Int):=by simp only [fU];rfl
 rw [e,bits_or_u64_nat _ _ af af];have:=DU (i:=32) (b:=x) af l;have e2:2^32*l=l*4294967296:=by rw [df]
 rw [e2] at this;rw [Nat.or_comm,<-this,pM]
theorem yt (L:List Nat) (i rest:Nat) (hL:Wf L) (hr:rest<32) (hi:i<L.length) :
 (val L/2^rest/pw i)%4294967296=((L.getD i 0+L.getD (i+1) 0*4294967296)/2^rest)%4294967296:=by
 have h1:val L/2^rest/pw i=val (L.drop i)/2^rest:=by
  rw [nH,df,<-nH,fJ L i af];have:=dh (L.take i) (hL.take i);rw [gz,jf af] at this;rw [qF _ _ (jQ i),gQ this,dS]
 rw [h1,dU L i hi]
 obtain ⟨R,hR⟩:∃ R,val (L.drop (i+1))=L.getD (i+1) 0+4294967296*R:=by
  by_cases h:i+1<L.length
  · exact ⟨_,dU L (i+1) h⟩
  · refine ⟨0,?_⟩;rw [xY af,eP,nR af];rfl
 rw [hR]
 have e:L.getD i 0+4294967296*(L.getD (i+1) 0+4294967296*R)=(L.getD i 0+L.getD (i+1) 0*4294967296)+2^rest*(4294967296*(2^(32-rest)*R)):=by
  have:=jY rest hr;have:2^rest*(4294967296*(2^(32-rest)*R))=4294967296*(4294967296*R):=by rw [<-this];grind
  rw [this];omega
 rw [e,qF _ _ (bu _),y9]
theorem BA (V p:Nat) (hp:0<p):V%p+p*(V/p%4294967296)=V%(4294967296*p):=by
 rw [df 4294967296,Nat.mod_mul]
theorem vR (xs:List Nat) (ao:Option Addr) (n cap B by' words rest:Nat) (w:World) (hn:n=xs.length) (hc:n<=cap) (hby:by'=32*words+rest) (hrest:rest<32) (hbig:n<=70368744177663) (hby2:by'<=9223372036854775807)
 (hx:Wf xs) (hR:Rd B w ao xs) (hB:B<=w.heap.size) :
 Calls Tryz.prog 169 #[.slice ao n cap,.int .i64 (by':Nat)] w fun r w'=>∃ v,r=.returned v/\Nt w.heap.size w' v (val xs/2^by')/\Below w.heap.size w w':=by
 have e1:(by':Int)/32=(words:Int):=af
 have e2:(by':Int)%32=(rest:Int):=af
 by_cases hw:n<=words
 · have hv:val xs/2^by'=0:=by
    have h1:=dh xs hx;rw [<-hn] at h1
    have h2:pw n<=2^by':=by
     rw [hby,lN];have:=jE hw;have:=jv this (bu rest);omega
    exact gQ af
   rw [hv];clear hv hn hx hR hby;go_enter Tryz.func169,Tryz.ntmps169;go_wp2;go_ret;exact ⟨_,rfl,Nt.nil _ _,aD _ _⟩
 · have hwn:words<n:=af
   obtain ⟨b,fQ,K7,rfl,hbc⟩:=hR (by intro e;subst e;simp at hn;omega);obtain ⟨k0,hk0⟩:=ah (n-words);obtain ⟨W1,hW1⟩:=ah (w.alloc (.cells (madeCells #[.int .u32 0] (n-words)) 51));have mU:Own W1 w.heap.size (List.replicate (n-words) 0):=by rw [hW1];exact Own.made w _
   have hB1:Below w.heap.size w W1:=by rw [hW1];exact (aD _ _).alloc (aC _) _
   have hmk:=dw ((n:Int)-words) (n-words) af af w;rw [<-hW1] at hmk;obtain ⟨W2,hcp,hO2,hb2⟩:=iN W1 w.heap.size (n-words) (n-words) (some ⟨b,fQ+words,none⟩) (n-words) (cap-words) B 3 (List.replicate (n-words) 0) (xs.drop words) mU aO (by simp;omega) ((hR.below (hB1.mono hB)).drop words) af;have ed:(List.replicate (n-words) 0).drop (n-words)=([]:List Nat):=by simp
   rw [ed,List.append_nil] at hO2;clear ed;have hB2:Below w.heap.size w W2:=But.below hB1 hb2 hB1.size (aC _);obtain ⟨g,hg⟩:=ah (w.heap.size);rw [<-hg] at hO2 hmk hB2 hB hcp;obtain ⟨L,hL⟩:=ah (xs.drop words);have sw:L.length=n-words:=by rw [hL];simp;omega
   have sD:Wf L:=by rw [hL];exact hx.drop words
   rw [<-hL] at hO2;have HR:=(l7 sD sw hn hB2 hg hby hL);have YP:=hid hx;have HO:=hid hO2;clear hn hx hR mU hB1 hW1 hg hby hO2 hB2 hL sw sD hb2 hbc hk0;go_enter Tryz.func169,Tryz.ntmps169;go_wp2
   go_loopg [30] (n-words) (fun gk i wr=>∃ (k:Nat) (M:List Nat),gk+k=n-words/\i=.int .i64 (k:Nat) /\
    Hid (Own wr g M)/\Aside (Wf M/\M.length=n-words/\(∀ j,k<=j->M.getD j 0=L.getD j 0)/\sg M 0 k=val L/2^rest%pw k/\But g W2 wr))
   case atStart=>exact ⟨0,_,af,rfl,HO,HR.o.1,HR.o.2.1,fun _ _=>rfl,by rw [dW,jg,Nat.mod_one],But.refl _ _⟩
   case round =>
    obtain ⟨k,M,Gm,rfl,HM,HA⟩:=hrel
    by_cases hk:k<n-words
    · obtain ⟨sD,sw,hn,hB2,hg,hby,hL⟩:=HR.o;obtain ⟨dA,gF,K8,hMs,aH⟩:=HA.o;have hgc:=HM.o.cell k af;have hgf:=HM.o.frozen k;obtain ⟨x,fZ⟩:∃ x:Nat,M.getD k 0=x:=⟨_,rfl⟩;have hxl:x<4294967296:=fZ ▸ dA.get _;rw [fZ] at hgc
      by_cases hk1:k+1<n-words
      · have Zr:=HM.o.cell (k+1) af;obtain ⟨y,pU⟩:∃ y:Nat,M.getD (k+1) 0=y:=⟨_,rfl⟩;have hyl:y<4294967296:=pU ▸ dA.get _;rw [pU] at Zr;obtain ⟨t,ht⟩:∃ t:Nat,t=x+y*4294967296:=⟨_,rfl⟩;have e3:bits BinOp.or IntKind.u64 (x:Int) ((y:Int)*4294967296)=(t:Int):=by rw [vQ y x hyl hxl,ht]
        obtain ⟨s,hs⟩:∃ s:Nat,s=t/2^rest%4294967296:=⟨_,rfl⟩;have e4:(t:Int)/2^rest%4294967296=(s:Int):=by rw [hs];simp
        have hs2:s=(L.getD k 0+L.getD (k+1) 0*4294967296)/2^rest%4294967296:=by
         rw [hs,ht,<-fZ,<-pU,K8 k af,K8 (k+1) af]
        have hsl:s<4294967296:=af
        have HX:=(aJ hs2 hsl);clear fZ pU sD sw hn hB2 hg hby hL dA gF K8 hMs aH hs hs2 hsl ht;go_wp2;go_roundg (gk-1)
        case measure=>omega
        case rel =>
         obtain ⟨sD,sw,hn,hB2,hg,hby,hL⟩:=HR.o;obtain ⟨dA,gF,K8,hMs,aH⟩:=HA.o;obtain ⟨hs,hsl⟩:=HX.o;refine ⟨k+1,M.set k s,af,by go_num,HM.o.set _ _,dA.set _ _ hsl,by simp [gF],fun j hj=>?_,?_,aH.set _ _⟩
         · rw [getD_set_ne _ _ _ _ af];exact K8 j af
         · have e1:=cB M 0 k s af;rw [dS] at e1;rw [e1,hMs,hs,<-yt L k rest sD hrest af,bK];exact BA _ _ (jQ k)
      · obtain ⟨s,hs⟩:∃ s:Nat,s=x/2^rest:=⟨_,rfl⟩;have e4:(x:Int)/2^rest=(s:Int):=by rw [hs];simp
        have hsx:s<=x:=by rw [hs];exact nE _ _
        have hs2:s=(L.getD k 0+L.getD (k+1) 0*4294967296)/2^rest%4294967296:=by
         have:L.getD (k+1) 0=0:=by rw [eP,nR af];rfl
         rw [this,eQ,gM,<-K8 k af,fZ,<-hs];omega
        have hsl:s<4294967296:=af
        have HX:=(aJ hs2 hsl);have e5:(s:Int)%4294967296=(s:Int):=af
        clear fZ sD sw hn hB2 hg hby hL dA gF K8 hMs aH hs hs2;go_wp2;go_roundg (gk-1)
        case measure=>omega
        case rel =>
         obtain ⟨sD,sw,hn,hB2,hg,hby,hL⟩:=HR.o;obtain ⟨dA,gF,K8,hMs,aH⟩:=HA.o;obtain ⟨hs,hsl⟩:=HX.o;refine ⟨k+1,M.set k s,af,by go_num,HM.o.set _ _,dA.set _ _ hsl,by simp [gF],fun j hj=>?_,?_,aH.set _ _⟩
         · rw [getD_set_ne _ _ _ _ af];exact K8 j af
         · have e1:=cB M 0 k s af;rw [dS] at e1;rw [e1,hMs,hs,<-yt L k rest sD hrest af,bK];exact BA _ _ (jQ k)
    · obtain rfl:k=n-words:=af
      obtain ⟨dA,gF,K8,hMs,aH⟩:=HA.o;have T:=hid (dV M (some ⟨g,0,none⟩) (n-words) (n-words) (g+1) wr gF.symm (aC _) af (by simpa [gF,ic] using Rd.fM HM.o 0 (n-words)));clear dA gF K8 hMs aH;go_wp2_with fail;refine T.o.mono ?_;rintro r w1 ⟨rfl,rfl⟩;go_wp2;go_ret;obtain ⟨sD,sw,hn,hB2,hg,hby,hL⟩:=HR.o;obtain ⟨dA,gF,K8,hMs,aH⟩:=HA.o
      have e4:val M=val xs/2^by':=by
       have h1:val L<pw (n-words):=by rw [<-sw];exact dh L sD
       have h2:val L/2^rest<pw (n-words):=gN (nE _ _) h1;rw [lD h2] at hMs;rw [<-dM M,gF,hMs,hby,lN,<-nH];congr 1;have h3:=fJ xs words af
       have h4:val (xs.take words)<pw words:=by
        have:(xs.take words).length=words:=by rw [gz];omega
        have h5:Wf xs:=YP.o;have:=dh _ (h5.take words);rwa [‹(xs.take words).length=words›] at this
       rw [h3,qF _ _ (jQ words),gQ h4,dS,hL]
      refine ⟨_,rfl,?_,?_⟩
      · have N:=Nt.fM (lo:=g) HM.o (aC _) dA (by rw [gF];unfold maxLen;omega);rw [<-e4,<-hg];rw [gF] at N;exact N
      · rw [<-hg];exact But.below hB2 aH (by have:=hB2.size;omega) (aC _)
def Two (lo:Nat) (w:World) (r:Ending) (X Y:Nat):Prop:=∃ v u,r=.returned (.tuple #[v,u])/\Nt lo w v X/\Nt lo w u Y/\Apart v u
theorem LU (xs ys:List Nat) (ao bo:Option Addr) (n cap m aX B:Nat) (w:World) (hn:n=xs.length) (hm:m=ys.length) (hnm:n<m) (hc:n<=cap) (hbig:n<=35184372088833)
 (hx:Wf xs) (hy:Wf ys) (htop:ys.getD (m-1) 0≠0) (hR:Rd B w ao xs) (hB:B<=w.heap.size) :
 Calls Tryz.prog 173 #[.slice ao n cap,.slice bo m aX] w fun r w'=>Two w.heap.size w' r (val xs/val ys) (val xs%val ys)/\Below w.heap.size w w':=by
 have hlt:val xs<val ys:=by
  have h1:=dh xs hx
  have h2:pw (m-1)<=val ys:=by
   have e:=bJ ys 0 (m-1) af;rw [dS,show m-1+1=ys.length by omega,dM] at e;have:=gP (pw (m-1)) (show 1<=ys.getD (m-1) 0 by omega);omega
  have h3:=jE (show xs.length<=m-1 by omega);omega
 have N:=hid (Bw xs ao n cap B w hn hc af hx hR hB);have HL:=(ak hlt);have hlen:Hid ((ws (val xs)).length<=n):=by rw [<-fH xs hx,hn];exact jH xs
 clear hn hm hx hy htop hR hlt;go_enter Tryz.func173,Tryz.ntmps173;go_wp2_with fail;refine N.o.mono ?_;rintro r w1 ⟨rfl,hO,hb⟩;have HO:=(aJ hO hb);clear hO hb N;go_wp2
 go_ret2
 obtain ⟨hO,hb⟩:=HO.o;rw [gQ HL.o,lD HL.o];refine ⟨⟨_,_,rfl,Nt.nil _ _,?_,mo _⟩,hb⟩
 have T:=Nt.fM (lo:=w.heap.size) hO (aC _) (dz _) (by
  have:(ws (val xs)).length<=35184372088833:=by
   have h:=hlen.o;omega
  unfold maxLen;omega)
 rw [aj,Gf] at T;exact T
theorem div_one (xs ys:List Nat) (ao bo:Option Addr) (n cap aX B:Nat) (w:World) (hn:n=xs.length) (hm:1=ys.length) (hnm:1<=n) (hc:n<=cap) (hcb:1<=aX) (hbig:n<=35184372088833)
 (hx:Wf xs) (hy:Wf ys) (htop:ys.getD 0 0≠0) (hR:Rd B w ao xs) (hS:Rd B w bo ys) (hB:B<=w.heap.size) :
 Calls Tryz.prog 173 #[.slice ao n cap,.slice bo 1 aX] w fun r w'=>Two w.heap.size w' r (val xs/val ys) (val xs%val ys)/\Below w.heap.size w w':=by
 have N:=hid (Bw xs ao n cap B w hn hc af hx hR hB);have hlen:(ws (val xs)).length<=n:=by rw [<-fH xs hx,hn];exact jH xs
 obtain ⟨b,fQ,K7,rfl,hbc⟩:=hS (by intro e;subst e;simp at hm);have hb0:=hbc 0 af;rw [gM] at hb0
 have hv:val ys=ys.getD 0 0:=by
  rw [<-dM ys,<-hm,show (1:Nat)=0+1 from rfl,bJ ys 0 0 af,dW,jg];simp
 have hyl:=hy.get 0;obtain ⟨y,pU⟩:∃ y,ys.getD 0 0=y:=⟨_,rfl⟩;rw [pU] at hb0 hv hyl htop;rw [hv];obtain ⟨k,hk⟩:∃ k,(ws (val xs)).length=k:=⟨_,rfl⟩;rw [hk] at N hlen;obtain ⟨X,hX⟩:∃ X,val xs=X:=⟨_,rfl⟩;rw [hX] at N hk |-;have HH:=(aJ hk hX);clear hn hm hx hy hR hS hbc hv pU hk hX;go_enter Tryz.func173,Tryz.ntmps173;go_wp2_with fail;refine N.o.mono ?_;rintro r w1 ⟨rfl,hO,hb⟩;have hb1:w1.cell? ⟨b,fQ,none⟩=some (.int .u32 (y:Int)):=(hb.cell (p:=⟨b,fQ,none⟩) (by exact iC K7 hB)).trans hb0;have C:=hid (Qa (ws X) w.heap.size 0 k k y w1 hO (by rw [HH.o.1];omega) (aC _) af (dz X) hyl af);have H1:=(ak hb);clear hO hb N hb0;go_wp2_with fail;refine C.o.mono ?_;rintro r w2 ⟨M,c,rfl,hcy,hO2,hM,hout,hsum,aH⟩;have hl:M.length=k:=by rw [hout.1];exact HH.o.1
 have T:=hid (dV M (some ⟨w.heap.size,0,none⟩) k k (w.heap.size+1) w2 hl.symm (aC _) af (by simpa [hl,ic] using Rd.fM hO2 0 k));have H2:=(iI hO2 hM hout hsum aH hl);clear hO2 hM hout hsum aH hl C hb1;go_wp2_with fail;refine T.o.mono ?_;rintro r w3 ⟨rfl,rfl⟩;have F:=hid (qf c w3 af);clear T;go_wp2_with fail;refine F.o.mono ?_;rintro r w4 ⟨vr,rfl,fw,hb4⟩;have H4:=(aJ fw hb4);clear fw hb4 F;go_wp2
 go_ret2
 obtain ⟨hO2,hM,hout,hsum,aH,hl⟩:=H2.o;obtain ⟨fw,hb4⟩:=H4.o;have hb:=H1.o
 have hs2:X=val M*y+c:=by
  have e1:sg (ws X) 0 k=X:=by rw [<-HH.o.1,dM,aj]
  have e2:sg M 0 k=val M:=by rw [<-hl,dM]
  rw [e1,e2] at hsum;exact hsum
 have hq:X/y=val M:=by rw [hs2,pM,Nat.add_mul_div_right _ _ af,gQ hcy,dS]
 have hr:X%y=c:=by rw [hs2,pM,Nat.add_mul_mod_self_right,lD hcy]
 rw [hq,hr];have hsz:w.heap.size<=w3.heap.size:=dP hb.size aH.size;have Q:=Nt.fM (lo:=w.heap.size) hO2 (aC _) hM (by rw [hl];unfold maxLen;omega);rw [hl] at Q;refine ⟨⟨_,_,rfl,Q.below hb4,fw.mono hsz,qO (hi:=0) Q fw (aC _)⟩,?_⟩;exact (But.below hb aH hb.size (aC _)).trans (hb4.mono hsz)
theorem IK (X Y n m z:Nat) (hX:X<pw n) (hY:pw (m-1)*2^(31-z)<=Y) (hz:z<32) (hm:0<m) (hnm:m<=n):X*2^z<pw (n-m+1)*(Y*2^z):=by
 have h1:pw n=pw (n-m+1)*pw (m-1):=by rw [<-qb];congr 1;omega
 have h2:pw n<=pw (n-m+1)*Y:=by
  have h3:pw (m-1)*1<=pw (m-1)*2^(31-z):=gP _ (bu _);rw [h1];exact gP _ af
 have h3:X*2^z<pw (n-m+1)*Y*2^z:=fD af (bu z);rw [aN] at h3;exact h3
theorem Ec (ys:List Nat) (m:Nat) (hm:m=ys.length) (hy:Wf ys) (hm0:0<m) (htop:ys.getD (m-1) 0≠0) :
 ∃ z,z=32-bl (ys.getD (m-1) 0)/\z<32/\val ys≠0/\pw (m-1)*2^(31-z)<=val ys/\val ys<pw (m-1)*2^(32-z):=by
 have hl:=hy.get (m-1);have h1:=ve _ hl;have h2:=dI _ htop;have h3:=gT _ htop;have h4:=il (ys.getD (m-1) 0);have e:=bJ ys 0 (m-1) af;rw [dS,show m-1+1=ys.length by omega,dM] at e;have h5:=nL ys 0 (m-1) hy af;generalize ys.getD (m-1) 0=t at *;have hp:=jQ (m-1);have h6:pw (m-1)*2^(bl t-1)<=pw (m-1)*t:=gP _ h3;have h7:pw (m-1)*(t+1)<=pw (m-1)*2^bl t:=gP _ h4;rw [jG,fo] at h7;have h8:pw (m-1)*1<=pw (m-1)*t:=gP _ af;refine ⟨32-bl t,rfl,af,af,?_,?_⟩
 · rw [show 31-(32-bl t)=bl t-1 by omega];omega
 · rw [show 32-(32-bl t)=bl t by omega];omega
theorem LV (xs ys:List Nat) (ao bo:Option Addr) (n cap m aX B:Nat) (w:World) (hn:n=xs.length) (hm:m=ys.length) (hm2:2<=m) (hnm:m<=n) (hc:n<=cap) (hcb:m<=aX) (hbig:n<=35184372088833)
 (hx:Wf xs) (hy:Wf ys) (htop:ys.getD (m-1) 0≠0) (hR:Rd B w ao xs) (hS:Rd B w bo ys) (hB:B<=w.heap.size) :
 Calls Tryz.prog 173 #[.slice ao n cap,.slice bo m aX] w fun r w'=>Two w.heap.size w' r (val xs/val ys) (val xs%val ys)/\Below w.heap.size w w':=by
 obtain ⟨z,hz,hz32,hY0,iO,hY2⟩:=Ec ys m hm hy af htop;obtain ⟨Gn,vS,LW⟩:=Qe (val ys) m z hY0 iO hY2 hz32 af;obtain ⟨b,fQ,K7,rfl,hbc⟩:=hS (by intro e;subst e;simp at hm;omega);have hbt:=hbc (m-1) af;have htl:=hy.get (m-1);have L0:=Eb (ys.getD (m-1) 0) w htl;rw [<-hz] at L0;have U1:=hid (zz ys (some ⟨b,fQ,none⟩) m aX B z 0 z w hm hcb af hz32 af hy hS hB);obtain ⟨t,ht⟩:∃ t,ys.getD (m-1) 0=t:=⟨_,rfl⟩;rw [ht] at hbt L0 htl;have L1:=hid L0;obtain ⟨V,hV⟩:∃ V,val ys*2^z=V:=⟨_,rfl⟩;rw [hV] at Gn vS LW U1
 have hX2:val xs*2^z<pw (n+1):=by
  have h1:=dh xs hx;rw [<-hn] at h1;have h2:=qd z hz32;have h3:val xs*2^z<=pw n*2147483648:=jv af h2;have h4:pw n*2147483648<pw (n+1):=by rw [bK,df];exact fD au (jQ n)
  omega
 have Ed:=(aP _ _).2 hX2;have hst:=IK (val xs) (val ys) n m z (by rw [hn];exact dh xs hx) iO hz32 af hnm;rw [hV] at hst;have HST:=(ak hst);have HH:=(Zo hn hm hx hy hR hS Gn vS LW hV hY0 Ed);clear hst;clear L0 hn hm hx hy htop hR hS hz hY0 iO hY2 Gn vS LW hV hX2 Ed hbc ht;have hm1:(1:Int)<=(m:Int):=af
 have hmne:((m:Int)==1)=false:=by simp;omega
 go_enter Tryz.func173,Tryz.ntmps173;go_wp2_with fail;refine L1.o.mono ?_;rintro r w0 ⟨rfl,rfl⟩;go_wp2_with fail;refine U1.o.mono ?_;rintro r w1 ⟨vv,rfl,hN1,hb1⟩;obtain ⟨hn,hm,hx,hy,hR,hS,Gn,vS,LW,hV,hY0,Ed⟩:=HH.o;obtain ⟨av,cv,rfl,hcv,hcm,hRv⟩:=hN1.shape;rw [Gn] at *;obtain ⟨gu,hgu⟩:=ah (w1.heap.size);obtain ⟨W2,hW2⟩:=ah (w1.alloc (.cells (madeCells #[.int .u32 0] (n+1)) 51));have hO2:Own W2 gu (List.replicate (n+1) 0):=by rw [hW2,hgu];exact Own.made w1 _
 have hB2:Below gu w1 W2:=by rw [hW2,hgu];exact (aD _ _).alloc (aC _) _
 have hmk:=dw ((n:Int)+1) (n+1) af af w1;rw [<-hW2,<-hgu] at hmk;have hs1:=hb1.size;have hs2:=hB2.size;have hg2:=hO2.lt;have U2:=hid (zz xs ao n cap B z 0 z W2 hn hc af hz32 af hx ((hR.below (hb1.mono hB)).below (hB2.mono af)) af);have H1:=(l7 hN1 hb1 hRv hO2 hB2 hgu hg2);clear hn hm hx hy hR hS Gn vS LW hV hY0 Ed hN1 hb1 hRv hO2 hB2 hW2 hs1 hs2 L1 U1 hbt hg2 hgu;go_wp2_with fail;refine U2.o.mono ?_;rintro r W3 ⟨va,rfl,dF,hb3⟩;obtain ⟨aa,ca,rfl,hca,Zt,hRa⟩:=dF.shape;obtain ⟨hn,hm,hx,hy,hR,hS,Gn,vS,LW,hV,hY0,Ed⟩:=HH.o;obtain ⟨hN1,hb1,hRv,hO2,hB2,IL,hg2⟩:=H1.o;obtain ⟨W4,hcp,hO4,hb4⟩:=iN W3 gu (n+1) (n+1) aa (ws (val xs*2^z)).length ca W3.heap.size 3 (List.replicate (n+1) 0) (ws (val xs*2^z)) (hO2.below hb3 hg2) aO rfl hRa Ed;obtain ⟨gq,yu⟩:=ah (W4.heap.size);obtain ⟨W5,Ee⟩:=ah (W4.alloc (.cells (madeCells #[.int .u32 0] (n-m+1)) 51));have Gs:Own W5 gq (List.replicate (n-m+1) 0):=by rw [Ee,yu];exact Own.made W4 _
 have hmk5:=dw ((n:Int)-m+1) (n-m+1) af af W4;rw [<-Ee,<-yu] at hmk5;obtain ⟨L,hL⟩:=ah (ws (val xs*2^z)++(List.replicate (n+1) 0).drop (ws (val xs*2^z)).length);rw [<-hL] at hO4;have sw:L.length=n+1:=by rw [hL,A9,pI,Ba];omega
 have sD:Wf L:=by rw [hL,AZ];exact (dz _).append (Wf.zeros _)
 have DC:val L=val xs*2^z:=by rw [hL,val_append,aj,AZ,oz];simp
 have hs3:=hb3.size;have hs4:=hb4.size;have LY:gu<gq:=by rw [yu];have:=hO4.lt;omega
 have LZ:Below gu w1 W5:=by
  rw [Ee];have a1:Below gu w1 W3:=hB2.trans (hb3.mono af);have a2:Below gu w1 W4:=But.below a1 hb4 af (aC _);exact a2.alloc af _
 have L6:Own W5 gu L:=by rw [Ee];exact hO4.alloc _
 have H2:=(l7 Gs L6 sw sD DC LY LZ);have hgq1:gu<gq:=LY;clear hn hm hx hy hR hS Gn vS LW hV hY0 Ed hN1 hb1 hRv hO2 hB2 IL hg2 dF hb3 hRa hO4 hb4 yu Ee Gs hL sw sD DC hs3 hs4 LZ L6 U2 LY hca Zt;have hca2:m<=cv:=af
 have e5:((n-m:Nat):Int)=(n:Int)-m:=af
 go_wp2
 go_loopg [10] (n-m+1) (fun k i wr=>∃ (M Q:List Nat),k<=n-m+1/\i=.int .i64 ((k:Int)-1)/\Hid (Own wr gu M)/\Hid (Own wr gq Q) /\
  Aside (Wf M/\Wf Q/\M.length=n+1/\Q.length=n-m+1/\val L=pw k*sg Q k (n-m+1-k)*V+val M/\val M<pw k*V/\Below gu w1 wr))
 case atStart =>
  obtain ⟨Gs,L6,sw,sD,DC,LY,LZ⟩:=H2.o;refine ⟨L,List.replicate (n-m+1) 0,aC _,?_,L6,Gs,sD,Wf.zeros _,sw,aO,?_,?_,LZ⟩
  · first | rfl | (congr 1;omega)
  · rw [xZ,dW];simp
  · rw [DC];exact HST.o
 case round =>
  obtain ⟨M,Q,hk,rfl,HM,HQ,HA⟩:=hrel
  by_cases hk0:gk=0
  · subst hk0;obtain ⟨dA,UQ,gF,L8,hinv,zA,hbel⟩:=HA.o;have T1:=hid (dV Q (some ⟨gq,0,none⟩) (n-m+1) (n-m+1) (gq+1) wr L8.symm (aC _) af (by simpa [L8,ic] using Rd.fM HQ.o 0 (n-m+1)));have T2:=hid (dV M (some ⟨gu,0,none⟩) (n+1) (n+1) (gu+1) wr gF.symm (aC _) af (by simpa [gF,ic] using Rd.fM HM.o 0 (n+1)));have WL:=jH M
    have hRM:Rd (gu+1) wr (some ⟨gu,0,none⟩) (M.take (nl M)):=by
     have:=Rd.fM HM.o 0 (nl M);simpa using this
    have D:=hid (vR (M.take (nl M)) (some ⟨gu,0,none⟩) (nl M) (n+1) (gu+1) z 0 z wr (by rw [gz,jf WL]) af af hz32 af af (dA.take _) hRM (by have:=HM.o.lt;omega));rw [kL M dA] at D;clear dA UQ gF L8 hinv zA hbel WL hRM;go_wp2_with fail;refine T1.o.mono ?_;rintro r wt1 ⟨rfl,rfl⟩;go_wp2_with fail;refine T2.o.mono ?_;rintro r wt2 ⟨rfl,rfl⟩;go_wp2_with fail;refine D.o.mono ?_;rintro r wd ⟨vr,rfl,AQ,hbr⟩;have HD:=(aJ AQ hbr);clear AQ hbr T1 T2 D;go_wp2
    go_ret2
    obtain ⟨AQ,hbr⟩:=HD.o;obtain ⟨hn,hm,hx,hy,hR,hS,Gn,vS,LW,hV,hY0,Ed⟩:=HH.o;obtain ⟨hN1,hb1,hRv,hO2,hB2,IL,hg2⟩:=H1.o;obtain ⟨Gs,L6,sw,sD,DC,LY,LZ⟩:=H2.o;obtain ⟨dA,UQ,gF,L8,hinv,zA,hbel⟩:=HA.o;rw [jg,iD] at zA hinv;rw [Nat.sub_zero,<-L8,dM,DC,<-hV] at hinv;rw [<-hV] at zA;obtain ⟨hq,hr⟩:=Qf (val xs) (val ys) (2^z) (val Q) (val M) (bu z) hinv zA;rw [<-hq,<-hr];have hsz:w0.heap.size<=gu:=by rw [IL];exact hb1.size
    have NQ:=Nt.fM (lo:=w0.heap.size) HQ.o af UQ (by rw [L8];unfold maxLen;omega);rw [L8] at NQ;have hwr:gu<=wt2.heap.size:=by have:=HM.o.lt;omega
    refine ⟨⟨_,_,rfl,NQ.below hbr,AQ.mono af,qO (hi:=0) NQ AQ (aC _)⟩,?_⟩;exact ((hb1.trans (hbel.mono hsz))).trans (hbr.mono af)
  · obtain ⟨i,rfl⟩:∃ i,gk=i+1:=⟨gk-1,af⟩;obtain ⟨hn,hm,hx,hy,hR,hS,Gn,vS,LW,hV,hY0,Ed⟩:=HH.o;obtain ⟨hN1,hb1,hRv,hO2,hB2,IL,hg2⟩:=H1.o;obtain ⟨dA,UQ,gF,L8,hinv,zA,hbel⟩:=HA.o;obtain ⟨k,hk2⟩:∃ k,m=k+2:=⟨m-2,af⟩;obtain ⟨hz0,hhead⟩:=LM M i m V dA af vS zA
    have T:=hid (Br M (ws V) gu i (n+1-i) av m cv gu wr k hk2 HM.o af af af af dA (dz V) ((IL ▸ hRv).below hbel) (aC _)
     (by rw [show k+1=m-1 by omega];exact LW) (by rw [show k+3=m+1 by omega,aj];exact hhead))
    have hik:(i:Int)<(n:Int)-m+1:=af
    have HI:=(aJ hz0 hk2);clear hn hm hx hy hR hS Gn vS LW hV hY0 Ed hN1 hb1 hRv hO2 hB2 IL hg2 dA UQ gF L8 hinv zA hbel hz0 hhead hk2 hk0;go_wp2_with fail;rw [show i+m+1-i=m+1 by omega];refine T.o.mono ?_;rintro r w2 ⟨o,M2,rfl,ho,Qh,Qi,hout,hsum,hlt2,aH⟩;have PT:=HQ.o.but aH af;have hqc:=PT.cell i (by rw [HA.o.r3.1];omega);have hqf:=PT.frozen i;have HJ:=(rT ho Qh Qi hout hsum hlt2 aH PT);clear ho Qh Qi hout hsum hlt2 aH PT T;go_wp2;go_roundg i
    case measure=>omega
    case rel =>
     obtain ⟨ho,Qh,Qi,hout,hsum,hlt2,aH,PT⟩:=HJ.o;obtain ⟨dA,UQ,gF,L8,hinv,zA,hbel⟩:=HA.o;obtain ⟨hz0,hk2⟩:=HI.o;rw [aj] at hsum hlt2;have hQr:i+1+(n-m+1-(i+1))=Q.length:=af
     obtain ⟨hX,hlt3⟩:=LK M M2 Q i m (n-m+1-(i+1)) V o (val L) dA af hout hinv hz0 hQr hsum hlt2;refine ⟨M2,Q.set i o,af,by first | go_num | (congr 1;omega),Qh.setOther (by simp;omega) _,PT.set i o,Qi,UQ.set _ _ ho,by rw [hout.1,gF],by simp [L8],?_,hlt3,(But.below hbel aH (by have:=HM.o.lt;omega) (aC _)).setCell (by simp;omega) _⟩;rw [show n-m+1-i=n-m+1-(i+1)+1 by omega];exact hX
theorem yw (xs:List Nat):sg (xs++[0]) 0 xs.length=val xs:=by simp [sg]
theorem BH {xs:List Nat}(h:Wf xs):Wf (xs++[0]):=h.append (by intro x hx;simp at hx;omega)
theorem vT (n:Nat):(List.replicate (n+1) 0).drop n=[0]:=by rw [AZ,Nat.add_sub_cancel_left];rfl
theorem UR (xs ys:List Nat) (ao bo:Option Addr) (n cap m aX B:Nat) (w:World) (hn:n=xs.length) (hm:m=ys.length) (hnm:m<=n) (hc:n<=cap) (hcb:m<=aX) (hbig:n<=35184372088833)
 (hx:Wf xs) (hy:Wf ys) (hR:Rd B w ao xs) (hS:Rd B w bo ys) (hB:B<=w.heap.size) :
 Calls Tryz.prog 172 #[.slice ao n cap,.slice bo m aX] w fun r w'=>∃ v,r=.returned v/\Nt w.heap.size w' v (val xs+val ys)/\Below w.heap.size w w':=by
 obtain ⟨W1,hW1⟩:=ah (w.alloc (.cells (madeCells #[.int .u32 0] (n+1)) 51));have mU:Own W1 w.heap.size (List.replicate (n+1) 0):=by rw [hW1];exact Own.made w (n+1)
 have hB1:Below w.heap.size w W1:=by rw [hW1];exact (aD _ _).alloc (aC _) _
 obtain ⟨W2,hcp,hO2,hb2⟩:=iN W1 w.heap.size (n+1) (n+1) ao n cap B 3 (List.replicate (n+1) 0) xs mU aO hn (hR.below (hB1.mono hB)) af;rw [vT] at hO2;have hB2:Below w.heap.size w W2:=But.below hB1 hb2 hB1.size (aC _);have H:=hid (su (xs++[0]) ys w.heap.size 0 n (n+1) bo m aX B W2 hO2 (by simp;omega) hm af af af (BH hx) hy (hS.below (hB2.mono hB)) hB);have hmk:=dw ((n:Int)+1) (n+1) af af w;rw [<-hW1] at hmk;have HH:=(eu hn hm hx hB2 hB);clear hn hm hx hy hR hS mU hB1 hO2 hb2 hB2 hB hW1;go_enter Tryz.func172,Tryz.ntmps172;go_wp2_with fail;refine H.o.mono ?_;rintro r W3 ⟨M,c,rfl,hc1,hO3,hM,hout,hsum,aH⟩;obtain ⟨hn,hm,hx,hB2,hB⟩:=HH.o;have hl:M.length=n+1:=by rw [hout.1];simp;omega
 have hcl:=hO3.cell n af;have hfr:=hO3.frozen n;have hO4:=hO3.set n c;have T:=hid (dV (M.set n c) (some ⟨w.heap.size,0,none⟩) (n+1) (n+1) (w.heap.size+1) _ (by simp [hl]) (aC _) af (by simpa [hl,ic] using Rd.fM hO4 0 (n+1)));have HI:=(iI hc1 hO4 hM hsum aH hl);clear hn hm hx hB2 hB hc1 hO3 hM hout hsum aH hO4 H hl;go_wp2_with fail;refine T.o.mono ?_;rintro r w1 ⟨rfl,rfl⟩;go_wp2;go_ret;obtain ⟨hn,hm,hx,hB2,hB⟩:=HH.o;obtain ⟨hc1,hO4,hM,hsum,aH,hl⟩:=HI.o
 have hv:val (M.set n c)=val xs+val ys:=by
  have e:val (M.set n c)=sg (M.set n c) 0 (n+1):=by rw [<-dM];simp [hl]
  have e2:=cB M 0 n c af;rw [dS] at e2;rw [e,e2];rw [hn,yw,<-hn] at hsum;rw [df c] at hsum;exact hsum
 refine ⟨_,rfl,?_,But.below hB2 (aH.set n _) hB2.size (aC _)⟩;have N:=Nt.fM (lo:=w.heap.size) hO4 (aC _) (hM.set _ _ af) (by simp [hl];unfold maxLen;omega);rw [hv] at N;simpa [hl] using N
theorem add_lt (xs ys:List Nat) (ao bo:Option Addr) (n cap m aX B:Nat) (w:World) (hn:n=xs.length) (hm:m=ys.length) (hnm:m<n) (hc:n<=cap) (hcb:m<=aX) (hbig:n<=35184372088833)
 (hx:Wf xs) (hy:Wf ys) (hR:Rd B w ao xs) (hS:Rd B w bo ys) (hB:B<=w.heap.size) :
 Calls Tryz.prog 172 #[.slice bo m aX,.slice ao n cap] w fun r w'=>∃ v,r=.returned v/\Nt w.heap.size w' v (val xs+val ys)/\Below w.heap.size w w':=by
 obtain ⟨W1,hW1⟩:=ah (w.alloc (.cells (madeCells #[.int .u32 0] (n+1)) 51));have mU:Own W1 w.heap.size (List.replicate (n+1) 0):=by rw [hW1];exact Own.made w (n+1)
 have hB1:Below w.heap.size w W1:=by rw [hW1];exact (aD _ _).alloc (aC _) _
 obtain ⟨W2,hcp,hO2,hb2⟩:=iN W1 w.heap.size (n+1) (n+1) ao n cap B 3 (List.replicate (n+1) 0) xs mU aO hn (hR.below (hB1.mono hB)) af;rw [vT] at hO2;have hB2:Below w.heap.size w W2:=But.below hB1 hb2 hB1.size (aC _);have H:=hid (su (xs++[0]) ys w.heap.size 0 n (n+1) bo m aX B W2 hO2 (by simp;omega) hm af af af (BH hx) hy (hS.below (hB2.mono hB)) hB);have hmk:=dw ((n:Int)+1) (n+1) af af w;rw [<-hW1] at hmk;have HH:=(eu hn hm hx hB2 hB);clear hn hm hx hy hR hS mU hB1 hO2 hb2 hB2 hB hW1;go_enter Tryz.func172,Tryz.ntmps172;go_wp2_with fail;refine H.o.mono ?_;rintro r W3 ⟨M,c,rfl,hc1,hO3,hM,hout,hsum,aH⟩;obtain ⟨hn,hm,hx,hB2,hB⟩:=HH.o;have hl:M.length=n+1:=by rw [hout.1];simp;omega
 have hcl:=hO3.cell n af;have hfr:=hO3.frozen n;have hO4:=hO3.set n c;have T:=hid (dV (M.set n c) (some ⟨w.heap.size,0,none⟩) (n+1) (n+1) (w.heap.size+1) _ (by simp [hl]) (aC _) af (by simpa [hl,ic] using Rd.fM hO4 0 (n+1)));have HI:=(iI hc1 hO4 hM hsum aH hl);clear hn hm hx hB2 hB hc1 hO3 hM hout hsum aH hO4 H hl;go_wp2_with fail;refine T.o.mono ?_;rintro r w1 ⟨rfl,rfl⟩;go_wp2;go_ret;obtain ⟨hn,hm,hx,hB2,hB⟩:=HH.o;obtain ⟨hc1,hO4,hM,hsum,aH,hl⟩:=HI.o
 have hv:val (M.set n c)=val xs+val ys:=by
  have e:val (M.set n c)=sg (M.set n c) 0 (n+1):=by rw [<-dM];simp [hl]
  have e2:=cB M 0 n c af;rw [dS] at e2;rw [e,e2];rw [hn,yw,<-hn] at hsum;rw [df c] at hsum;exact hsum
 refine ⟨_,rfl,?_,But.below hB2 (aH.set n _) hB2.size (aC _)⟩;have N:=Nt.fM (lo:=w.heap.size) hO4 (aC _) (hM.set _ _ af) (by simp [hl];unfold maxLen;omega);rw [hv] at N;simpa [hl] using N
theorem Gt (xs ys:List Nat) (ao bo:Option Addr) (n cap m aX B:Nat) (w:World) (hn:n=xs.length) (hm:m=ys.length) (hc:n<=cap) (hcb:m<=aX) (hbig:n<=35184372088833) (hbig2:m<=35184372088833)
 (hx:Wf xs) (hy:Wf ys) (hR:Rd B w ao xs) (hS:Rd B w bo ys) (hB:B<=w.heap.size) :
 Calls Tryz.prog 172 #[.slice ao n cap,.slice bo m aX] w fun r w'=>∃ v,r=.returned v/\Nt w.heap.size w' v (val xs+val ys)/\Below w.heap.size w w':=by
 by_cases h:m<=n
 · exact UR xs ys ao bo n cap m aX B w hn hm h hc hcb hbig hx hy hR hS hB
 · have:=add_lt ys xs bo ao m aX n cap B w hm hn af hcb hc hbig2 hy hx hS hR hB;rw [pM] at this;exact this
end
section
theorem Zu (u v:Nat):4*u*v<=(u+v)*(u+v):=by
 rcases Nat.le_total u v with h|h
 · obtain ⟨d,rfl⟩:∃ d,v=u+d:=⟨v-u,af⟩;have:(u+(u+d))*(u+(u+d))=4*u*(u+d)+d*d:=by grind
   omega
 · obtain ⟨d,rfl⟩:∃ d,u=v+d:=⟨u-v,af⟩;have:(v+d+v)*(v+d+v)=4*(v+d)*v+d*d:=by grind
   omega
theorem UT (N A p q:Nat) (hp:0<p) (hA:p<=A) (h1:4*p*p*((A-1)*(A-1))<N) (h2:N<4*p*p*((A+1)*(A+1))) (hq:q=N/(4*p*A)) :
 N<(p*A+q+1)*(p*A+q+1)/\(p*A+q-1)*(p*A+q-1)<N:=by
 obtain ⟨u,hu⟩:=ah (p*A);have hup:p*p<=u:=by rw [hu];exact gP _ hA
 have hu0:0<u:=by rw [hu];exact ik hp af
 have e4:4*p*A=4*u:=by rw [hu,aN]
 rw [e4] at hq;have hq1:4*u*q<=N:=by rw [hq];exact Nat.mul_div_le N (4*u)
 have hq2:N<4*u*(q+1):=by
  have:=Nat.lt_mul_div_succ N (show 0<4*u by omega);rw [hq];exact this
 rw [<-hu];constructor
 · have:=Zu u (q+1);rw [show u+q+1=u+(q+1) by omega];omega
 · obtain ⟨b,hb⟩:=ah (u+q-1);rw [<-hb]
   by_cases hlt:b*b<N
   · exact hlt
   · exfalso;have hq':q+u=b+1:=af
     have g1:4*p*p*((A-1)*(A-1))=2*(p*(A-1))*(2*(p*(A-1))):=by grind
     have g2:4*p*p*((A+1)*(A+1))=4*u*u+8*u*p+4*(p*p):=by rw [hu];grind
     have g3:p*(A-1)+p=u:=by
      rw [hu];obtain ⟨a,rfl⟩:∃ a,A=a+1:=⟨A-1,af⟩;rw [kD,jG];omega
     rw [g1] at h1;rw [g2] at h2
     by_cases hc:b<=2*(p*(A-1))
     · have:=jv hc hc;omega
     · -- above 2 (u-p)
       by_cases hc2:2*u+2*p<=b
       · have h5:u+2*p+1<=q:=af
         have h6:4*u*(u+2*p+1)<=4*u*q:=gP _ h5;have h7:4*u*(u+2*p+1)=4*u*u+8*u*p+4*u:=by grind
         omega
       · -- between: (b-2u)^2<4 p^2 <= 4 u
         rcases Nat.le_total b (2*u) with hl|hl
         · obtain ⟨d,hd⟩:∃ d,2*u=b+d:=⟨2*u-b,af⟩;have hd2:d<2*p:=af
           have h8:d*d<2*p*(2*p):=qG hd2 hd2;have h9:2*p*(2*p)=4*(p*p):=by grind
           have h10:b*b+4*u*u=4*u*b+d*d:=by
            have:b=2*u-d:=af
            have e:4*u*u=2*u*(2*u):=by grind
            rw [e,hd];have e2:4*u*b=2*(2*u)*b:=by grind
            rw [e2,hd]
            grind
           have h11:4*u*q+4*u*u=4*u*b+4*u:=by
            have:4*u*(q+u)=4*u*(b+1):=by rw [hq']
            rw [jG,jG] at this;omega
           omega
         · obtain ⟨d,hd⟩:∃ d,b=2*u+d:=⟨b-2*u,af⟩;have hd2:d<2*p:=af
           have h8:d*d<2*p*(2*p):=qG hd2 hd2;have h9:2*p*(2*p)=4*(p*p):=by grind
           have h10:b*b+4*u*u=4*u*b+d*d:=by rw [hd];grind
           have h11:4*u*q+4*u*u=4*u*b+4*u:=by
            have:4*u*(q+u)=4*u*(b+1):=by rw [hq']
            rw [jG,jG] at this;omega
           omega
def IM (X c e A:Nat):Prop:=(A-1)*(A-1)<X/4^(c-e)/\X/4^(c-e)<(A+1)*(A+1)/\2^e<=A/\0<A
theorem Qj (X c e A:Nat) (he:e<=c) (hX:4^c<=X) (h:X/4^(c-e)<(A+1)*(A+1)):2^e<=A:=by
 have h1:4^e<=X/4^(c-e):=by
  rw [qH (nP au),<-aL,show e+(c-e)=c by omega];exact hX
 have h2:4^e=2^e*2^e:=by rw [<-qI]
 by_cases hlt:2^e<=A
 · exact hlt
 · exfalso;have:=jv (show A+1<=2^e by omega) (show A+1<=2^e by omega);omega
theorem Ef (X c:Nat) (h1:4^c<=X) (h2:X<4^(c+1)):IM X c 0 1:=by
 have hp:0<4^c:=nP au;have a:1<=X/4^c:=(qH hp).2 af;have b:X/4^c<4:=(qE hp).2 (by rw [gY] at h2;omega);exact ⟨by simpa using (by omega:0<X/4^c),by simpa using b,aO,af⟩
theorem IP (X c e d A q:Nat) (hX:4^c<=X) (Zv:e<d) (hd2:d<=2*e+1) (YQ:d<=c) (h:IM X c e A) (hq:q=X/2^(2*c-e-d+1)/A):IM X c d (A*2^(d-e-1)+q):=by
 obtain ⟨h1,h2,h3,h4⟩:=h;obtain ⟨k,hk⟩:∃ k,d=e+k+1:=⟨d-e-1,af⟩;obtain ⟨p,hp⟩:=ah (2^k);obtain ⟨N,hN⟩:=ah (X/4^(c-d));have hp0:0<p:=by rw [hp];exact bu _
 have e1:4^(k+1)=4*p*p:=by
  rw [hp,gY,df,aN,<-qI]
 have hNe:X/4^(c-e)=N/(4*p*p):=by
  rw [hN,<-e1,nH,<-aL];congr 2;omega
 have YR:0<4*p*p:=ik (ik au hp0) hp0;rw [hNe] at h1 h2
 have g1:4*p*p*((A-1)*(A-1))<N:=by
  have:=(qH YR).1 h1;rw [df];rw [Nat.succ_mul] at this;omega
 have g2:N<4*p*p*((A+1)*(A+1)):=by
  rw [df];exact (qE YR).1 h2
 have hq':q=N/(4*p*A):=by
  have e2:2^(2*c-e-d+1)=4^(c-d)*(4*p):=by
   have:(4:Nat)=2^2:=rfl;rw [hp,this,<-kE,<-aL,<-aL];congr 1;omega
  rw [hq,e2,hN,nH,nH];congr 1;rw [aN]
 have hpA:p<=A:=dP (by rw [hp];exact fB au af) h3;obtain ⟨r1,r2⟩:=UT N A p q hp0 hpA g1 g2 hq';have ea:A*2^(d-e-1)+q=p*A+q:=by rw [show d-e-1=k by omega,<-hp,df]
 rw [ea];refine ⟨by rw [<-hN];exact r2,by rw [<-hN];exact r1,Qj X c d _ YQ hX (by rw [<-hN];exact r1),?_⟩;have:=ik hp0 h4;omega
theorem zB (X c e A:Nat) (h:IM X c e A):A<=X:=by
 obtain ⟨h1,h2,h3,h4⟩:=h;have a:X/4^(c-e)<=X:=nE _ _;rcases A with _|A
 · omega
 · rw [kD] at h1
   have:A<=A*A:=by
    rcases A with _|A
    · omega
    · exact x8 _ af
   omega
theorem L9 (X c A:Nat) (h:IM X c c A):(A-1)*(A-1)<X/\X<(A+1)*(A+1):=by
 obtain ⟨h1,h2,h3,h4⟩:=h;rw [xZ,fC,tT] at h1 h2;exact ⟨h1,h2⟩
def mX (X r:Nat):Prop:=r*r<=X/\X<(r+1)*(r+1)
theorem mX.unique {X r s:Nat}(h:mX X r) (k:mX X s):r=s:=by
 rcases nI r s with h1|h1|h1
 · exfalso;have:=jv (show r+1<=s from h1) (show r+1<=s from h1);have:=h.2;have:=k.1;omega
 · exact h1
 · exfalso;have:=jv (show s+1<=r from h1) (show s+1<=r from h1);have:=k.2;have:=h.1;omega
end
section
open Go.RowKit
theorem Gu (xs ys:List Nat) (ao bo:Option Addr) (n cap m aX B:Nat) (w:World) (hn:n=xs.length) (hm:m=ys.length) (hm0:0<m) (hc:n<=cap) (hcb:m<=aX) (hbig:n<=35184372088833)
 (hx:Wf xs) (hy:Wf ys) (htop:ys.getD (m-1) 0≠0) (hR:Rd B w ao xs) (hS:Rd B w bo ys) (hB:B<=w.heap.size) :
 Calls Tryz.prog 173 #[.slice ao n cap,.slice bo m aX] w fun r w'=>Two w.heap.size w' r (val xs/val ys) (val xs%val ys)/\Below w.heap.size w w':=by
 by_cases h1:n<m
 · exact LU xs ys ao bo n cap m aX B w hn hm h1 hc hbig hx hy htop hR hB
 · by_cases h2:m=1
   · subst h2;exact div_one xs ys ao bo n cap aX B w hn hm af hc hcb hbig hx hy htop hR hS hB
   · exact LV xs ys ao bo n cap m aX B w hn hm af af hc hcb hbig hx hy htop hR hS hB
theorem Ma (X:Nat) (h:X≠0):(ws X).getD ((ws X).length-1) 0≠0:=by
 have h1:nl (ws X)≠0:=by rw [Gf];intro e;exact h ((bz X).1 e)
 have:=Gg (ws X) h1;rwa [Gf] at this
theorem iV {X Y:Nat}(h:X<=Y):(ws X).length<=(ws Y).length:=(aP X _).2 (gN h (fV Y))
theorem Nt.one (w:World):Nt w.heap.size (w.alloc (.cells #[.int .u32 1] 51)) (.slice (some ⟨w.heap.size,0,none⟩) 1 1) 1:=by
 have hO:Own (w.alloc (.cells #[.int .u32 1] 51)) w.heap.size [1]:=by unfold Own;rw [ib];rfl
 have:=Nt.fM (lo:=w.heap.size) hO (aC _) (Wf.cons af Wf.nil) (by simp [maxLen]);exact this
theorem sF:ws 1=[1]:=by rw [nU 1 af,show 1/4294967296=0 from rfl,bI]
theorem zC (xs:List Nat) (ao:Option Addr) (n cap B:Nat) (w:World) (hn:n=xs.length) (hc:n<=cap) (hbig:n<=35184372088832) (hx:Wf xs) (hX0:val xs≠0) (hR:Rd B w ao xs) (hB:B<=w.heap.size) :
 Calls Tryz.prog 161 #[.slice ao n cap] w fun r w'=>∃ v A,r=.returned v/\Nt w.heap.size w' v A/\(A-1)*(A-1)<val xs/\val xs<(A+1)*(A+1)/\0<A/\A<=val xs/\Below w.heap.size w w':=by
 obtain ⟨c,hc'⟩:∃ c,c=(bl (val xs)-1)/2:=⟨_,rfl⟩;have hb0:=dI _ hX0;have hb1:=gT _ hX0;have hb2:=il (val xs)
 have hbn:bl (val xs)<=32*n:=by
  have h1:=dh xs hx;rw [<-hn] at h1;have h2:pw n=2^(32*n):=by rw [<-gM (32*n),lN];simp
  rw [h2] at h1;have:=(jw (a:=2) au).1 (gN hb1 h1);omega
 have UW:4^c<=val xs:=by
  have:(4:Nat)=2^2:=rfl;rw [this,<-kE];exact dP (fB au af) hb1
 have WM:val xs<4^(c+1):=by
  have:(4:Nat)=2^2:=rfl;rw [this,<-kE];exact iC hb2 (fB au af)
 have L1:=hid (oG xs ao n cap B w hn hc af hx hR);have hbb:bl (val xs)<=1125899906842624:=af
 have eL:((bl (val xs):Nat):Int)-1=((bl (val xs)-1:Nat):Int):=af
 obtain ⟨bb,WO⟩:∃ bb,bl (val xs)=bb:=⟨_,rfl⟩;rw [WO] at L1 hc' hb0 hbb hbn;have e1:((bb:Int)-1)/2=(c:Int):=af
 have hcb:c<=562949953421312:=af
 have L2:=hid (fun w=>LC c w af);have hsp:=Ef (val xs) c UW WM;have HH:=(iI hn hx hX0 hR UW hsp);obtain ⟨X,UX⟩:∃ X,val xs=X:=⟨_,rfl⟩;rw [UX] at HH |-;have HX:=(aJ UX hbn)
 have hbc:bl c<=64:=by
  by_cases h0:c=0
  · rw [h0];decide
  · have h1:=gT c h0;have:2^(bl c-1)<2^63:=af
    have:=(jw (a:=2) au).1 this;omega
 have WQ:=il c;have zD:=gT c;have HC:=(aJ WQ zD);obtain ⟨t0,ht0⟩:∃ t,bl c=t:=⟨_,rfl⟩;rw [ht0] at L2 hbc HC;have HC0:Aside (0<t0->c≠0):=by intro h1 h2;rw [<-ht0,h2] at h1;exact absurd h1 au
 clear hn hx hX0 hR UW WM hb0 hb1 hb2 hbn eL WO hc' hsp UX ht0 WQ zD;go_enter Tryz.func161,Tryz.ntmps161;go_wp2_with fail;refine L1.o.mono ?_;rintro r w0 ⟨rfl,rfl⟩;go_wp2_with fail;refine (fP (L2.o _)) ?_;rintro r w1 ⟨rfl,rfl⟩;clear L1 L2;go_wp2
 go_loopg [4,5,6] t0 (fun gk rv ev sv wr=>∃ (A e:Nat) (ra:Option Addr) (rc:Nat),rv=.slice ra (ws A).length rc/\ev=.int .i64 (e:Nat)/\sv=.int .i64 ((gk:Int)-1)/\gk<=t0 /\
  Aside (e=c/2^gk/\IM X c e A/\Nt w0.heap.size wr (.slice ra (ws A).length rc) A/\Below w0.heap.size w0 wr))
 case atStart =>
  obtain ⟨hn,hx,hX0,hR,UW,hsp⟩:=HH.o;refine ⟨1,0,some ⟨w0.heap.size,0,none⟩,1,by rw [sF];rfl,rfl,rfl,aC _,?_,hsp,?_,(aD _ _).alloc (aC _) _⟩
  · rw [gQ HC.o.1]
  · rw [sF];exact Nt.one w0
 case round =>
  obtain ⟨A,e,ra,rc,rfl,rfl,rfl,hk,HA⟩:=hrel
  by_cases hk0:gk=0
  · subst hk0;go_wp2;go_ret;obtain ⟨he,hN,DF,hbel⟩:=HA.o;rw [fC,tT] at he;subst he;obtain ⟨h1,h2⟩:=L9 X e A hN;exact ⟨_,A,rfl,DF,h1,h2,hN.2.2.2,zB _ _ _ _ hN,hbel⟩
  · obtain ⟨s,rfl⟩:∃ s,gk=s+1:=⟨gk-1,af⟩;obtain ⟨d,hd⟩:=ah (c/2^s);have ed:(c:Int)/2^s=(d:Int):=by rw [hd];simp
    obtain ⟨he,hN,DF,hbel⟩:=HA.o;have he2:e=d/2:=by rw [he,hd,gY,nH]
    have hd1:1<=d:=by
     have hc0:c≠0:=HC0.o af;have:=HC.o.2 hc0;rw [hd,qH (bu s),iD];exact dP (fB au af) this
    have YQ:d<=c:=by rw [hd];exact nE _ _
    have Zv:e<d:=af
    have hd2:d<=2*e+1:=af
    obtain ⟨hn,hx,hX0,hR,UW,hsp⟩:=HH.o;obtain ⟨UX,hbn⟩:=HX.o;obtain ⟨D,hD⟩:=ah (2*c-e-d+1);obtain ⟨sh,hsh⟩:=ah (d-e-1);have eD:2*(c:Int)-e-d+1=(D:Int):=af
    have eS:(d:Int)-e-1=(sh:Int):=af
    have hstep:=IP X c e d A _ UW Zv hd2 YQ hN rfl;rw [<-hD,<-hsh] at hstep;have hs0:=hbel.size;have D1:=hid (vR xs ao n cap B D (D/32) (D%32) wr hn hc af af af af hx (hR.below (hbel.mono hB)) af);rw [UX] at D1;have hcn:c<=16*n:=af
    have IQ:X<pw n:=by rw [<-UX,hn];exact dh xs hx
    have sG:=zB _ _ _ _ hN;have rU:=hN.2.2.2;have HI:=(l7 hd he2 hstep hs0 IQ sG rU);have hedi:(e:Int)<(d:Int):=af
    have hdci:(d:Int)<=(c:Int):=af
    clear hd he hN DF hbel he2 hd1 YQ Zv hd2 hn hx hX0 hR UW hsp UX hbn hD hsh hstep hs0 IQ sG rU hk0;go_wp2_with fail
    try rw [eD]
    refine D1.o.mono ?_;rintro r w2 ⟨v2,rfl,ko,hb2⟩;obtain ⟨a2,c2,rfl,hc2,hc2m,hR2⟩:=ko.shape;obtain ⟨he,hN,DF,hbel⟩:=HA.o;obtain ⟨hd,he2,hstep,hs0,IQ,sG,rU⟩:=HI.o;have Eg:=DF.below hb2;obtain ⟨ra2,rc2,hsl,hrc,Zw,hRr⟩:=Eg.shape
    cases hsl
    have hT:=nE X (2^D);have WR:(ws (X/2^D)).length<=n:=(aP _ _).2 (gN hT IQ);have hlA:(ws A).length<=n:=(aP _ _).2 (gN sG IQ);have V2:=Gu (ws (X/2^D)) (ws A) a2 ra _ c2 _ rc w2.heap.size w2 rfl rfl (by have:=(bz A);omega) hc2 hrc af (dz _) (dz _) (Ma A af) hR2 hRr (aC _);rw [aj,aj] at V2;have V:=hid V2;have hs2:=hb2.size;have HJ:=(iI hb2 Eg hlA WR hrc hs2);clear V2 he hN DF hbel hd he2 hstep hs0 IQ sG rU ko hb2 hR2 Eg hRr hT WR hlA D1 hs2;go_wp2_with fail;refine V.o.mono ?_;rintro r w3 ⟨⟨vq,vr,rfl,UY,AQ,hap⟩,hb3⟩;obtain ⟨aq,cq,rfl,hcq,hcqm,YS⟩:=UY.shape;obtain ⟨hb2,Eg,hlA,WR,WS,hs2⟩:=HJ.o;have WT:=Eg.below hb3;obtain ⟨ra3,rc3,hsl,hrc3,hrcm3,hRr⟩:=WT.shape
    cases hsl
    obtain ⟨hd,he2,hstep,hs0,IQ,sG,rU⟩:=HI.o;have hle:=zB _ _ _ _ hstep;have U2:=zz (ws A) ra _ rc w3.heap.size sh (sh/32) (sh%32) w3 rfl hrc af af af (dz _) hRr (aC _);rw [aj] at U2;have U:=hid U2;have hs3:=hb3.size;have HK:=(eu hb3 UY hcq hle hs3);clear U2 UY AQ hap hb3 YS hb2 Eg hlA WR WS hs2 WT hRr hd he2 hstep hs0 IQ sG rU hle V hs3;go_wp2_with fail
    try rw [eS]
    refine U.o.mono ?_;rintro r w4 ⟨v4,rfl,fw,hb4⟩;obtain ⟨a4,c4,rfl,hc4,hc4m,hR4⟩:=fw.shape;obtain ⟨hb3,UY,WU,hle,hs3⟩:=HK.o;obtain ⟨hd,he2,hstep,hs0,IQ,sG,rU⟩:=HI.o;have WV:=UY.below hb4;obtain ⟨aq4,cq4,hsl,hcq4,hcqm4,YS⟩:=WV.shape
    cases hsl
    have hl1:(ws (A*2^sh)).length<=n:=(aP _ _).2 (gN (dP (Nat.le_add_right _ _) hle) IQ);have hl2:(ws (X/2^D/A)).length<=n:=(aP _ _).2 (gN (dP (Nat.le_add_left _ _) hle) IQ);have S2:=Gt (ws (A*2^sh)) (ws (X/2^D/A)) a4 aq _ c4 _ cq w4.heap.size w4 rfl rfl hc4 hcq af af (dz _) (dz _) hR4 YS (aC _);rw [aj,aj] at S2;have S:=hid S2;have HL:=(ak hb4);clear S2 fw hb4 hR4 hb3 UY hle hs3 hd he2 hstep hs0 IQ sG rU WV YS hl1 hl2 U WU;go_wp2_with fail;refine S.o.mono ?_;rintro r w5 ⟨v5,rfl,nM,hb5⟩;obtain ⟨a5,c5,rfl,YT,hc5m,hR5⟩:=nM.shape;have HM:=(aJ nM hb5);clear nM hb5 hR5 S;go_wp2;go_roundg s
    case measure=>omega
    case rel =>
     obtain ⟨he,hN,DF,hbel⟩:=HA.o;obtain ⟨hd,he2,hstep,hs0,IQ,sG,rU⟩:=HI.o;obtain ⟨hb2,Eg,hlA,WR,WS,hs2⟩:=HJ.o;obtain ⟨hb3,UY,WU,hle,hs3⟩:=HK.o;obtain ⟨nM,hb5⟩:=HM.o;have hb4:=HL.o;have hs4:=hb4.size;refine ⟨_,d,a5,c5,rfl,by first | rfl | rw [ed],by first | go_num | (congr 1;omega),af,hd,hstep,nM.mono af,?_⟩;exact (((hbel.trans (hb2.mono hs0)).trans (hb3.mono af)).trans (hb4.mono af)).trans (hb5.mono af)
theorem vg (xs bs:List Nat) (ao bo:Option Addr) (n cap m aX B:Nat) (w:World) (hn:n=xs.length) (hm:m=bs.length) (Ea:m<=n) (hc:n<=cap) (hcb:m<=aX) (hbig:n<=35184372088833)
 (hx:Wf xs) (hb:Wf bs) (hle:val bs<=val xs) (hR0:Rd B w ao xs) (hS:Rd B w bo bs) (hB:B<=w.heap.size) :
 Calls Tryz.prog 163 #[.slice ao n cap,.slice bo m aX] w fun r w'=>∃ v,r=.returned v/\Nt w.heap.size w' v (val xs-val bs)/\Below w.heap.size w w':=by
 obtain ⟨W1,hW1⟩:=ah (w.alloc (.cells (madeCells #[.int .u32 0] n) 51));have mU:Own W1 w.heap.size (List.replicate n 0):=by rw [hW1];exact Own.made w n
 have hB1:Below w.heap.size w W1:=by rw [hW1];exact (aD _ _).alloc (aC _) _
 obtain ⟨W2,hcp,hO2,hb2⟩:=iN W1 w.heap.size n n ao n cap B 3 (List.replicate n 0) xs mU aO hn (hR0.below (hB1.mono hB)) af;rw [xY aO,List.append_nil] at hO2;have hB2:Below w.heap.size w W2:=But.below hB1 hb2 hB1.size (aC _);have hmk:=dw (n:Int) n rfl af w;rw [<-hW1] at hmk;have hR:Rd B W2 bo bs:=hS.below (hB2.mono hB);obtain ⟨g,hg⟩:=ah (w.heap.size);rw [<-hg] at hO2 hcp hmk hB2 hB;have HR:=(rT hR hm hb hx hn hle hB2 hg);have HO:=hid hO2;have Bq:Hid (∀ x y c s d w,_->_->_->_->_->_):=yl;clear hn hm hx hb hR0 hS mU hB1 hO2 hb2 hB2 hW1 hle hR hg;go_enter Tryz.func163,Tryz.ntmps163;go_wp2
 go_loopg [6,18] m (fun gk c i wr=>∃ (k cv:Nat) (M:List Nat),gk+k=m/\c=.int .u32 (cv:Nat)/\cv<=1/\i=.int .i64 (k:Nat) /\
  Hid (Own wr g M)/\Aside (Wf M/\Out xs M 0 k/\sg M 0 k+sg bs 0 k=sg xs 0 k+cv*pw k/\But g W2 wr))
 case atStart=>exact ⟨0,0,xs,af,rfl,af,rfl,HO,HR.o.r3.1,Out.refl _ _ _,by simp [dW],But.refl _ _⟩
 case round =>
  obtain ⟨k,cv,M,Gm,rfl,hcv,rfl,HM,HA⟩:=hrel
  by_cases hk:k<m
  · obtain ⟨hR,hm,hb,hx,hn,hle,hB2,hg⟩:=HR.o;obtain ⟨dA,fK,hMs,aH⟩:=HA.o;obtain ⟨b,fQ,K7,rfl,hbc⟩:=hR (by intro e;subst e;simp at hm;omega)
    have hbk:wr.cell? ⟨b,fQ+k,none⟩=some (.int .u32 ((bs.getD k 0:Nat):Int)):=by
     have h1:=aH.block b (lh W2 ⟨b,fQ+k,none⟩ (hbc k af)) af;exact (zw (a:=⟨b,fQ+k,none⟩) h1).trans (hbc k af)
    have hgc:=HM.o.cell k (by rw [fK.1];omega);have hgf:=HM.o.frozen k;obtain ⟨x,fZ⟩:∃ x:Nat,M.getD k 0=x:=⟨_,rfl⟩;obtain ⟨y,hy⟩:∃ y:Nat,bs.getD k 0=y:=⟨_,rfl⟩;have hxl:x<4294967296:=fZ ▸ dA.get _;have hyl:y<4294967296:=hy ▸ hb.get _;rw [fZ] at hgc;rw [hy] at hbk;obtain ⟨s,hs⟩:∃ s:Nat,(s:Int)=((x:Int)-y-cv)%4294967296:=⟨(((x:Int)-y-cv)%4294967296).toNat,af⟩;obtain ⟨d,hd⟩:∃ d:Nat,d=if x<y+cv then 1 else 0:=⟨_,rfl⟩
    have HX:=(gK fZ hy hs hd);clear fZ hy hs hd hR hm hb hx hn hle hB2 hg dA fK hMs aH hbc;go_wp2_with fail;refine (Bq.o x y cv s d _ hxl hyl hcv HX.o.r2.1 HX.o.r3).mono ?_;rintro r w1 ⟨rfl,rfl⟩;go_wp2;go_roundg (gk-1)
    case measure=>omega
    case rel =>
     obtain ⟨fZ,hy,hs,hd⟩:=HX.o;obtain ⟨hR,hm,hb,hx,hn,hle,hB2,hg⟩:=HR.o;obtain ⟨dA,fK,hMs,aH⟩:=HA.o;have hd1:d<=1:=by rw [hd];split <;> omega
     have hsum:s+y+cv=x+d*4294967296:=by rw [hd];split <;> omega
     refine ⟨k+1,d,M.set k s,af,rfl,hd1,by go_num,HM.o.set _ _,dA.set _ _ af,(fK.mono af).set _ _ af af,?_,aH.set _ _⟩;have e1:=cB M 0 k s (by rw [fK.1];omega);rw [dS] at e1;rw [e1,bJ xs 0 k af,bJ bs 0 k af,dS,hy,bK];have e:xs.getD k 0=x:=by rw [<-fZ];exact (fK.2 _ af).symm
     rw [e];exact nX _ _ _ _ _ _ _ _ _ hMs hsum
  · obtain rfl:k=m:=af
    have HA2:Aside (Wf M/\Out xs M 0 k/\sg M 0 k+val bs=sg xs 0 k+cv*pw k/\But g W2 wr):=by
     obtain ⟨hR,hm,hb,hx,hn,hle,hB2,hg⟩:=HR.o;obtain ⟨dA,fK,hMs,aH⟩:=HA.o;refine ⟨dA,fK,?_,aH⟩;rw [<-hMs,hm,dM]
    clear HA Gm HO hk;go_wp2
    go_loopg [6,9] (n-k+1) (fun g2 c i w2=>∃ (j cv:Nat) (M:List Nat),g2+j=n+1/\k<=j/\j<=n/\c=.int .u32 (cv:Nat)/\cv<=1/\i=.int .i64 (j:Nat) /\
     Hid (Own w2 g M)/\Aside (Wf M/\Out xs M 0 j/\sg M 0 j+val bs=sg xs 0 j+cv*pw j/\But g W2 w2))
    case atStart=>exact ⟨k,cv,M,af,aC _,Ea,rfl,hcv,rfl,HM,HA2.o⟩
    case round =>
     clear HM HA2 hcv;obtain ⟨j,cv,M,hgj,hkj,hjn,rfl,hcv,rfl,HM,HA⟩:=hrel
     by_cases h0:cv=0
     · subst h0;obtain ⟨hR,hm,hb,hx,hn,hle,hB2,hg⟩:=HR.o;obtain ⟨dA,fK,hMs,aH⟩:=HA.o;have hl:M.length=n:=by rw [fK.1,hn]
       have T:=hid (dV M (some ⟨g,0,none⟩) n n (g+1) wr hl.symm (aC _) af (by simpa [hl,ic] using Rd.fM HM.o 0 n));clear hR hm hb hx hn hle hB2 hg dA fK hMs aH;go_wp2_with fail;refine T.o.mono ?_;rintro r w1 ⟨rfl,rfl⟩;go_wp2;go_ret;obtain ⟨hR,hm,hb,hx,hn,hle,hB2,hg⟩:=HR.o;obtain ⟨dA,fK,hMs,aH⟩:=HA.o;rw [eQ,gM] at hMs;have hv:=Iu (n:=n) hjn af fK hMs;have e1:sg M 0 n=val M:=by rw [<-hl];exact dM M
       have e2:sg xs 0 n=val xs:=by rw [hn];exact dM xs
       rw [e1,e2] at hv;refine ⟨_,rfl,?_,?_⟩
       · have N:=Nt.fM (lo:=g) HM.o (aC _) dA (by rw [hl];unfold maxLen;omega);rw [show val xs-val bs=val M by omega,<-hg];rw [hl] at N;exact N
       · rw [<-hg];exact But.below hB2 aH (by have:=hB2.size;omega) (aC _)
     · obtain rfl:cv=1:=af
       obtain ⟨hR,hm,hb,hx,hn,hle,hB2,hg⟩:=HR.o;obtain ⟨dA,fK,hMs,aH⟩:=HA.o
       have hj:j<n:=by
        by_cases hj:j=n
        · exfalso;subst hj;have h1:=nL M 0 j dA (by rw [fK.1];omega);have e2:sg xs 0 j=val xs:=by rw [hn];exact dM xs
          omega
        · omega
       have hgc:=HM.o.cell j (by rw [fK.1];omega);have hgf:=HM.o.frozen j;obtain ⟨x,fZ⟩:∃ x:Nat,M.getD j 0=x:=⟨_,rfl⟩;have hxl:x<4294967296:=fZ ▸ dA.get _;rw [fZ] at hgc;obtain ⟨s,hs⟩:∃ s:Nat,(s:Int)=((x:Int)-(0:Nat)-(1:Nat))%4294967296:=⟨(((x:Int)-(0:Nat)-(1:Nat))%4294967296).toNat,af⟩;obtain ⟨d,hd⟩:∃ d:Nat,d=if x<0+1 then 1 else 0:=⟨_,rfl⟩
       have HX:=(aZ fZ hs hd);clear fZ hs hd hR hm hb hx hn hle hB2 hg dA fK hMs aH h0;go_wp2_with fail;refine (Bq.o x 0 1 s d _ hxl af af HX.o.2.1 HX.o.r2).mono ?_;rintro r w1 ⟨rfl,rfl⟩;go_wp2;go_roundg (gk-1)
       case measure=>omega
       case rel =>
        obtain ⟨fZ,hs,hd⟩:=HX.o;obtain ⟨hR,hm,hb,hx,hn,hle,hB2,hg⟩:=HR.o;obtain ⟨dA,fK,hMs,aH⟩:=HA.o;have hd1:d<=1:=by rw [hd];split <;> omega
        have hsum:s+0+1=x+d*4294967296:=by rw [hd];split <;> omega
        refine ⟨j+1,d,M.set j s,af,af,af,rfl,hd1,by go_num,HM.o.set _ _,dA.set _ _ af,(fK.mono af).set _ _ af af,?_,aH.set _ _⟩;have e1:=cB M 0 j s (by rw [fK.1];omega);rw [dS] at e1;rw [e1,bJ xs 0 j af,dS,bK];have e:xs.getD j 0=x:=by rw [<-fZ];exact (fK.2 _ af).symm
        rw [e];have:=nX (pw j) _ _ _ _ x 0 s d hMs hsum;omega
theorem zF (L bs:List Nat) (g off n cap:Nat) (ao:Option Addr) (m aX B q:Nat) (w:World)
 (hO:Own w g L) (hoff:off+n<=L.length) (hm:m=bs.length) (Ea:m<=n) (hcap:n<=cap) (hbig:n<=4611686018427387904) (hL:Wf L) (hb:Wf bs) (hR:Rd B w ao bs) (hB:B<=g) (hq:q<4294967296) :
 Calls Tryz.prog 168 #[.slice (some ⟨g,off,none⟩) n cap,.slice ao m aX,.int .u32 (q:Nat)] w fun r w' =>
  ∃ M c,r=.returned (.int .u32 (c:Nat))/\c<4294967296/\Own w' g M/\Wf M/\Out L M off m/\sg M off m+c*pw m=sg L off m+val bs*q/\But g w w':=by
 have HR:Aside (Rd B w ao bs/\m=bs.length/\Wf bs/\Wf L/\off+n<=L.length):=⟨hR,hm,hb,hL,hoff⟩;have HO:Hid (Own w g L):=hO;clear hR hm hb hL hO hoff;go_enter Tryz.func168,Tryz.ntmps168;go_wp2
 go_loopg [7,13] m (fun gk c i wr=>∃ (k cv:Nat) (M:List Nat),gk+k=m/\c=.int .u64 (cv:Nat)/\cv<4294967296/\i=.int .i64 (k:Nat) /\
  Hid (Own wr g M)/\Aside (Wf M/\Out L M off k/\sg M off k+cv*pw k=sg L off k+sg bs 0 k*q/\But g w wr))
 case atStart=>exact ⟨0,0,L,af,rfl,af,rfl,HO,HR.o.r3.1,Out.refl _ _ _,by simp [dW],But.refl _ _⟩
 case round =>
  obtain ⟨k,cv,M,Gm,rfl,hcv,rfl,HM,HA⟩:=hrel
  by_cases hk:k<m
  · obtain ⟨hR,hm,hb,hL,hoff⟩:=HR.o;obtain ⟨dA,fK,hMs,aH⟩:=HA.o;obtain ⟨b,fQ,K7,rfl,hbc⟩:=hR (by intro e;subst e;simp at hm;omega)
    have hbk:wr.cell? ⟨b,fQ+k,none⟩=some (.int .u32 ((bs.getD k 0:Nat):Int)):=by
     have h1:=aH.block b (lh w ⟨b,fQ+k,none⟩ (hbc k af)) af;exact (zw (a:=⟨b,fQ+k,none⟩) h1).trans (hbc k af)
    have hgc:=HM.o.cell (off+k) (by rw [fK.1];omega);have hgf:=HM.o.frozen (off+k);obtain ⟨x,hx⟩:∃ x:Nat,M.getD (off+k) 0=x:=⟨_,rfl⟩;obtain ⟨y,hy⟩:∃ y:Nat,bs.getD k 0=y:=⟨_,rfl⟩;have hxl:x<4294967296:=hx ▸ dA.get _;have hyl:y<4294967296:=hy ▸ hb.get _;rw [hx] at hgc;rw [hy] at hbk;have hp0:=sj y q hyl hq;have hp2:(y:Int)*(q:Int)<=18446744065119617025:=by rw [<-fU];omega
    have hp1:0<=(y:Int)*(q:Int):=by rw [<-fU];omega
    obtain ⟨s,hs⟩:∃ s:Nat,s=(y*q+x+cv)%4294967296:=⟨_,rfl⟩;obtain ⟨d,hd⟩:∃ d:Nat,d=(y*q+x+cv)/4294967296:=⟨_,rfl⟩;have e0:((y*q+x+cv:Nat):Int)=(y:Int)*q+x+cv:=by simp only [Gd,fU]
    have e1:((y:Int)*q+x+cv)%4294967296=(s:Int):=by rw [<-e0];omega
    have e2:((y:Int)*q+x+cv)/4294967296=(d:Int):=by rw [<-e0];omega
    have HX:Aside (M.getD (off+k) 0=x/\bs.getD k 0=y/\s+d*4294967296=y*q+x+cv/\s<4294967296/\d<4294967296):=⟨hx,hy,af,af,af⟩;clear hx hy hs hd hR hm hb hL hoff dA fK hMs aH hbc e0 hp0;go_wp2;go_roundg (gk-1)
    case measure=>omega
    case rel =>
     obtain ⟨hx,hy,he,hs,hd⟩:=HX.o;obtain ⟨hR,hm,hb,hL,hoff⟩:=HR.o;obtain ⟨dA,fK,hMs,aH⟩:=HA.o;refine ⟨k+1,d,M.set (off+k) s,af,rfl,hd,by go_num,HM.o.set _ _,dA.set _ _ hs,(fK.mono af).set _ _ af af,?_,aH.set _ _⟩;rw [cB _ _ _ _ (by rw [fK.1];omega),bJ L off k af,bJ bs 0 k af,dS,hy,bK];have e:L.getD (off+k) 0=x:=by rw [<-hx];exact (fK.2 _ af).symm
     rw [e];exact vN _ _ _ _ _ _ _ _ _ _ hMs he
  · obtain rfl:k=m:=af
    go_wp2;go_ret;obtain ⟨hR,hm,hb,hL,hoff⟩:=HR.o;obtain ⟨dA,fK,hMs,aH⟩:=HA.o;refine ⟨M,cv,rfl,hcv,HM.o,dA,fK,?_,aH⟩;rw [hMs,hm,dM]
theorem BI (p V b x r q c:Nat) (h:V+p*r=b*q):V+p*(r+q*x)=(b+p*x)*q:=by grind
theorem zG (xs bs:List Nat) (ao bo:Option Addr) (n cap m aX B:Nat) (w:World) (hn:n=xs.length) (hm:m=bs.length) (hc:n<=cap) (hcb:m<=aX) (hbig:n+m<=70368744177664)
 (hx:Wf xs) (hb:Wf bs) (hR:Rd B w ao xs) (hS:Rd B w bo bs) (hB:B<=w.heap.size) :
 Calls Tryz.prog 136 #[.slice ao n cap,.slice bo m aX] w fun r w'=>∃ v,r=.returned v/\Nt w.heap.size w' v (val xs*val bs)/\Below w.heap.size w w':=by
 obtain ⟨W1,hW1⟩:=ah (w.alloc (.cells (madeCells #[.int .u32 0] (n+m)) 51));have mU:Own W1 w.heap.size (List.replicate (n+m) 0):=by rw [hW1];exact Own.made w (n+m)
 have hB1:Below w.heap.size w W1:=by rw [hW1];exact (aD _ _).alloc (aC _) _
 have hmk:=dw ((n:Int)+m) (n+m) af af w;rw [<-hW1] at hmk;have uf:Rd B W1 ao xs:=hR.below (hB1.mono hB);have hS1:Rd B W1 bo bs:=hS.below (hB1.mono hB);obtain ⟨g,hg⟩:=ah (w.heap.size);rw [<-hg] at mU hmk hB1 hB;have HR:=(rT uf hS1 hm hb hx hn hB1 hg);have HO:=hid mU;clear hn hm hx hb hR hS mU hB1 hW1 uf hS1 hg;go_enter Tryz.func136,Tryz.ntmps136;go_wp2
 go_loopg [16] n (fun gk i wr=>∃ (k:Nat) (M:List Nat),gk+k=n/\i=.int .i64 (k:Nat) /\
  Hid (Own wr g M)/\Aside (Wf M/\M.length=n+m/\sg M 0 (k+m)=sg xs 0 k*val bs/\But g W1 wr))
 case atStart=>exact ⟨0,_,af,rfl,HO,Wf.zeros _,aO,by rw [qM,dW];simp,But.refl _ _⟩
 case round =>
  obtain ⟨k,M,Gm,rfl,HM,HA⟩:=hrel
  by_cases hk:k<n
  · obtain ⟨hR,hS,hm,hb,hx,hn,hB1,hg⟩:=HR.o;obtain ⟨dA,gF,hMs,aH⟩:=HA.o;have Qg:g<=W1.heap.size:=by have:=hB1.size;omega
    obtain ⟨b,fQ,K7,rfl,hbc⟩:=hR (by intro e;subst e;simp at hn;omega)
    have hbk:wr.cell? ⟨b,fQ+k,none⟩=some (.int .u32 ((xs.getD k 0:Nat):Int)):=by
     have h1:=aH.block b (lh W1 ⟨b,fQ+k,none⟩ (hbc k af)) af;exact (zw (a:=⟨b,fQ+k,none⟩) h1).trans (hbc k af)
    obtain ⟨y,hy⟩:∃ y:Nat,xs.getD k 0=y:=⟨_,rfl⟩;have hyl:y<4294967296:=hy ▸ hx.get _;rw [hy] at hbk;have H:=hid (zF M bs g k m (n+m-k) bo m aX B y wr HM.o af hm (aC _) af af dA hb (hS.but aH af hB) hB hyl);have HX:=(aJ hy hn);clear hy hR hS hm hb hx hn hB1 hg dA gF hMs aH hbc Qg;go_wp2_with fail;refine H.o.mono ?_;rintro r W3 ⟨M2,c,rfl,hc1,hO3,hM2,hout,hsum,qN⟩;obtain ⟨dA,gF,hMs,aH⟩:=HA.o;have hgc:=hO3.cell (k+m) (by rw [hout.1];omega);have hgf:=hO3.frozen (k+m);have HI:=(iI hc1 hO3 hM2 hout hsum qN);clear hc1 hO3 hM2 hout hsum qN dA gF hMs aH H;go_wp2;go_roundg (gk-1)
    case measure=>omega
    case rel =>
     obtain ⟨hy,hn⟩:=HX.o;obtain ⟨dA,gF,hMs,aH⟩:=HA.o;obtain ⟨hc1,hO3,hM2,hout,hsum,qN⟩:=HI.o;refine ⟨k+1,M2.set (k+m) c,af,by go_num,hO3.set _ _,hM2.set _ _ hc1,by simp [hout.1,gF],?_,(aH.trans qN).set _ _⟩;have e1:=cB M2 0 (k+m) c (by rw [hout.1];omega);rw [dS] at e1;have e2:=iM M2 0 k m (by rw [hout.1];omega);have e3:=iM M 0 k m af;rw [dS] at e2 e3;have e4:=hout.below 0 k af af;rw [show k+1+m=k+m+1 by omega,e1,e2,e4,bJ xs 0 k af,dS,hy,qb];rw [e3] at hMs;rw [df c] at hsum;have:=BI (pw k) _ _ y _ _ c hMs;rw [<-hsum] at this;rw [<-this,jG,aN,pJ]
  · obtain rfl:k=n:=af
    obtain ⟨dA,gF,hMs,aH⟩:=HA.o;have T:=hid (dV M (some ⟨g,0,none⟩) (k+m) (k+m) (g+1) wr gF.symm (aC _) af (by simpa [gF,ic] using Rd.fM HM.o 0 (k+m)));clear dA gF hMs aH;go_wp2_with fail;refine T.o.mono ?_;rintro r w1 ⟨rfl,rfl⟩;go_wp2;go_ret;obtain ⟨hR,hS,hm,hb,hx,hn,hB1,hg⟩:=HR.o;obtain ⟨dA,gF,hMs,aH⟩:=HA.o;have e1:sg M 0 (k+m)=val M:=by rw [<-gF];exact dM M
    have e2:sg xs 0 k=val xs:=by rw [hn];exact dM xs
    rw [e1,e2] at hMs;refine ⟨_,rfl,?_,?_⟩
    · have N:=Nt.fM (lo:=g) HM.o (aC _) dA (by rw [gF];unfold maxLen;omega);rw [<-hMs,<-hg];rw [gF] at N;exact N
    · rw [<-hg];exact But.below hB1 aH (by have:=hB1.size;omega) (aC _)
end
end Go.Proofs.YtfmfhehbdfhnbaaGreatDoor
