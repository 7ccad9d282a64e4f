import Derived.Test.YteginbngplldaaaGreatDoorM1x
import Derived.BigQuiet
set_option linter.unusedVariables false
set_option linter.unusedSimpArgs false
set_option maxHeartbeats 16000000
set_option maxRecDepth 20000
namespace Go.Proofs.YteginbngplldaaaGreatDoor
section
open Go.RowKit
theorem Cw(xs:List Nat)(ao:Option Addr)(n cap B:Nat)(w:World)(hn:n=xs.length)(hc:n<=cap)(hm:n<=70368744177664)(hx:Wf xs)(hR:Rd B w ao xs)(hB:B<=w.heap.size) :
 As 208 #[.slice ao n cap] w fun r w'=>r=.returned (.slice (some ⟨w.heap.size,0,none⟩) (ws (val xs)).length (ws (val xs)).length)/\Own w' w.heap.size (ws (val xs))/\An w w':=by
 have H:=hid (dW xs ao n cap B w hn hc (by omega) hR);have hl:nl xs<=n:=by rw[hn];exact jN xs
 obtain⟨k,hk⟩:∃ k,nl xs=k:=⟨_,rfl⟩;have HF:Aside (xs.take k=ws (val xs)):=by rw[<-hk];exact nk xs hx
 have HR:Aside (Rd B w ao (xs.take k)/\k=(xs.take k).length):=⟨hR.take k,by rw[iw];omega⟩;rw[hk] at H hl;rw[<-HF.o];have hmk:=dI (k:Int) k rfl (by omega);have HO:=Own.made w k;have X6:Hid (Own (w.alloc (.cells (madeCells #[.int .u32 0] k) 91)) w.heap.size (List.replicate k 0)):=HO;clear hk hR hn hx HO;go_enter Tryz.func208,Tryz.ntmps208;go_wp2_with fail;refine H.o.mono ?_;rintro r w1 ⟨rfl,rfl⟩;obtain⟨w2,hcp,hO2,aG⟩:=jF _ w1.heap.size k k ao k cap B 3 (List.replicate k 0) (xs.take k) X6.o (by simp) HR.o.2 (HR.o.1.below ((aB _ _).alloc hB _)) (aA _);have HH:=hid (ai hO2 aG);clear hO2 aG X6;go_wp2;go_ret;obtain⟨hO2,aG⟩:=HH.o;rw[<-HR.o.2];refine⟨rfl,by simpa using hO2,But.below ((aB _ _).alloc (aA _) _) aG (by simp) (aA _)⟩
theorem wu(xs:List Nat)(hx:Wf xs)(k:Nat)(hk:nl xs=k+1):val xs=sg xs 0 k+pw k*xs.getD k 0/\sg xs 0 k<pw k/\xs.getD k 0≠0/\k<xs.length:=by
 have hl:=jN xs;have h1:=kX xs hx;rw[hk,mf xs k (by omega),<-jO] at h1;have h2:=H9 xs (by omega);rw[hk,kQ] at h2;exact⟨h1.symm,nT xs 0 k hx (by omega),h2,by omega⟩
theorem Cx(xs:List Nat)(hx:Wf xs)(k:Nat)(hk:nl xs=k+1):bl (val xs)=32*k+bl (xs.getD k 0):=by
 obtain⟨e,hlt,h0,hl⟩:=wu xs hx k hk;obtain⟨t,ht⟩:∃ t,xs.getD k 0=t:=⟨_,rfl⟩;rw[ht] at e h0 |-;obtain⟨c,hc⟩:∃ c,bl t=c+1:=⟨bl t-1,by have:=dG t h0;omega⟩;have h1:=ib t h0;have h2:=iF t;rw[hc] at h1 h2 |-;rw[kQ] at h1;have p1:2^(32*k+c)=pw k*2^c:=mg k c;have p2:2^(32*k+c+1)=pw k*2^(c+1):=by rw[qc,mg]
 have:=Cu (val xs) (32*k+c) (by
  rw[p1,e];have:=gX (pw k) h1
  omega) (by
  rw[p2,e];have:pw k*(t+1)<=pw k*2^(c+1):=gX (pw k) (by omega);rw[jM] at this
  omega)
 omega
theorem pg(xs:List Nat)(ao:Option Addr)(n cap B:Nat)(w:World)(hn:n=xs.length)(hc:n<=cap)(hm:n<=70368744177664)(hx:Wf xs)(hR:Rd B w ao xs) :
 Ax 86 #[.slice ao n cap] w (.int .i64 (bl (val xs):Nat)):=by
 have H:=hid (dW xs ao n cap B w hn hc (by omega) hR);have hl:=jN xs;rcases hk:nl xs with _|k
 · rw[(jg xs).1 hk,dD];rw[hk] at H;clear hk hl hn hx hR;go_enter Tryz.func86,Tryz.ntmps86;go_wp2_with fail;refine H.o.mono ?_;rintro r w1 ⟨rfl,rfl⟩;go_wp2;go_ret;exact⟨rfl,rfl⟩
 · rw[Cx xs hx k hk];rw[hk] at H hl;obtain⟨e,hlt,h0,hl2⟩:=wu xs hx k hk;obtain⟨b,off,hB,rfl,hcell⟩:=hR (by intro e;subst e;simp at hl);have hck:=hcell k hl2;obtain⟨t,ht⟩:∃ t,xs.getD k 0=t:=⟨_,rfl⟩;have htl:t<4294967296:=ht ▸ hx.get k;rw[ht] at hck |-;have H2:=hid (yP t w htl);have hb:=vL t htl;obtain⟨c,hc'⟩:∃ c,bl t=c:=⟨_,rfl⟩;rw[hc'] at H2 hb |-;have hkn:k<n:=by omega
   clear hk hl hn hx hR e hlt h0 hl2 hcell ht hc';go_enter Tryz.func86,Tryz.ntmps86;go_wp2_with fail;refine H.o.mono ?_;rintro r w1 ⟨rfl,rfl⟩;go_wp2_with fail;refine H2.o.mono ?_;rintro r w1 ⟨rfl,rfl⟩;go_wp2;go_ret;exact Qat
theorem qA(x:Nat)(w:World)(hx:x<18446744073709551616) :
 As 99 #[.int .u64 (x:Int)] w fun r w'=>∃ v,r=.returned v/\Nt w.heap.size w' v x/\An w w':=by
 obtain⟨a,ha⟩:=af (x%4294967296);obtain⟨b,hb⟩:=af (x/4294967296);have e1:(x:Int)%4294967296=(a:Int):=by omega
 have e2:(x:Int)/4294967296=(b:Int):=by omega
 have hx2:(x:Int)<18446744073709551616:=by omega
 have hO:Own (w.alloc (.cells #[.int .u32 (a:Int),.int .u32 (b:Int)] 91)) w.heap.size [a,b]:=by
  unfold Own;rw[gZ];rfl
 have hW:Wf [a,b]:=Wf.cons (by omega) (Wf.cons (by omega) Wf.nil);have hv:val [a,b]=x:=by simp only[val];omega
 have T:=hid (dW [a,b] (some ⟨w.heap.size,0,none⟩) 2 2 (w.heap.size+1) _ rfl (by omega) (by omega) (by simpa using Rd.gD hO 0 2));have HH:=(bO hO hW hv);clear hO hW hv ha hb hx;go_enter Tryz.func99,Tryz.ntmps99;go_wp2_with fail;refine T.o.mono ?_;rintro r w1 ⟨rfl,rfl⟩;go_wp2;go_ret;obtain⟨hO,hW,hv⟩:=HH.o;refine⟨_,rfl,?_,(aB _ _).alloc (aA _) _⟩;have N:=Nt.gD (lo:=w.heap.size) hO (aA _) hW (by simp[maxLen]);rw[hv] at N;exact N
theorem Own.but{w w':World}{g k:Nat}{L:List Nat}(h:Own w k L)(hb:But g w w')(hk:k≠g):Own w' k L:=by
 have:=h.lt;unfold Own at h |-;rw[hb.block k this hk];exact h
def Apart(v1 v2:Value):Prop:=∀ g,v1.ownBlock=some g->v2.ownBlock≠some g
theorem Nt.lt{lo:Nat}{w:World}{v:Value}{X:Nat}(h:Nt lo w v X):∀ g,v.ownBlock=some g->lo<=g/\g<w.heap.size:=fun g hg=>World.ownsRow.lt h g hg
theorem rz{lo m hi:Nat}{w w2:World}{v1 v2:Value}{X Y:Nat}(h1:Nt lo w v1 X)(h2:Nt m w2 v2 Y)(hm:w.heap.size<=m):Apart v1 v2:=by
 intro g hg e;have a:=(h1.lt g hg).2;have b:=(h2.lt g e).1;omega
theorem mI(v:Value):Apart (.slice none 0 0) v:=by intro g hg;simp[Value.ownBlock] at hg
theorem Np(p b q V o a c:Nat):b*p*q*V+(a+p*(o*V+c))=p*(o+b*q)*V+(a+p*c):=by grind
theorem Ij(M:List Nat)(i k d:Nat)(hd:M.length=i+k+d)(hz:sg M (i+k) d=0):val M=sg M 0 i+pw i*sg M i k:=by
 have h1:=dL M;rw[hd] at h1;have h2:=iW M 0 (i+k) d (by omega);have h3:=iW M 0 i k (by omega);rw[dK] at h2 h3;rw[hz,mE,gW] at h2;rw[<-h1,h2,h3]
theorem VY(Q:List Nat)(i r o:Nat)(hQ:i+1+r=Q.length):sg (Q.set i o) i (r+1)=o+4294967296*sg Q (i+1) r:=by
 have h1:=kY (Q.set i o) i r (by simp;omega);have h2:=iO Q i o (by omega);have h3:=q8 Q (i+1) r i o (by omega) (by omega);rw[h2,h3] at h1;exact h1
theorem VZ(a p s V:Nat)(h1:a<p)(h2:s<V):a+p*s<p*V:=by
 have h:p*(s+1)<=p*V:=gX _ h2;rw[jM,eO] at h;omega
theorem Nq (M M2 Q:List Nat) (i m r V o X:Nat) (hM:Wf M) (hi:i+(m+1)<=M.length) (ho:Out M M2 i (m+1))
 (hinv:X=pw (i+1)*sg Q (i+1) r*V+val M) (hz:sg M (i+(m+1)) (M.length-(i+(m+1)))=0) (hQ:i+1+r=Q.length)
 (hs:sg M i (m+1)=o*V+sg M2 i (m+1)) (hlt:sg M2 i (m+1)<V) :
 X=pw i*sg (Q.set i o) i (r+1)*V+val M2/\val M2<pw i*V:=by
 obtain⟨d,hd⟩:=af (M.length-(i+(m+1)));rw[<-hd] at hz;have hl:M2.length=M.length:=ho.1;have e1:=Ij M i (m+1) d (by omega) hz;have hz2:sg M2 (i+(m+1)) d=0:=by rw[ho.above (i+(m+1)) d (by omega) (by omega)];exact hz
 have e2:=Ij M2 i (m+1) d (by omega) hz2;have e3:sg M2 0 i=sg M 0 i:=ho.below 0 i (by omega) (by omega);have e4:=VY Q i r o hQ;have h1:=nT M 0 i hM (by omega);rw[e3] at e2;rw[hs] at e1;refine⟨?_,by rw[e2];exact VZ _ _ _ _ h1 hlt⟩;rw[hinv,e1,e2,e4,bU];exact Np _ _ _ _ _ _ _
theorem Nr(M:List Nat)(i m V:Nat)(hM:Wf M)(hi:i+(m+1)<=M.length)(hV:V<pw m)(hlt:val M<pw (i+1)*V) :
 sg M (i+(m+1)) (M.length-(i+(m+1)))=0/\sg M i (m+1)<V*4294967296:=by
 obtain⟨d,hd⟩:∃ d,M.length=i+(m+1)+d:=⟨M.length-(i+(m+1)),by omega⟩
 have e1:val M=sg M 0 i+pw i*(sg M i (m+1)+pw (m+1)*sg M (i+(m+1)) d):=by
  rw[<-dL M,hd,show i+(m+1)+d=i+(m+1+d) by omega,iW M 0 i (m+1+d) (by omega),dK,iW M i (m+1) d (by omega)]
 rw[hd,Nat.add_sub_cancel_left];obtain⟨S,hS⟩:∃ S,sg M i (m+1)+pw (m+1)*sg M (i+(m+1)) d=S:=⟨_,rfl⟩;rw[hS] at e1
 have h1:S<4294967296*V:=by
  by_cases h:S<4294967296*V
  · exact h
  · exfalso;have:pw i*(4294967296*V)<=pw i*S:=gX _ (by omega);have e:pw (i+1)*V=pw i*(4294967296*V):=by rw[bU,cZ 4294967296,aM]
    omega
 have h2:4294967296*V<pw (m+1):=by rw[bU];exact yB hV (by decide)
 constructor
 · rcases kU (sg M (i+(m+1)) d) with h | h
   · exact h
   · exfalso;have:pw (m+1)*1<=pw (m+1)*sg M (i+(m+1)) d:=gX _ h;omega
 · rw[cZ];omega
theorem Rs(Y m z:Nat)(hY:Y≠0)(h1:pw (m-1)*2^(31-z)<=Y)(h2:Y<pw (m-1)*2^(32-z))(hz:z<32)(hm:0<m) :
 (ws (Y*2^z)).length=m/\Y*2^z<pw m/\2147483648<=(ws (Y*2^z)).getD (m-1) 0:=by
 obtain⟨k,rfl⟩:∃ k,m=k+1:=⟨m-1,by omega⟩;rw[kQ] at h1 h2 |-
 have a1:pw k*2147483648<=Y*2^z:=by
  have:=fQ (2^z) h1;rw[aM,<-aL,show 31-z+z=31 by omega] at this;exact this
 have a2:Y*2^z<pw (k+1):=by
  have:=fA h2 (bz z);rw[aM,<-aL,show 32-z+z=32 by omega] at this;rw[bU,cZ 4294967296];exact this
 have hp:=jZ k;have hl:=JF (Y*2^z) k (by omega) a2;refine⟨hl,a2,?_⟩;have hw:=dm (Y*2^z);have hv:=aj (Y*2^z);rw[<-dL,hl,bC _ 0 k (by omega),dK] at hv;have hs:=nT (ws (Y*2^z)) 0 k hw (by omega)
 by_cases h:2147483648<=(ws (Y*2^z)).getD k 0
 · exact h
 · exfalso;have:pw k*((ws (Y*2^z)).getD k 0+1)<=pw k*2147483648:=gX _ (by omega);rw[jM] at this;omega
theorem Rt(X Y P q r:Nat)(hP:0<P)(h:X*P=q*(Y*P)+r)(hr:r<Y*P):q=X/Y/\r/P=X%Y:=by
 have hY:0<Y:=by
  rcases kU Y with e|e
  · subst e;rw[eG] at hr;omega
  · exact e
 have hq:X*P/(Y*P)=q:=by
  rw[h,qf,Nat.add_mul_div_right _ _ (iE hY hP),gY hr,dK]
 have hm:X*P%(Y*P)=r:=by
  rw[h,qf,Nat.add_mul_mod_self_right,lT hr]
 rw[Nat.mul_div_mul_right _ _ hP] at hq;rw[Nat.mul_mod_mul_right] at hm;exact⟨hq.symm,by rw[<-hm,Nat.mul_div_cancel _ hP]⟩
theorem Qag{P:Prop}(h:P:=by
 have N:=Nt.gD (lo:=g) HM.o (aA _) dw (by rw[gJ];unfold maxLen;omega);rw[<-e4,<-hg];rw[gJ] at N;exact N):P:=h
theorem z8 (xs:List Nat) (ao:Option Addr) (n cap B by' words rest:Nat) (w:World) (hn:n=xs.length) (hc:n<=cap) (hby:by'=32*words+rest) (hrest:rest<32) (hbig:words+n<=70368744177663)
 (hx:Wf xs) (hR:Rd B w ao xs) (hB:B<=w.heap.size) :
 As 193 #[.slice ao n cap,.int .i64 (by':Nat)] w fun r w'=>∃ v,r=.returned v/\Nt w.heap.size w' v (val xs*2^by')/\Below w.heap.size w w':=by
 obtain⟨W1,hW1⟩:=af (w.alloc (.cells (madeCells #[.int .u32 0] (words+n+1)) 91));have ni:Own W1 w.heap.size (List.replicate (words+n+1) 0):=by rw[hW1];exact Own.made w _
 have hB1:Below w.heap.size w W1:=by rw[hW1];exact(aB _ _).alloc (aA _) _
 have hmk:=dI ((words:Int)+n+1) (words+n+1) (by omega) (by omega) w;rw[<-hW1] at hmk;have qO:Rd B W1 ao xs:=hR.below (hB1.mono hB);have e1:(by':Int)/32=(words:Int):=by omega
 have e2:(by':Int)%32=(rest:Int):=by omega
 obtain⟨g,hg⟩:=af (w.heap.size);rw[<-hg] at ni hmk hB1 hB;have HR:=(iC qO hx hn hB1 hg hby);have HO:=hid ni;clear hn hx hR ni hB1 hW1 qO hg hby;go_enter Tryz.func193,Tryz.ntmps193;go_wp2
 go_loopg [23] n (fun gk i wr=>∃ (k:Nat) (M:List Nat),gk+k=n/\i=.int .i64 (k:Nat) /\
  Hid (Own wr g M)/\Aside (Wf M/\M.length=words+n+1/\sg M 0 words=0/\M.getD (words+k) 0<2^rest/\sg M words (k+1)=sg xs 0 k*2^rest/\But g W1 wr))
 case atStart=>exact⟨0,_,by omega,rfl,HO,Wf.zeros _,by simp,q9 _ _ _,by rw[wh];exact bz _,by rw[q9,dZ];simp,But.refl _ _⟩
 case round =>
  obtain⟨k,M,Ff,rfl,HM,HA⟩:=hrel
  by_cases hk:k<n
  · obtain⟨hR,hx,hn,hB1,hg,hby⟩:=HR.o;obtain⟨dw,gJ,hM0,hMt,hMs,aG⟩:=HA.o;have Ru:g<=W1.heap.size:=by have:=hB1.size;omega
    obtain⟨b,fT,MI,rfl,hbc⟩:=hR (by intro e;subst e;simp at hn;omega)
    have hbk:wr.cell? ⟨b,fT+k,none⟩=some (.int .u32 ((xs.getD k 0:Nat):Int)):=by
     have h1:=aG.block b (lK W1 ⟨b,fT+k,none⟩ (hbc k (by omega))) (by omega);exact zc
    obtain⟨y,hy⟩:∃ y:Nat,xs.getD k 0=y:=⟨_,rfl⟩;have hyl:y<4294967296:=hy ▸ hx.get _;rw[hy] at hbk;have hgc:=HM.o.cell (words+k) (by omega);have hgf:=HM.o.frozen (words+k);have hgf2:=HM.o.frozen (words+k+1);have hgc2:=HM.o.cell (words+k+1) (by omega);obtain⟨x,gF⟩:∃ x:Nat,M.getD (words+k) 0=x:=⟨_,rfl⟩;have hxl:x<4294967296:=gF ▸ dw.get _;rw[gF] at hgc;obtain⟨t,ht⟩:∃ t:Nat,t=y*2^rest:=⟨_,rfl⟩;have htl:t<18446744073709551616:=by rw[ht];exact XZ y rest hyl hrest
    have e3:IntKind.u64.wrap ((y:Int)*2^rest)=(t:Int):=by
     have ec:(y:Int)*2^rest=(t:Int):=by rw[ht,fZ,Int.natCast_pow];rfl
     rw[ec];exact JL _ (by omega) (by omega)
    obtain⟨s,hs⟩:∃ s:Nat,s=x+t%4294967296:=⟨_,rfl⟩;obtain⟨d,hd⟩:∃ d:Nat,d=t/4294967296:=⟨_,rfl⟩;have e4':x ||| (t%4294967296)=s:=by rw[hs,ht];exact VT x y rest hrest (by rw[<-gF];exact hMt)
    have e4:bits BinOp.or IntKind.u32 (x:Int) ((t:Int)%4294967296)=(s:Int):=by
     have:=XY x (t%4294967296) hxl (by omega);rw[e4'] at this;rw[<-this];simp
    have e5:(t:Int)/4294967296=(d:Int):=by omega
    have htl':(t:Int)<18446744073709551616:=by omega
    have hsl:s<4294967296:=by rw[<-e4'];exact Nat.or_lt_two_pow (n:=32) hxl (by omega)
    have HX:=(jY hy hn gF ht hs hd hsl);clear hy gF hR hx hn hB1 hg dw gJ hM0 hMt hMs aG hbc Ru hby ht hs hd htl e4' hsl;go_wp2;go_roundg (gk-1)
    case measure=>omega
    case rel =>
     obtain⟨hy,hn,gF,ht,hs,hd,hsl⟩:=HX.o;obtain⟨dw,gJ,hM0,hMt,hMs,aG⟩:=HA.o;have hdl:d<2^rest:=by rw[hd,ht];exact VU y rest hyl
     have h2:=qz rest hrest;refine⟨k+1,(M.set (words+k) s).set (words+k+1) d,by omega,by go_num,(HM.o.set _ _).set _ _,(dw.set _ _ hsl).set _ _ (by omega),by simp[gJ],?_,?_,?_,(aG.set _ _).set _ _⟩
     · rw[nu _ _ _ _ _ (by omega) (by simp;omega),nu _ _ _ _ _ (by omega) (by omega)];exact hM0
     · rw[show words+(k+1)=words+k+1 by omega,iO _ _ _ (by simp;omega)];exact hdl
     · have e1:=cO (M.set (words+k) s) words (k+1) d (by simp;omega);rw[show words+(k+1)=words+k+1 by omega] at e1;rw[e1,cO _ _ _ _ (by omega),bC xs 0 k (by omega),dK,hy,bU];rw[bC _ _ _ (by omega),gF] at hMs;exact Rn (pw k) _ x t 0 _ s d y _ hMs ht hs hd
  · obtain rfl:k=n:=by omega
    obtain⟨dw,gJ,hM0,hMt,hMs,aG⟩:=HA.o;have T:=hid (dW M (some ⟨g,0,none⟩) (words+k+1) (words+k+1) (g+1) wr gJ.symm (aA _) (by omega) (by simpa [gJ,iy] using Rd.gD HM.o 0 (words+k+1)));clear dw gJ hM0 hMt hMs aG;go_wp2_with fail;refine T.o.mono ?_;rintro r w1 ⟨rfl,rfl⟩;go_wp2;go_ret;obtain⟨hR,hx,hn,hB1,hg,hby⟩:=HR.o;obtain⟨dw,gJ,hM0,hMt,hMs,aG⟩:=HA.o;have e3:sg xs 0 k=val xs:=by rw[hn];exact dL xs
    have e4:val M=val xs*2^by':=by
     rw[<-dL M,gJ,show words+k+1=words+(k+1) by omega,iW M 0 words (k+1) (by omega),hM0,dK,dK,hMs,e3,hby,mg]
     grind
    refine⟨_,rfl,?_,?_⟩
    · exact Qag
    · rw[<-hg];exact But.below hB1 aG (by have:=hB1.size;omega) (aA _)
theorem wy(l x:Nat)(hl:l<4294967296)(hx:x<4294967296):bits BinOp.or IntKind.u64 (x:Int) ((l:Int)*4294967296)=((x+l*4294967296:Nat):Int):=by
 have e:((l:Int)*4294967296)=((l*4294967296:Nat):Int):=by simp only[fZ];rfl
 rw[e,bits_or_u64_nat _ _ (by omega) (by omega)];have:=EW (i:=32) (b:=x) (by omega) l;have e2:2^32*l=l*4294967296:=by rw[cZ]
 rw[e2] at this;rw[Nat.or_comm,<-this,qf]
theorem yQ(L:List Nat)(i rest:Nat)(hL:Wf L)(hr:rest<32)(hi:i<L.length) :
 (val L/2^rest/pw i)%4294967296=((L.getD i 0+L.getD (i+1) 0*4294967296)/2^rest)%4294967296:=by
 have h1:val L/2^rest/pw i=val (L.drop i)/2^rest:=by
  rw[nP,cZ,<-nP,fM L i (by omega)];have:=df (L.take i) (hL.take i);rw[iw,jd (by omega)] at this;rw[qV _ _ (jZ i),gY this,dK]
 rw[h1,dV L i hi]
 obtain⟨R,hR⟩:∃ R,val (L.drop (i+1))=L.getD (i+1) 0+4294967296*R:=by
  by_cases h:i+1<L.length
  · exact⟨_,dV L (i+1) h⟩
  · refine⟨0,?_⟩;rw[yD (by omega),fP,nZ (by omega)];rfl
 rw[hR]
 have e:L.getD i 0+4294967296*(L.getD (i+1) 0+4294967296*R)=(L.getD i 0+L.getD (i+1) 0*4294967296)+2^rest*(4294967296*(2^(32-rest)*R)):=by
  have:=kC rest hr;have:2^rest*(4294967296*(2^(32-rest)*R))=4294967296*(4294967296*R):=by rw[<-this];grind
  rw[this];omega
 rw[e,qV _ _ (bz _),zI]
theorem Cy(V p:Nat)(hp:0<p):V%p+p*(V/p%4294967296)=V%(4294967296*p):=by
 rw[cZ 4294967296,Nat.mod_mul]
theorem qk{P:Prop}(h:P:=by
 go_wp2;go_roundg (gk-1)
 case measure=>omega
 case rel =>
  obtain⟨sS,sQ,hn,hB2,hg,hby,hL⟩:=HR.o;obtain⟨dw,gJ,MJ,hMs,aG⟩:=HA.o;obtain⟨hs,hsl⟩:=HX.o;refine⟨k+1,M.set k s,by omega,by go_num,HM.o.set _ _,dw.set _ _ hsl,by simp[gJ],fun j hj=>?_,?_,aG.set _ _⟩
  · rw[getD_set_ne _ _ _ _ (by omega)];exact MJ j (by omega)
  · have e1:=cO M 0 k s (by omega);rw[dK] at e1;rw[e1,hMs,hs,<-yQ L k rest sS hrest (by omega),bU];exact Cy _ _ (jZ k)):P:=h
theorem wz (xs:List Nat) (ao:Option Addr) (n cap B by' words rest:Nat) (w:World) (hn:n=xs.length) (hc:n<=cap) (hby:by'=32*words+rest) (hrest:rest<32) (hbig:n<=70368744177663) (hby2:by'<=9223372036854775807)
 (hx:Wf xs) (hR:Rd B w ao xs) (hB:B<=w.heap.size) :
 As 192 #[.slice ao n cap,.int .i64 (by':Nat)] w fun r w'=>∃ v,r=.returned v/\Nt w.heap.size w' v (val xs/2^by')/\Below w.heap.size w w':=by
 have e1:(by':Int)/32=(words:Int):=by omega
 have e2:(by':Int)%32=(rest:Int):=by omega
 by_cases hw:n<=words
 · have hv:val xs/2^by'=0:=by
    have h1:=df xs hx;rw[<-hn] at h1
    have h2:pw n<=2^by':=by
     rw[hby,mg];have:=jK hw;have:=jC this (bz rest);omega
    exact gY (by omega)
   rw[hv];clear hv hn hx hR hby;go_enter Tryz.func192,Tryz.ntmps192;go_wp2;go_ret;exact⟨_,rfl,Nt.nil _ _,aB _ _⟩
 · have hwn:words<n:=by omega
   obtain⟨b,fT,MI,rfl,hbc⟩:=hR (by intro e;subst e;simp at hn;omega);obtain⟨k0,hk0⟩:=af (n-words);obtain⟨W1,hW1⟩:=af (w.alloc (.cells (madeCells #[.int .u32 0] (n-words)) 91));have ni:Own W1 w.heap.size (List.replicate (n-words) 0):=by rw[hW1];exact Own.made w _
   have hB1:Below w.heap.size w W1:=by rw[hW1];exact(aB _ _).alloc (aA _) _
   have hmk:=dI ((n:Int)-words) (n-words) (by omega) (by omega) w;rw[<-hW1] at hmk;obtain⟨W2,hcp,hO2,hb2⟩:=jF W1 w.heap.size (n-words) (n-words) (some ⟨b,fT+words,none⟩) (n-words) (cap-words) B 3 (List.replicate (n-words) 0) (xs.drop words) ni (by simp) (by simp;omega) ((hR.below (hB1.mono hB)).drop words) (by omega);have ed:(List.replicate (n-words) 0).drop (n-words)=([]:List Nat):=by simp
   rw[ed,List.append_nil] at hO2;clear ed;have hB2:Below w.heap.size w W2:=But.below hB1 hb2 hB1.size (aA _);obtain⟨g,hg⟩:=af (w.heap.size);rw[<-hg] at hO2 hmk hB2 hB hcp;obtain⟨L,hL⟩:=af (xs.drop words);have sQ:L.length=n-words:=by rw[hL];simp;omega
   have sS:Wf L:=by rw[hL];exact hx.drop words
   rw[<-hL] at hO2;have HR:=(jY sS sQ hn hB2 hg hby hL);have hxw:=hid hx;have HO:=hid hO2;clear hn hx hR ni hB1 hW1 hg hby hO2 hB2 hL sQ sS hb2 hbc hk0;go_enter Tryz.func192,Tryz.ntmps192;go_wp2
   go_loopg [30] (n-words) (fun gk i wr=>∃ (k:Nat) (M:List Nat),gk+k=n-words/\i=.int .i64 (k:Nat) /\
    Hid (Own wr g M)/\Aside (Wf M/\M.length=n-words/\(∀ j,k<=j->M.getD j 0=L.getD j 0)/\sg M 0 k=val L/2^rest%pw k/\But g W2 wr))
   case atStart=>exact⟨0,_,by omega,rfl,HO,HR.o.1,HR.o.2.1,fun _ _=>rfl,by rw[dZ,jo,Nat.mod_one],But.refl _ _⟩
   case round =>
    obtain⟨k,M,Ff,rfl,HM,HA⟩:=hrel
    by_cases hk:k<n-words
    · obtain⟨sS,sQ,hn,hB2,hg,hby,hL⟩:=HR.o;obtain⟨dw,gJ,MJ,hMs,aG⟩:=HA.o;have hgc:=HM.o.cell k (by omega);have hgf:=HM.o.frozen k;obtain⟨x,gF⟩:∃ x:Nat,M.getD k 0=x:=⟨_,rfl⟩;have hxl:x<4294967296:=gF ▸ dw.get _;rw[gF] at hgc
      by_cases hk1:k+1<n-words
      · have hgc1:=HM.o.cell (k+1) (by omega);obtain⟨y,qi⟩:∃ y:Nat,M.getD (k+1) 0=y:=⟨_,rfl⟩;have hyl:y<4294967296:=qi ▸ dw.get _;rw[qi] at hgc1;obtain⟨t,ht⟩:∃ t:Nat,t=x+y*4294967296:=⟨_,rfl⟩;have e3:bits BinOp.or IntKind.u64 (x:Int) ((y:Int)*4294967296)=(t:Int):=by rw[wy y x hyl hxl,ht]
        obtain⟨s,hs⟩:∃ s:Nat,s=t/2^rest%4294967296:=⟨_,rfl⟩;have e4:(t:Int)/2^rest%4294967296=(s:Int):=by rw[hs];simp
        have hs2:s=(L.getD k 0+L.getD (k+1) 0*4294967296)/2^rest%4294967296:=by
         rw[hs,ht,<-gF,<-qi,MJ k (by omega),MJ (k+1) (by omega)]
        have hsl:s<4294967296:=by omega
        have HX:=(aJ hs2 hsl);clear gF qi sS sQ hn hB2 hg hby hL dw gJ MJ hMs aG hs hs2 hsl ht;exact qk
      · obtain⟨s,hs⟩:∃ s:Nat,s=x/2^rest:=⟨_,rfl⟩;have e4:(x:Int)/2^rest=(s:Int):=by rw[hs];simp
        have hsx:s<=x:=by rw[hs];exact nO _ _
        have hs2:s=(L.getD k 0+L.getD (k+1) 0*4294967296)/2^rest%4294967296:=by
         have:L.getD (k+1) 0=0:=by rw[fP,nZ (by omega)];rfl
         rw[this,eG,gW,<-MJ k (by omega),gF,<-hs];omega
        have hsl:s<4294967296:=by omega
        have HX:=(aJ hs2 hsl);have e5:(s:Int)%4294967296=(s:Int):=by omega
        clear gF sS sQ hn hB2 hg hby hL dw gJ MJ hMs aG hs hs2;exact qk
    · obtain rfl:k=n-words:=by omega
      obtain⟨dw,gJ,MJ,hMs,aG⟩:=HA.o;have T:=hid (dW M (some ⟨g,0,none⟩) (n-words) (n-words) (g+1) wr gJ.symm (aA _) (by omega) (by simpa [gJ,iy] using Rd.gD HM.o 0 (n-words)));clear dw gJ MJ hMs aG;go_wp2_with fail;refine T.o.mono ?_;rintro r w1 ⟨rfl,rfl⟩;go_wp2;go_ret;obtain⟨sS,sQ,hn,hB2,hg,hby,hL⟩:=HR.o;obtain⟨dw,gJ,MJ,hMs,aG⟩:=HA.o
      have e4:val M=val xs/2^by':=by
       have h1:val L<pw (n-words):=by rw[<-sQ];exact df L sS
       have h2:val L/2^rest<pw (n-words):=fu (nO _ _) h1;rw[lT h2] at hMs;rw[<-dL M,gJ,hMs,hby,mg,<-nP];congr 1;have h3:=fM xs words (by omega)
       have h4:val (xs.take words)<pw words:=by
        have:(xs.take words).length=words:=by rw[iw];omega
        have h5:Wf xs:=hxw.o;have:=df _ (h5.take words);rwa [‹(xs.take words).length=words›] at this
       rw[h3,qV _ _ (jZ words),gY h4,dK,hL]
      refine⟨_,rfl,?_,?_⟩
      · exact Qag
      · rw[<-hg];exact But.below hB2 aG (by have:=hB2.size;omega) (aA _)
def Two(lo:Nat)(w:World)(r:Ending)(X Y:Nat):Prop:=∃ v u,r=.returned (.tuple #[v,u])/\Nt lo w v X/\Nt lo w u Y/\Apart v u
theorem Ns (xs ys:List Nat) (ao bo:Option Addr) (n cap m aX B:Nat) (w:World) (hn:n=xs.length) (hm:m=ys.length) (hnm:n<m) (hc:n<=cap) (hbig:n<=35184372088833)
 (hx:Wf xs) (hy:Wf ys) (htop:ys.getD (m-1) 0≠0) (hR:Rd B w ao xs) (hB:B<=w.heap.size) :
 As 195 #[.slice ao n cap,.slice bo m aX] w fun r w'=>Two w.heap.size w' r (val xs/val ys) (val xs%val ys)/\An w w':=by
 have hlt:val xs<val ys:=by
  have h1:=df xs hx
  have h2:pw (m-1)<=val ys:=by
   have e:=bC ys 0 (m-1) (by omega);rw[dK,show m-1+1=ys.length by omega,dL] at e;have:=gX (pw (m-1)) (show 1<=ys.getD (m-1) 0 by omega);omega
  have h3:=jK (show xs.length<=m-1 by omega);omega
 have N:=hid (Cw xs ao n cap B w hn hc (by omega) hx hR hB);have HL:=(ak hlt);have hlen:Hid ((ws (val xs)).length<=n):=by rw[<-fI xs hx,hn];exact jN xs
 clear hn hm hx hy htop hR hlt;go_enter Tryz.func195,Tryz.ntmps195;go_wp2_with fail;refine N.o.mono ?_;rintro r w1 ⟨rfl,hO,hb⟩;have HO:=(aJ hO hb);clear hO hb N;go_wp2
 go_ret2
 obtain⟨hO,hb⟩:=HO.o;rw[gY HL.o,lT HL.o];refine⟨⟨_,_,rfl,Nt.nil _ _,?_,mI _⟩,hb⟩
 have T:=Nt.gD (lo:=w.heap.size) hO (aA _) (dm _) (by
  have:(ws (val xs)).length<=35184372088833:=by
   have h:=hlen.o;omega
  unfold maxLen;omega)
 rw[aj,H8] at T;exact T
theorem div_one (xs ys:List Nat) (ao bo:Option Addr) (n cap aX B:Nat) (w:World) (hn:n=xs.length) (hm:1=ys.length) (hnm:1<=n) (hc:n<=cap) (hcb:1<=aX) (hbig:n<=35184372088833)
 (hx:Wf xs) (hy:Wf ys) (htop:ys.getD 0 0≠0) (hR:Rd B w ao xs) (hS:Rd B w bo ys) (hB:B<=w.heap.size) :
 As 195 #[.slice ao n cap,.slice bo 1 aX] w fun r w'=>Two w.heap.size w' r (val xs/val ys) (val xs%val ys)/\An w w':=by
 have N:=hid (Cw xs ao n cap B w hn hc (by omega) hx hR hB);have hlen:(ws (val xs)).length<=n:=by rw[<-fI xs hx,hn];exact jN xs
 obtain⟨b,fT,MI,rfl,hbc⟩:=hS (by intro e;subst e;simp at hm);have hb0:=hbc 0 (by omega);rw[gW] at hb0
 have hv:val ys=ys.getD 0 0:=by
  rw[<-dL ys,<-hm,show(1:Nat)=0+1 from rfl,bC ys 0 0 (by omega),dZ,jo];simp
 have hyl:=hy.get 0;obtain⟨y,qi⟩:∃ y,ys.getD 0 0=y:=⟨_,rfl⟩;rw[qi] at hb0 hv hyl htop;rw[hv];obtain⟨k,hk⟩:∃ k,(ws (val xs)).length=k:=⟨_,rfl⟩;rw[hk] at N hlen;obtain⟨X,hX⟩:∃ X,val xs=X:=⟨_,rfl⟩;rw[hX] at N hk |-;have HH:=(aJ hk hX);clear hn hm hx hy hR hS hbc hv qi hk hX;go_enter Tryz.func195,Tryz.ntmps195;go_wp2_with fail;refine N.o.mono ?_;rintro r w1 ⟨rfl,hO,hb⟩;have hb1:w1.cell? ⟨b,fT,none⟩=some (.int .u32 (y:Int)):=(hb.cell (p:=⟨b,fT,none⟩) (by exact iJ MI hB)).trans hb0;have C:=hid (Rm (ws X) w.heap.size 0 k k y w1 hO (by rw[HH.o.1];omega) (aA _) (by omega) (dm X) hyl (by omega));have H1:=(ak hb);clear hO hb N hb0;go_wp2_with fail;refine C.o.mono ?_;rintro r w2 ⟨M,c,rfl,hcy,hO2,hM,hout,hsum,aG⟩;have hl:M.length=k:=by rw[hout.1];exact HH.o.1
 have T:=hid (dW M (some ⟨w.heap.size,0,none⟩) k k (w.heap.size+1) w2 hl.symm (aA _) (by omega) (by simpa [hl,iy] using Rd.gD hO2 0 k));have H2:=(iC hO2 hM hout hsum aG hl);clear hO2 hM hout hsum aG hl C hb1;go_wp2_with fail;refine T.o.mono ?_;rintro r w3 ⟨rfl,rfl⟩;have F:=hid (qA c w3 (by omega));clear T;go_wp2_with fail;refine F.o.mono ?_;rintro r w4 ⟨vr,rfl,iD,hb4⟩;have H4:=(aJ iD hb4);clear iD hb4 F;go_wp2
 go_ret2
 obtain⟨hO2,hM,hout,hsum,aG,hl⟩:=H2.o;obtain⟨iD,hb4⟩:=H4.o;have hb:=H1.o
 have hs2:X=val M*y+c:=by
  have e1:sg (ws X) 0 k=X:=by rw[<-HH.o.1,dL,aj]
  have e2:sg M 0 k=val M:=by rw[<-hl,dL]
  rw[e1,e2] at hsum;exact hsum
 have hq:X/y=val M:=by rw[hs2,qf,Nat.add_mul_div_right _ _ (by omega),gY hcy,dK]
 have hr:X%y=c:=by rw[hs2,qf,Nat.add_mul_mod_self_right,lT hcy]
 rw[hq,hr];have hsz:w.heap.size<=w3.heap.size:=cB hb.size aG.size;have Q:=Nt.gD (lo:=w.heap.size) hO2 (aA _) hM (by rw[hl];unfold maxLen;omega);rw[hl] at Q;refine⟨⟨_,_,rfl,Q.below hb4,iD.mono hsz,rz (hi:=0) Q iD (aA _)⟩,?_⟩;exact(But.below hb aG hb.size (aA _)).trans (hb4.mono hsz)
theorem JV(X Y n m z:Nat)(hX:X<pw n)(hY:pw (m-1)*2^(31-z)<=Y)(hz:z<32)(hm:0<m)(hnm:m<=n):X*2^z<pw (n-m+1)*(Y*2^z):=by
 have h1:pw n=pw (n-m+1)*pw (m-1):=by rw[<-qx];congr 1;omega
 have h2:pw n<=pw (n-m+1)*Y:=by
  have h3:pw (m-1)*1<=pw (m-1)*2^(31-z):=gX _ (bz _);rw[h1];exact gX _ (by omega)
 have h3:X*2^z<pw (n-m+1)*Y*2^z:=fA (by omega) (bz z);rw[aM] at h3;exact h3
theorem Fh(ys:List Nat)(m:Nat)(hm:m=ys.length)(hy:Wf ys)(hm0:0<m)(htop:ys.getD (m-1) 0≠0) :
 ∃ z,z=32-bl (ys.getD (m-1) 0)/\z<32/\val ys≠0/\pw (m-1)*2^(31-z)<=val ys/\val ys<pw (m-1)*2^(32-z):=by
 have hl:=hy.get (m-1);have h1:=vL _ hl;have h2:=dG _ htop;have h3:=ib _ htop;have h4:=iF (ys.getD (m-1) 0);have e:=bC ys 0 (m-1) (by omega);rw[dK,show m-1+1=ys.length by omega,dL] at e;have h5:=nT ys 0 (m-1) hy (by omega);generalize ys.getD (m-1) 0=t at *;have hp:=jZ (m-1);have h6:pw (m-1)*2^(bl t-1)<=pw (m-1)*t:=gX _ h3;have h7:pw (m-1)*(t+1)<=pw (m-1)*2^bl t:=gX _ h4;rw[jM,eO] at h7;have h8:pw (m-1)*1<=pw (m-1)*t:=gX _ (by omega);refine⟨32-bl t,rfl,by omega,by omega,?_,?_⟩
 · rw[show 31-(32-bl t)=bl t-1 by omega];omega
 · rw[show 32-(32-bl t)=bl t by omega];omega
theorem Nu (xs ys:List Nat) (ao bo:Option Addr) (n cap m aX B:Nat) (w:World) (hn:n=xs.length) (hm:m=ys.length) (hm2:2<=m) (hnm:m<=n) (hc:n<=cap) (hcb:m<=aX) (hbig:n<=35184372088833)
 (hx:Wf xs) (hy:Wf ys) (htop:ys.getD (m-1) 0≠0) (hR:Rd B w ao xs) (hS:Rd B w bo ys) (hB:B<=w.heap.size) :
 As 195 #[.slice ao n cap,.slice bo m aX] w fun r w'=>Two w.heap.size w' r (val xs/val ys) (val xs%val ys)/\An w w':=by
 obtain⟨z,hz,hz32,hY0,iX,hY2⟩:=Fh ys m hm hy (by omega) htop;obtain⟨Ig,wB,Nv⟩:=Rs (val ys) m z hY0 iX hY2 hz32 (by omega);obtain⟨b,fT,MI,rfl,hbc⟩:=hS (by intro e;subst e;simp at hm;omega);have hbt:=hbc (m-1) (by omega);have htl:=hy.get (m-1);have L0:=Fg (ys.getD (m-1) 0) w htl;rw[<-hz] at L0;have U1:=hid (z8 ys (some ⟨b,fT,none⟩) m aX B z 0 z w hm hcb (by omega) hz32 (by omega) hy hS hB);obtain⟨t,ht⟩:∃ t,ys.getD (m-1) 0=t:=⟨_,rfl⟩;rw[ht] at hbt L0 htl;have L1:=hid L0;obtain⟨V,hV⟩:∃ V,val ys*2^z=V:=⟨_,rfl⟩;rw[hV] at Ig wB Nv U1
 have hX2:val xs*2^z<pw (n+1):=by
  have h1:=df xs hx;rw[<-hn] at h1;have h2:=qz z hz32;have h3:val xs*2^z<=pw n*2147483648:=jC (by omega) h2;have h4:pw n*2147483648<pw (n+1):=by rw[bU,cZ];exact fA (by decide) (jZ n)
  omega
 have Fj:=(aP _ _).2 hX2;have hst:=JV (val xs) (val ys) n m z (by rw[hn];exact df xs hx) iX hz32 (by omega) hnm;rw[hV] at hst;have HST:=(ak hst);have HH:=(qs12 hn hm hx hy hR hS Ig wB Nv hV hY0 Fj);clear hst;clear L0 hn hm hx hy htop hR hS hz hY0 iX hY2 Ig wB Nv hV hX2 Fj hbc ht;have hm1:(1:Int)<=(m:Int):=by omega
 have hmne:((m:Int)==1)=false:=by simp;omega
 go_enter Tryz.func195,Tryz.ntmps195;go_wp2_with fail;refine L1.o.mono ?_;rintro r w0 ⟨rfl,rfl⟩;go_wp2_with fail;refine U1.o.mono ?_;rintro r w1 ⟨vv,rfl,hN1,hb1⟩;obtain⟨hn,hm,hx,hy,hR,hS,Ig,wB,Nv,hV,hY0,Fj⟩:=HH.o;obtain⟨av,cv,rfl,hcv,hcm,hRv⟩:=hN1.shape;rw[Ig] at *;obtain⟨gu,hgu⟩:=af (w1.heap.size);obtain⟨W2,hW2⟩:=af (w1.alloc (.cells (madeCells #[.int .u32 0] (n+1)) 91));have hO2:Own W2 gu (List.replicate (n+1) 0):=by rw[hW2,hgu];exact Own.made w1 _
 have hB2:Below gu w1 W2:=by rw[hW2,hgu];exact(aB _ _).alloc (aA _) _
 have hmk:=dI ((n:Int)+1) (n+1) (by omega) (by omega) w1;rw[<-hW2,<-hgu] at hmk;have hs1:=hb1.size;have hs2:=hB2.size;have hg2:=hO2.lt;have U2:=hid (z8 xs ao n cap B z 0 z W2 hn hc (by omega) hz32 (by omega) hx ((hR.below (hb1.mono hB)).below (hB2.mono (by omega))) (by omega));have H1:=(jY hN1 hb1 hRv hO2 hB2 hgu hg2);clear hn hm hx hy hR hS Ig wB Nv hV hY0 Fj hN1 hb1 hRv hO2 hB2 hW2 hs1 hs2 L1 U1 hbt hg2 hgu;go_wp2_with fail;refine U2.o.mono ?_;rintro r W3 ⟨va,rfl,eu,hb3⟩;obtain⟨aa,ca,rfl,hca,hcam,hRa⟩:=eu.shape;obtain⟨hn,hm,hx,hy,hR,hS,Ig,wB,Nv,hV,hY0,Fj⟩:=HH.o;obtain⟨hN1,hb1,hRv,hO2,hB2,JW,hg2⟩:=H1.o;obtain⟨W4,hcp,hO4,hb4⟩:=jF W3 gu (n+1) (n+1) aa (ws (val xs*2^z)).length ca W3.heap.size 3 (List.replicate (n+1) 0) (ws (val xs*2^z)) (hO2.below hb3 hg2) (by simp) rfl hRa Fj;obtain⟨gq,sF⟩:=af (W4.heap.size);obtain⟨W5,Fp⟩:=af (W4.alloc (.cells (madeCells #[.int .u32 0] (n-m+1)) 91));have Ik:Own W5 gq (List.replicate (n-m+1) 0):=by rw[Fp,sF];exact Own.made W4 _
 have hmk5:=dI ((n:Int)-m+1) (n-m+1) (by omega) (by omega) W4;rw[<-Fp,<-sF] at hmk5;obtain⟨L,hL⟩:=af (ws (val xs*2^z)++(List.replicate (n+1) 0).drop (ws (val xs*2^z)).length);rw[<-hL] at hO4;have sQ:L.length=n+1:=by rw[hL,Ce,qR,Cf];omega
 have sS:Wf L:=by rw[hL,Cb];exact(dm _).append (Wf.zeros _)
 have EH:val L=val xs*2^z:=by rw[hL,val_append,aj,Cb,o8];simp
 have hs3:=hb3.size;have hs4:=hb4.size;have Nw:gu<gq:=by rw[sF];have:=hO4.lt;omega
 have Ny:Below gu w1 W5:=by
  rw[Fp];have a1:Below gu w1 W3:=hB2.trans (hb3.mono (by omega));have a2:Below gu w1 W4:=But.below a1 hb4 (by omega) (aA _);exact a2.alloc (by omega) _
 have Nz:Own W5 gu L:=by rw[Fp];exact hO4.alloc _
 have H2:=(jY Ik Nz sQ sS EH Nw Ny);have hgq1:gu<gq:=Nw;clear hn hm hx hy hR hS Ig wB Nv hV hY0 Fj hN1 hb1 hRv hO2 hB2 JW hg2 eu hb3 hRa hO4 hb4 sF Fp Ik hL sQ sS EH hs3 hs4 Ny Nz U2 Nw hca hcam;have hca2:m<=cv:=by omega
 have e5:((n-m:Nat):Int)=(n:Int)-m:=by omega
 go_wp2
 go_loopg [10] (n-m+1) (fun k i wr=>∃ (M Q:List Nat),k<=n-m+1/\i=.int .i64 ((k:Int)-1)/\Hid (Own wr gu M)/\Hid (Own wr gq Q) /\
  Aside (Wf M/\Wf Q/\M.length=n+1/\Q.length=n-m+1/\val L=pw k*sg Q k (n-m+1-k)*V+val M/\val M<pw k*V/\Below gu w1 wr))
 case atStart =>
  obtain⟨Ik,Nz,sQ,sS,EH,Nw,Ny⟩:=H2.o;refine⟨L,List.replicate (n-m+1) 0,aA _,?_,Nz,Ik,sS,Wf.zeros _,sQ,by simp,?_,?_,Ny⟩
  · first | rfl | (congr 1;omega)
  · rw[yE,dZ];simp
  · rw[EH];exact HST.o
 case round =>
  obtain⟨M,Q,hk,rfl,HM,HQ,HA⟩:=hrel
  by_cases hk0:gk=0
  · subst hk0;obtain⟨dw,V8,gJ,NA,hinv,Aa,hbel⟩:=HA.o;have T1:=hid (dW Q (some ⟨gq,0,none⟩) (n-m+1) (n-m+1) (gq+1) wr NA.symm (aA _) (by omega) (by simpa [NA,iy] using Rd.gD HQ.o 0 (n-m+1)));have T2:=hid (dW M (some ⟨gu,0,none⟩) (n+1) (n+1) (gu+1) wr gJ.symm (aA _) (by omega) (by simpa [gJ,iy] using Rd.gD HM.o 0 (n+1)));have X7:=jN M
    have hRM:Rd (gu+1) wr (some ⟨gu,0,none⟩) (M.take (nl M)):=by
     have:=Rd.gD HM.o 0 (nl M);simpa using this
    have D:=hid (wz (M.take (nl M)) (some ⟨gu,0,none⟩) (nl M) (n+1) (gu+1) z 0 z wr (by rw[iw,jd X7]) (by omega) (by omega) hz32 (by omega) (by omega) (dw.take _) hRM (by have:=HM.o.lt;omega));rw[kX M dw] at D;clear dw V8 gJ NA hinv Aa hbel X7 hRM;go_wp2_with fail;refine T1.o.mono ?_;rintro r wt1 ⟨rfl,rfl⟩;go_wp2_with fail;refine T2.o.mono ?_;rintro r wt2 ⟨rfl,rfl⟩;go_wp2_with fail;refine D.o.mono ?_;rintro r wd ⟨vr,rfl,BS,hbr⟩;have HD:=(aJ BS hbr);clear BS hbr T1 T2 D;go_wp2
    go_ret2
    obtain⟨BS,hbr⟩:=HD.o;obtain⟨hn,hm,hx,hy,hR,hS,Ig,wB,Nv,hV,hY0,Fj⟩:=HH.o;obtain⟨hN1,hb1,hRv,hO2,hB2,JW,hg2⟩:=H1.o;obtain⟨Ik,Nz,sQ,sS,EH,Nw,Ny⟩:=H2.o;obtain⟨dw,V8,gJ,NA,hinv,Aa,hbel⟩:=HA.o;rw[jo,iK] at Aa hinv;rw[Nat.sub_zero,<-NA,dL,EH,<-hV] at hinv;rw[<-hV] at Aa;obtain⟨hq,hr⟩:=Rt (val xs) (val ys) (2^z) (val Q) (val M) (bz z) hinv Aa;rw[<-hq,<-hr];have hsz:w0.heap.size<=gu:=by rw[JW];exact hb1.size
    have NQ:=Nt.gD (lo:=w0.heap.size) HQ.o (by omega) V8 (by rw[NA];unfold maxLen;omega);rw[NA] at NQ;have hwr:gu<=wt2.heap.size:=by have:=HM.o.lt;omega
    refine⟨⟨_,_,rfl,NQ.below hbr,BS.mono (by omega),rz (hi:=0) NQ BS (aA _)⟩,?_⟩;exact((hb1.trans (hbel.mono hsz))).trans (hbr.mono (by omega))
  · obtain⟨i,rfl⟩:∃ i,gk=i+1:=⟨gk-1,by omega⟩;obtain⟨hn,hm,hx,hy,hR,hS,Ig,wB,Nv,hV,hY0,Fj⟩:=HH.o;obtain⟨hN1,hb1,hRv,hO2,hB2,JW,hg2⟩:=H1.o;obtain⟨dw,V8,gJ,NA,hinv,Aa,hbel⟩:=HA.o;obtain⟨k,hk2⟩:∃ k,m=k+2:=⟨m-2,by omega⟩;obtain⟨hz0,hhead⟩:=Nr M i m V dw (by omega) wB Aa
    have T:=hid (Ct M (ws V) gu i (n+1-i) av m cv gu wr k hk2 HM.o (by omega) (by omega) (by omega) (by omega) dw (dm V) ((JW ▸ hRv).below hbel) (aA _)
     (by rw[show k+1=m-1 by omega];exact Nv) (by rw[show k+3=m+1 by omega,aj];exact hhead))
    have hik:(i:Int)<(n:Int)-m+1:=by omega
    have HI:=(aJ hz0 hk2);clear hn hm hx hy hR hS Ig wB Nv hV hY0 Fj hN1 hb1 hRv hO2 hB2 JW hg2 dw V8 gJ NA hinv Aa hbel hz0 hhead hk2 hk0;go_wp2_with fail;rw[show i+m+1-i=m+1 by omega];refine T.o.mono ?_;rintro r w2 ⟨o,M2,rfl,ho,Rx,Ry,hout,hsum,hlt2,aG⟩;have Q7:=HQ.o.but aG (by omega);have hqc:=Q7.cell i (by rw[HA.o.r3.1];omega);have hqf:=Q7.frozen i;have HJ:=(qb ho Rx Ry hout hsum hlt2 aG Q7);clear ho Rx Ry hout hsum hlt2 aG Q7 T;go_wp2;go_roundg i
    case measure=>omega
    case rel =>
     obtain⟨ho,Rx,Ry,hout,hsum,hlt2,aG,Q7⟩:=HJ.o;obtain⟨dw,V8,gJ,NA,hinv,Aa,hbel⟩:=HA.o;obtain⟨hz0,hk2⟩:=HI.o;rw[aj] at hsum hlt2;have hQr:i+1+(n-m+1-(i+1))=Q.length:=by omega
     obtain⟨hX,hlt3⟩:=Nq M M2 Q i m (n-m+1-(i+1)) V o (val L) dw (by omega) hout hinv hz0 hQr hsum hlt2;refine⟨M2,Q.set i o,by omega,by first | go_num | (congr 1;omega),Rx.setOther (by simp;omega) _,Q7.set i o,Ry,V8.set _ _ ho,by rw[hout.1,gJ],by simp[NA],?_,hlt3,(But.below hbel aG (by have:=HM.o.lt;omega) (aA _)).setCell (by simp;omega) _⟩;rw[show n-m+1-i=n-m+1-(i+1)+1 by omega];exact hX
theorem yR(xs:List Nat):sg (xs++[0]) 0 xs.length=val xs:=by simp[sg]
theorem Cz{xs:List Nat}(h:Wf xs):Wf (xs++[0]):=h.append (by intro x hx;simp at hx;omega)
theorem wC(n:Nat):(List.replicate (n+1) 0).drop n=[0]:=by rw[Cb,Nat.add_sub_cancel_left];rfl
theorem yW{P:Prop}(h:P:=by
 have e:val (M.set n c)=sg (M.set n c) 0 (n+1):=by rw[<-dL];simp[hl]
 have e2:=cO M 0 n c (by omega);rw[dK] at e2;rw[e,e2];rw[hn,yR,<-hn] at hsum;rw[cZ c] at hsum;exact hsum):P:=h
theorem We (xs ys:List Nat) (ao bo:Option Addr) (n cap m aX B:Nat) (w:World) (hn:n=xs.length) (hm:m=ys.length) (hnm:m<=n) (hc:n<=cap) (hcb:m<=aX) (hbig:n<=35184372088833)
 (hx:Wf xs) (hy:Wf ys) (hR:Rd B w ao xs) (hS:Rd B w bo ys) (hB:B<=w.heap.size) :
 As 194 #[.slice ao n cap,.slice bo m aX] w fun r w'=>∃ v,r=.returned v/\Nt w.heap.size w' v (val xs+val ys)/\An w w':=by
 obtain⟨W1,hW1⟩:=af (w.alloc (.cells (madeCells #[.int .u32 0] (n+1)) 91));have ni:Own W1 w.heap.size (List.replicate (n+1) 0):=by rw[hW1];exact Own.made w (n+1)
 have hB1:An w W1:=by rw[hW1];exact(aB _ _).alloc (aA _) _
 obtain⟨W2,hcp,hO2,hb2⟩:=jF W1 w.heap.size (n+1) (n+1) ao n cap B 3 (List.replicate (n+1) 0) xs ni (by simp) hn (hR.below (hB1.mono hB)) (by omega);rw[wC] at hO2;have hB2:An w W2:=But.below hB1 hb2 hB1.size (aA _);have H:=hid (sP (xs++[0]) ys w.heap.size 0 n (n+1) bo m aX B W2 hO2 (by simp;omega) hm (by omega) (by omega) (by omega) (Cz hx) hy (hS.below (hB2.mono hB)) hB);have hmk:=dI ((n:Int)+1) (n+1) (by omega) (by omega) w;rw[<-hW1] at hmk;have HH:=(dJ hn hm hx hB2 hB);clear hn hm hx hy hR hS ni hB1 hO2 hb2 hB2 hB hW1;go_enter Tryz.func194,Tryz.ntmps194;go_wp2_with fail;refine H.o.mono ?_;rintro r W3 ⟨M,c,rfl,hc1,hO3,hM,hout,hsum,aG⟩;obtain⟨hn,hm,hx,hB2,hB⟩:=HH.o;have hl:M.length=n+1:=by rw[hout.1];simp;omega
 have hcl:=hO3.cell n (by omega);have hfr:=hO3.frozen n;have hO4:=hO3.set n c;have T:=hid (dW (M.set n c) (some ⟨w.heap.size,0,none⟩) (n+1) (n+1) (w.heap.size+1) _ (by simp[hl]) (aA _) (by omega) (by simpa [hl,iy] using Rd.gD hO4 0 (n+1)));have HI:=(iC hc1 hO4 hM hsum aG hl);clear hn hm hx hB2 hB hc1 hO3 hM hout hsum aG hO4 H hl;go_wp2_with fail;refine T.o.mono ?_;rintro r w1 ⟨rfl,rfl⟩;go_wp2;go_ret;obtain⟨hn,hm,hx,hB2,hB⟩:=HH.o;obtain⟨hc1,hO4,hM,hsum,aG,hl⟩:=HI.o
 have hv:val (M.set n c)=val xs+val ys:=by
  exact yW
 refine⟨_,rfl,?_,But.below hB2 (aG.set n _) hB2.size (aA _)⟩;have N:=Nt.gD (lo:=w.heap.size) hO4 (aA _) (hM.set _ _ (by omega)) (by simp[hl];unfold maxLen;omega);rw[hv] at N;simpa [hl] using N
theorem add_lt (xs ys:List Nat) (ao bo:Option Addr) (n cap m aX B:Nat) (w:World) (hn:n=xs.length) (hm:m=ys.length) (hnm:m<n) (hc:n<=cap) (hcb:m<=aX) (hbig:n<=35184372088833)
 (hx:Wf xs) (hy:Wf ys) (hR:Rd B w ao xs) (hS:Rd B w bo ys) (hB:B<=w.heap.size) :
 As 194 #[.slice bo m aX,.slice ao n cap] w fun r w'=>∃ v,r=.returned v/\Nt w.heap.size w' v (val xs+val ys)/\An w w':=by
 obtain⟨W1,hW1⟩:=af (w.alloc (.cells (madeCells #[.int .u32 0] (n+1)) 91));have ni:Own W1 w.heap.size (List.replicate (n+1) 0):=by rw[hW1];exact Own.made w (n+1)
 have hB1:An w W1:=by rw[hW1];exact(aB _ _).alloc (aA _) _
 obtain⟨W2,hcp,hO2,hb2⟩:=jF W1 w.heap.size (n+1) (n+1) ao n cap B 3 (List.replicate (n+1) 0) xs ni (by simp) hn (hR.below (hB1.mono hB)) (by omega);rw[wC] at hO2;have hB2:An w W2:=But.below hB1 hb2 hB1.size (aA _);have H:=hid (sP (xs++[0]) ys w.heap.size 0 n (n+1) bo m aX B W2 hO2 (by simp;omega) hm (by omega) (by omega) (by omega) (Cz hx) hy (hS.below (hB2.mono hB)) hB);have hmk:=dI ((n:Int)+1) (n+1) (by omega) (by omega) w;rw[<-hW1] at hmk;have HH:=(dJ hn hm hx hB2 hB);clear hn hm hx hy hR hS ni hB1 hO2 hb2 hB2 hB hW1;go_enter Tryz.func194,Tryz.ntmps194;go_wp2_with fail;refine H.o.mono ?_;rintro r W3 ⟨M,c,rfl,hc1,hO3,hM,hout,hsum,aG⟩;obtain⟨hn,hm,hx,hB2,hB⟩:=HH.o;have hl:M.length=n+1:=by rw[hout.1];simp;omega
 have hcl:=hO3.cell n (by omega);have hfr:=hO3.frozen n;have hO4:=hO3.set n c;have T:=hid (dW (M.set n c) (some ⟨w.heap.size,0,none⟩) (n+1) (n+1) (w.heap.size+1) _ (by simp[hl]) (aA _) (by omega) (by simpa [hl,iy] using Rd.gD hO4 0 (n+1)));have HI:=(iC hc1 hO4 hM hsum aG hl);clear hn hm hx hB2 hB hc1 hO3 hM hout hsum aG hO4 H hl;go_wp2_with fail;refine T.o.mono ?_;rintro r w1 ⟨rfl,rfl⟩;go_wp2;go_ret;obtain⟨hn,hm,hx,hB2,hB⟩:=HH.o;obtain⟨hc1,hO4,hM,hsum,aG,hl⟩:=HI.o
 have hv:val (M.set n c)=val xs+val ys:=by
  exact yW
 refine⟨_,rfl,?_,But.below hB2 (aG.set n _) hB2.size (aA _)⟩;have N:=Nt.gD (lo:=w.heap.size) hO4 (aA _) (hM.set _ _ (by omega)) (by simp[hl];unfold maxLen;omega);rw[hv] at N;simpa [hl] using N
theorem Il (xs ys:List Nat) (ao bo:Option Addr) (n cap m aX B:Nat) (w:World) (hn:n=xs.length) (hm:m=ys.length) (hc:n<=cap) (hcb:m<=aX) (hbig:n<=35184372088833) (hbig2:m<=35184372088833)
 (hx:Wf xs) (hy:Wf ys) (hR:Rd B w ao xs) (hS:Rd B w bo ys) (hB:B<=w.heap.size) :
 As 194 #[.slice ao n cap,.slice bo m aX] w fun r w'=>∃ v,r=.returned v/\Nt w.heap.size w' v (val xs+val ys)/\An w w':=by
 by_cases h:m<=n
 · exact We xs ys ao bo n cap m aX B w hn hm h hc hcb hbig hx hy hR hS hB
 · have:=add_lt ys xs bo ao m aX n cap B w hm hn (by omega) hcb hc hbig2 hy hx hS hR hB;rw[qf] at this;exact this
end
section
theorem amgm(u v:Nat):4*u*v<=(u+v)*(u+v):=by
 rcases Nat.le_total u v with h|h
 · obtain⟨d,rfl⟩:∃ d,v=u+d:=⟨v-u,by omega⟩;have:(u+(u+d))*(u+(u+d))=4*u*(u+d)+d*d:=by grind
   omega
 · obtain⟨d,rfl⟩:∃ d,u=v+d:=⟨u-v,by omega⟩;have:(v+d+v)*(v+d+v)=4*(v+d)*v+d*d:=by grind
   omega
theorem Qah{P:Prop}(h:P:=by
 have h11:4*u*q+4*u*u=4*u*b+4*u:=by
  have:4*u*(q+u)=4*u*(b+1):=by rw[hq']
  rw[jM,jM] at this;omega
 omega):P:=h
theorem Wh(N A p q:Nat)(hp:0<p)(hA:p<=A)(h1:4*p*p*((A-1)*(A-1))<N)(h2:N<4*p*p*((A+1)*(A+1)))(hq:q=N/(4*p*A)) :
 N<(p*A+q+1)*(p*A+q+1)/\(p*A+q-1)*(p*A+q-1)<N:=by
 obtain⟨u,hu⟩:=af (p*A);have hup:p*p<=u:=by rw[hu];exact gX _ hA
 have hu0:0<u:=by rw[hu];exact iE hp (by omega)
 have e4:4*p*A=4*u:=by rw[hu,aM]
 rw[e4] at hq;have hq1:4*u*q<=N:=by rw[hq];exact Nat.mul_div_le N (4*u)
 have hq2:N<4*u*(q+1):=by
  have:=Nat.lt_mul_div_succ N (show 0<4*u by omega);rw[hq];exact this
 rw[<-hu];constructor
 · have:=amgm u (q+1);rw[show u+q+1=u+(q+1) by omega];omega
 · obtain⟨b,hb⟩:=af (u+q-1);rw[<-hb]
   by_cases hlt:b*b<N
   · exact hlt
   · exfalso;have hq':q+u=b+1:=by omega
     have g1:4*p*p*((A-1)*(A-1))=2*(p*(A-1))*(2*(p*(A-1))):=by grind
     have g2:4*p*p*((A+1)*(A+1))=4*u*u+8*u*p+4*(p*p):=by rw[hu];grind
     have g3:p*(A-1)+p=u:=by
      rw[hu];obtain⟨a,rfl⟩:∃ a,A=a+1:=⟨A-1,by omega⟩;rw[kQ,jM];omega
     rw[g1] at h1;rw[g2] at h2
     by_cases hc:b<=2*(p*(A-1))
     · have:=jC hc hc;omega
     · -- above 2 (u-p)
       by_cases hc2:2*u+2*p<=b
       · have h5:u+2*p+1<=q:=by omega
         have h6:4*u*(u+2*p+1)<=4*u*q:=gX _ h5;have h7:4*u*(u+2*p+1)=4*u*u+8*u*p+4*u:=by grind
         omega
       · -- between: (b-2u)^2<4 p^2 <= 4 u
         rcases Nat.le_total b (2*u) with hl|hl
         · obtain⟨d,hd⟩:∃ d,2*u=b+d:=⟨2*u-b,by omega⟩;have hd2:d<2*p:=by omega
           have h8:d*d<2*p*(2*p):=qW hd2 hd2;have h9:2*p*(2*p)=4*(p*p):=by grind
           have h10:b*b+4*u*u=4*u*b+d*d:=by
            have:b=2*u-d:=by omega
            have e:4*u*u=2*u*(2*u):=by grind
            rw[e,hd];have e2:4*u*b=2*(2*u)*b:=by grind
            rw[e2,hd]
            grind
           exact Qah
         · obtain⟨d,hd⟩:∃ d,b=2*u+d:=⟨b-2*u,by omega⟩;have hd2:d<2*p:=by omega
           have h8:d*d<2*p*(2*p):=qW hd2 hd2;have h9:2*p*(2*p)=4*(p*p):=by grind
           have h10:b*b+4*u*u=4*u*b+d*d:=by rw[hd];grind
           exact Qah
def JX(X c e A:Nat):Prop:=(A-1)*(A-1)<X/4^(c-e)/\X/4^(c-e)<(A+1)*(A+1)/\2^e<=A/\0<A
theorem Rz(X c e A:Nat)(he:e<=c)(hX:4^c<=X)(h:X/4^(c-e)<(A+1)*(A+1)):2^e<=A:=by
 have h1:4^e<=X/4^(c-e):=by
  rw[qX (nY (by decide)),<-aL,show e+(c-e)=c by omega];exact hX
 have h2:4^e=2^e*2^e:=by rw[<-qY]
 by_cases hlt:2^e<=A
 · exact hlt
 · exfalso;have:=jC (show A+1<=2^e by omega) (show A+1<=2^e by omega);omega
theorem Fq(X c:Nat)(h1:4^c<=X)(h2:X<4^(c+1)):JX X c 0 1:=by
 have hp:0<4^c:=nY (by decide);have a:1<=X/4^c:=(qX hp).2 (by omega);have b:X/4^c<4:=(qU hp).2 (by rw[iq] at h2;omega);exact⟨by simpa using (by omega:0<X/4^c),by simpa using b,by simp,by omega⟩
theorem JY(X c e d A q:Nat)(hX:4^c<=X)(hed:e<d)(hd2:d<=2*e+1)(hdc:d<=c)(h:JX X c e A)(hq:q=X/2^(2*c-e-d+1)/A):JX X c d (A*2^(d-e-1)+q):=by
 obtain⟨h1,h2,h3,h4⟩:=h;obtain⟨k,hk⟩:∃ k,d=e+k+1:=⟨d-e-1,by omega⟩;obtain⟨p,hp⟩:=af (2^k);obtain⟨N,hN⟩:=af (X/4^(c-d));have hp0:0<p:=by rw[hp];exact bz _
 have e1:4^(k+1)=4*p*p:=by
  rw[hp,iq,cZ,aM,<-qY]
 have hNe:X/4^(c-e)=N/(4*p*p):=by
  rw[hN,<-e1,nP,<-aL];congr 2;omega
 have hpp:0<4*p*p:=iE (iE (by decide) hp0) hp0;rw[hNe] at h1 h2
 have g1:4*p*p*((A-1)*(A-1))<N:=by
  have:=(qX hpp).1 h1;rw[cZ];rw[Nat.succ_mul] at this;omega
 have g2:N<4*p*p*((A+1)*(A+1)):=by
  rw[cZ];exact(qU hpp).1 h2
 have hq':q=N/(4*p*A):=by
  have e2:2^(2*c-e-d+1)=4^(c-d)*(4*p):=by
   have:(4:Nat)=2^2:=rfl;rw[hp,this,<-kR,<-aL,<-aL];congr 1;omega
  rw[hq,e2,hN,nP,nP];congr 1;rw[aM]
 have hpA:p<=A:=cB (by rw[hp];exact fq (by decide) (by omega)) h3;obtain⟨r1,r2⟩:=Wh N A p q hp0 hpA g1 g2 hq';have ea:A*2^(d-e-1)+q=p*A+q:=by rw[show d-e-1=k by omega,<-hp,cZ]
 rw[ea];refine⟨by rw[<-hN];exact r2,by rw[<-hN];exact r1,Rz X c d _ hdc hX (by rw[<-hN];exact r1),?_⟩;have:=iE hp0 h4;omega
theorem Ab(X c e A:Nat)(h:JX X c e A):A<=X:=by
 obtain⟨h1,h2,h3,h4⟩:=h;have a:X/4^(c-e)<=X:=nO _ _;rcases A with _|A
 · omega
 · rw[kQ] at h1
   have:A<=A*A:=by
    rcases A with _|A
    · omega
    · exact yF _ (by omega)
   omega
theorem NC(X c A:Nat)(h:JX X c c A):(A-1)*(A-1)<X/\X<(A+1)*(A+1):=by
 obtain⟨h1,h2,h3,h4⟩:=h;rw[yE,fw,um] at h1 h2;exact⟨h1,h2⟩
def nz(X r:Nat):Prop:=r*r<=X/\X<(r+1)*(r+1)
theorem nz.unique{X r s:Nat}(h:nz X r)(k:nz X s):r=s:=by
 rcases nQ r s with h1|h1|h1
 · exfalso;have:=jC (show r+1<=s from h1) (show r+1<=s from h1);have:=h.2;have:=k.1;omega
 · exact h1
 · exfalso;have:=jC (show s+1<=r from h1) (show s+1<=r from h1);have:=k.2;have:=h.1;omega
end
section
open Go.RowKit
theorem Im (xs ys:List Nat) (ao bo:Option Addr) (n cap m aX B:Nat) (w:World) (hn:n=xs.length) (hm:m=ys.length) (hm0:0<m) (hc:n<=cap) (hcb:m<=aX) (hbig:n<=35184372088833)
 (hx:Wf xs) (hy:Wf ys) (htop:ys.getD (m-1) 0≠0) (hR:Rd B w ao xs) (hS:Rd B w bo ys) (hB:B<=w.heap.size) :
 As 195 #[.slice ao n cap,.slice bo m aX] w fun r w'=>Two w.heap.size w' r (val xs/val ys) (val xs%val ys)/\An w w':=by
 by_cases h1:n<m
 · exact Ns xs ys ao bo n cap m aX B w hn hm h1 hc hbig hx hy htop hR hB
 · by_cases h2:m=1
   · subst h2;exact div_one xs ys ao bo n cap aX B w hn hm (by omega) hc hcb hbig hx hy htop hR hS hB
   · exact Nu xs ys ao bo n cap m aX B w hn hm (by omega) (by omega) hc hcb hbig hx hy htop hR hS hB
theorem ND(X:Nat)(h:X≠0):(ws X).getD ((ws X).length-1) 0≠0:=by
 have h1:nl (ws X)≠0:=by rw[H8];intro e;exact h ((aW X).1 e)
 have:=H9 (ws X) h1;rwa [H8] at this
theorem jh{X Y:Nat}(h:X<=Y):(ws X).length<=(ws Y).length:=(aP X _).2 (fu h (gm Y))
theorem Nt.one(w:World):Nt w.heap.size (w.alloc (.cells #[.int .u32 1] 91)) (.slice (some ⟨w.heap.size,0,none⟩) 1 1) 1:=by
 have hO:Own (w.alloc (.cells #[.int .u32 1] 91)) w.heap.size [1]:=by unfold Own;rw[gZ];rfl
 have:=Nt.gD (lo:=w.heap.size) hO (aA _) (Wf.cons (by omega) Wf.nil) (by simp[maxLen]);exact this
theorem sU:ws 1=[1]:=by rw[oq 1 (by omega),show 1/4294967296=0 from rfl,aY]
theorem Ac(xs:List Nat)(ao:Option Addr)(n cap B:Nat)(w:World)(hn:n=xs.length)(hc:n<=cap)(hbig:n<=35184372088832)(hx:Wf xs)(hX0:val xs≠0)(hR:Rd B w ao xs)(hB:B<=w.heap.size) :
 As 180 #[.slice ao n cap] w fun r w'=>∃ v A,r=.returned v/\Nt w.heap.size w' v A/\(A-1)*(A-1)<val xs/\val xs<(A+1)*(A+1)/\0<A/\A<=val xs/\An w w':=by
 obtain⟨c,hc'⟩:∃ c,c=(bl (val xs)-1)/2:=⟨_,rfl⟩;have hb0:=dG _ hX0;have hb1:=ib _ hX0;have hb2:=iF (val xs)
 have hbn:bl (val xs)<=32*n:=by
  have h1:=df xs hx;rw[<-hn] at h1;have h2:pw n=2^(32*n):=by rw[<-gW (32*n),mg];simp
  rw[h2] at h1;have:=(jD (a:=2) (by decide)).1 (fu hb1 h1);omega
 have Wi:4^c<=val xs:=by
  have:(4:Nat)=2^2:=rfl;rw[this,<-kR];exact cB (fq (by decide) (by omega)) hb1
 have X8:val xs<4^(c+1):=by
  have:(4:Nat)=2^2:=rfl;rw[this,<-kR];exact iJ hb2 (fq (by decide) (by omega))
 have L1:=hid (pg xs ao n cap B w hn hc (by omega) hx hR);have hbb:bl (val xs)<=1125899906842624:=by omega
 have eL:((bl (val xs):Nat):Int)-1=((bl (val xs)-1:Nat):Int):=by omega
 obtain⟨bb,X9⟩:∃ bb,bl (val xs)=bb:=⟨_,rfl⟩;rw[X9] at L1 hc' hb0 hbb hbn;have e1:((bb:Int)-1)/2=(c:Int):=by omega
 have hcb:c<=562949953421312:=by omega
 have L2:=hid (fun w=>Nk c w (by omega));have hsp:=Fq (val xs) c Wi X8;have HH:=(iC hn hx hX0 hR Wi hsp);obtain⟨X,Wj⟩:∃ X,val xs=X:=⟨_,rfl⟩;rw[Wj] at HH |-;have HX:=(aJ Wj hbn)
 have hbc:bl c<=64:=by
  by_cases h0:c=0
  · rw[h0];decide
  · have h1:=ib c h0;have:2^(bl c-1)<2^63:=by omega
    have:=(jD (a:=2) (by decide)).1 this;omega
 have Ya:=iF c;have Ad:=ib c;have HC:=(aJ Ya Ad);obtain⟨t0,ht0⟩:∃ t,bl c=t:=⟨_,rfl⟩;rw[ht0] at L2 hbc HC;have HC0:Aside (0<t0->c≠0):=by intro h1 h2;rw[<-ht0,h2] at h1;exact absurd h1 (by decide)
 clear hn hx hX0 hR Wi X8 hb0 hb1 hb2 hbn eL X9 hc' hsp Wj ht0 Ya Ad;go_enter Tryz.func180,Tryz.ntmps180;go_wp2_with fail;refine L1.o.mono ?_;rintro r w0 ⟨rfl,rfl⟩;go_wp2_with fail;refine(fH (L2.o _)) ?_;rintro r w1 ⟨rfl,rfl⟩;clear L1 L2;go_wp2
 go_loopg [4,5,6] t0 (fun gk rv ev sv wr=>∃ (A e:Nat) (ra:Option Addr) (rc:Nat),rv=.slice ra (ws A).length rc/\ev=.int .i64 (e:Nat)/\sv=.int .i64 ((gk:Int)-1)/\gk<=t0 /\
  Aside (e=c/2^gk/\JX X c e A/\Nt w0.heap.size wr (.slice ra (ws A).length rc) A/\An w0 wr))
 case atStart =>
  obtain⟨hn,hx,hX0,hR,Wi,hsp⟩:=HH.o;refine⟨1,0,some ⟨w0.heap.size,0,none⟩,1,by rw[sU];rfl,rfl,rfl,aA _,?_,hsp,?_,(aB _ _).alloc (aA _) _⟩
  · rw[gY HC.o.1]
  · rw[sU];exact Nt.one w0
 case round =>
  obtain⟨A,e,ra,rc,rfl,rfl,rfl,hk,HA⟩:=hrel
  by_cases hk0:gk=0
  · subst hk0;go_wp2;go_ret;obtain⟨he,hN,EI,hbel⟩:=HA.o;rw[fw,um] at he;subst he;obtain⟨h1,h2⟩:=NC X e A hN;exact⟨_,A,rfl,EI,h1,h2,hN.2.2.2,Ab _ _ _ _ hN,hbel⟩
  · obtain⟨s,rfl⟩:∃ s,gk=s+1:=⟨gk-1,by omega⟩;obtain⟨d,hd⟩:=af (c/2^s);have ed:(c:Int)/2^s=(d:Int):=by rw[hd];simp
    obtain⟨he,hN,EI,hbel⟩:=HA.o;have he2:e=d/2:=by rw[he,hd,iq,nP]
    have hd1:1<=d:=by
     have hc0:c≠0:=HC0.o (by omega);have:=HC.o.2 hc0;rw[hd,qX (bz s),iK];exact cB (fq (by decide) (by omega)) this
    have hdc:d<=c:=by rw[hd];exact nO _ _
    have hed:e<d:=by omega
    have hd2:d<=2*e+1:=by omega
    obtain⟨hn,hx,hX0,hR,Wi,hsp⟩:=HH.o;obtain⟨Wj,hbn⟩:=HX.o;obtain⟨D,hD⟩:=af (2*c-e-d+1);obtain⟨sh,hsh⟩:=af (d-e-1);have eD:2*(c:Int)-e-d+1=(D:Int):=by omega
    have eS:(d:Int)-e-1=(sh:Int):=by omega
    have hstep:=JY X c e d A _ Wi hed hd2 hdc hN rfl;rw[<-hD,<-hsh] at hstep;have hs0:=hbel.size;have D1:=hid (wz xs ao n cap B D (D/32) (D%32) wr hn hc (by omega) (by omega) (by omega) (by omega) hx (hR.below (hbel.mono hB)) (by omega));rw[Wj] at D1;have hcn:c<=16*n:=by omega
    have JZ:X<pw n:=by rw[<-Wj,hn];exact df xs hx
    have sV:=Ab _ _ _ _ hN;have sG:=hN.2.2.2;have HI:=(jY hd he2 hstep hs0 JZ sV sG);have hedi:(e:Int)<(d:Int):=by omega
    have hdci:(d:Int)<=(c:Int):=by omega
    clear hd he hN EI hbel he2 hd1 hdc hed hd2 hn hx hX0 hR Wi hsp Wj hbn hD hsh hstep hs0 JZ sV sG hk0;go_wp2_with fail
    try rw[eD]
    refine D1.o.mono ?_;rintro r w2 ⟨v2,rfl,j5,hb2⟩;obtain⟨a2,c2,rfl,hc2,hc2m,hR2⟩:=j5.shape;obtain⟨he,hN,EI,hbel⟩:=HA.o;obtain⟨hd,he2,hstep,hs0,JZ,sV,sG⟩:=HI.o;have Fu:=EI.below hb2;obtain⟨ra2,rc2,hsl,hrc,hrcm,hRr⟩:=Fu.shape
    cases hsl
    have hT:=nO X (2^D);have Yb:(ws (X/2^D)).length<=n:=(aP _ _).2 (fu hT JZ);have hlA:(ws A).length<=n:=(aP _ _).2 (fu sV JZ);have V2:=Im (ws (X/2^D)) (ws A) a2 ra _ c2 _ rc w2.heap.size w2 rfl rfl (by have:=(aW A);omega) hc2 hrc (by omega) (dm _) (dm _) (ND A (by omega)) hR2 hRr (aA _);rw[aj,aj] at V2;have V:=hid V2;have hs2:=hb2.size;have HJ:=(iC hb2 Fu hlA Yb hrc hs2);clear V2 he hN EI hbel hd he2 hstep hs0 JZ sV sG j5 hb2 hR2 Fu hRr hT Yb hlA D1 hs2;go_wp2_with fail;refine V.o.mono ?_;rintro r w3 ⟨⟨vq,vr,rfl,Wl,BS,hap⟩,hb3⟩;obtain⟨aq,cq,rfl,hcq,hcqm,hRq⟩:=Wl.shape;obtain⟨hb2,Fu,hlA,Yb,Yc,hs2⟩:=HJ.o;have Yd:=Fu.below hb3;obtain⟨ra3,rc3,hsl,hrc3,hrcm3,hRr⟩:=Yd.shape
    cases hsl
    obtain⟨hd,he2,hstep,hs0,JZ,sV,sG⟩:=HI.o;have hle:=Ab _ _ _ _ hstep;have U2:=z8 (ws A) ra _ rc w3.heap.size sh (sh/32) (sh%32) w3 rfl hrc (by omega) (by omega) (by omega) (dm _) hRr (aA _);rw[aj] at U2;have U:=hid U2;have hs3:=hb3.size;have HK:=(dJ hb3 Wl hcq hle hs3);clear U2 Wl BS hap hb3 hRq hb2 Fu hlA Yb Yc hs2 Yd hRr hd he2 hstep hs0 JZ sV sG hle V hs3;go_wp2_with fail
    try rw[eS]
    refine U.o.mono ?_;rintro r w4 ⟨v4,rfl,iD,hb4⟩;obtain⟨a4,c4,rfl,hc4,hc4m,hR4⟩:=iD.shape;obtain⟨hb3,Wl,Ye,hle,hs3⟩:=HK.o;obtain⟨hd,he2,hstep,hs0,JZ,sV,sG⟩:=HI.o;have Yf:=Wl.below hb4;obtain⟨aq4,cq4,hsl,hcq4,hcqm4,hRq⟩:=Yf.shape
    cases hsl
    have hl1:(ws (A*2^sh)).length<=n:=(aP _ _).2 (fu (cB (Nat.le_add_right _ _) hle) JZ);have hl2:(ws (X/2^D/A)).length<=n:=(aP _ _).2 (fu (cB (Nat.le_add_left _ _) hle) JZ);have S2:=Il (ws (A*2^sh)) (ws (X/2^D/A)) a4 aq _ c4 _ cq w4.heap.size w4 rfl rfl hc4 hcq (by omega) (by omega) (dm _) (dm _) hR4 hRq (aA _);rw[aj,aj] at S2;have S:=hid S2;have HL:=(ak hb4);clear S2 iD hb4 hR4 hb3 Wl hle hs3 hd he2 hstep hs0 JZ sV sG Yf hRq hl1 hl2 U Ye;go_wp2_with fail;refine S.o.mono ?_;rintro r w5 ⟨v5,rfl,uW,hb5⟩;obtain⟨a5,c5,rfl,hc5,hc5m,hR5⟩:=uW.shape;have HM:=(aJ uW hb5);clear uW hb5 hR5 S;go_wp2;go_roundg s
    case measure=>omega
    case rel =>
     obtain⟨he,hN,EI,hbel⟩:=HA.o;obtain⟨hd,he2,hstep,hs0,JZ,sV,sG⟩:=HI.o;obtain⟨hb2,Fu,hlA,Yb,Yc,hs2⟩:=HJ.o;obtain⟨hb3,Wl,Ye,hle,hs3⟩:=HK.o;obtain⟨uW,hb5⟩:=HM.o;have hb4:=HL.o;have hs4:=hb4.size;refine⟨_,d,a5,c5,rfl,by first | rfl | rw[ed],by first | go_num | (congr 1;omega),by omega,hd,hstep,uW.mono (by omega),?_⟩;exact(((hbel.trans (hb2.mono hs0)).trans (hb3.mono (by omega))).trans (hb4.mono (by omega))).trans (hb5.mono (by omega))
theorem vM (xs bs:List Nat) (ao bo:Option Addr) (n cap m aX B:Nat) (w:World) (hn:n=xs.length) (hm:m=bs.length) (Fe:m<=n) (hc:n<=cap) (hcb:m<=aX) (hbig:n<=35184372088833)
 (hx:Wf xs) (hb:Wf bs) (hle:val bs<=val xs) (hR0:Rd B w ao xs) (hS:Rd B w bo bs) (hB:B<=w.heap.size) :
 As 182 #[.slice ao n cap,.slice bo m aX] w fun r w'=>∃ v,r=.returned v/\Nt w.heap.size w' v (val xs-val bs)/\Below w.heap.size w w':=by
 obtain⟨W1,hW1⟩:=af (w.alloc (.cells (madeCells #[.int .u32 0] n) 91));have ni:Own W1 w.heap.size (List.replicate n 0):=by rw[hW1];exact Own.made w n
 have hB1:Below w.heap.size w W1:=by rw[hW1];exact(aB _ _).alloc (aA _) _
 obtain⟨W2,hcp,hO2,hb2⟩:=jF W1 w.heap.size n n ao n cap B 3 (List.replicate n 0) xs ni (by simp) hn (hR0.below (hB1.mono hB)) (by omega);rw[yD (by simp),List.append_nil] at hO2;have hB2:Below w.heap.size w W2:=But.below hB1 hb2 hB1.size (aA _);have hmk:=dI (n:Int) n rfl (by omega) w;rw[<-hW1] at hmk;have hR:Rd B W2 bo bs:=hS.below (hB2.mono hB);obtain⟨g,hg⟩:=af (w.heap.size);rw[<-hg] at hO2 hcp hmk hB2 hB;have HR:=(qb hR hm hb hx hn hle hB2 hg);have HO:=hid hO2;have Cs:Hid (∀ x y c s d w,_->_->_->_->_->_):=yM;clear hn hm hx hb hR0 hS ni hB1 hO2 hb2 hB2 hW1 hle hR hg;go_enter Tryz.func182,Tryz.ntmps182;go_wp2
 go_loopg [6,18] m (fun gk c i wr=>∃ (k cv:Nat) (M:List Nat),gk+k=m/\c=.int .u32 (cv:Nat)/\cv<=1/\i=.int .i64 (k:Nat) /\
  Hid (Own wr g M)/\Aside (Wf M/\Out xs M 0 k/\sg M 0 k+sg bs 0 k=sg xs 0 k+cv*pw k/\But g W2 wr))
 case atStart=>exact⟨0,0,xs,by omega,rfl,by omega,rfl,HO,HR.o.r3.1,Out.refl _ _ _,by simp[dZ],But.refl _ _⟩
 case round =>
  obtain⟨k,cv,M,Ff,rfl,hcv,rfl,HM,HA⟩:=hrel
  by_cases hk:k<m
  · obtain⟨hR,hm,hb,hx,hn,hle,hB2,hg⟩:=HR.o;obtain⟨dw,fO,hMs,aG⟩:=HA.o;obtain⟨b,fT,MI,rfl,hbc⟩:=hR (by intro e;subst e;simp at hm;omega)
    have hbk:wr.cell? ⟨b,fT+k,none⟩=some (.int .u32 ((bs.getD k 0:Nat):Int)):=by
     have h1:=aG.block b (lK W2 ⟨b,fT+k,none⟩ (hbc k (by omega))) (by omega);exact zc
    have hgc:=HM.o.cell k (by rw[fO.1];omega);have hgf:=HM.o.frozen k;obtain⟨x,gF⟩:∃ x:Nat,M.getD k 0=x:=⟨_,rfl⟩;obtain⟨y,hy⟩:∃ y:Nat,bs.getD k 0=y:=⟨_,rfl⟩;have hxl:x<4294967296:=gF ▸ dw.get _;have hyl:y<4294967296:=hy ▸ hb.get _;rw[gF] at hgc;rw[hy] at hbk;obtain⟨s,hs⟩:∃ s:Nat,(s:Int)=((x:Int)-y-cv)%4294967296:=⟨(((x:Int)-y-cv)%4294967296).toNat,by omega⟩;obtain⟨d,hd⟩:∃ d:Nat,d=if x<y+cv then 1 else 0:=⟨_,rfl⟩
    have HX:=(fE gF hy hs hd);clear gF hy hs hd hR hm hb hx hn hle hB2 hg dw fO hMs aG hbc;go_wp2_with fail;refine(Cs.o x y cv s d _ hxl hyl hcv HX.o.r2.1 HX.o.r3).mono ?_;rintro r w1 ⟨rfl,rfl⟩;go_wp2;go_roundg (gk-1)
    case measure=>omega
    case rel =>
     obtain⟨gF,hy,hs,hd⟩:=HX.o;obtain⟨hR,hm,hb,hx,hn,hle,hB2,hg⟩:=HR.o;obtain⟨dw,fO,hMs,aG⟩:=HA.o;have hd1:d<=1:=by rw[hd];split <;> omega
     have hsum:s+y+cv=x+d*4294967296:=by rw[hd];split <;> omega
     refine⟨k+1,d,M.set k s,by omega,rfl,hd1,by go_num,HM.o.set _ _,dw.set _ _ (by omega),(fO.mono (by omega)).set _ _ (by omega) (by omega),?_,aG.set _ _⟩;have e1:=cO M 0 k s (by rw[fO.1];omega);rw[dK] at e1;rw[e1,bC xs 0 k (by omega),bC bs 0 k (by omega),dK,hy,bU];have e:xs.getD k 0=x:=by rw[<-gF];exact(fO.2 _ (by omega)).symm
     rw[e];exact oz _ _ _ _ _ _ _ _ _ hMs hsum
  · obtain rfl:k=m:=by omega
    have HA2:Aside (Wf M/\Out xs M 0 k/\sg M 0 k+val bs=sg xs 0 k+cv*pw k/\But g W2 wr):=by
     obtain⟨hR,hm,hb,hx,hn,hle,hB2,hg⟩:=HR.o;obtain⟨dw,fO,hMs,aG⟩:=HA.o;refine⟨dw,fO,?_,aG⟩;rw[<-hMs,hm,dL]
    clear HA Ff HO hk;go_wp2
    go_loopg [6,9] (n-k+1) (fun g2 c i w2=>∃ (j cv:Nat) (M:List Nat),g2+j=n+1/\k<=j/\j<=n/\c=.int .u32 (cv:Nat)/\cv<=1/\i=.int .i64 (j:Nat) /\
     Hid (Own w2 g M)/\Aside (Wf M/\Out xs M 0 j/\sg M 0 j+val bs=sg xs 0 j+cv*pw j/\But g W2 w2))
    case atStart=>exact⟨k,cv,M,by omega,aA _,Fe,rfl,hcv,rfl,HM,HA2.o⟩
    case round =>
     clear HM HA2 hcv;obtain⟨j,cv,M,hgj,hkj,hjn,rfl,hcv,rfl,HM,HA⟩:=hrel
     by_cases h0:cv=0
     · subst h0;obtain⟨hR,hm,hb,hx,hn,hle,hB2,hg⟩:=HR.o;obtain⟨dw,fO,hMs,aG⟩:=HA.o;have hl:M.length=n:=by rw[fO.1,hn]
       have T:=hid (dW M (some ⟨g,0,none⟩) n n (g+1) wr hl.symm (aA _) (by omega) (by simpa [hl,iy] using Rd.gD HM.o 0 n));clear hR hm hb hx hn hle hB2 hg dw fO hMs aG;go_wp2_with fail;refine T.o.mono ?_;rintro r w1 ⟨rfl,rfl⟩;go_wp2;go_ret;obtain⟨hR,hm,hb,hx,hn,hle,hB2,hg⟩:=HR.o;obtain⟨dw,fO,hMs,aG⟩:=HA.o;rw[eG,gW] at hMs;have hv:=JK (n:=n) hjn (by omega) fO hMs;have e1:sg M 0 n=val M:=by rw[<-hl];exact dL M
       have e2:sg xs 0 n=val xs:=by rw[hn];exact dL xs
       rw[e1,e2] at hv;refine⟨_,rfl,?_,?_⟩
       · have N:=Nt.gD (lo:=g) HM.o (aA _) dw (by rw[hl];unfold maxLen;omega);rw[show val xs-val bs=val M by omega,<-hg];rw[hl] at N;exact N
       · rw[<-hg];exact But.below hB2 aG (by have:=hB2.size;omega) (aA _)
     · obtain rfl:cv=1:=by omega
       obtain⟨hR,hm,hb,hx,hn,hle,hB2,hg⟩:=HR.o;obtain⟨dw,fO,hMs,aG⟩:=HA.o
       have hj:j<n:=by
        by_cases hj:j=n
        · exfalso;subst hj;have h1:=nT M 0 j dw (by rw[fO.1];omega);have e2:sg xs 0 j=val xs:=by rw[hn];exact dL xs
          omega
        · omega
       have hgc:=HM.o.cell j (by rw[fO.1];omega);have hgf:=HM.o.frozen j;obtain⟨x,gF⟩:∃ x:Nat,M.getD j 0=x:=⟨_,rfl⟩;have hxl:x<4294967296:=gF ▸ dw.get _;rw[gF] at hgc;obtain⟨s,hs⟩:∃ s:Nat,(s:Int)=((x:Int)-(0:Nat)-(1:Nat))%4294967296:=⟨(((x:Int)-(0:Nat)-(1:Nat))%4294967296).toNat,by omega⟩;obtain⟨d,hd⟩:∃ d:Nat,d=if x<0+1 then 1 else 0:=⟨_,rfl⟩
       have HX:=(bO gF hs hd);clear gF hs hd hR hm hb hx hn hle hB2 hg dw fO hMs aG h0;go_wp2_with fail;refine(Cs.o x 0 1 s d _ hxl (by omega) (by omega) HX.o.2.1 HX.o.r2).mono ?_;rintro r w1 ⟨rfl,rfl⟩;go_wp2;go_roundg (gk-1)
       case measure=>omega
       case rel =>
        obtain⟨gF,hs,hd⟩:=HX.o;obtain⟨hR,hm,hb,hx,hn,hle,hB2,hg⟩:=HR.o;obtain⟨dw,fO,hMs,aG⟩:=HA.o;have hd1:d<=1:=by rw[hd];split <;> omega
        have hsum:s+0+1=x+d*4294967296:=by rw[hd];split <;> omega
        refine⟨j+1,d,M.set j s,by omega,by omega,by omega,rfl,hd1,by go_num,HM.o.set _ _,dw.set _ _ (by omega),(fO.mono (by omega)).set _ _ (by omega) (by omega),?_,aG.set _ _⟩;have e1:=cO M 0 j s (by rw[fO.1];omega);rw[dK] at e1;rw[e1,bC xs 0 j (by omega),dK,bU];have e:xs.getD j 0=x:=by rw[<-gF];exact(fO.2 _ (by omega)).symm
        rw[e];have:=oz (pw j) _ _ _ _ x 0 s d hMs hsum;omega
theorem Ae (L bs:List Nat) (g off n cap:Nat) (ao:Option Addr) (m aX B q:Nat) (w:World)
 (hO:Own w g L) (hoff:off+n<=L.length) (hm:m=bs.length) (Fe:m<=n) (hcap:n<=cap) (hbig:n<=4611686018427387904) (hL:Wf L) (hb:Wf bs) (hR:Rd B w ao bs) (hB:B<=g) (hq:q<4294967296) :
 As 199 #[.slice (some ⟨g,off,none⟩) n cap,.slice ao m aX,.int .u32 (q:Nat)] w fun r w' =>
  ∃ M c,r=.returned (.int .u32 (c:Nat))/\c<4294967296/\Own w' g M/\Wf M/\Out L M off m/\sg M off m+c*pw m=sg L off m+val bs*q/\But g w w':=by
 have HR:Aside (Rd B w ao bs/\m=bs.length/\Wf bs/\Wf L/\off+n<=L.length):=⟨hR,hm,hb,hL,hoff⟩;have HO:Hid (Own w g L):=hO;clear hR hm hb hL hO hoff;go_enter Tryz.func199,Tryz.ntmps199;go_wp2
 go_loopg [7,13] m (fun gk c i wr=>∃ (k cv:Nat) (M:List Nat),gk+k=m/\c=.int .u64 (cv:Nat)/\cv<4294967296/\i=.int .i64 (k:Nat) /\
  Hid (Own wr g M)/\Aside (Wf M/\Out L M off k/\sg M off k+cv*pw k=sg L off k+sg bs 0 k*q/\But g w wr))
 case atStart=>exact⟨0,0,L,by omega,rfl,by omega,rfl,HO,HR.o.r3.1,Out.refl _ _ _,by simp[dZ],But.refl _ _⟩
 case round =>
  obtain⟨k,cv,M,Ff,rfl,hcv,rfl,HM,HA⟩:=hrel
  by_cases hk:k<m
  · obtain⟨hR,hm,hb,hL,hoff⟩:=HR.o;obtain⟨dw,fO,hMs,aG⟩:=HA.o;obtain⟨b,fT,MI,rfl,hbc⟩:=hR (by intro e;subst e;simp at hm;omega)
    have hbk:wr.cell? ⟨b,fT+k,none⟩=some (.int .u32 ((bs.getD k 0:Nat):Int)):=by
     have h1:=aG.block b (lK w ⟨b,fT+k,none⟩ (hbc k (by omega))) (by omega);exact zc
    have hgc:=HM.o.cell (off+k) (by rw[fO.1];omega);have hgf:=HM.o.frozen (off+k);obtain⟨x,hx⟩:∃ x:Nat,M.getD (off+k) 0=x:=⟨_,rfl⟩;obtain⟨y,hy⟩:∃ y:Nat,bs.getD k 0=y:=⟨_,rfl⟩;have hxl:x<4294967296:=hx ▸ dw.get _;have hyl:y<4294967296:=hy ▸ hb.get _;rw[hx] at hgc;rw[hy] at hbk;have hp0:=sO y q hyl hq;have hp2:(y:Int)*(q:Int)<=18446744065119617025:=by rw[<-fZ];omega
    have hp1:0<=(y:Int)*(q:Int):=by rw[<-fZ];omega
    obtain⟨s,hs⟩:∃ s:Nat,s=(y*q+x+cv)%4294967296:=⟨_,rfl⟩;obtain⟨d,hd⟩:∃ d:Nat,d=(y*q+x+cv)/4294967296:=⟨_,rfl⟩;have e0:((y*q+x+cv:Nat):Int)=(y:Int)*q+x+cv:=by simp only[Hz,fZ]
    have e1:((y:Int)*q+x+cv)%4294967296=(s:Int):=by rw[<-e0];omega
    have e2:((y:Int)*q+x+cv)/4294967296=(d:Int):=by rw[<-e0];omega
    have HX:Aside (M.getD (off+k) 0=x/\bs.getD k 0=y/\s+d*4294967296=y*q+x+cv/\s<4294967296/\d<4294967296):=⟨hx,hy,by omega,by omega,by omega⟩;clear hx hy hs hd hR hm hb hL hoff dw fO hMs aG hbc e0 hp0;go_wp2;go_roundg (gk-1)
    case measure=>omega
    case rel =>
     obtain⟨hx,hy,he,hs,hd⟩:=HX.o;obtain⟨hR,hm,hb,hL,hoff⟩:=HR.o;obtain⟨dw,fO,hMs,aG⟩:=HA.o;refine⟨k+1,d,M.set (off+k) s,by omega,rfl,hd,by go_num,HM.o.set _ _,dw.set _ _ hs,(fO.mono (by omega)).set _ _ (by omega) (by omega),?_,aG.set _ _⟩;rw[cO _ _ _ _ (by rw[fO.1];omega),bC L off k (by omega),bC bs 0 k (by omega),dK,hy,bU];have e:L.getD (off+k) 0=x:=by rw[<-hx];exact(fO.2 _ (by omega)).symm
     rw[e];exact wm _ _ _ _ _ _ _ _ _ _ hMs he
  · obtain rfl:k=m:=by omega
    go_wp2;go_ret;obtain⟨hR,hm,hb,hL,hoff⟩:=HR.o;obtain⟨dw,fO,hMs,aG⟩:=HA.o;refine⟨M,cv,rfl,hcv,HM.o,dw,fO,?_,aG⟩;rw[hMs,hm,dL]
theorem CB(p V b x r q c:Nat)(h:V+p*r=b*q):V+p*(r+q*x)=(b+p*x)*q:=by grind
theorem Af (xs bs:List Nat) (ao bo:Option Addr) (n cap m aX B:Nat) (w:World) (hn:n=xs.length) (hm:m=bs.length) (hc:n<=cap) (hcb:m<=aX) (hbig:n+m<=70368744177664)
 (hx:Wf xs) (hb:Wf bs) (hR:Rd B w ao xs) (hS:Rd B w bo bs) (hB:B<=w.heap.size) :
 As 172 #[.slice ao n cap,.slice bo m aX] w fun r w'=>∃ v,r=.returned v/\Nt w.heap.size w' v (val xs*val bs)/\Below w.heap.size w w':=by
 obtain⟨W1,hW1⟩:=af (w.alloc (.cells (madeCells #[.int .u32 0] (n+m)) 91));have ni:Own W1 w.heap.size (List.replicate (n+m) 0):=by rw[hW1];exact Own.made w (n+m)
 have hB1:Below w.heap.size w W1:=by rw[hW1];exact(aB _ _).alloc (aA _) _
 have hmk:=dI ((n:Int)+m) (n+m) (by omega) (by omega) w;rw[<-hW1] at hmk;have qO:Rd B W1 ao xs:=hR.below (hB1.mono hB);have hS1:Rd B W1 bo bs:=hS.below (hB1.mono hB);obtain⟨g,hg⟩:=af (w.heap.size);rw[<-hg] at ni hmk hB1 hB;have HR:=(qb qO hS1 hm hb hx hn hB1 hg);have HO:=hid ni;clear hn hm hx hb hR hS ni hB1 hW1 qO hS1 hg;go_enter Tryz.func172,Tryz.ntmps172;go_wp2
 go_loopg [16] n (fun gk i wr=>∃ (k:Nat) (M:List Nat),gk+k=n/\i=.int .i64 (k:Nat) /\
  Hid (Own wr g M)/\Aside (Wf M/\M.length=n+m/\sg M 0 (k+m)=sg xs 0 k*val bs/\But g W1 wr))
 case atStart=>exact⟨0,_,by omega,rfl,HO,Wf.zeros _,by simp,by rw[q9,dZ];simp,But.refl _ _⟩
 case round =>
  obtain⟨k,M,Ff,rfl,HM,HA⟩:=hrel
  by_cases hk:k<n
  · obtain⟨hR,hS,hm,hb,hx,hn,hB1,hg⟩:=HR.o;obtain⟨dw,gJ,hMs,aG⟩:=HA.o;have Ru:g<=W1.heap.size:=by have:=hB1.size;omega
    obtain⟨b,fT,MI,rfl,hbc⟩:=hR (by intro e;subst e;simp at hn;omega)
    have hbk:wr.cell? ⟨b,fT+k,none⟩=some (.int .u32 ((xs.getD k 0:Nat):Int)):=by
     have h1:=aG.block b (lK W1 ⟨b,fT+k,none⟩ (hbc k (by omega))) (by omega);exact zc
    obtain⟨y,hy⟩:∃ y:Nat,xs.getD k 0=y:=⟨_,rfl⟩;have hyl:y<4294967296:=hy ▸ hx.get _;rw[hy] at hbk;have H:=hid (Ae M bs g k m (n+m-k) bo m aX B y wr HM.o (by omega) hm (aA _) (by omega) (by omega) dw hb (hS.but aG (by omega) hB) hB hyl);have HX:=(aJ hy hn);clear hy hR hS hm hb hx hn hB1 hg dw gJ hMs aG hbc Ru;go_wp2_with fail;refine H.o.mono ?_;rintro r W3 ⟨M2,c,rfl,hc1,hO3,hM2,hout,hsum,ru⟩;obtain⟨dw,gJ,hMs,aG⟩:=HA.o;have hgc:=hO3.cell (k+m) (by rw[hout.1];omega);have hgf:=hO3.frozen (k+m);have HI:=(iC hc1 hO3 hM2 hout hsum ru);clear hc1 hO3 hM2 hout hsum ru dw gJ hMs aG H;go_wp2;go_roundg (gk-1)
    case measure=>omega
    case rel =>
     obtain⟨hy,hn⟩:=HX.o;obtain⟨dw,gJ,hMs,aG⟩:=HA.o;obtain⟨hc1,hO3,hM2,hout,hsum,ru⟩:=HI.o;refine⟨k+1,M2.set (k+m) c,by omega,by go_num,hO3.set _ _,hM2.set _ _ hc1,by simp[hout.1,gJ],?_,(aG.trans ru).set _ _⟩;have e1:=cO M2 0 (k+m) c (by rw[hout.1];omega);rw[dK] at e1;have e2:=iW M2 0 k m (by rw[hout.1];omega);have e3:=iW M 0 k m (by omega);rw[dK] at e2 e3;have e4:=hout.below 0 k (by omega) (by omega);rw[show k+1+m=k+m+1 by omega,e1,e2,e4,bC xs 0 k (by omega),dK,hy,qx];rw[e3] at hMs;rw[cZ c] at hsum;have:=CB (pw k) _ _ y _ _ c hMs;rw[<-hsum] at this;rw[<-this,jM,aM,qc]
  · obtain rfl:k=n:=by omega
    obtain⟨dw,gJ,hMs,aG⟩:=HA.o;have T:=hid (dW M (some ⟨g,0,none⟩) (k+m) (k+m) (g+1) wr gJ.symm (aA _) (by omega) (by simpa [gJ,iy] using Rd.gD HM.o 0 (k+m)));clear dw gJ hMs aG;go_wp2_with fail;refine T.o.mono ?_;rintro r w1 ⟨rfl,rfl⟩;go_wp2;go_ret;obtain⟨hR,hS,hm,hb,hx,hn,hB1,hg⟩:=HR.o;obtain⟨dw,gJ,hMs,aG⟩:=HA.o;have e1:sg M 0 (k+m)=val M:=by rw[<-gJ];exact dL M
    have e2:sg xs 0 k=val xs:=by rw[hn];exact dL xs
    rw[e1,e2] at hMs;refine⟨_,rfl,?_,?_⟩
    · have N:=Nt.gD (lo:=g) HM.o (aA _) dw (by rw[gJ];unfold maxLen;omega);rw[<-hMs,<-hg];rw[gJ] at N;exact N
    · rw[<-hg];exact But.below hB1 aG (by have:=hB1.size;omega) (aA _)
end
end Go.Proofs.YteginbngplldaaaGreatDoor
