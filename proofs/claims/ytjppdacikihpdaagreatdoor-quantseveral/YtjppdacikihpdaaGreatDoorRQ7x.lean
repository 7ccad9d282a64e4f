import Derived.Test.YtjppdacikihpdaaGreatDoorH5x
import Derived.Test.YtjppdacikihpdaaGreatDoorF2x
import Derived.Test.YtjppdacikihpdaaGreatDoorZ26x
import Derived.Test.YtjppdacikihpdaaGreatDoorD39x
import Derived.BigQuiet
import Derived.Deep.CutRange
import Derived.Deep.RegionWith
set_option linter.unusedVariables false
set_option linter.unusedSimpArgs false
set_option maxHeartbeats 16000000
set_option maxRecDepth 20000
namespace Go.Proofs.YtjppdacikihpdaaGreatDoor
namespace J
end J
section
open Go.RowKit J
def UK(EG rest den:Nat):Nat:=if den<2*rest\/2*rest=den/\EG%2=1 then EG+1 else EG
theorem ju{P:Prop}(h:P:=by
 go_enter Tryz.func32,Tryz.ntmps32;go_wp2;go_ret;exact⟨rfl,af _ _⟩):P:=h
theorem near16(EG rest den:Nat)(ha:EG<=65536)(hr:rest<=2147483648)(hd:den<=2147483648)(w:World) :
 At 32 #[.agg #[.int .i64 (EG:Nat),.int .i64 (rest:Nat),.int .i64 (den:Nat)]] w (.int .i64 (UK EG rest den:Nat)):=by
 obtain⟨t,ht⟩:=ah (2*rest);obtain⟨a1,ha1⟩:=ah (EG+1);obtain⟨m,hm⟩:=ah (EG%2);obtain⟨z,hz⟩:=ah (UK EG rest den);rw[<-hz];unfold UK at hz;rw[<-ht,<-ha1,<-hm] at hz;have w1:IntKind.i64.wrap (2*(rest:Int))=(t:Int):=aL ae ae;have w2:IntKind.i64.wrap ((EG:Int)+1)=(a1:Int):=aL ae ae;have w3:Int.tmod (EG:Int) 2=(m:Int):=by rw[hm];rfl
 have w4:IntKind.i64.wrap (m:Int)=(m:Int):=aL rfl ae;have HQ:=(gp ht ha1 hm);clear ht ha1 hm
 by_cases h1:den<t
 . have d1:decide ((den:Int)<(t:Int))=true:=by simp;omega
   rw[if_pos (.inl h1)] at hz;subst hz;exact ju
 . have d1:decide ((den:Int)<(t:Int))=false:=by simp;omega
   by_cases h2:t=den
   . have d2:((t:Int)==(den:Int))=true:=by simp;omega
     by_cases h3:m=1
     . rw[if_pos (.inr ⟨h2,h3⟩)] at hz;subst hz h3 h2;exact ju
     . rw[if_neg ae] at hz;have d3:((m:Int)==1)=false:=by simp;omega
       have d4:decide ((m:Int)=1)=false:=by simp;omega
       subst hz h2;exact ju
   . rw[if_neg ae] at hz;have d2:((t:Int)==(den:Int))=false:=by simp;omega
     have d3:decide ((t:Int)=(den:Int))=false:=by simp;omega
     subst hz;exact ju
noncomputable def qm (ys:List Nat) (num den:Nat) (rule mode:Int):Nat :=
 let s:=(ys.length-1)*num
 if s%den=0 then ys.getD (s/den) 0 else if rule=0 then ys.getD (s/den) 0 else if rule=1 then ys.getD (s/den+1) 0 else if rule=2 then ys.getD (UK (s/den) (s%den) den) 0
 else if rule=3 then(rC (ys.getD (s/den) 0) (ys.getD (s/den+1) 0) mode).1 else Iz (ys.getD (s/den) 0) (ys.getD (s/den+1) 0) (s%den) den mode
theorem xr{P:Prop}(h:P:=by
 go_wp2_with fail;refine C.o.mono ?_;rintro r v ⟨rfl,hb⟩;have HR:=ak (HU.o.1.trans (hb.mono HU.o.1.size));clear C hb;go_wp2;go_ret;exact⟨by rw[HZ.o];rfl,HR.o⟩):P:=h
theorem UL(ys:List Nat)(b:Nat)(n cap num den:Nat)(rule mode:Int)(w:World)(hT:gP w)(hF:Fs w.heap.size w (some ⟨b,0,none⟩) ys)(hn:n=ys.length)(hn1:1<=n)(hn2:n<=65536)(hW:jH ys)(hf:∀x ∈ ys,bO x)(UJ:num<=den)(hd1:1<=den)(hd:den<=2147483648)(hr0:0<=rule)(hr4:rule<=4) :
 At 19 #[.slice (some ⟨b,0,none⟩) n cap,.int .i64 (num:Nat),.int .i64 (den:Nat),.int .i64 rule,.int .i64 mode] w (.float .f64 (qm ys num den rule mode)):=by
 have C:=hid (Qa n num den hn1 hn2 UJ hd1 hd w);obtain⟨zz,hzz⟩:=ah (qm ys num den rule mode);rw[<-hzz];unfold qm at hzz;simp only[<-hn] at hzz;obtain⟨s,hs⟩:=ah ((n-1)*num);rw[<-hs] at C hzz;have hsb:s<=(n-1)*den:=by rw[hs];exact fG _ UJ
 obtain⟨q,hq⟩:=ah (s/den);obtain⟨m,hm⟩:=ah (s%den);rw[<-hq,<-hm] at C hzz;have OA:den*q+m=s:=by rw[hq,hm];exact oz _ _
 have IY:m<den:=by rw[hm];exact iB _ ae
 have XA:q<n:=by
  have:q<=n-1:=by
   rw[hq];exact Nat.div_le_of_le_mul (by rw[cK];exact hsb)
  omega
 have hq1:m≠0->q+1<n:=λh0=>by
  have h1:den*q<(n-1)*den:=ae
  rw[cK] at h1;have:=xP h1;omega
 have hmem:∀i,i<n->ys.getD i 0<18446744073709551616/\bO (ys.getD i 0):=λi hi=>⟨hW _ (dF ae),hf _ (dF ae)⟩;have HY:=(iN hF hn hT hmem);have HZ:=ak hzz;have HE:=(gy hs hsb hq hm OA);clear hF hT hmem hzz hs hsb hq hm OA hW hf hn;go_enter Tryz.func19,Tryz.ntmps19;go_wp2_with fail;refine C.o.mono ?_;rintro r v0 ⟨rfl,hb⟩;obtain⟨V,hV⟩:=ah (v0.alloc (Obj.cells #[.int .i64 (q:Nat),.int .i64 (m:Nat),.int .i64 (den:Nat)] 54));obtain⟨g,hg⟩:=ah (v0.heap.size);have hbV:An w V:=by rw[hV];exact hb.trans ((af _ _).mono hb.size)
 have p0:V.cell? ⟨g,0,none⟩=some (.int .i64 (q:Nat)):=by rw[hV,hg,World.cell?_alloc_new];rfl
 have p1:V.cell? ⟨g,1,none⟩=some (.int .i64 (m:Nat)):=by rw[hV,hg,World.cell?_alloc_new];rfl
 have p2:V.cell? ⟨g,2,none⟩=some (.int .i64 (den:Nat)):=by rw[hV,hg,World.cell?_alloc_new];rfl
 have HV:=(bA hV hg);have HB:=ak hbV;clear C hb hV hg hbV;have bq:(q:Int)<(n:Int):=ae
 have cell:∀i,i<n->V.cell? ⟨b,i,none⟩=some (.float .f64 (ys.getD i 0)):=λi hi=>by
  obtain⟨b',off,e,c⟩:=HY.o.1.at HB.o i (by have:=HY.o.2.1;omega)
  cases e
  rw[dA] at c;exact c
 have HC:=ak cell;clear cell
 go_upto_region 2 with fail
 rw[<-HV.o.1,<-HV.o.2];clear HV
 by_cases h0:m=0
 . replace HZ:Aside (zz=ys.getD q 0):=ak (by rw[HZ.o,if_pos h0]);have c0:=HC.o q XA;obtain⟨x,hx⟩:=ah (ys.getD q 0);rw[<-hx] at c0 HZ;subst h0;clear hx;go_wp2;go_ret;exact⟨by rw[HZ.o];rfl,HB.o⟩
 . have d0:((m:Int)==0)=false:=by simp;omega
   have d1:decide ((m:Int)=0)=false:=by simp;omega
   have hq2:=hq1 h0;obtain⟨q1,Kl⟩:∃x,x=q+1:=⟨_,rfl⟩;have wq:IntKind.i64.wrap ((q:Int)+1)=(q1:Int):=aL ae ae;have bq1:(q1:Int)<(n:Int):=ae
   have UM:q1<n:=ae
   have c0:=HC.o q XA;have c1:=HC.o q1 UM;obtain⟨f0,g0⟩:=HY.o.r3 q XA;obtain⟨f1,g1⟩:=HY.o.r3 q1 UM;replace HZ:Aside (zz=if rule=0 then ys.getD q 0 else if rule=1 then ys.getD q1 0 else if rule=2 then ys.getD (UK q m den) 0 else if rule=3 then(rC (ys.getD q 0) (ys.getD q1 0) mode).1 else Iz (ys.getD q 0) (ys.getD q1 0) m den mode):=ak (by rw[HZ.o,if_neg h0,Kl]);obtain⟨x,hx⟩:=ah (ys.getD q 0);obtain⟨y,hy⟩:=ah (ys.getD q1 0);rw[<-hx] at c0 f0 g0 HZ;rw[<-hy] at c1 f1 g1 HZ;have QA:=(gy f0 g0 f1 g1 Kl);clear hx hy f0 g0 f1 g1 Kl
   go_upto_region 4 with fail
   go_cut [12,13] from 29 to 39 (λlv hv wx=>lv=.float .f64 x/\hv=.float .f64 y/\wx=V.drew)
   case first =>
    go_region
    all_goals
     go_wp2_with fail
     go_meet
     case rel=>exact⟨rfl,rfl,rfl⟩
   obtain⟨rfl,rfl,hwc⟩:=hcut;obtain⟨U,hU⟩:=ah (V.drew);rw[hwc,<-hU]
   have HU:Aside (An w U/\(∀i,i<n->U.cell? ⟨b,i,none⟩=some (.float .f64 (ys.getD i 0)))):=by
    rw[hU];exact⟨HB.o.drew,HC.o⟩
   have r0:U.cell? ⟨g,0,none⟩=some (.int .i64 (q:Nat)):=by rw[hU];exact p0
   have r1:U.cell? ⟨g,1,none⟩=some (.int .i64 (m:Nat)):=by rw[hU];exact p1
   have r2:U.cell? ⟨g,2,none⟩=some (.int .i64 (den:Nat)):=by rw[hU];exact p2
   clear hwc hU p0 p1 p2 c0 c1 HC HB;have hr:rule=0\/rule=1\/rule=2\/rule=3\/rule=4:=ae
   rcases hr with rfl|rfl|rfl|rfl|rfl
   . replace HZ:Aside (zz=x):=ak (by rw[HZ.o,if_pos rfl]);go_wp2;go_ret;exact⟨by rw[HZ.o];rfl,HU.o.1⟩
   . replace HZ:Aside (zz=y):=ak (by rw[HZ.o,if_neg aM,if_pos rfl]);go_wp2;go_ret;exact⟨by rw[HZ.o];rfl,HU.o.1⟩
   . have C:=hid (near16 q m den ae ae hd U);have hk:UK q m den<n:=by unfold UK;have:=QA.o.r4;split <;> omega
     obtain⟨k,hkk⟩:=ah (UK q m den);rw[<-hkk] at C hk;replace HZ:Aside (zz=ys.getD k 0):=ak (by rw[HZ.o,if_neg aM,if_neg aM,if_pos rfl,hkk]);have bk:(k:Int)<(n:Int):=ae
     clear hkk;go_wp2_with fail;refine C.o.mono ?_;rintro r v ⟨rfl,hb⟩;have ck:v.cell? ⟨b,k,none⟩=some (.float .f64 (ys.getD k 0)):=(hb.cell (p:=⟨b,k,none⟩) (aG (HU.o.2 k hk))).trans (HU.o.2 k hk);have HR:=ak (HU.o.1.trans (hb.mono HU.o.1.size));obtain⟨e,he⟩:=ah (ys.getD k 0);rw[<-he] at ck HZ;clear C hb he;go_wp2;go_ret;exact⟨by rw[HZ.o];rfl,HR.o⟩
   . have C:=hid (Ur x y QA.o.1 QA.o.r2.1 mode U (HY.o.r2.1.belows HU.o.1) (rC x y mode) rfl);obtain⟨⟨e1,e2⟩,hmd⟩:∃z,rC x y mode=z:=⟨_,rfl⟩;rw[hmd] at C HZ;replace HZ:Aside (zz=e1):=ak (by rw[HZ.o,if_neg aM,if_neg aM,if_neg aM,if_pos rfl]);clear hmd;exact xr
   . have C:=hid (line16 x y q m den mode QA.o.1 QA.o.2.1 QA.o.r2.1 QA.o.r3.1 ae hd U (HY.o.r2.1.belows HU.o.1));replace HZ:Aside (zz=Iz x y m den mode):=ak (by rw[HZ.o,if_neg aM,if_neg aM,if_neg aM,if_neg aM]);obtain⟨e,he⟩:=ah (Iz x y m den mode);rw[<-he] at C HZ;clear he;exact xr
theorem Ej{xs:List Nat}{odd:Bool}(h:zR xs odd=0):odd=false/\xs.length<=65536/\xs≠[]/\∀x ∈ xs,bO x:=by
 unfold zR at h
 by_cases h1:65536<xs.length
 . rw[if_pos h1] at h;omega
 . rw[if_neg h1] at h
   by_cases h2:(odd || xs.any EH)=true
   . rw[if_pos h2] at h;omega
   . rw[if_neg h2] at h
     by_cases h3:xs.length=0
     . rw[if_pos h3] at h;omega
     . rw[Bool.or_eq_true,not_or] at h2;refine⟨by simpa using h2.1,ae,λe=>by rw[e] at h3;exact h3 rfl,λx hx=>?_⟩;have:=h2.2;rw[yf] at this;rcases iE (bB x) 9218868437227405312 with q|q
       . exact q
       . exact absurd ⟨x,hx,by unfold EH;exact decide_eq_true q⟩ this
theorem Mv{x:Nat}(h:bO x):Uy x=x:=by
 unfold Uy ug;have:bB x=x%9223372036854775808:=rfl;rw[if_neg (by rw[decide_eq_true_eq];have:=h;unfold bO bB at this;omega)]
theorem lq{xs:List Nat}(hf:∀x ∈ xs,bO x):∀x ∈ dP xs,x ∈ xs:=λx hx=>by
 unfold dP at hx;obtain⟨i,hi,rfl⟩:=rE.1 hx;have hl:=mg.1 hi;have hm:xs.getD i 0 ∈ xs:=dF hl;rw[Mv (hf _ hm)];exact hm
noncomputable def quR (xs:List Nat) (num den rule mode:Int):Nat×Int :=
 if Hq rule mode=false\/den<1\/2147483648<den\/num<0\/den<num then(0,1) else if zR xs false=0 then(qm (dP xs) num.toNat den.toNat rule mode,0) else(0,zR xs false)
theorem Kx{P:Prop}(h:P:=by
 obtain⟨rfl,rfl⟩:=jM hz;go_enter Tryz.func7,Tryz.ntmps7;go_wp2_with fail;refine CK.o.mono ?_;rintro r v ⟨rfl,rfl⟩;go_wp2;refine aH (v:=.tuple #[.float .f64 0,.int .i64 1]) (by simp[results,Tryz.results7,go_sem]) rfl ?_;exact⟨rfl,aD _ _⟩):P:=h
theorem Km(xs:List Nat)(ao:Option Addr)(n cap:Nat)(num den rule mode:Int)(w:World)(hT:gP w)(hF:Fs w.heap.size w ao xs)(hn:n=xs.length)(hb:n<=17592186044416)(hW:jH xs)(z:Nat×Int)(hz:quR xs num den rule mode=z) :
 At 7 #[.slice ao n cap,.int .i64 num,.int .i64 den,.int .i64 rule,.int .i64 mode] w (.tuple #[.float .f64 z.1,.int .i64 z.2]):=by
 obtain⟨z1,z2⟩:=z;simp only;have CK:=hid (Ei rule mode w);unfold quR at hz
 have hkn:Hq rule mode=true->0<=rule/\rule<=4:=λh=>by
  unfold Hq at h;have:=of_decide_eq_true h;exact⟨this.1,this.2.1⟩
 obtain⟨kb,hkb⟩:=ah (Hq rule mode);rw[<-hkb] at CK hz hkn;have HY:=(gy hF hn hT hW hkn);clear hF hn hT hW hkn hkb;have CA:Hid (∀u:World,An w u->At 18 #[.slice ao n cap,.bool false] u (.int .i64 (zR xs false))):=λu hu=>xK xs false ao n cap u ((HY.o.1.below hu).mono hu.size) HY.o.2.1 hb HY.o.r3.1
 cases kb
 . rw[if_pos (.inl rfl)] at hz;obtain⟨rfl,rfl⟩:=jM hz;go_enter Tryz.func7,Tryz.ntmps7;go_wp2_with fail;refine CK.o.mono ?_;rintro r v ⟨rfl,rfl⟩;go_wp2;refine aH (v:=.tuple #[.float .f64 0,.int .i64 1]) (by simp[results,Tryz.results7,go_sem]) rfl ?_;exact⟨rfl,aD _ _⟩
 . by_cases h1:den<1
   . have d1:decide (den<1)=true:=by simp[h1]
     rw[if_pos (.inr (.inl h1))] at hz;exact Kx
   . have d1:decide (den<1)=false:=by simp;omega
     by_cases h2:2147483648<den
     . have d2:decide (2147483648<den)=true:=by simp[h2]
       rw[if_pos (.inr (.inr (.inl h2)))] at hz;exact Kx
     . have d2:decide (2147483648<den)=false:=by simp;omega
       by_cases h3:num<0
       . have d3:decide (num<0)=true:=by simp[h3]
         rw[if_pos (.inr (.inr (.inr (.inl h3))))] at hz;exact Kx
       . have d3:decide (num<0)=false:=by simp;omega
         by_cases h4:den<num
         . have d4:decide (den<num)=true:=by simp[h4]
           rw[if_pos (.inr (.inr (.inr (.inr h4))))] at hz;exact Kx
         . have d4:decide (den<num)=false:=by simp;omega
           rw[if_neg (by rintro (h | h | h | h | h) <;> first | exact absurd h aM | omega)] at hz;obtain⟨dn,hdn⟩:∃k:Nat,den=(k:Int):=⟨den.toNat,ae⟩;obtain⟨nm,hnm⟩:∃k:Nat,num=(k:Int):=⟨num.toNat,ae⟩;subst hdn hnm;rw[lC,lC] at hz;have hd1:1<=dn:=ae
           have hd2:dn<=2147483648:=ae
           have hnd:nm<=dn:=ae
           have hfin:zR xs false=0->_:=Ej (xs:=xs) (odd:=false);obtain⟨e,he⟩:=ah (zR xs false);rw[<-he] at CA hz hfin;have HE:=ak hfin;clear hfin he
           by_cases h5:e=0
           . subst h5;rw[if_pos rfl] at hz;obtain⟨hz1,rfl⟩:=jM hz;have HZ:=ak hz1;clear hz hz1;go_enter Tryz.func7,Tryz.ntmps7;go_wp2_with fail;refine CK.o.mono ?_;rintro r v ⟨rfl,rfl⟩;have C:=hid (CA.o v (aD _ _));go_wp2_with fail;refine C.o.mono ?_;rintro r v2 ⟨rfl,hb2⟩;have HB:=ak hb2;have C:=hid (UG xs ao n cap v2 ((HY.o.1.below hb2).mono hb2.size) HY.o.2.1 hb HY.o.r3.1);clear hb2;go_wp2_with fail;refine C.o.mono ?_;rintro r v3 ⟨rfl,hO,hb3⟩;have hb4:=HB.o.trans (hb3.mono HB.o.size);have hl:=ll xs;obtain⟨_,e2,e3,e4⟩:=HE.o (by first|rfl|trivial)
             have Qb:Fs v3.heap.size v3 (some ⟨v2.heap.size,0,none⟩) (dP xs):=by
              have:=hO.fs hO.lt n;rw[eF (by have:=HY.o.2.1;omega)] at this;exact this
             have hpos:0<xs.length:=sU.2 e3;have C:=hid (UL (dP xs) v2.heap.size n n nm dn rule mode v3 (HY.o.r2.1.belows hb4) Qb (by have:=HY.o.2.1;omega) (by have:=HY.o.2.1;omega) (by have:=HY.o.2.1;omega) (λx hx=>HY.o.r3.1 x (lq e4 x hx)) (λx hx=>e4 x (lq e4 x hx)) hnd hd1 hd2 (HY.o.r4 (by first | rfl | trivial)).1 (HY.o.r4 (by first | rfl | trivial)).2);rw[HZ.o] at C;have HB4:=ak hb4;clear hO hb3 hb4 hl e2 e3 e4 Qb hpos;go_wp2_with fail;refine C.o.mono ?_;rintro r v4 ⟨rfl,hb5⟩;have HR:=ak (HB4.o.trans (hb5.mono HB4.o.size));clear C hb5;go_wp2;refine aH (v:=.tuple #[.float .f64 z1,.int .i64 0]) (by simp[results,Tryz.results7,go_sem]) rfl ?_;exact⟨rfl,HR.o⟩
           . rw[if_neg h5] at hz;obtain⟨rfl,rfl⟩:=jM hz;have k1:(e==0)=false:=by simp[h5]
             have k2:(e != 0)=true:=by simp[h5]
             have k3:decide (e=0)=false:=by simp[h5]
             go_enter Tryz.func7,Tryz.ntmps7;go_wp2_with fail;refine CK.o.mono ?_;rintro r v ⟨rfl,rfl⟩;have C:=hid (CA.o v (aD _ _));go_wp2_with fail;refine C.o.mono ?_;rintro r v2 ⟨rfl,hb2⟩;have HR:=ak hb2;clear C hb2;go_wp2;refine aH (v:=.tuple #[.float .f64 0,.int .i64 e]) (by simp[results,Tryz.results7,go_sem]) rfl ?_;exact⟨rfl,HR.o⟩
def leF(x y:Nat):Bool:=FloatKind.f64.format.order y x==some Ordering.lt || FloatKind.f64.format.order y x==some Ordering.eq
def zS(xs:List Nat)(x:Nat):Nat:=xs.countP (leF x)
theorem Qc{xs:List Nat}{x k:Nat}(h:k<xs.length):zS (xs.take (k+1)) x=zS (xs.take k) x+(leF x (xs.getD k 0)).toNat:=by
 unfold zS;rw[List.take_add_one,aY h,List.countP_append,bF,aY h];simp only[Option.toList,List.countP_cons,List.countP_nil,CJ]
 cases leF x xs[k] <;> rfl
theorem Ym(xs:List Nat)(x:Nat):zS xs x<=xs.length:=IP
theorem Yn(xs:List Nat)(x:Nat)(ao:Option Addr)(n cap:Nat)(w:World)(hx:x<18446744073709551616)(hF:Fs w.heap.size w ao xs)(hn:n=xs.length)(hb:n<=17592186044416)(hW:jH xs) :
 At 15 #[.slice ao n cap,.float .f64 x] w (.tuple #[.int .i64 (if zR xs (ug x)=0 then(zS xs x:Int) else 0),.int .i64 (if zR xs (ug x)=0 then(xs.length:Int) else 0),.int .i64 (zR xs (ug x))]):=by
 have CN:=hid (WR x hx w);have CA:=hid (xK xs (ug x) ao n cap w hF hn hb hW);obtain⟨e,he⟩:=ah (zR xs (ug x));rw[<-he] at CA |-;rw[<-hn];obtain⟨nb,hnb⟩:=ah (ug x);rw[<-hnb] at CN CA;have HY:=(bA hF hn);clear hF hn hW he hnb hx
 by_cases h0:e=0
 . subst h0;rw[if_pos rfl,if_pos rfl];go_enter Tryz.func15,Tryz.ntmps15;go_wp2_with fail;refine CN.o.mono ?_;rintro r v ⟨rfl,rfl⟩;go_wp2_with fail;refine CA.o.mono ?_;rintro r v1 ⟨rfl,hb1⟩;have HB:=ak hb1;clear hb1 CN CA;go_wp2
   go_loopg [4,17] n (λgk cv iv wr=>∃k:Nat,gk+k=n/\cv=.int .i64 (zS (xs.take k) x:Nat)/\iv=.int .i64 (k:Nat)/\wr=v1)
   case atStart=>exact⟨0,rfl,by simp[zS],by first | rfl | simp,rfl⟩
   case round =>
    obtain⟨k,jo,hcv,rfl,rfl⟩:=hrel;obtain⟨c,hc⟩:=ah (zS (xs.take k) x)
    have hcl:c<=n:=by
     rw[hc];refine dB (Ym _ _) ?_;rw[fJ];have:=HY.o.2;omega
    rw[<-hc] at hcv;subst hcv
    by_cases hk:k<n
    . have hdk:decide ((k:Int)<(n:Int))=true:=by simp;omega
      have bk:(k:Int)<(n:Int):=ae
      obtain⟨k1,hk1⟩:=ah (k+1);have wk:IntKind.i64.wrap ((k:Int)+1)=(k1:Int):=aL ae ae;obtain⟨cp,hcp⟩:=ah (c+1);have wc1:IntKind.i64.wrap ((c:Int)+1)=(cp:Int):=aL ae ae;obtain⟨b,off,rfl,c2⟩:=HY.o.1.at HB.o k (by have:=HY.o.2;omega);have hst:=Qc (xs:=xs) (x:=x) (k:=k) (by have:=HY.o.2;omega);rw[<-hc] at hst;obtain⟨y,hy⟩:=ah (xs.getD k 0);rw[<-hy] at c2 hst;have HK:=(iN hk1 hcp hst hc);obtain⟨t,ht⟩:=ah (leF x y);have HT:=ak ht;have ht2:(FloatKind.f64.format.order y x==some Ordering.lt || FloatKind.f64.format.order y x==some Ordering.eq)=t:=by rw[ht];rfl
      clear hk1 hcp hst hc hy ht
      cases t
      . go_wp2;go_roundg (n-k1)
        case measure=>exact x6
        case rel=>exact⟨k1,by have:=HK.o;omega,by rw[HK.o.1,HK.o.r2.1,<-HT.o];rfl,by first | rfl | simp,rfl⟩
      . go_wp2;go_roundg (n-k1)
        case measure=>exact x6
        case rel=>exact⟨k1,by have:=HK.o;omega,by rw[HK.o.1,HK.o.r2.1,<-HT.o,HK.o.2.1];rfl,by first | rfl | simp,rfl⟩
    . have hdk:decide ((k:Int)<(n:Int))=false:=by simp;omega
      have HE:Aside (c=zS xs x):=ak (by rw[hc,eF (by have:=HY.o.2;omega)]);clear hc;go_wp2;refine aH (v:=.tuple #[.int .i64 (c:Nat),.int .i64 (n:Nat),.int .i64 0]) (by simp[results,Tryz.results15,go_sem]) rfl ?_;exact⟨by rw[HE.o],HB.o⟩
 . rw[if_neg h0,if_neg h0];have k1:(e==0)=false:=by simp[h0]
   have k2:(e != 0)=true:=by simp[h0]
   have k3:decide (e=0)=false:=by simp[h0]
   go_enter Tryz.func15,Tryz.ntmps15;go_wp2_with fail;refine CN.o.mono ?_;rintro r v ⟨rfl,rfl⟩;go_wp2_with fail;refine CA.o.mono ?_;rintro r v1 ⟨rfl,hb1⟩;go_wp2;refine aH (v:=.tuple #[.int .i64 0,.int .i64 0,.int .i64 e]) (by simp[results,Tryz.results15,go_sem]) rfl ?_;exact⟨rfl,hb1⟩
attribute [local go_sem] cZ
noncomputable def jO (xs:List Nat) (p:Nat) (rule mode:Int) (k:Nat):List Nat:=(List.range k).map (λi=>qm (dP xs) i p rule mode)++List.replicate (p+1-k) 0
theorem Kn(xs:List Nat)(p:Nat)(rule mode:Int):jO xs p rule mode 0=List.replicate (p+1) 0:=by simp[jO]
theorem BZ(xs:List Nat)(p:Nat)(rule mode:Int)(k:Nat)(h:k<=p+1):(jO xs p rule mode k).length=p+1:=by simp[jO];omega
theorem Ko(xs:List Nat)(p:Nat)(rule mode:Int)(k:Nat)(h:k<p+1):(jO xs p rule mode k).set k (qm (dP xs) k p rule mode)=jO xs p rule mode (k+1):=by
 unfold jO;rw[yw _ _ aN,mZ,yx,wE,show p+1-k=(p+1-(k+1))+1 by omega,Co,List.set_cons_zero,List.range_succ,jy,rG];rfl
theorem uC(xs:List Nat)(ao:Option Addr)(n cap p:Nat)(rule mode:Int)(w:World)(hT:gP w)(hF:Fs w.heap.size w ao xs)(hn:n=xs.length)(hW:jH xs)(hk:Hq rule mode=true)(hp1:1<=p)(hp2:p<=65536)(ha:zR xs false=0) :
 As 11 #[.slice ao n cap,.int .i64 (p:Nat),.int .i64 rule,.int .i64 mode] w λr w'=>∃g,r=.returned (.tuple #[.slice (some ⟨g,0,none⟩) (p+1) (p+1),.int .i64 0])/\eO w' g (jO xs p rule mode (p+1))/\w.heap.size<=g/\An w w':=by
 obtain⟨_,hl,hne,hf⟩:=Ej ha;have hpos:0<xs.length:=sU.2 hne;have CK:=hid (Ei rule mode w);rw[hk] at CK
 have hkn:0<=rule/\rule<=4:=by
  unfold Hq at hk;have:=of_decide_eq_true hk;exact⟨this.1,this.2.1⟩
 have CA:=hid (xK xs false ao n cap w hF hn ae hW);rw[ha] at CA;obtain⟨p1,hp⟩:=ah (p+1);rw[<-hp];have wp:IntKind.i64.wrap ((p:Int)+1)=(p1:Int):=aL ae ae;have d1:decide ((p:Int)<1)=false:=by simp;omega
 have d2:decide ((65536:Int)<(p:Int))=false:=by simp;omega
 have mk:=mJ p1 p1 rfl ae;have HY:=(QC hF hn hT hW hl hpos hf hkn hp);clear hF hn hT hW hl hpos hf hkn hk ha hne hp;go_enter Tryz.func11,Tryz.ntmps11;go_wp2_with fail;refine CK.o.mono ?_;rintro r v ⟨rfl,rfl⟩;go_wp2_with fail;refine CA.o.mono ?_;rintro r v2 ⟨rfl,hb2⟩;have HB:=ak hb2;have C:=hid (UG xs ao n cap v2 ((HY.o.1.below hb2).mono hb2.size) HY.o.2.1 (by have:=HY.o;omega) HY.o.r3.1);clear hb2 CK CA;go_wp2_with fail;refine C.o.mono ?_;rintro r v3 ⟨rfl,hO,hb3⟩;obtain⟨V,hV⟩:=ah (v3.alloc (.cells (madeCells #[.float .f64 0] p1) 27));obtain⟨g,hg⟩:=ah (v3.heap.size);obtain⟨gs,hgs⟩:=ah (v2.heap.size)
 have HA:Aside (eO V g (jO xs p rule mode 0)/\eO V gs (dP xs)/\An v V):=by
  rw[hV,hg,hgs,Kn];have hb4:=HB.o.trans (hb3.mono HB.o.size);refine⟨?_,hO.below ((aD _ _).alloc (aA _) _) hO.lt,hb4.trans ((af _ _).mono hb4.size)⟩;rw[<-HY.o.r8];exact eO.made v3 p1
 have HG:Aside (v.heap.size<=g/\gs<g/\v.heap.size<=gs):=by
  have h1:=hO.lt;have h2:=HB.o.size;have h3:=hb3.size;exact⟨ae,ae,ae⟩
 have HV:=(gp hV hg hgs);clear C hO hb3 hV hg hgs HB
 go_upto_region 8 with fail
 rw[<-HV.o.1,<-HV.o.2.1,<-HV.o.r2];clear HV mk;go_wp2
 go_loopg [38] p1 (λgk iv wr=>∃k:Nat,gk+k=p1/\iv=.int .i64 (k:Nat)/\Aside (eO wr g (jO xs p rule mode k)/\eO wr gs (dP xs)/\An v wr))
 case atStart=>exact⟨0,rfl,by first | rfl | simp,HA.o⟩
 case round =>
  clear HA;obtain⟨k,jo,rfl,HA⟩:=hrel
  by_cases hk:k<p1
  . have hdk:decide ((k:Int)<(p1:Int))=true:=by simp;omega
    have bk:(k:Int)<(p1:Int):=ae
    obtain⟨k1,hk1⟩:=ah (k+1);have wk:IntKind.i64.wrap ((k:Int)+1)=(k1:Int):=aL ae (by have:=HY.o.r8;omega);obtain⟨a1,a2,a3⟩:=HA.o;obtain⟨hF,hn,hT,hW,hl,hpos,hf,hkn,hp⟩:=HY.o;have hsl:=ll xs
    have Qb:Fs wr.heap.size wr (some ⟨gs,0,none⟩) (dP xs):=by
     have:=a2.fs a2.lt n;rw[eF ae] at this;exact this
    have C:=hid (UL (dP xs) gs n n k p rule mode wr (hT.belows a3) Qb ae ae ae (λx hx=>hW x (lq hf x hx)) (λx hx=>hf x (lq hf x hx)) ae hp1 ae hkn.1 hkn.2);obtain⟨y,hy⟩:=ah (qm (dP xs) k p rule mode);rw[<-hy] at C
    have HX:Aside (∀u,An wr u->u.cell? ⟨g,k,none⟩=some (.float .f64 ((jO xs p rule mode k).getD k 0))/\u.frozen? ⟨g,k,none⟩=false/\eO (u.setCell ⟨g,k,none⟩ (.float .f64 y)) g (jO xs p rule mode k1)/\eO (u.setCell ⟨g,k,none⟩ (.float .f64 y)) gs (dP xs)/\An v (u.setCell ⟨g,k,none⟩ (.float .f64 y))):=λu hu=>by
     have a1':=a1.below hu a1.lt;have Xv:=a2.below hu a2.lt;have hG:=HG.o;refine⟨a1'.cell k (by rw[BZ _ _ _ _ _ ae];omega),a1'.frozen k,?_,?_,?_⟩
     . rw[hk1,<-Ko xs p rule mode k ae,<-hy];exact a1'.set k y
     . have hne:gs≠g:=ae
       unfold eO at Xv |-;simp only[World.setCell,gz];rw[if_neg (λe=>hne e.symm)];exact Xv
     . exact(a3.trans (hu.mono a3.size)).setCell (show v.heap.size<=g by omega) _
    have HK:=ak hk1;clear HA a1 a2 a3 hF hn hT hW hl hpos hf hkn hp hsl Qb hy hk1;go_wp2_with fail;refine C.o.mono ?_;rintro r u ⟨rfl,hu⟩;obtain⟨x1,x2,x3⟩:=HX.o u hu;have HR:=ak x3;clear C HX x3 hu;obtain⟨z,hz⟩:=ah ((jO xs p rule mode k).getD k 0);rw[<-hz] at x1;clear hz;go_wp2;go_roundg (p1-k1)
    case measure=>exact x6
    case rel=>exact⟨k1,by have:=HK.o;omega,by first | rfl | simp,HR.o⟩
  . have hdk:decide ((k:Int)<(p1:Int))=false:=by simp;omega
    have hkp:k=p1:=ae
    subst hkp;go_wp2;refine aH (v:=.tuple #[.slice (some ⟨g,0,none⟩) k k,.int .i64 0]) (by simp[results,Tryz.results11,go_sem]) rfl ?_;exact⟨g,rfl,HA.o.1,HG.o.1,HA.o.r2⟩
end
section
open Go.RowKit J
theorem Mw(N:Nat)(h:N<=65536)(k:Nat)(hk:k=2148):∃j:Nat,j=4238/\((N:Int)*((2^k:Nat):Int)).natAbs<2^j:=by
 obtain⟨j,hj⟩:∃j:Nat,j=4238:=⟨_,rfl⟩;refine⟨j,hj,?_⟩;rw[<-eD,oC];have h1:N*2^k<2^17*2^k:=fK ae (bG k);rw[<-aP] at h1;exact gT h1 (fD aM ae)
end
section
open Go Go.RowKit J
theorem Ca{u k:Nat}{V:Int}(hu:u<=100000)(hV:V≠0)(hk:k<=90000)(hb:Bd k V):∃X e,gV u V=some (decide (V<0),X,e)/\X%2=1/\-(u:Int)<=e/\e<=200000/\X*2^(e+(u:Int)).toNat=V.natAbs/\bl X<=262144/\wR (decide (V<0)) X e:=by
 obtain⟨n,X,e,ho,F,hx⟩:=Py (u:=u) hu ae hb;have hm:mkS (decide (V<0)) V.natAbs (-(u:Int))=some (n,X,e):=ho;have hz:=lZ hm (-(u:Int)) (.inr ae);unfold zv at hz;simp only at hz;rw[show(-(u:Int) - -(u:Int)).toNat=0 by omega,fO,eQ] at hz
 have hX0:X≠0:=by
  rintro rfl;simp[oH] at hz
  split at hz <;> omega
 have hp:0<X*2^(e - -(u:Int)).toNat:=jh ae (bG _);rcases hx with h|⟨h1,h2⟩
 . exact absurd h hX0
 have hn:n=decide (V<0):=by
  exact jj
 rw[hn] at hz ho F
 have hv:X*2^(e - -(u:Int)).toNat=V.natAbs:=by
  exact Qaf
 refine⟨X,e,ho,?_,h1,ae,?_,ae,F⟩
 . rcases F.odd with q | q
   . exact q
   . exact absurd q.1 hX0
 . rw[show(e+(u:Int)).toNat=(e - -(u:Int)).toNat by congr 1;omega];exact hv
theorem Hr{x S V S' V':Nat}(hS:0<S)(hS':0<S')(e:V*S'=V'*S):(x*S<V↔x*S'<V')/\(x*S=V↔x*S'=V')/\(V<x*S↔V'<x*S'):=by
 exact z7
theorem kg.Yo{v:Nat->Nat}{top n K:Nat}{t:Bool}{m:Int}{V S V' S':Nat}(h:kg v top n K t m V S)(hS':0<S')(e:V*S'=V'*S):kg v top n K t m V' S':=by
 obtain⟨h1,h2,h3,h4,h5,h6⟩:=h;have e2:(2^n*V)*S'=(2^n*V')*S:=by rw[aQ,e,aQ]
 refine⟨h1,hS',λa=>((Hr h2 hS' e).2.1.1 (h3 a).symm).symm,λa=>(Hr h2 hS' e).1.1 (h4 a),λa b=>?_,λa=>?_⟩
 . have:=h5 a ((Hr h2 hS' e).2.2.2 b);obtain⟨r1,r2,r3⟩:=Hr (x:=(v K+v (K+1))^n) h2 hS' e2;rcases this with ⟨q,r⟩|⟨q,r⟩|⟨q,r⟩
   . exact .inl ⟨q,r3.1 r⟩
   . exact .inr (.inl ⟨q,(r2.1 r.symm).symm⟩)
   . exact .inr (.inr ⟨q,r1.1 r⟩)
 . rcases h6 a with q | q
   . exact .inl ((Hr h2 hS' e).2.2.1 q)
   . exact .inr q
theorem Mx{u v k:Nat}{V D:Int}(hu:u<=100000)(hv:v<=100000)(hk:k<=90000)(hV:V≠0)(hD:0<D)(bV:Bd k V)(bD:Bd k D) :
 ∃K t m,(∀j,j=1074->kg vK 9218868437227405312 1 K t m (V.natAbs*2^(j+v)) (D.natAbs*2^u))/\∀mode:Int,0<=mode->mode<=4->Am (gV u V) (gV v D) mode=(rK mode (decide (V<0)) K t m+(if V<0 then 9223372036854775808 else 0),0):=by
 obtain⟨Y,f,ho2,hY,hf0,hf1,hv2,hbl2,F2⟩:=Ca (u:=v) (V:=D) hv ae hk bD;rw[decide_eq_false ae] at ho2 F2;obtain⟨X,e,ho,hX,he0,he1,hvv,hbl,F⟩:=Ca (u:=u) (V:=V) hu hV hk bV;have hm1:mkS (decide (V<0)) X e=some (decide (V<0),X,e):=uj F;have hm2:mkS false Y f=some (false,Y,f):=uj F2;obtain⟨K,t,m,hL,hR⟩:=TK (decide (V<0)) X e Y f hX ae hbl hbl2;refine⟨K,t,m,λj hj=>?_,λmode hm0 qM=>?_⟩
 . refine hL.Yo (jh ae (bG _)) ?_;unfold l7 l9;rw[<-hvv,<-hv2]
   have e1:X*2^(e-f+((1*1074:Nat):Int)).toNat*(Y*2^(f+(v:Int)).toNat*2^u)=X*Y*(2^((e-f+((1*1074:Nat):Int)).toNat+((f+(v:Int)).toNat+u))):=by
    rw[aP,aP,aQ Y,rH]
   have e2:X*2^(e+(u:Int)).toNat*2^(j+v)*(Y*2^(-(e-f+((1*1074:Nat):Int))).toNat)=X*Y*(2^((e+(u:Int)).toNat+(j+v)+(-(e-f+((1*1074:Nat):Int))).toNat)):=by
    rw[aP _ (_+_),aP _ (e+(u:Int)).toNat,aQ X,rH]
   rw[e1,e2];congr 2;omega
 . unfold Am;rw[ho,ho2];show nI jJ ⟨decide (V<0),.bool false,X,e,false,.bool false,Y,f⟩ mode=_;unfold nI;rw[if_neg ae,if_pos (by rw[zB];show oI X (decide (V<0)) e Y false f=0;unfold oI;rw[if_neg (by unfold qN;simp;split <;> omega),hm1,hm2];simp[dX];omega),hm1,hm2];have:=hR mode hm0 qM;simp only[decide_eq_true_eq] at this;exact this
theorem own13{V W:Int}(hV:V≠0)(hW:0<W)(k:Nat)(hk:k<=90000)(hb:V.natAbs<2^k)(hb2:W.natAbs<2^k)(L:Nat)(hL:L<9218868437227405312)(e:∀j,j=1074->V.natAbs*2^j=vK L*W.natAbs)(mode:Int)(hm0:0<=mode)(qM:mode<=4) :
 qvR V W mode=(L+(if V<0 then 9223372036854775808 else 0),0):=by
 obtain⟨K,t,m,hL1,hR⟩:=BP hV hW k hk hb hb2;rw[hR mode hm0 qM,Tp mode _ (hL1 1074 rfl) L hL (e 1074 rfl)]
theorem Yp{xs:List Nat}{s:Sp}{mode:Int}(hW:jH xs)(hl:xs.length<=65536)(hne:xs≠[])(hV:vS xs≠0)(hm0:0<=mode)(qM:mode<=4)(L:Nat)(hL:L<9218868437227405312)(e:∀j k,j=1074->k=2148->(vS xs).natAbs*2^j=vK L*(xs.length*2^k)) :
 mU xs s mode=(L+(if vS xs<0 then 9223372036854775808 else 0),0):=by
 unfold mU;obtain⟨k,hk⟩:∃k:Nat,k=2148:=⟨_,rfl⟩;obtain⟨j,hj,hb⟩:=BO hW hl;obtain⟨j2,hj2,hb2⟩:=Mw xs.length hl k hk;rw[if_neg hne,if_neg hV,Zg _ _ _ k hk];have hp:0<xs.length:=sU.2 hne;have hpk:=bG k;refine own13 hV ?_ j ae hb (by rw[hj,<-hj2];exact hb2) L hL ?_ mode hm0 qM
 . rw[<-eD];have:=jh hp hpk;omega
 . intro i hi;rw[<-eD,oC];exact e i k hi hk
theorem lit13(w:World)(xs:List Nat)(g:Nat)(hg:g=w.heap.size):Fs (w.alloc (Obj.cells (xs.map λx=>Value.float .f64 x).toArray 27)).heap.size (w.alloc (Obj.cells (xs.map λx=>Value.float .f64 x).toArray 27)) (some ⟨g,0,none⟩) xs:=by
 intro _;refine⟨g,0,by simp;omega,rfl,λi hi=>?_⟩;have hB:=Bl.new w 27 (xs.map λx=>Value.float .f64 x);rw[hg];refine(hB.cell (0+i) (.float .f64 (xs.getD i 0)) ?_);rw[dA,mY,bF,aY hi];rfl
theorem Yq:rC 4626322717216342016 4629137466983448576 0=(4627730092099895296,0):=by
 have e1:oJ 0=0:=aM
 have e2:zX [4626322717216342016,4629137466983448576]=0:=by decide +kernel
 have hp:decide (0<vS [4626322717216342016,4629137466983448576])=true:=by decide +kernel
 have hp:=of_decide_eq_true hp;have e5:=Yp (xs:=[4626322717216342016,4629137466983448576]) (s:=sS [4626322717216342016,4629137466983448576]) (mode:=0) (by unfold jH;decide) aM aM ae aM aM 4627730092099895296 aM (λj k hj hk=>by subst hj hk;decide +kernel);unfold rC Uq;rw[e1,if_pos rfl,e2,if_pos rfl,e5,if_neg ae];rfl
theorem UN{low high rest den:Nat}(hl:low<18446744073709551616)(fl:bO low)(hh:high<18446744073709551616)(fh:bO high)(hd:den<=2147483648)(hr:rest<=den):∃k:Nat,k=2130/\Bd k (Yl low high rest den):=by
 obtain⟨z,hz⟩:∃z,z=2098:=⟨_,rfl⟩;obtain⟨k,hk⟩:∃z,z=31:=⟨_,rfl⟩;have b1:=oh hl fl z hz;have b2:=oh hh fh z hz;have bn:∀n:Nat,n<=2147483648->Bd k (n:Int):=λn hn=>by unfold Bd;rw[oC,hk];exact hn
 exact⟨_,ae,(b1.mul (bn (den-rest) ae)).add (b2.mul (bn rest ae))⟩
theorem ln1020:Iz 4621819117588971520 4626322717216342016 3 4 0=4625619029774565376:=by
 obtain⟨V,hV⟩:=ah (Yl 4621819117588971520 4626322717216342016 3 4);have hp:decide (0<Yl 4621819117588971520 4626322717216342016 3 4)=true:=by decide +kernel
 have hp:=of_decide_eq_true hp;obtain⟨k,hk,hb⟩:=UN (low:=4621819117588971520) (high:=4626322717216342016) (rest:=3) (den:=4) aM (by unfold bO bB;decide) aM (by unfold bO bB;decide) aM aM;have hq:∀j,j=1074->V.natAbs*2^(j+0)=vK 4625619029774565376*((4:Int).natAbs*2^1074):=λj hj=>by subst hj hV;decide +kernel
 rw[<-hV] at hp hb;obtain⟨K,t,m,h1,h2⟩:=Mx (u:=1074) (v:=0) (k:=k) (V:=V) (D:=4) ae ae ae ae aM hb (by unfold Bd;exact dB aM (fD (n:=2) aM (show 2<=k by omega)));unfold Iz;rw[<-hV,if_neg ae,show((4:Nat):Int)=4 from rfl,h2 0 aM aM,if_neg ae];have:=Tp 0 (decide (V<0)) (h1 1074 rfl).lies 4625619029774565376 aM (hq 1074 rfl);rw[this]
theorem UO{xs M:List Nat}(hP:M.Perm (List.range xs.length))(hU:M.Pairwise (λa b=>leI xs a b=true)):M=mf xs :=
 CL (le:=λa b=>leI xs a b=true) (λa b ha hb h1 h2=>zP xs a b h1 h2) hU (mK xs _) (hP.trans (qV xs).symm)
theorem UQ:dP [4621819117588971520,4630826316843712512,4626322717216342016,4629137466983448576]=[4621819117588971520,4626322717216342016,4629137466983448576,4630826316843712512]:=by
 have e:[0,2,3,1]=mf [4621819117588971520,4630826316843712512,4626322717216342016,4629137466983448576]:=UO aM (by decide +kernel);unfold dP;rw[<-e];decide +kernel
theorem am16:zR [4621819117588971520,4630826316843712512,4626322717216342016,4629137466983448576] false=0:=by decide +kernel
theorem qu16:quR [4621819117588971520,4630826316843712512,4626322717216342016,4629137466983448576] 1 4 4 0=(4625619029774565376,0):=by
 unfold quR;rw[if_neg aM,am16,if_pos rfl,UQ];unfold qm;rw[if_neg aM,if_neg aM,if_neg aM,if_neg aM,if_neg aM];show(Iz 4621819117588971520 4626322717216342016 3 4 0,(0:Int))=_;rw[ln1020]
theorem sv16:(jO [4621819117588971520,4630826316843712512,4626322717216342016,4629137466983448576] 2 3 0 3).getD 1 0=4627730092099895296:=by
 unfold jO;show qm (dP [4621819117588971520,4630826316843712512,4626322717216342016,4629137466983448576]) 1 2 3 0=_;rw[UQ];unfold qm;rw[if_neg aM,if_neg aM,if_neg aM,if_neg aM,if_pos rfl];show(rC 4626322717216342016 4629137466983448576 0).1=_;rw[Yq]
theorem ct16:zS [4621819117588971520,4630826316843712512,4626322717216342016,4629137466983448576] 4626322717216342016=2:=by decide +kernel
end
section
open Go Go.RowKit J
open Go.Proofs.YtjppdacikihpdaaGreatDoor.B (aW aJ)
attribute [local go_sem] cZ aW aJ
abbrev UR:List Nat:=[4621819117588971520,4630826316843712512,4626322717216342016,4629137466983448576]
theorem live16(w:World)(hT:gP w):At 5 #[] w (.bool true):=by
 have o1:(FloatKind.f64.format.order 4625619029774565376 4625619029774565376==some .eq)=true:=by decide +kernel
 have o2:(FloatKind.f64.format.order 4627730092099895296 4627730092099895296==some .eq)=true:=by decide +kernel
 obtain⟨W1,hW1⟩:=ah (w.alloc (Obj.cells #[.float .f64 4621819117588971520,.float .f64 4630826316843712512,.float .f64 4626322717216342016,.float .f64 4629137466983448576] 27));obtain⟨g,hg⟩:=ah (w.heap.size)
 have B1:Aside (An w W1/\Fs W1.heap.size W1 (some ⟨g,0,none⟩) UR):=by
  rw[hW1];exact⟨aC _ _,lit13 w [_,_,_,_] _ hg⟩
 have hW:jH UR:=by unfold jH;decide
 have HT:=(bA hT hW);have C1:=hid (Km UR (some ⟨g,0,none⟩) 4 4 1 4 4 0 W1 (hT.belows B1.o.1) B1.o.2 rfl aM hW _ qu16);have HW1:=(bA hW1 hg);clear hW1 hT hg hW;go_enter Tryz.func5,Tryz.ntmps5;go_wp2_with fail;rw[<-HW1.o.1,<-HW1.o.2];clear HW1;refine C1.o.mono ?_;rintro r u1 ⟨rfl,hb1⟩;have B2:Aside (An w u1/\Fs u1.heap.size u1 (some ⟨g,0,none⟩) UR):=⟨B1.o.1.trans (hb1.mono B1.o.1.size),(B1.o.2.below hb1).mono hb1.size⟩;clear hb1 C1 B1;have C2:=hid (Yn UR 4626322717216342016 (some ⟨g,0,none⟩) 4 4 u1 aM B2.o.2 rfl aM HT.o.2);rw[show zR UR (ug 4626322717216342016)=0 by decide +kernel,if_pos rfl,if_pos rfl,show zS UR 4626322717216342016=2 from ct16,show UR.length=4 from rfl] at C2;go_wp2_with fail;refine C2.o.mono ?_;rintro r u2 ⟨rfl,hb2⟩;have B3:Aside (An w u2/\Fs u2.heap.size u2 (some ⟨g,0,none⟩) UR):=⟨B2.o.1.trans (hb2.mono B2.o.1.size),(B2.o.2.below hb2).mono hb2.size⟩;clear hb2 C2 B2;have C3:=hid (uC UR (some ⟨g,0,none⟩) 4 4 2 3 0 u2 (HT.o.1.belows B3.o.1) B3.o.2 rfl HT.o.2 aM aM aM am16);go_wp2_with fail;refine C3.o.mono ?_;rintro r u3 ⟨gs,rfl,hO,hg,hb3⟩;have B4:=ak (B3.o.1.trans (hb3.mono B3.o.1.size));have c1:=hO.cell 1 (by rw[BZ _ _ _ _ _ aM];decide);rw[show(jO UR 2 3 0 (2+1)).getD 1 0=4627730092099895296 from sv16] at c1;clear hb3 C3 B3 hO hg;simp only;go_wp2;go_ret;exact⟨rfl,B4.o⟩
theorem Yr(x y:Nat)(w:World):Ax 10 #[.float .f64 x,.float .f64 y] w (.bool (decide (x=y))):=by
 go_enter Tryz.func10,Tryz.ntmps10;go_wp2;go_ret;refine⟨congrArg (λz=>Ending.returned (Value.bool z)) ?_,rfl⟩
 first | rfl | (rw[xO];simp;done) | (rw[xO];simp;omega)
end
section
open Go Go.RowKit J
noncomputable def nM (xs:List Nat) (parts rule mode:Int):Int:=if Hq rule mode=false\/parts<1\/65536<parts then 1 else zR xs false
noncomputable def sI (xs:List Nat) (p:Nat) (rule mode:Int) (k:Nat):List Nat:=(List.range k).map λi=>qm (dP xs) i p rule mode
theorem qo(xs:List Nat)(p:Nat)(rule mode:Int)(k:Nat):(sI xs p rule mode k).length=k:=by unfold sI;simp
theorem Qd(xs:List Nat)(p:Nat)(rule mode:Int)(k:Nat):sI xs p rule mode (k+1)=sI xs p rule mode k++[qm (dP xs) k p rule mode]:=by unfold sI;rw[List.range_succ,jy];rfl
theorem Qe(xs:List Nat)(p:Nat)(rule mode:Int):jO xs p rule mode (p+1)=sI xs p rule mode (p+1):=by unfold jO sI;simp
theorem qs{P:Prop}(h:P:=by
 subst he;clear h0 CA;go_enter Tryz.func11,Tryz.ntmps11;go_wp2_with fail;refine CK.o.mono ?_;rintro r v ⟨rfl,rfl⟩;go_wp2;refine aH (v:=.tuple #[.slice none 0 0,.int .i64 1]) (by simp[results,Tryz.results11,go_sem]) rfl ?_;exact⟨rfl,aD _ _⟩):P:=h
theorem Qf(xs:List Nat)(ao:Option Addr)(n cap:Nat)(parts rule mode:Int)(w:World)(hT:gP w)(hF:Fs w.heap.size w ao xs)(hn:n=xs.length)(hb:n<=17592186044416)(hW:jH xs) :
 As 11 #[.slice ao n cap,.int .i64 parts,.int .i64 rule,.int .i64 mode] w λr w'=>((nM xs parts rule mode≠0/\r=.returned (.tuple #[.slice none 0 0,.int .i64 (nM xs parts rule mode)]))\/(nM xs parts rule mode=0/\∃g p:Nat,parts=(p:Int)/\1<=p/\p<=65536/\r=.returned (.tuple #[.slice (some ⟨g,0,none⟩) (p+1) (p+1),.int .i64 0])/\eO w' g (sI xs p rule mode (p+1))/\w.heap.size<=g))/\An w w':=by
 by_cases h0:nM xs parts rule mode=0
 . have h0':=h0;unfold nM at h0'
   by_cases hc:Hq rule mode=false\/parts<1\/65536<parts
   . rw[if_pos hc] at h0';cases h0'
   rw[if_neg hc] at h0';obtain⟨p,hp⟩:∃p:Nat,parts=(p:Int):=⟨parts.toNat,ae⟩;subst hp;have hk:Hq rule mode=true:=by cases q:Hq rule mode with | true=>rfl | false=>exact absurd (.inl q) hc
   refine(uC xs ao n cap p rule mode w hT hF hn hW hk ae ae h0').mono ?_;rintro r w' ⟨g,rfl,ho,hg,hbl⟩;rw[Qe] at ho;exact⟨.inr ⟨h0,g,p,rfl,ae,ae,rfl,ho,hg⟩,hbl⟩
 . obtain⟨e,he⟩:=ah (nM xs parts rule mode);rw[<-he] at h0 |-;have hE:Aside (e≠0):=ak h0
   suffices hs:At 11 #[.slice ao n cap,.int .i64 parts,.int .i64 rule,.int .i64 mode] w (.tuple #[.slice none 0 0,.int .i64 e]) by
    refine hs.mono ?_;rintro r w' ⟨rfl,hb⟩;exact⟨.inl ⟨hE.o,rfl⟩,hb⟩
   unfold nM at he;have CK:=hid (Ei rule mode w);obtain⟨kb,hkb⟩:=ah (Hq rule mode);rw[<-hkb] at CK he;have CA:=hid (xK xs false ao n cap w hF hn hb hW);clear hF hn hT hW hkb
   cases kb
   . rw[if_pos (.inl rfl)] at he;exact qs
   . by_cases h1:parts<1
     . have d1:decide (parts<1)=true:=by simp[h1]
       rw[if_pos (.inr (.inl h1))] at he;exact qs
     . have d1:decide (parts<1)=false:=by simp;omega
       by_cases h2:65536<parts
       . have d2:decide (65536<parts)=true:=by simp[h2]
         rw[if_pos (.inr (.inr h2))] at he;exact qs
       . have d2:decide (65536<parts)=false:=by simp;omega
         rw[if_neg (by rintro (h | h | h) <;> first | cases h | omega)] at he;rw[<-he] at CA;have d3:(e==0)=false:=by simp[h0]
         have d4:(e != 0)=true:=by simp[h0]
         clear he;go_enter Tryz.func11,Tryz.ntmps11;go_wp2_with fail;refine CK.o.mono ?_;rintro r v ⟨rfl,rfl⟩;go_wp2_with fail;refine CA.o.mono ?_;rintro r v2 ⟨rfl,hb2⟩;have HB:=ak hb2;clear hb2 CA CK;go_wp2;refine aH (v:=.tuple #[.slice none 0 0,.int .i64 e]) (by simp[results,Tryz.results11,go_sem]) rfl ?_;exact⟨rfl,HB.o⟩
end
section
open Go.RowKit J
abbrev Cb:=Option (Bool×Nat×Int)
def jK(w u:World)(l:List (Nat×Cb)):Prop:=An w u/\∀p ∈ l,Lo u p.1 p.2/\w.heap.size<=p.1
theorem jK.nil{w u:World}(h:An w u):jK w u []:=⟨h,λp hp=>by cases hp⟩
theorem jK.be{w u v:World}{l:List (Nat×Cb)}(h:jK w u l)(hb:An u v):jK w v l:=⟨h.1.trans (hb.mono h.1.size),λp hp=>⟨(h.2 p hp).1.below hb,(h.2 p hp).2⟩⟩
theorem jK.al{w u:World}{l:List (Nat×Cb)}(h:jK w u l)(o:Obj):jK w (u.alloc o) l:=h.be (af u o)
theorem jK.dr{w u:World}{l:List (Nat×Cb)}(h:jK w u l):jK w u.drew l:=h.be (aD u.heap.size u).drew
theorem jK.new{w u:World}{l:List (Nat×Cb)}(h:jK w u l){q:Cb}{a:Option Addr}{c:Nat}(n:Nt 0 u (.slice a (ws (dX q)).length c) (dX q)):jK w (u.alloc (uB q a c)) ((u.heap.size,q)::l):=by
 refine⟨(h.al _).1,λp hp=>?_⟩;rcases pg.1 hp with rfl|hp
 . exact⟨Lo.new n,h.1.size⟩
 . exact(h.al _).2 p hp
def UT(w u:World)(l:List (Nat×Cb))(g:Nat):Prop:=Lo u g GA/\w.heap.size<=g/\∀p ∈ l,p.1<g
theorem UT.be{w u v:World}{l:List (Nat×Cb)}{g:Nat}(h:UT w u l g)(hb:An u v):UT w v l g:=⟨h.1.below hb,h.2⟩
theorem jK.zero{w u:World}{l:List (Nat×Cb)}(h:jK w u l):UT w (u.alloc Zd) l u.heap.size:=⟨Lo.zero u,h.1.size,λp hp=>(h.2 p hp).1.lt⟩
theorem jK.set{w u:World}{l:List (Nat×Cb)}{g:Nat}(h:jK w u l)(z:UT w u l g){q:Cb}{a:Option Addr}{c:Nat}(n:Nt 0 u (.slice a (ws (dX q)).length c) (dX q)):jK w (vW u g q a c) ((g,q)::l):=by
 obtain⟨z1,z2,z3⟩:=z;refine⟨jU h.1 h.1.size z2 _ _ _,λp hp=>?_⟩;rcases pg.1 hp with rfl|hp
 . exact⟨z1.set n,z2⟩
 . exact⟨(h.2 p hp).1.other z1 (iR (z3 p hp)) _ _ _,(h.2 p hp).2⟩
abbrev qp(g:Nat)(o:Cb)(a:Option Addr)(c:Nat)(u:World):Prop:=u.cell? ⟨g,0,none⟩=some (.bool (dN o))/\u.cell? ⟨g,1,none⟩=some (.slice a (ws (dX o)).length c)/\u.cell? ⟨g,2,none⟩=some (.int .i64 (dE o))
theorem qp.lt{g:Nat}{o:Cb}{a:Option Addr}{c:Nat}{u:World}(h:qp g o a c u):g<u.heap.size:=aG (p:=⟨g,0,none⟩) h.1
theorem qp.be{g:Nat}{o:Cb}{a:Option Addr}{c:Nat}{u v:World}(h:qp g o a c u)(hb:An u v):qp g o a c v:=⟨(hb.cell (p:=⟨g,0,none⟩) h.lt).trans h.1,(hb.cell (p:=⟨g,1,none⟩) h.lt).trans h.2.1,(hb.cell (p:=⟨g,2,none⟩) h.lt).trans h.2.2⟩
theorem qp.al{g:Nat}{o:Cb}{a:Option Addr}{c:Nat}{u:World}(h:qp g o a c u)(ob:Obj):qp g o a c (u.alloc ob):=h.be (af u ob)
theorem qp.dr{g:Nat}{o:Cb}{a:Option Addr}{c:Nat}{u:World}(h:qp g o a c u):qp g o a c u.drew:=h
theorem qp.st{g k:Nat}{o:Cb}{a:Option Addr}{c:Nat}{u:World}(h:qp g o a c u)(hk:g<k)(x y z:Value):qp g o a c (((u.setCell ⟨k,0,none⟩ x).setCell ⟨k,1,none⟩ y).setCell ⟨k,2,none⟩ z):=⟨dR (fF k u x y z) h.1 (iR hk),dR (fF k u x y z) h.2.1 (iR hk),dR (fF k u x y z) h.2.2 (iR hk)⟩
theorem jK.get{w u:World}{l:List (Nat×Cb)}(h:jK w u l){g:Nat}{o:Cb}(hm:(g,o) ∈ l):∃a c,qp g o a c u/\Nt 0 u (.slice a (ws (dX o)).length c) (dX o):=by
 obtain⟨⟨a,c,D,N⟩,_⟩:=h.2 _ hm;obtain⟨p0,p1,p2,_⟩:=D.facts;exact⟨a,c,⟨p0,p1,p2⟩,N⟩
theorem xF{P:Prop}(h:P:=by
 go_wp2_with fail
 go_meet
 case rel=>first
  | with_reducible exact⟨_,rfl,rfl,ak (B2.o.new NM.o)⟩
  | with_reducible exact⟨_,rfl,rfl,ak (B2.o.set ZA.o NM.o)⟩):P:=h
theorem El (s t num den:Nat) (mode:Int) (oa ob of on od ou og q:Cb) (Fa:Fm oa) (Fb:Fm ob) (Ff:Fm of) (Fn:Fm on) (Fd:Fm od) (Fu:Fm ou) (Fg:Fm og) (Fq:Fm q) (z0 z:Nat) (ez:Int) (sp:Value) (w:World)
 (H1:Hid (∀u:World,As 66 #[.float .f64 s] u λr w'=>(∃v,r=.returned (.tuple #[.agg #[.bool (dN oa),v,.int .i64 (dE oa)],.int .i64 0])/\Nt u.heap.size w' v (dX oa))/\An u w'))
 (H2:Hid (∀u:World,As 66 #[.float .f64 t] u λr w'=>(∃v,r=.returned (.tuple #[.agg #[.bool (dN ob),v,.int .i64 (dE ob)],.int .i64 0])/\Nt u.heap.size w' v (dX ob))/\An u w'))
 (H3:Hid (∀(u:World) (a b:Option Addr) (c d:Nat),Nt 0 u (.slice a (ws (dX ob)).length c) (dX ob)->Nt 0 u (.slice b (ws (dX oa)).length d) (dX oa)->As 67 #[.agg #[.bool (dN ob),.slice a (ws (dX ob)).length c,.int .i64 (dE ob)],.agg #[.bool (dN oa),.slice b (ws (dX oa)).length d,.int .i64 (dE oa)]] u λr w'=>(∃v,r=.returned (.tuple #[.agg #[.bool (dN of),v,.int .i64 (dE of)],.int .i64 0])/\Nt u.heap.size w' v (dX of))/\An u w'))
 (H4:Hid (∀u:World,As 69 #[.int .i64 (num:Nat)] u λr w'=>(∃v,r=.returned (.agg #[.bool (dN on),v,.int .i64 (dE on)])/\Nt u.heap.size w' v (dX on))/\An u w'))
 (H5:Hid (∀(u:World) (a b:Option Addr) (c d:Nat),Nt 0 u (.slice a (ws (dX of)).length c) (dX of)->Nt 0 u (.slice b (ws (dX on)).length d) (dX on)->As 68 #[.agg #[.bool (dN of),.slice a (ws (dX of)).length c,.int .i64 (dE of)],.agg #[.bool (dN on),.slice b (ws (dX on)).length d,.int .i64 (dE on)]] u λr w'=>(∃v,r=.returned (.tuple #[.agg #[.bool (dN ou),v,.int .i64 (dE ou)],.int .i64 0])/\Nt u.heap.size w' v (dX ou))/\An u w'))
 (H6:Hid (∀u:World,As 69 #[.int .i64 (den:Nat)] u λr w'=>(∃v,r=.returned (.agg #[.bool (dN od),v,.int .i64 (dE od)])/\Nt u.heap.size w' v (dX od))/\An u w'))
 (H7:Hid (∀(u:World) (a b:Option Addr) (c d:Nat),Nt 0 u (.slice a (ws (dX oa)).length c) (dX oa)->Nt 0 u (.slice b (ws (dX od)).length d) (dX od)->As 68 #[.agg #[.bool (dN oa),.slice a (ws (dX oa)).length c,.int .i64 (dE oa)],.agg #[.bool (dN od),.slice b (ws (dX od)).length d,.int .i64 (dE od)]] u λr w'=>(∃v,r=.returned (.tuple #[.agg #[.bool (dN og),v,.int .i64 (dE og)],.int .i64 0])/\Nt u.heap.size w' v (dX og))/\An u w'))
 (H8:Hid (∀(u:World) (a b:Option Addr) (c d:Nat),Nt 0 u (.slice a (ws (dX og)).length c) (dX og)->Nt 0 u (.slice b (ws (dX ou)).length d) (dX ou)->As 70 #[.agg #[.bool (dN og),.slice a (ws (dX og)).length c,.int .i64 (dE og)],.agg #[.bool (dN ou),.slice b (ws (dX ou)).length d,.int .i64 (dE ou)]] u λr w'=>(∃v,r=.returned (.tuple #[.agg #[.bool (dN q),v,.int .i64 (dE q)],.int .i64 0])/\Nt u.heap.size w' v (dX q))/\An u w'))
 (H9:Hid (∀(u:World) (b:Nat),Fs u.heap.size u (some ⟨b,0,none⟩) [s,t]->At 72 #[.slice (some ⟨b,0,none⟩) 2 2] u sp))
 (H10:Hid (∀u:World,At 71 #[sp,.int .i64 mode] u (.float .f64 z0)))
 (H11:Hid (∀(u:World) (a b:Option Addr) (c d:Nat),Nt 0 u (.slice a (ws (dX q)).length c) (dX q)->Nt 0 u (.slice b (ws (dX od)).length d) (dX od)->At 73 #[.agg #[.bool (dN q),.slice a (ws (dX q)).length c,.int .i64 (dE q),.bool (dN od),.slice b (ws (dX od)).length d,.int .i64 (dE od)],.int .i64 mode] u (.tuple #[.float .f64 z,.int .i64 ez]))) :
 At 40 #[.float .f64 s,.float .f64 t,.int .i64 (num:Nat),.int .i64 (den:Nat),.int .i64 mode] w (.tuple #[.float .f64 (if (ws (dX q)).length=0 then z0 else z),.int .i64 (if (ws (dX q)).length=0 then 0 else ez)]):=by
 have FF:=(Ck Fa Fb Ff Fn Fd Fu Fg Fq);clear Fa Fb Ff Fn Fd Fu Fg Fq;obtain⟨zz,hzz⟩:=ah (if (ws (dX q)).length=0 then z0 else z)
 obtain⟨ee,hee⟩:∃x:Int,x=if (ws (dX q)).length=0 then 0 else ez:=⟨_,rfl⟩
 rw[<-hzz,<-hee];have HZ:=(bA hzz hee);clear hzz hee;go_enter Tryz.func40,Tryz.ntmps40
 go_upto_region 1 with fail
 have C:=hid (H1.o w);go_wp2_with fail;refine C.o.mono ?_;rintro r v1 ⟨⟨p,rfl,hN⟩,hb⟩;obtain⟨a1,c1,rfl,hN0⟩:=Lo.shape FF.o.1 hN;obtain⟨V1,hV⟩:=ah (v1.alloc (uB oa a1 c1));obtain⟨g12,hg⟩:=ah (v1.heap.size)
 have L1:Aside (jK w V1 ((g12,oa)::[])):=by
  rw[hV,hg];exact((jK.nil (aD w.heap.size w)).be hb).new hN0
 have HV:=(bA hV hg);clear C hb hN hN0 hV hg
 go_upto_region 2 with fail
 rw[<-HV.o.1,<-HV.o.2];clear HV;have C:=hid (H2.o V1);go_wp2_with fail;refine C.o.mono ?_;rintro r v2 ⟨⟨p,rfl,hN⟩,hb⟩;obtain⟨a2,c2,rfl,hN0⟩:=Lo.shape FF.o.2.1 hN;obtain⟨V2,hV⟩:=ah (v2.alloc (uB ob a2 c2));obtain⟨g14,hg⟩:=ah (v2.heap.size)
 have L2:Aside (jK w V2 ((g14,ob)::[(g12,oa)])):=by
  rw[hV,hg];exact(L1.o.be hb).new hN0
 have HV:=(bA hV hg);clear C hb hN hN0 hV hg
 go_upto_region 3 with fail
 rw[<-HV.o.1,<-HV.o.2];clear HV;obtain⟨xb,yb,Kb,Mb⟩:=L2.o.get (g:=g14) (o:=ob) kK;obtain⟨xa,ya,Ka,Ma⟩:=L2.o.get (g:=g12) (o:=oa) (kJ _ kK);obtain⟨p0,p1,p2⟩:=Kb;obtain⟨q0,q1,q2⟩:=Ka;have C:=hid (H3.o V2 xb xa yb ya Mb Ma);go_wp2_with fail;refine C.o.mono ?_;rintro r v3 ⟨⟨p,rfl,hN⟩,hb⟩;obtain⟨a3,c3,rfl,hN0⟩:=Lo.shape FF.o.r2.1 hN;obtain⟨V3,hV⟩:=ah (v3.alloc (uB of a3 c3));obtain⟨g16,hg⟩:=ah (v3.heap.size)
 have L3:Aside (jK w V3 ((g16,of)::[(g14,ob),(g12,oa)])):=by
  rw[hV,hg];exact(L2.o.be hb).new hN0
 have HV:=(bA hV hg);clear C hb hN hN0 hV hg
 go_upto_region 4 with fail
 rw[<-HV.o.1,<-HV.o.2];clear HV;clear p0 p1 p2 q0 q1 q2 Mb Ma;obtain⟨xs4,ys4,Ks4,Ms4⟩:=L3.o.get (g:=g16) (o:=of) kK;have KS:=ak Ks4;have NS:=ak Ms4;clear Ks4 Ms4
 go_cut [18,19] from 40 to 46 (λpv ev wx=>∃g,pv=.pointer (some ⟨g,0,none⟩)/\ev=.int .i64 0/\Aside (jK w wx ((g,ou)::[(g16,of),(g14,ob),(g12,oa)])))
 case first =>
  refine vO ?_
  go_region_held3 (λw'=>w'.cell? ⟨g16,0,none⟩=some (.bool (dN of))/\w'.cell? ⟨g16,1,none⟩=some (.slice xs4 (ws (dX of)).length ys4)/\w'.cell? ⟨g16,2,none⟩=some (.int .i64 (dE of))) (first
   | with_reducible exact S2.o
   | with_reducible exact S2.o.al _
   | with_reducible exact S2.o.st hgs _ _ _
   | with_reducible exact S1.o
   | with_reducible exact S1.o.al _
   | with_reducible exact KS.o.dr
   | with_reducible exact(KS.o.al _).dr) (first
   | (go_at_call 69
      first
      | (have BX:=ak (L3.o.dr)
         have SX:=ak (KS.o.dr)
         with_reducible refine(H4.o V3.drew).mono ?_
         rintro r v1 ⟨⟨p,rfl,hN⟩,hb⟩;obtain⟨ai,ci,rfl,hN0⟩:=Lo.shape FF.o.r3.1 hN;have B1:=ak (BX.o.be hb);have S1:=ak (SX.o.be hb);have N1:=ak ((NS.o.below (aD V3.heap.size V3).drew).below hb);have NI:=ak hN0
         clear hb hN hN0 BX SX)
      | (have BX:=ak ((L3.o.al Zd).dr)
         have SX:=ak ((KS.o.al Zd).dr)
         with_reducible refine(H4.o (V3.alloc Zd).drew).mono ?_
         rintro r v1 ⟨⟨p,rfl,hN⟩,hb⟩;obtain⟨ai,ci,rfl,hN0⟩:=Lo.shape FF.o.r3.1 hN;have B1:=ak (BX.o.be hb);have S1:=ak (SX.o.be hb);have N1:=ak (((NS.o.below (af _ Zd)).below (aD (V3.alloc Zd).heap.size (V3.alloc Zd)).drew).below hb);have NI:=ak hN0;have ZA:=ak (((L3.o.zero).be (aD (V3.alloc Zd).heap.size (V3.alloc Zd)).drew).be hb)
         clear hb hN hN0 BX SX))
   | (go_at_call 68
      first
      | (have BX:=ak (B1.o)
         have SX:=ak (S1.o);have NX:=ak (N1.o);have NY:=ak (NI.o)
         with_reducible refine(H5.o v1 xs4 ai ys4 ci NX.o NY.o).mono ?_
         rintro r v2 ⟨⟨p,rfl,hN⟩,hb⟩;obtain⟨am,cm,rfl,hN0⟩:=Lo.shape FF.o.r5.1 hN;have B2:=ak (BX.o.be hb);have S2:=ak (SX.o.be hb);have NM:=ak hN0
         try (have ZA:=ak (ZA.o.be hb))
         try (have hgs:=ZA.o.r2 _ kK;obtain⟨⟨e1,e2,D7,e3⟩,e4⟩:=ZA.o;obtain⟨u0,u1,u2,t0,t1,t2⟩:=D7.facts;have lA:=D7.lt;have nA:=iR lA;have mA:=pE lA;clear D7 e3 e4)
         clear hb hN hN0 BX SX NX NY)
      | (have BX:=ak (B1.o.al Zd)
         have SX:=ak (S1.o.al Zd);have NX:=ak (N1.o.below (af _ Zd));have NY:=ak (NI.o.below (af _ Zd))
         with_reducible refine(H5.o (v1.alloc Zd) xs4 ai ys4 ci NX.o NY.o).mono ?_
         rintro r v2 ⟨⟨p,rfl,hN⟩,hb⟩;obtain⟨am,cm,rfl,hN0⟩:=Lo.shape FF.o.r5.1 hN;have B2:=ak (BX.o.be hb);have S2:=ak (SX.o.be hb);have NM:=ak hN0;have ZA:=ak (B1.o.zero.be hb)
         try (have hgs:=ZA.o.r2 _ kK;obtain⟨⟨e1,e2,D7,e3⟩,e4⟩:=ZA.o;obtain⟨u0,u1,u2,t0,t1,t2⟩:=D7.facts;have lA:=D7.lt;have nA:=iR lA;have mA:=pE lA;clear D7 e3 e4)
         clear hb hN hN0 BX SX NX NY)))
  all_goals
   exact xF
 clear L3 KS NS;obtain⟨g18,rfl,rfl,L4⟩:=hcut;obtain⟨W4,hW⟩:=ah wc;subst hW
 go_upto_region 5 with fail
 obtain⟨xs5,ys5,Ks5,Ms5⟩:=L4.o.get (g:=g12) (o:=oa) (kJ _ (kJ _ (kJ _ kK)));have KS:=ak Ks5;have NS:=ak Ms5;clear Ks5 Ms5
 go_cut [20,21] from 47 to 53 (λpv ev wx=>∃g,pv=.pointer (some ⟨g,0,none⟩)/\ev=.int .i64 0/\Aside (jK w wx ((g,og)::[(g18,ou),(g16,of),(g14,ob),(g12,oa)])))
 case first =>
  refine vO ?_
  go_region_held3 (λw'=>w'.cell? ⟨g12,0,none⟩=some (.bool (dN oa))/\w'.cell? ⟨g12,1,none⟩=some (.slice xs5 (ws (dX oa)).length ys5)/\w'.cell? ⟨g12,2,none⟩=some (.int .i64 (dE oa))) (first
   | with_reducible exact S2.o
   | with_reducible exact S2.o.al _
   | with_reducible exact S2.o.st hgs _ _ _
   | with_reducible exact S1.o
   | with_reducible exact S1.o.al _
   | with_reducible exact KS.o.dr
   | with_reducible exact(KS.o.al _).dr) (first
   | (go_at_call 69
      first
      | (have BX:=ak (L4.o.dr)
         have SX:=ak (KS.o.dr)
         with_reducible refine(H6.o W4.drew).mono ?_
         rintro r v1 ⟨⟨p,rfl,hN⟩,hb⟩;obtain⟨ai,ci,rfl,hN0⟩:=Lo.shape FF.o.r4.1 hN;have B1:=ak (BX.o.be hb);have S1:=ak (SX.o.be hb);have N1:=ak ((NS.o.below (aD W4.heap.size W4).drew).below hb);have NI:=ak hN0
         clear hb hN hN0 BX SX)
      | (have BX:=ak ((L4.o.al Zd).dr)
         have SX:=ak ((KS.o.al Zd).dr)
         with_reducible refine(H6.o (W4.alloc Zd).drew).mono ?_
         rintro r v1 ⟨⟨p,rfl,hN⟩,hb⟩;obtain⟨ai,ci,rfl,hN0⟩:=Lo.shape FF.o.r4.1 hN;have B1:=ak (BX.o.be hb);have S1:=ak (SX.o.be hb);have N1:=ak (((NS.o.below (af _ Zd)).below (aD (W4.alloc Zd).heap.size (W4.alloc Zd)).drew).below hb);have NI:=ak hN0;have ZA:=ak (((L4.o.zero).be (aD (W4.alloc Zd).heap.size (W4.alloc Zd)).drew).be hb)
         clear hb hN hN0 BX SX))
   | (go_at_call 68
      first
      | (have BX:=ak (B1.o)
         have SX:=ak (S1.o);have NX:=ak (N1.o);have NY:=ak (NI.o)
         with_reducible refine(H7.o v1 xs5 ai ys5 ci NX.o NY.o).mono ?_
         rintro r v2 ⟨⟨p,rfl,hN⟩,hb⟩;obtain⟨am,cm,rfl,hN0⟩:=Lo.shape FF.o.r6.1 hN;have B2:=ak (BX.o.be hb);have S2:=ak (SX.o.be hb);have NM:=ak hN0
         try (have ZA:=ak (ZA.o.be hb))
         try (have hgs:=ZA.o.r2 _ (kJ _ (kJ _ (kJ _ kK)));obtain⟨⟨e1,e2,D7,e3⟩,e4⟩:=ZA.o;obtain⟨u0,u1,u2,t0,t1,t2⟩:=D7.facts;have lA:=D7.lt;have nA:=iR lA;have mA:=pE lA;clear D7 e3 e4)
         clear hb hN hN0 BX SX NX NY)
      | (have BX:=ak (B1.o.al Zd)
         have SX:=ak (S1.o.al Zd);have NX:=ak (N1.o.below (af _ Zd));have NY:=ak (NI.o.below (af _ Zd))
         with_reducible refine(H7.o (v1.alloc Zd) xs5 ai ys5 ci NX.o NY.o).mono ?_
         rintro r v2 ⟨⟨p,rfl,hN⟩,hb⟩;obtain⟨am,cm,rfl,hN0⟩:=Lo.shape FF.o.r6.1 hN;have B2:=ak (BX.o.be hb);have S2:=ak (SX.o.be hb);have NM:=ak hN0;have ZA:=ak (B1.o.zero.be hb)
         try (have hgs:=ZA.o.r2 _ (kJ _ (kJ _ (kJ _ kK)));obtain⟨⟨e1,e2,D7,e3⟩,e4⟩:=ZA.o;obtain⟨u0,u1,u2,t0,t1,t2⟩:=D7.facts;have lA:=D7.lt;have nA:=iR lA;have mA:=pE lA;clear D7 e3 e4)
         clear hb hN hN0 BX SX NX NY)))
  all_goals
   exact xF
 clear L4 KS NS;obtain⟨g20,rfl,rfl,L5⟩:=hcut;obtain⟨W5,hW⟩:=ah wc;subst hW;obtain⟨xg,yg,Kg,Mg⟩:=L5.o.get (g:=g20) (o:=og) kK;obtain⟨xu,yu,Ku,Mu⟩:=L5.o.get (g:=g18) (o:=ou) (kJ _ kK);obtain⟨p0,p1,p2⟩:=Kg;obtain⟨q0,q1,q2⟩:=Ku;have C:=hid (H8.o W5 xg xu yg yu Mg Mu);go_wp2_with fail;refine C.o.mono ?_;rintro r v6 ⟨⟨p,rfl,hN⟩,hb⟩;obtain⟨a6,c6,rfl,hN0⟩:=Lo.shape FF.o.r7 hN;obtain⟨V6,hV⟩:=ah (v6.alloc (uB q a6 c6));obtain⟨g22,hg⟩:=ah (v6.heap.size)
 have L6:Aside (jK w V6 ((g22,q)::[(g20,og),(g18,ou),(g16,of),(g14,ob),(g12,oa)])):=by
  rw[hV,hg];exact(L5.o.be hb).new hN0
 have HV:=(bA hV hg);clear C hb hN hN0 hV hg
 go_upto_region 7 with fail
 rw[<-HV.o.1,<-HV.o.2];clear HV;clear p0 p1 p2 q0 q1 q2 Mg Mu;obtain⟨xq,yq,Kq,Mq⟩:=L6.o.get (g:=g22) (o:=q) kK;obtain⟨q0,q1,q2⟩:=Kq;have NQ:=ak Mq;clear Mq;obtain⟨m,hm⟩:=ah ((ws (dX q)).length);rw[<-hm] at q1;have HM:=ak hm
 by_cases h0:m=0
 . have e0:(ws (dX q)).length=0:=by rw[<-hm];exact h0
   have Hz:Aside (zz=z0/\ee=0):=ak ⟨by rw[HZ.o.1,if_pos e0],by rw[HZ.o.2,if_pos e0]⟩;obtain⟨U0,qL⟩:=ah (V6.alloc (Obj.cells #[.float .f64 s,.float .f64 t] 27));obtain⟨gl,hgl⟩:=ah (V6.heap.size)
   have K4:Aside (Fs U0.heap.size U0 (some ⟨gl,0,none⟩) [s,t]/\An w U0):=by
    rw[qL,hgl];exact⟨Ed V6 s t,(L6.o.al _).1⟩
   have C:=hid (H9.o U0 gl K4.o.1);have HU:=(bA qL hgl);subst h0;clear qL hgl L6 hm e0;go_wp2_with fail;rw[<-HU.o.1,<-HU.o.2];clear HU;refine C.o.mono ?_;rintro r v7 ⟨rfl,hb⟩;have K5:=ak (K4.o.2.trans (hb.mono K4.o.2.size));clear C hb K4;have C:=hid (H10.o v7);go_wp2_with fail;refine C.o.mono ?_;rintro r v8 ⟨rfl,hb⟩;have K6:=ak (K5.o.trans (hb.mono K5.o.size));clear C hb K5;go_wp2;refine aH (v:=.tuple #[.float .f64 z0,.int .i64 0]) (by simp[results,Tryz.results40,go_sem]) rfl ?_;exact⟨by rw[Hz.o.1,Hz.o.2],K6.o⟩
 . have e0:¬ (ws (dX q)).length=0:=by rw[<-hm];exact h0
   have Hz:Aside (zz=z/\ee=ez):=ak ⟨by rw[HZ.o.1,if_neg e0],by rw[HZ.o.2,if_neg e0]⟩;have d0:((m:Int)==0)=false:=by simp;omega
   have d1:decide ((m:Int)=0)=false:=by simp;omega
   have CQ:Aside (qp g22 q xq yq V6):=⟨q0,by rw[q1,hm],q2⟩;clear hm e0
   go_upto_region 9 with fail
   have BB:Aside (An w V6.drew/\qp g22 q xq yq V6.drew/\Nt 0 V6.drew (.slice xq (ws (dX q)).length yq) (dX q)):=⟨L6.o.dr.1,CQ.o.dr,NQ.o.below (aD V6.heap.size V6).drew⟩;clear q0 q1 q2 CQ NQ L6;obtain⟨d3,d4,d5⟩:=BB.o.2.1;refine vO ?_
   go_region_with (first
    | (go_at_call 73
       with_reducible refine(H11.o _ xq a9 yq c9 BB.o.r2 Q9.o).mono ?_
       rintro r v ⟨rfl,hb⟩;have BE:=ak (BB.o.1.trans (hb.mono BB.o.1.size))
       clear hb d3 d4 d5)
    | (go_at_call 69
       with_reducible refine(H6.o _).mono ?_
       rintro r v ⟨⟨p,rfl,hN⟩,hb⟩;obtain⟨a9,c9,rfl,hN0⟩:=Lo.shape FF.o.r4.1 hN;have BB:=gp (BB.o.1.trans (hb.mono BB.o.1.size)) (BB.o.2.1.be hb) (BB.o.r2.below hb);have Q9:=ak hN0;obtain⟨d3,d4,d5⟩:=BB.o.2.1
       clear hb hN hN0))
   all_goals
    go_wp2;refine aH (v:=.tuple #[.float .f64 z,.int .i64 ez]) (by simp[results,Tryz.results40,go_sem]) rfl ?_;exact⟨by rw[Hz.o.1,Hz.o.2],BE.o⟩
end
section
open Go.RowKit
open Go.Proofs.YtjppdacikihpdaaGreatDoor.B (aW aJ bw bz)
attribute [local go_sem] aW aJ
theorem UP{P:Prop}(h:P:=by
 rintro r w1 ⟨rfl,rfl⟩;go_wp2;go_ret;exact⟨by first | rfl | simp,below _⟩):P:=h
theorem Z2{P:Prop}(h:P:=by
 rintro r w1 ⟨rfl,rfl⟩;go_wp2_with fail;refine(Hm.o _).mono ?_;rintro r w1 ⟨rfl,rfl⟩;go_wp2_with fail;refine(Hp.o _).mono ?_;rintro r w1 ⟨rfl,rfl⟩;go_wp2_with fail;refine(Ha.o _).mono ?_;rintro r w1 ⟨rfl,rfl⟩;go_wp2;go_ret;exact⟨by first | rfl | simp,below _⟩):P:=h
theorem Qg(n u d m p a:Int)(w:World):At 117 #[.agg #[.int .i64 n,.int .i64 u,.int .i64 d,.int .i64 m,.int .i64 p,.int .i64 a]] w (.bool (snd n u d m p a)):=by
 have below:∀o,An w (w.alloc o):=λo=>(aD _ _).alloc (aA _) _;unfold snd;have Hn:=hid (jV n);have Hu:=hid (jV u);have Hd:=hid (jV d);have Hm:=hid (jV m);have Hp:=hid (jV p);have Ha:=hid (jV a);have h1:(ct n=false)\/(ct n=true/\ct u=false)\/(ct n=true/\ct u=true/\ct d=false)\/(ct n=true/\ct u=true/\ct d=true):=by cases ct n <;> cases ct u <;> cases ct d <;> simp
 have h2:(ct m=false)\/(ct m=true/\ct p=false)\/(ct m=true/\ct p=true/\ct a=false)\/(ct m=true/\ct p=true/\ct a=true):=by cases ct m <;> cases ct p <;> cases ct a <;> simp
 rcases h1 with e1|⟨e1,e2⟩|⟨e1,e2,e3⟩|⟨e1,e2,e3⟩ <;> rcases h2 with g1|⟨g1,g2⟩|⟨g1,g2,g3⟩|⟨g1,g2,g3⟩
 . rw[e1,g1];rw[e1] at Hn;rw[g1] at Hm;clear e1 g1;go_enter Tryz.func117,Tryz.ntmps117;go_wp2_with fail;refine(Hn.o _).mono ?_;rintro r w1 ⟨rfl,rfl⟩;go_wp2_with fail;refine(Hm.o _).mono ?_;exact UP
 . rw[e1,g1,g2];rw[e1] at Hn;rw[g1] at Hm;rw[g2] at Hp;clear e1 g1 g2;go_enter Tryz.func117,Tryz.ntmps117;go_wp2_with fail;refine(Hn.o _).mono ?_;rintro r w1 ⟨rfl,rfl⟩;go_wp2_with fail;refine(Hm.o _).mono ?_;rintro r w1 ⟨rfl,rfl⟩;go_wp2_with fail;refine(Hp.o _).mono ?_;exact UP
 . rw[e1,g1,g2,g3];rw[e1] at Hn;rw[g1] at Hm;rw[g2] at Hp;rw[g3] at Ha;clear e1 g1 g2 g3;go_enter Tryz.func117,Tryz.ntmps117;go_wp2_with fail;refine(Hn.o _).mono ?_;exact Z2
 . rw[e1,g1,g2,g3];rw[e1] at Hn;rw[g1] at Hm;rw[g2] at Hp;rw[g3] at Ha;clear e1 g1 g2 g3;go_enter Tryz.func117,Tryz.ntmps117;go_wp2_with fail;refine(Hn.o _).mono ?_;exact Z2
 . rw[e1,e2,g1];rw[e1] at Hn;rw[e2] at Hu;rw[g1] at Hm;clear e1 e2 g1;go_enter Tryz.func117,Tryz.ntmps117;go_wp2_with fail;refine(Hn.o _).mono ?_;rintro r w1 ⟨rfl,rfl⟩;go_wp2_with fail;refine(Hu.o _).mono ?_;rintro r w1 ⟨rfl,rfl⟩;go_wp2_with fail;refine(Hm.o _).mono ?_;exact UP
 . rw[e1,e2,g1,g2];rw[e1] at Hn;rw[e2] at Hu;rw[g1] at Hm;rw[g2] at Hp;clear e1 e2 g1 g2;go_enter Tryz.func117,Tryz.ntmps117;go_wp2_with fail;refine(Hn.o _).mono ?_;rintro r w1 ⟨rfl,rfl⟩;go_wp2_with fail;refine(Hu.o _).mono ?_;rintro r w1 ⟨rfl,rfl⟩;go_wp2_with fail;refine(Hm.o _).mono ?_;rintro r w1 ⟨rfl,rfl⟩;go_wp2_with fail;refine(Hp.o _).mono ?_;exact UP
 . rw[e1,e2,g1,g2,g3];rw[e1] at Hn;rw[e2] at Hu;rw[g1] at Hm;rw[g2] at Hp;rw[g3] at Ha;clear e1 e2 g1 g2 g3;go_enter Tryz.func117,Tryz.ntmps117;go_wp2_with fail;refine(Hn.o _).mono ?_;rintro r w1 ⟨rfl,rfl⟩;go_wp2_with fail;refine(Hu.o _).mono ?_;exact Z2
 . rw[e1,e2,g1,g2,g3];rw[e1] at Hn;rw[e2] at Hu;rw[g1] at Hm;rw[g2] at Hp;rw[g3] at Ha;clear e1 e2 g1 g2 g3;go_enter Tryz.func117,Tryz.ntmps117;go_wp2_with fail;refine(Hn.o _).mono ?_;rintro r w1 ⟨rfl,rfl⟩;go_wp2_with fail;refine(Hu.o _).mono ?_;exact Z2
 . rw[e1,e2,e3,g1];rw[e1] at Hn;rw[e2] at Hu;rw[e3] at Hd;rw[g1] at Hm;clear e1 e2 e3 g1;go_enter Tryz.func117,Tryz.ntmps117;go_wp2_with fail;refine(Hn.o _).mono ?_;rintro r w1 ⟨rfl,rfl⟩;go_wp2_with fail;refine(Hu.o _).mono ?_;rintro r w1 ⟨rfl,rfl⟩;go_wp2_with fail;refine(Hd.o _).mono ?_;rintro r w1 ⟨rfl,rfl⟩;go_wp2_with fail;refine(Hm.o _).mono ?_;exact UP
 . rw[e1,e2,e3,g1,g2];rw[e1] at Hn;rw[e2] at Hu;rw[e3] at Hd;rw[g1] at Hm;rw[g2] at Hp;clear e1 e2 e3 g1 g2;go_enter Tryz.func117,Tryz.ntmps117;go_wp2_with fail;refine(Hn.o _).mono ?_;rintro r w1 ⟨rfl,rfl⟩;go_wp2_with fail;refine(Hu.o _).mono ?_;rintro r w1 ⟨rfl,rfl⟩;go_wp2_with fail;refine(Hd.o _).mono ?_;rintro r w1 ⟨rfl,rfl⟩;go_wp2_with fail;refine(Hm.o _).mono ?_;rintro r w1 ⟨rfl,rfl⟩;go_wp2_with fail;refine(Hp.o _).mono ?_;exact UP
 . rw[e1,e2,e3,g1,g2,g3];rw[e1] at Hn;rw[e2] at Hu;rw[e3] at Hd;rw[g1] at Hm;rw[g2] at Hp;rw[g3] at Ha;clear e1 e2 e3 g1 g2 g3;go_enter Tryz.func117,Tryz.ntmps117;go_wp2_with fail;refine(Hn.o _).mono ?_;rintro r w1 ⟨rfl,rfl⟩;go_wp2_with fail;refine(Hu.o _).mono ?_;rintro r w1 ⟨rfl,rfl⟩;go_wp2_with fail;refine(Hd.o _).mono ?_;exact Z2
 . rw[e1,e2,e3,g1,g2,g3];rw[e1] at Hn;rw[e2] at Hu;rw[e3] at Hd;rw[g1] at Hm;rw[g2] at Hp;rw[g3] at Ha;clear e1 e2 e3 g1 g2 g3;go_enter Tryz.func117,Tryz.ntmps117;go_wp2_with fail;refine(Hn.o _).mono ?_;rintro r w1 ⟨rfl,rfl⟩;go_wp2_with fail;refine(Hu.o _).mono ?_;rintro r w1 ⟨rfl,rfl⟩;go_wp2_with fail;refine(Hd.o _).mono ?_;exact Z2
 . rw[e1,e2,e3,g1];rw[e1] at Hn;rw[e2] at Hu;rw[e3] at Hd;rw[g1] at Hm;clear e1 e2 e3 g1;go_enter Tryz.func117,Tryz.ntmps117;go_wp2_with fail;refine(Hn.o _).mono ?_;rintro r w1 ⟨rfl,rfl⟩;go_wp2_with fail;refine(Hu.o _).mono ?_;rintro r w1 ⟨rfl,rfl⟩;go_wp2_with fail;refine(Hd.o _).mono ?_;rintro r w1 ⟨rfl,rfl⟩;go_wp2_with fail;refine(Hm.o _).mono ?_;exact UP
 . rw[e1,e2,e3,g1,g2];rw[e1] at Hn;rw[e2] at Hu;rw[e3] at Hd;rw[g1] at Hm;rw[g2] at Hp;clear e1 e2 e3 g1 g2;go_enter Tryz.func117,Tryz.ntmps117;go_wp2_with fail;refine(Hn.o _).mono ?_;rintro r w1 ⟨rfl,rfl⟩;go_wp2_with fail;refine(Hu.o _).mono ?_;rintro r w1 ⟨rfl,rfl⟩;go_wp2_with fail;refine(Hd.o _).mono ?_;rintro r w1 ⟨rfl,rfl⟩;go_wp2_with fail;refine(Hm.o _).mono ?_;rintro r w1 ⟨rfl,rfl⟩;go_wp2_with fail;refine(Hp.o _).mono ?_;exact UP
 . rw[e1,e2,e3,g1,g2,g3];rw[e1] at Hn;rw[e2] at Hu;rw[e3] at Hd;rw[g1] at Hm;rw[g2] at Hp;rw[g3] at Ha;clear e1 e2 e3 g1 g2 g3;go_enter Tryz.func117,Tryz.ntmps117;go_wp2_with fail;refine(Hn.o _).mono ?_;rintro r w1 ⟨rfl,rfl⟩;go_wp2_with fail;refine(Hu.o _).mono ?_;rintro r w1 ⟨rfl,rfl⟩;go_wp2_with fail;refine(Hd.o _).mono ?_;exact Z2
 . rw[e1,e2,e3,g1,g2,g3];rw[e1] at Hn;rw[e2] at Hu;rw[e3] at Hd;rw[g1] at Hm;rw[g2] at Hp;rw[g3] at Ha;have kn:=jB e1;have ku:=jB e2;have kd:=jB e3;have km:=jB g1;have kp:=jB g2;have ka:=jB g3;clear e1 e2 e3 g1 g2 g3;go_enter Tryz.func117,Tryz.ntmps117;go_wp2_with fail;refine(Hn.o _).mono ?_;rintro r w1 ⟨rfl,rfl⟩;go_wp2_with fail;refine(Hu.o _).mono ?_;rintro r w1 ⟨rfl,rfl⟩;go_wp2_with fail;refine(Hd.o _).mono ?_;exact Z2
end
section
open Go.RowKit
open Go.Proofs.YtjppdacikihpdaaGreatDoor.B (aW aJ bw bz)
attribute [local go_sem] aW aJ
open Go.RowKit
open Go.Proofs.YtjppdacikihpdaaGreatDoor.B (aW aJ bw bz)
attribute [local go_sem] aW aJ
theorem Kd{P:Prop}(h:P:=by
 rintro r w3 ⟨rfl,rfl⟩;go_wp2;go_ret;exact⟨by first | rfl | simp,((aD _ w).alloc (aA _) _).trans (B1.o.mono aN)⟩):P:=h
theorem wZ(n u d m p l mode:Int)(w:World):At 71 #[.agg #[.int .i64 n,.int .i64 u,.int .i64 d,.int .i64 m,.int .i64 p,.int .i64 l],.int .i64 mode] w (.float .f64 (nt (snd n u d m p l) n u d m p l mode)):=by
 have HS:=hid (Qg n u d m p l);have HM:=hid (Bp);have HT:=hid (GJ true);have HF:=hid (GJ false);rcases hs:snd n u d m p l with _|_
 . rw[hs] at HS;have hv:nt false n u d m p l mode=0:=if_pos rfl;rw[hv];clear hs hv;go_enter Tryz.func71,Tryz.ntmps71;go_wp2_with fail;refine(HS.o _).mono ?_;rintro r w1 ⟨rfl,hb1⟩;have hz1:=hb1.size;simp at hz1;obtain⟨hc1,hf1⟩:=bz hb1;have B1:=ak hb1;clear hb1;go_wp2_with fail;refine(HF.o _).mono ?_;exact Kd
 have bd:=R8 hs;rw[hs] at HS;obtain⟨f,hf⟩:∃f,l-n-u-d=f:=⟨_,rfl⟩;have hfb:-9223372036854775808<=f/\f<=9223372036854775807:=ae
 have hb1:0<=n/\n<=1099511627776:=bd.1;have hb2:0<=u/\u<=1099511627776:=bd.2.1;have hb3:0<=d/\d<=1099511627776:=bd.2.2.1;have hb4:0<=l/\l<=1099511627776:=bd.2.2.2;unfold nt;rw[if_neg aM,hf];clear hs bd
 by_cases p1:f=0
 . rw[if_pos p1];have q1:(f==0)=true:=by rw[beq_iff_eq];exact p1
   clear p1;go_enter Tryz.func71,Tryz.ntmps71;go_wp2_with fail;refine(HS.o _).mono ?_;rintro r w1 ⟨rfl,hb1⟩;have hz1:=hb1.size;simp at hz1;obtain⟨hc1,hf1⟩:=bz hb1;have B1:=ak hb1;clear hb1;go_wp2_with fail;refine(HF.o _).mono ?_;exact Kd
 rw[if_neg p1];have q1:(f==0)=false:=by rw[beq_eq_false_iff_ne];exact p1
 clear p1
 by_cases p2:m=f
 . rw[if_pos p2];have q2:(m==f)=true:=by rw[beq_iff_eq];exact p2
   clear p2;go_enter Tryz.func71,Tryz.ntmps71;go_wp2_with fail;refine(HS.o _).mono ?_;rintro r w1 ⟨rfl,hb1⟩;have hz1:=hb1.size;simp at hz1;obtain⟨hc1,hf1⟩:=bz hb1;have B1:=ak hb1;clear hb1;go_wp2_with fail;refine(HT.o _).mono ?_;exact Kd
 rw[if_neg p2];have q2:(m==f)=false:=by rw[beq_eq_false_iff_ne];exact p2
 clear p2
 by_cases p3:p=f
 . rw[if_pos p3];have q3:(p==f)=true:=by rw[beq_iff_eq];exact p3
   clear p3;go_enter Tryz.func71,Tryz.ntmps71;go_wp2_with fail;refine(HS.o _).mono ?_;rintro r w1 ⟨rfl,hb1⟩;have hz1:=hb1.size;simp at hz1;obtain⟨hc1,hf1⟩:=bz hb1;have B1:=ak hb1;clear hb1;go_wp2_with fail;refine(HF.o _).mono ?_;exact Kd
 rw[if_neg p3];have q3:(p==f)=false:=by rw[beq_eq_false_iff_ne];exact p3
 clear p3
 by_cases p4:mode=3
 . rw[if_pos p4];subst p4;go_enter Tryz.func71,Tryz.ntmps71;go_wp2_with fail;refine(HS.o _).mono ?_;rintro r w1 ⟨rfl,hb1⟩;have hz1:=hb1.size;simp at hz1;obtain⟨hc1,hf1⟩:=bz hb1;have B1:=ak hb1;clear hb1;go_wp2_with fail;refine(HT.o _).mono ?_;exact Kd
 . rw[if_neg p4];have q4:(mode==3)=false:=by rw[beq_eq_false_iff_ne];exact p4
   clear p4;go_enter Tryz.func71,Tryz.ntmps71;go_wp2_with fail;refine(HS.o _).mono ?_;rintro r w1 ⟨rfl,hb1⟩;have hz1:=hb1.size;simp at hz1;obtain⟨hc1,hf1⟩:=bz hb1;have B1:=ak hb1;clear hb1;go_wp2_with fail;refine(HF.o _).mono ?_;exact Kd
end
end Go.Proofs.YtjppdacikihpdaaGreatDoor
