import Derived.Test.YtjppdacikihpdaaGreatDoorRQ7x
import Derived.Test.YtjppdacikihpdaaGreatDoorZ48x
import Derived.Deep.RegionHeld3
import Derived.Deep.CutRange
import Derived.Test.YtjppdacikihpdaaGreatDoorS10x
import Derived.Test.YtjppdacikihpdaaGreatDoorBIeeex
import Derived.Test.YtjppdacikihpdaaGreatDoorDB1x
import Derived.Test.YtjppdacikihpdaaGreatDoorF2x
import Derived.OwnWalk
import Derived.ArgAppend
import Derived.Maps.AppendAt
import Derived.WalkMore
import Derived.Deep.RegionHeld
import Derived.Test.YtjppdacikihpdaaGreatDoorRS6x
import Derived.Test.YtjppdacikihpdaaGreatDoorH5x
set_option linter.unusedVariables false
set_option linter.unusedSimpArgs false
set_option maxHeartbeats 16000000
set_option maxRecDepth 20000
namespace Go.Proofs.YtjppdacikihpdaaGreatDoor
namespace J
end J
section
open Go Go.RowKit J
theorem one16(x:Nat)(w:World):Ax 38 #[.float .f64 x] w (.tuple #[.float .f64 x,.int .i64 0]):=by
 go_enter Tryz.func38,Tryz.ntmps38;go_wp2;refine aH (v:=.tuple #[.float .f64 x,.int .i64 0]) (by simp[results,Tryz.results38,go_sem]) rfl ?_;exact Xs
theorem Qan{P:Prop}(h:P:=by
 go_wp2;refine aH (v:=.tuple #[.float .f64 e1,.int .i64 0]) (by simp[results,Tryz.results23,go_sem]) rfl ?_;exact⟨by rw[HZ.o],G.o⟩):P:=h
theorem qq{P:Prop}(h:P:=by
 have C:=hid (CO.o y w);go_enter Tryz.func23,Tryz.ntmps23;go_wp2_with fail;refine C.o.mono ?_;rintro r v ⟨rfl,hv⟩;rw[hv];clear hv;go_wp2;refine aH (v:=.tuple #[.float .f64 y,.int .i64 0]) (by simp[results,Tryz.results23,go_sem]) rfl ?_;exact⟨by rw[HZ.o],aD _ _⟩):P:=h
theorem qk{P:Prop}(h:P:=by
 have C:=hid (CO.o x w);go_enter Tryz.func23,Tryz.ntmps23;go_wp2_with fail;refine C.o.mono ?_;rintro r v ⟨rfl,hv⟩;rw[hv];clear hv;go_wp2;refine aH (v:=.tuple #[.float .f64 x,.int .i64 0]) (by simp[results,Tryz.results23,go_sem]) rfl ?_;exact⟨by rw[HZ.o],aD _ _⟩):P:=h
theorem rAt16 (ys:List Nat) (b:Nat) (n cap num den:Nat) (rule mode:Int) (w:World) (hF:Fs w.heap.size w (some ⟨b,0,none⟩) ys) (hn:n=ys.length) (hn1:1<=n) (hn2:n<=65536) (hW:jH ys) (hf:∀x ∈ ys,bO x) (UJ:num<=den) (hd1:1<=den) (hd:den<=2147483648) (hr0:0<=rule) (hr4:rule<=4)
 (HMD:Hid (∀(x y:Nat) (u:World),x<18446744073709551616->y<18446744073709551616->bO x->bO y->At 39 #[.float .f64 x,.float .f64 y,.int .i64 mode] u (.tuple #[.float .f64 (rC x y mode).1,.int .i64 0])))
 (HLN:Hid (∀(x y m:Nat) (u:World),x<18446744073709551616->y<18446744073709551616->bO x->bO y->m<=den->At 40 #[.float .f64 x,.float .f64 y,.int .i64 (m:Nat),.int .i64 (den:Nat),.int .i64 mode] u (.tuple #[.float .f64 (Iz x y m den mode),.int .i64 0]))) :
 At 23 #[.slice (some ⟨b,0,none⟩) n cap,.int .i64 (num:Nat),.int .i64 (den:Nat),.int .i64 rule,.int .i64 mode] w (.tuple #[.float .f64 (qm ys num den rule mode),.int .i64 0]):=by
 obtain⟨zz,hzz⟩:=ah (qm ys num den rule mode);rw[<-hzz];unfold qm at hzz;simp only[<-hn] at hzz;obtain⟨n1,hn1'⟩:∃x,x=n-1:=⟨_,rfl⟩;rw[<-hn1'] at hzz;obtain⟨s,hs⟩:=ah (n1*num);rw[<-hs] at hzz;have hsb:s<=n1*den:=by rw[hs];exact fG _ UJ
 have hsb2:s<=65535*2147483648:=dB hsb (kF ae hd);obtain⟨q,hq⟩:=ah (s/den);obtain⟨m,hm⟩:=ah (s%den);rw[<-hq,<-hm] at hzz;have OA:den*q+m=s:=by rw[hq,hm];exact oz _ _
 have IY:m<den:=by rw[hm];exact iB _ ae
 have XA:q<n:=by
  have:q<=n1:=by
   rw[hq];exact Nat.div_le_of_le_mul (by rw[cK];exact hsb)
  omega
 have hq1:m≠0->q+1<n:=λh0=>by
  have h1:den*q<n1*den:=ae
  rw[cK] at h1;have:=xP h1;omega
 have w1:IntKind.i64.wrap ((n:Int)-1)=(n1:Int):=aL ae ae;have w2:IntKind.i64.wrap ((n1:Int)*(num:Int))=(s:Int):=aL (by rw[hs];simp) ae;have w3:Int.tdiv (s:Int) (den:Int)=(q:Int):=by rw[hq];rfl
 have w4:Int.tmod (s:Int) (den:Int)=(m:Int):=by rw[hm];rfl
 have w5:IntKind.i64.wrap (q:Int)=(q:Int):=aL rfl ae;have w6:IntKind.i64.wrap (m:Int)=(m:Int):=aL rfl ae;have w7:((den:Int)==0)=false:=by simp;omega
 have w8:¬ (den:Int)=0:=ae
 have w9:¬ den=0:=ae
 have hmem:∀i,i<n->ys.getD i 0<18446744073709551616/\bO (ys.getD i 0):=λi hi=>⟨hW _ (dF ae),hf _ (dF ae)⟩
 have cell:∀i,i<n->w.cell? ⟨b,i,none⟩=some (.float .f64 (ys.getD i 0)):=λi hi=>by
  obtain⟨b',off,e,c⟩:=hF.at (aD _ _) i ae
  cases e
  rw[dA] at c;exact c
 have HY:=(bA hmem cell);have HZ:=ak hzz;have bq:(q:Int)<(n:Int):=ae
 clear hF hmem cell hzz hs hsb hsb2 hq hm OA hW hf hn hn1';have CO:=hid one16
 by_cases h0:m=0
 . replace HZ:Aside (zz=ys.getD q 0):=ak (by rw[HZ.o,if_pos h0]);have c0:=HY.o.2 q XA;obtain⟨x,hx⟩:=ah (ys.getD q 0);rw[<-hx] at c0 HZ;subst h0;have C:=hid (CO.o x w);clear hx;go_enter Tryz.func23,Tryz.ntmps23;go_wp2_with fail;refine C.o.mono ?_;rintro r v ⟨rfl,hv⟩;rw[hv];clear hv;go_wp2;refine aH (v:=.tuple #[.float .f64 x,.int .i64 0]) (by simp[results,Tryz.results23,go_sem]) rfl ?_;exact⟨by rw[HZ.o],aD _ _⟩
 . have d0:((m:Int)==0)=false:=by simp;omega
   have d1:decide ((m:Int)=0)=false:=by simp;omega
   have hq2:=hq1 h0;obtain⟨q1,Kl⟩:∃x,x=q+1:=⟨_,rfl⟩;have wq:IntKind.i64.wrap ((q:Int)+1)=(q1:Int):=aL ae ae;have bq1:(q1:Int)<(n:Int):=ae
   have UM:q1<n:=ae
   have c0:=HY.o.2 q XA;have c1:=HY.o.2 q1 UM;obtain⟨f0,g0⟩:=HY.o.1 q XA;obtain⟨f1,g1⟩:=HY.o.1 q1 UM;replace HZ:Aside (zz=if rule=0 then ys.getD q 0 else if rule=1 then ys.getD q1 0 else if rule=2 then ys.getD (UK q m den) 0 else if rule=3 then(rC (ys.getD q 0) (ys.getD q1 0) mode).1 else Iz (ys.getD q 0) (ys.getD q1 0) m den mode):=ak (by rw[HZ.o,if_neg h0,Kl])
   have HR:Aside (UK q m den=if 2*m<den\/2*m=den/\q%2=0 then q else q1):=ak (by
    unfold UK;rw[Kl]
    by_cases a:2*m<den\/2*m=den/\q%2=0
    . rw[if_pos a,if_neg ae]
    . rw[if_neg a,if_pos ae])
   obtain⟨x,hx⟩:=ah (ys.getD q 0);obtain⟨y,hy⟩:=ah (ys.getD q1 0);have QA:=(bA hx hy);rw[<-hx] at c0 f0 g0 HZ;rw[<-hy] at c1 f1 g1 HZ;clear hx hy Kl;have hr:rule=0\/rule=1\/rule=2\/rule=3\/rule=4:=ae
   rcases hr with rfl|rfl|rfl|rfl|rfl
   . replace HZ:Aside (zz=x):=ak (by rw[HZ.o,if_pos rfl]);exact qk
   . replace HZ:Aside (zz=y):=ak (by rw[HZ.o,if_neg aM,if_pos rfl]);exact qq
   . obtain⟨t,ht⟩:=ah (2*m);obtain⟨e,he⟩:=ah (q%2);have v1:IntKind.i64.wrap (2*(m:Int))=(t:Int):=aL ae ae;have v2:Int.tmod (q:Int) 2=(e:Int):=by rw[he];rfl
     have v3:IntKind.i64.wrap (e:Int)=(e:Int):=aL rfl ae;replace HZ:Aside (zz=ys.getD (if t<den\/t=den/\e=0 then q else q1) 0):=ak (by rw[HZ.o,if_neg aM,if_neg aM,if_pos rfl,HR.o,ht,he]);clear ht he HR
     by_cases k1:t<den
     . have e1:decide ((t:Int)<(den:Int))=true:=by simp;omega
       replace HZ:Aside (zz=x):=ak (by rw[HZ.o,if_pos (.inl k1)];exact QA.o.1.symm);exact qk
     . have e1:decide ((t:Int)<(den:Int))=false:=by simp;omega
       by_cases k2:t=den
       . subst k2
         by_cases k3:e=0
         . subst k3;replace HZ:Aside (zz=x):=ak (by rw[HZ.o,if_pos (.inr ⟨rfl,rfl⟩)];exact QA.o.1.symm);exact qk
         . have e3:((e:Int)==0)=false:=by simp;omega
           have e4:decide ((e:Int)=0)=false:=by simp;omega
           replace HZ:Aside (zz=y):=ak (by rw[HZ.o,if_neg ae];exact QA.o.2.symm);exact qq
       . have e3:((t:Int)==(den:Int))=false:=by simp;omega
         have e4:decide ((t:Int)=(den:Int))=false:=by simp;omega
         replace HZ:Aside (zz=y):=ak (by rw[HZ.o,if_neg ae];exact QA.o.2.symm);exact qq
   . have C:=hid (HMD.o x y w.drew f0 f1 g0 g1);obtain⟨e1,he⟩:=ah ((rC x y mode).1);rw[<-he] at C HZ;replace HZ:Aside (zz=e1):=ak (by rw[HZ.o,if_neg aM,if_neg aM,if_neg aM,if_pos rfl]);clear he;have kS:Aside (w.drew.cell? ⟨b,q,none⟩=some (.float .f64 x)/\w.drew.cell? ⟨b,q1,none⟩=some (.float .f64 y)):=⟨c0,c1⟩;go_enter Tryz.func23,Tryz.ntmps23
     go_upto_region 12 with fail
     go_region_held3 (λw'=>w'.cell? ⟨b,q,none⟩=some (.float .f64 x)/\w'.cell? ⟨b,q1,none⟩=some (.float .f64 y)) (with_reducible exact kS.o) (first
      | (go_at_call 39
         with_reducible refine C.o.mono ?_
         rintro r v ⟨rfl,hb⟩;have G:=ak ((aD w.heap.size w).drew.trans hb);have kS:Aside (v.cell? ⟨b,q,none⟩=some (.float .f64 x)/\v.cell? ⟨b,q1,none⟩=some (.float .f64 y)):=⟨(hb.cell (p:=⟨b,q,none⟩) (aG kS.o.1)).trans kS.o.1,(hb.cell (p:=⟨b,q1,none⟩) (aG kS.o.2)).trans kS.o.2⟩
         clear hb))
     all_goals
      exact Qan
   . have C:=hid (HLN.o x y m w.drew f0 f1 g0 g1 ae);obtain⟨e1,he⟩:=ah (Iz x y m den mode);rw[<-he] at C HZ;replace HZ:Aside (zz=e1):=ak (by rw[HZ.o,if_neg aM,if_neg aM,if_neg aM,if_neg aM]);clear he;have kS:Aside (w.drew.cell? ⟨b,q,none⟩=some (.float .f64 x)/\w.drew.cell? ⟨b,q1,none⟩=some (.float .f64 y)):=⟨c0,c1⟩;go_enter Tryz.func23,Tryz.ntmps23
     go_upto_region 14 with fail
     go_region_held3 (λw'=>w'.cell? ⟨b,q,none⟩=some (.float .f64 x)/\w'.cell? ⟨b,q1,none⟩=some (.float .f64 y)) (with_reducible exact kS.o) (first
      | (go_at_call 40
         with_reducible refine C.o.mono ?_
         rintro r v ⟨rfl,hb⟩;have G:=ak ((aD w.heap.size w).drew.trans hb);have kS:Aside (v.cell? ⟨b,q,none⟩=some (.float .f64 x)/\v.cell? ⟨b,q1,none⟩=some (.float .f64 y)):=⟨(hb.cell (p:=⟨b,q,none⟩) (aG kS.o.1)).trans kS.o.1,(hb.cell (p:=⟨b,q1,none⟩) (aG kS.o.2)).trans kS.o.2⟩
         clear hb))
     all_goals
      exact Qan
theorem Vf{x:Nat}(hx:x<18446744073709551616)(w:World):At 37 #[.float .f64 x] w (.int .i64 (Yh x)):=by
 obtain⟨s,e,f,h1,h2,h3,h4,h5,h6⟩:=bw15 hx;have:=B.yZ s e f h1 h2 w;rw[<-h3,h5,h6] at this;exact this
theorem KC(xs:List Nat)(ao:Option Addr)(n cap:Nat)(w:World)(hF:Fs w.heap.size w ao xs)(hn:n=xs.length)(hb:n<=17592186044416)(hW:jH xs) :
 At 22 #[.slice ao n cap] w (.int .i64 (zR xs false)):=by
 obtain⟨z,hz⟩:=ah (zR xs false);rw[<-hz];unfold zR at hz;rw[<-hn,yc] at hz;have HN:=(gp hn hW hF);clear hF hn hW
 by_cases h1:65536<n
 . have d1:decide ((65536:Int)<(n:Int))=true:=by simp;omega
   rw[if_pos h1] at hz;subst hz;go_enter Tryz.func22,Tryz.ntmps22;go_wp2;go_ret;exact yk
 . have d1:decide ((65536:Int)<(n:Int))=false:=by simp;omega
   rw[if_neg h1] at hz;have HZ:=ak hz;clear hz;go_enter Tryz.func22,Tryz.ntmps22;go_wp2
   go_loopg [3] n (λgk iv wr=>∃k:Nat,gk+k=n/\iv=.int .i64 (k:Nat)/\Aside ((xs.take k).any EH=false/\An w wr))
   case atStart=>exact⟨0,rfl,by first | rfl | simp,aN,aD _ _⟩
   case round =>
    obtain⟨k,jo,rfl,HA⟩:=hrel
    by_cases hk:k<n
    . have hdk:decide ((k:Int)<(n:Int))=true:=by simp;omega
      have bk:(k:Int)<(n:Int):=ae
      obtain⟨k1,hk1⟩:=ah (k+1);have wk:IntKind.i64.wrap ((k:Int)+1)=(k1:Int):=aL ae ae;obtain⟨hn,hW,hF⟩:=HN.o;obtain⟨b,off,rfl,c2⟩:=hF.at HA.o.2 k ae;have hx:xs.getD k 0<18446744073709551616:=hW _ (dF ae);have ht:=zQ (xs:=xs) (k:=k) ae;obtain⟨x,fE⟩:=ah (xs.getD k 0);rw[<-fE] at c2 hx ht;have D:=hid (Vf hx wr);rw[HA.o.1,yc] at ht;have hcb:=UH hx;obtain⟨c,hc⟩:=ah (Yh x);rw[<-hc] at D hcb;have HK:=(gy hk1 ht hcb fE hn);clear hn hW hF hx ht fE hk1 hcb hc;go_wp2_with fail;refine D.o.mono ?_;rintro r v ⟨rfl,hv⟩;have HB:=ak (HA.o.2.trans (hv.mono HA.o.2.size));clear D hv
      by_cases h3:2<c
      . have d3:decide ((2:Int)<c)=true:=by simp[h3]
        have E:Aside (z=30):=by
         obtain⟨hk1,ht,hcb,fE,hn⟩:=HK.o;rw[decide_eq_true (show(3:Int)<=c by omega)] at hcb;refine ak ?_;rw[HZ.o,if_pos];rw[yf];exact⟨x,by rw[fE];exact dF ae,hcb.symm⟩
        go_wp2;go_ret;exact⟨by rw[E.o];rfl,HB.o⟩
      . have d3:decide ((2:Int)<c)=false:=by simp;omega
        have HT:Aside ((xs.take k1).any EH=false):=by
         obtain⟨hk1,ht,hcb,fE,hn⟩:=HK.o;rw[decide_eq_false (show ¬ (3:Int)<=c by omega)] at hcb;rw[hk1,ht,<-hcb];rfl
        go_wp2;go_roundg (n-k1)
        case measure=>have:=HK.o.1;omega
        case rel=>exact⟨k1,by have:=HK.o.1;omega,by first | rfl | simp,HT.o,HB.o⟩
    . have hdk:decide ((k:Int)<(n:Int))=false:=by simp;omega
      have E:Aside (z=if n=0 then 3 else 0):=by
       have h1:=HA.o.1;rw[eF (by have:=HN.o.1;omega)] at h1;refine ak ?_;rw[HZ.o,if_neg (by rw[h1];decide)]
      by_cases h2:n=0
      . subst h2;go_wp2;go_ret;exact⟨by rw[E.o];rfl,HA.o.2⟩
      . have d2:((n:Int)==0)=false:=by simp;omega
        have d3:decide ((n:Int)=0)=false:=by simp;omega
        replace E:Aside (z=0):=ak (by rw[E.o,if_neg h2]);go_wp2;go_ret;exact⟨by rw[E.o];rfl,HA.o.2⟩
end
section
open Go.RowKit J
def kW(x:Nat):Int:=if dH x then -1-(bB x:Int) else bB x
theorem Vg{x y:Nat}(hx:x<18446744073709551616)(hy:y<18446744073709551616)(h:kW x=kW y):x=y:=by
 unfold kW dH bB at h
 by_cases a:9223372036854775808<=x <;> by_cases b:9223372036854775808<=y <;> simp only[a,b,decide_true,decide_false,if_true,eX,if_false] at h <;> omega
def oL(x y:Nat):Bool:=decide (kW x<=kW y)
def sN(xs:List Nat):List Nat:=xs.mergeSort oL
theorem Cc(a b c:Nat)(h1:oL a b=true)(h2:oL b c=true):oL a c=true:=by unfold oL at *;simp at *;omega
theorem Ce(a b:Nat):(oL a b || oL b a)=true:=by unfold oL;simp;omega
theorem ko(xs:List Nat):(sN xs).Perm xs:=List.mergeSort_perm xs oL
theorem xL(xs:List Nat):(sN xs).length=xs.length:=(ko xs).length_eq
theorem om(xs:List Nat):(sN xs).Pairwise (λa b=>oL a b=true):=List.pairwise_mergeSort Cc Ce xs
theorem Et{xs:List Nat}(h:jH xs):jH (sN xs):=λx hx=>h x ((ko xs).mem_iff.1 hx)
theorem MG{xs:List Nat}(h:∀x ∈ xs,bO x):∀x ∈ sN xs,bO x:=λx hx=>h x ((ko xs).mem_iff.1 hx)
theorem Zv{x:Nat}(hx:x<18446744073709551616)(fx:bO x):∃s e f,e<2048/\f<4503599627370496/\x=B.bw s e f/\B.ky s e f=kW x:=by
 have hm:bB x<9218868437227405312:=fx;refine⟨dH x,bB x/4503599627370496,bB x%4503599627370496,ae,ae,?_,?_⟩
 . exact Qaj
 . unfold B.ky kW;rw[if_neg ae];have e:((bB x/4503599627370496:Nat):Int)*4503599627370496+(bB x%4503599627370496:Nat)=(bB x:Int):=ae
   rw[e]
end
section
open Go Go.RowKit J
theorem Zw{x:Nat}(fx:bO x):tkQ x=kW x:=by
 unfold tkQ kW;rw[if_neg (by unfold bO at fx;omega)]
theorem Ij(xs:List Nat):(List.range xs.length).map (λi=>xs.getD i 0)=xs:=by
 refine List.ext_getElem aN λi h1 h2=>?_;simp[bF,h2]
theorem Cf{xs:List Nat}(hf:∀x ∈ xs,bO x):dP xs=(mf xs).map (λi=>xs.getD i 0):=by
 unfold dP;refine List.map_congr_left λi hi=>Mv (hf _ (dF (mg.1 hi)))
theorem Eu{xs:List Nat}(hf:∀x ∈ xs,bO x):(dP xs).Perm xs:=by
 rw[Cf hf];have:=(qV xs).map (λi=>xs.getD i 0);rw[Ij] at this;exact this
theorem Vh{xs:List Nat}(hf:∀x ∈ xs,bO x):(dP xs).Pairwise (λa b=>oL a b=true):=by
 rw[Cf hf,List.pairwise_map];have h:=mK xs (List.range xs.length);refine List.Pairwise.imp_of_mem ?_ (show(mf xs).Pairwise _ from h);intro a b ha hb hab;have fa:=hf _ (dF (mg.1 ha));have fb:=hf _ (dF (mg.1 hb));unfold leI at hab;have:=of_decide_eq_true hab;unfold oL;rw[decide_eq_true_eq,<-Zw fa,<-Zw fb];omega
theorem Ik{l m:List Nat}(hW:jH l)(hp:l.Perm m)(h1:l.Pairwise (λa b=>oL a b=true))(h2:m.Pairwise (λa b=>oL a b=true)):l=m:=by
 refine CL (le:=λa b=>oL a b=true) (λa b ha hb q1 q2=>?_) h1 h2 hp;have ha':=hW a ha;have hb':=hW b (hp.mem_iff.2 hb);unfold oL at q1 q2;have:=of_decide_eq_true q1;have:=of_decide_eq_true q2;exact Vg ha' hb' ae
theorem Qp{xs:List Nat}(hW:jH xs)(hf:∀x ∈ xs,bO x):sN xs=dP xs :=
 Ik (Et hW) ((ko xs).trans (Eu hf).symm) (om xs) (Vh hf)
end
namespace B
open Go.RowKit
attribute [local go_sem] aW aJ
theorem MH{a b:Int}(h:a=b):Ending.returned (.int .i64 a)=.returned (.int .i64 b):=by rw[h]
theorem Qq (X:Nat) (b k:Int) (h0:9223372036854775808<=b) (h1:b<18446744073709551616) (hk:Hid (k=-1-(b-9223372036854775808)))
 (H1:Hid (∀w,Ax 102 #[.float .f64 X] w (.int .u64 b))) (w:World) :
 Ax 74 #[.float .f64 X] w (.int .i64 k):=by
 go_enter Tryz.func74,Tryz.ntmps74
 go_wp2_with (go_at_call 102;refine(H1.o _).mono ?_;rintro r w1 ⟨rfl,rfl⟩)
 go_ret;exact⟨MH (by have:=hk.o;omega),rfl⟩
theorem Cg (X:Nat) (b k:Int) (h0:0<=b) (h1:b<9223372036854775808) (hk:Hid (k=b))
 (H1:Hid (∀w,Ax 102 #[.float .f64 X] w (.int .u64 b))) (w:World) :
 Ax 74 #[.float .f64 X] w (.int .i64 k):=by
 go_enter Tryz.func74,Tryz.ntmps74
 go_wp2_with (go_at_call 102;refine(H1.o _).mono ?_;rintro r w1 ⟨rfl,rfl⟩)
 go_ret;exact⟨MH (by have:=hk.o;omega),rfl⟩
theorem Ch(s:Bool)(e f:Nat)(he:e<2048)(hf:f<4503599627370496)(w:World) :
 Ax 74 #[.float .f64 (bw s e f)] w (.int .i64 (ky s e f)):=by
 have hB:=qF s e f he hf
 cases ho:odd e f
 . rw[iZ s e f (gJ e f ho)] at hB;have hl:=pU s e f he hf;rw[tY s e f ho]
   cases s
   . refine Cg _ _ _ ae ?_ ?_ hB w
     . unfold bw;simp only[gF];omega
     . show _=_;unfold bw;simp only[gF,eX,if_false];omega
   . refine Qq _ _ _ ?_ ae ?_ hB w
     . unfold bw;simp only[gD];omega
     . show _=_;unfold bw;simp only[gD,if_true];omega
 . rw[mP s e f (lK e f ho)] at hB;rw[yX s e f ho];exact Cg _ 9221120237041090560 _ ae ae rfl hB w
theorem Il (X Y:Nat) (a b c:Int) (hc:a<b/\c=-1\/b<a/\c=1\/a=b/\c=0)
 (H1:Hid (∀w,Ax 74 #[.float .f64 X] w (.int .i64 a)))
 (H2:Hid (∀w,Ax 74 #[.float .f64 Y] w (.int .i64 b))) (w:World) :
 Ax 41 #[.float .f64 X,.float .f64 Y] w (.int .i64 c):=by
 rcases hc with ⟨h1,rfl⟩|⟨h1,rfl⟩|⟨h1,rfl⟩
 . go_enter Tryz.func41,Tryz.ntmps41;go_wp2_with fail;refine(H1.o _).mono ?_;rintro r w1 ⟨rfl,rfl⟩;go_wp2_with fail;refine(H2.o _).mono ?_;rintro r w2 ⟨rfl,rfl⟩;go_wp2_with fail;go_ret;exact⟨rfl,rfl⟩
 . have h2:¬ a<b:=ae
   go_enter Tryz.func41,Tryz.ntmps41;go_wp2_with fail;refine(H1.o _).mono ?_;rintro r w1 ⟨rfl,rfl⟩;go_wp2_with fail;refine(H2.o _).mono ?_;rintro r w2 ⟨rfl,rfl⟩;go_wp2_with fail;exact Jx
 . subst h1;go_enter Tryz.func41,Tryz.ntmps41;go_wp2_with fail;refine(H1.o _).mono ?_;rintro r w1 ⟨rfl,rfl⟩;go_wp2_with fail;refine(H2.o _).mono ?_;rintro r w2 ⟨rfl,rfl⟩;go_wp2_with fail;go_ret;exact⟨rfl,rfl⟩
theorem KD(s t:Bool)(e f u v:Nat)(he:e<2048)(hf:f<4503599627370496)(hu:u<2048)(hv:v<4503599627370496)(w:World) :
 Ax 41 #[.float .f64 (bw s e f),.float .f64 (bw t u v)] w (.int .i64 (oc (ky s e f) (ky t u v))):=by
 refine Il _ _ (ky s e f) (ky t u v) _ ?_ (Ch s e f he hf) (Ch t u v hu hv) w;unfold oc
 by_cases h:ky s e f<ky t u v
 . rw[if_pos h];exact Or.inl ⟨h,rfl⟩
 . rw[if_neg h]
   by_cases h2:ky t u v<ky s e f
   . rw[if_pos h2];exact Or.inr (Or.inl ⟨h2,rfl⟩)
   . rw[if_neg h2];exact Or.inr (Or.inr ⟨ae,rfl⟩)
end B
section
open Go.RowKit J
theorem Im{x y:Nat}(hx:x<18446744073709551616)(hy:y<18446744073709551616)(fx:bO x)(fy:bO y)(w:World) :
 Ax 41 #[.float .f64 x,.float .f64 y] w (.int .i64 (B.oc (kW x) (kW y))):=by
 obtain⟨s,e,f,h1,h2,h3,h4⟩:=Zv hx fx;obtain⟨t,u,v,i1,i2,i3,i4⟩:=Zv hy fy;have h:=B.KD s t e f u v h1 h2 i1 i2 w;rw[h4,i4,<-h3,<-i3] at h;exact h
attribute [local go_sem] cZ
theorem YI(x:Nat):sN [x]=[x]:=List.mergeSort_singleton x
theorem Qr{xs:List Nat}(hW:jH xs)(h:Nat):List.merge (sN (xs.take h)) (sN (xs.drop h)) oL=sN xs:=by
 have hp:(List.merge (sN (xs.take h)) (sN (xs.drop h)) oL).Perm xs:=by
  refine(List.merge_perm_append oL).trans (((ko _).append (ko _)).trans ?_);rw[IC]
 refine CL (le:=λa b=>oL a b=true) (λa b ha hb h1 h2=>?_) (List.pairwise_merge Cc Ce _ _ (om _) (om _)) (om xs) (hp.trans (ko xs).symm);unfold oL at h1 h2;simp only[decide_eq_true_eq] at h1 h2;exact Vg (hW a (hp.mem_iff.1 ha)) (hW b ((ko xs).mem_iff.1 hb)) ae
theorem drop_at{A:List Nat}{i:Nat}(h:i<A.length):A.drop i=A.getD i 0::A.drop (i+1):=by
 rw[Cq h,bF,aY h];rfl
theorem mgA{A B:List Nat}{i k:Nat}(hi:i<A.length)(h:k=B.length\/(k<B.length/\oL (A.getD i 0) (B.getD k 0)=true)):List.merge (A.drop i) (B.drop k) oL=A.getD i 0::List.merge (A.drop (i+1)) (B.drop k) oL:=by
 rw[drop_at hi];rcases h with rfl|⟨hk,h⟩
 . rw[List.drop_length,List.merge_right,List.merge_right]
 . rw[drop_at hk,List.cons_merge_cons,if_pos h]
theorem mgB{A B:List Nat}{i k:Nat}(hk:k<B.length)(h:i=A.length\/(i<A.length/\oL (A.getD i 0) (B.getD k 0)=false)):List.merge (A.drop i) (B.drop k) oL=B.getD k 0::List.merge (A.drop i) (B.drop (k+1)) oL:=by
 rw[drop_at hk];rcases h with rfl|⟨hi,h⟩
 . rw[List.drop_length,List.nil_merge,List.nil_merge]
 . rw[drop_at hi,List.cons_merge_cons,if_neg (by rw[h];decide)]
theorem Vi{w:World}{lo lo' n:Nat}{t:TypeId}{v:Value}{L:List Value}(h:w.ownsRow lo t 1 v n L)(hl:lo'<=lo):w.ownsRow lo' t 1 v n L:=by
 refine⟨h.1,?_⟩;rcases h.2 with q|⟨g,cap,cur,h1,h2,h3⟩
 . exact .inl q
 . exact .inr ⟨g,cap,cur,h1,ae,h3⟩
theorem uF{A:List Nat}{i:Nat}(h:i<A.length):A.getD i 0 ∈ A:=by rw[bF,aY h];exact gQ _
def Vj(xs:List Nat):Prop:=∀(a:Option Addr) (c:Nat) (w:World),xs.length<=c->Fs w.heap.size w a xs ->
 As 24 #[.slice a xs.length c] w λr w'=>(∃v,r=.returned v/\w'.ownsRow w.heap.size 27 1 v (sN xs).length ((sN xs).map jD))/\An w w'
theorem KE(x:Nat):Vj [x]:=by
 intro a c w hc hF;obtain⟨i0,hi,hz0,hz1,hz2⟩:=info_parts Tryz.nK;obtain⟨b,off,hb,rfl,hcell⟩:=hF aN;have A:=ak hcell;rw[YI];clear hF hcell;show As 24 #[.slice (some ⟨b,off,none⟩) 1 c] w _;go_enter Tryz.func24,Tryz.ntmps24
 go_wp2_with (at_builtin;refine wpList_append_own _ rfl _ _ 22 rfl w.heap.size 27 i0 (.float .f64 0) 1 8 Tryz.iL hi hz0 hz1 hz2 rfl aM _ _ _ rfl (World.ownsRow_made w #[] 0 (aA _) (lD _) aN) ⟨b,off,none⟩ 1 c ([x].map jD) rfl ?qc1 ?qc2 ?qc3 ?qc4 ?qc5 ?qc6 ?_)
 case qc1=>simp
 case qc2 =>
  intro j u hj;have hj2:j<[x].length:=by have:=(iD.1 hj).1;simpa using this
  rw[Addr.add_lit];refine Lib.cell?_alloc_some _ ?_;rw[A.o j hj2,<-hj,mY,aY hj2,bF,aY hj2];rfl
 case qc3=>intro u hu;obtain⟨x,_,rfl⟩:=rE.1 hu;rfl
 case qc4=>unfold maxLen;omega
 case qc5=>omega
 case qc6=>simp
 intro v' w1 hown hgrow hnil;go_wp2;go_ret;refine⟨⟨v',rfl,?_⟩,?_⟩
 . simpa using hown
 . exact((aD _ w).alloc (aA _) _).grown hgrow aN (by intro k hk;simp[Value.ownBlock] at hk;omega)
theorem yr{P:Prop}(h:P:=by
 go_wp2_with (at_builtin;refine gY rfl (.tmp 58) (.tmp 63) 22 rfl _ _ rfl rfl _ _ HR.o ?_)
 go_roundg (gk-1)
 case measure=>have:=HN.o;omega
 case rel=>exact⟨i+1,k,_,_,by have:=HN.o;omega,by have:=HN.o;omega,by have:=HN.o;omega,by first | rfl | simp,by first | rfl | simp,rfl,HNx.o⟩):P:=h
theorem KF(xs:List Nat)(hn2:2<=xs.length)(hl:xs.length<=65536)(hW:jH xs)(hf:∀x ∈ xs,bO x)(h:Nat)(hh:h=xs.length/2)(H1:Vj (xs.take h))(H2:Vj (xs.drop h)):Vj xs:=by
 intro a c w hc hF;obtain⟨n,hn⟩:=ah (xs.length);rw[<-hn] at hn2 hl hc hh |-;obtain⟨b,off,hb,rfl,hcell⟩:=hF (by intro e;rw[e] at hn;simp at hn;omega);have l1:(xs.take h).length=h:=by rw[fJ];omega
 have l2:(xs.drop h).length=n-h:=by rw[oU];omega
 have F1:Fs w.heap.size w (some ⟨b,off,none⟩) (xs.take h):=λ_=>⟨b,off,hb,rfl,λi hi=>by
  rw[hcell i ae,bF,bF,List.getElem?_take,if_pos ae]⟩
 have F2:Fs w.heap.size w (some ⟨b,off+h,none⟩) (xs.drop h):=λ_=>⟨b,off+h,hb,rfl,λi hi=>by
  rw[oo,hcell (h+i) ae,bF,bF,List.getElem?_drop]⟩
 have C1:=hid (H1 (some ⟨b,off,none⟩) c w ae F1);have C2:=hid (fun(u:World) (hb:An w u)=>H2 (some ⟨b,off+h,none⟩) (c-h) u ae ((F2.below hb).mono hb.size));rw[l1] at C1;rw[l2] at C2
 have HW:Aside (jH (sN (xs.take h))/\jH (sN (xs.drop h))/\(∀x ∈ sN (xs.take h),bO x)/\(∀x ∈ sN (xs.drop h),bO x)/\List.merge (sN (xs.take h)) (sN (xs.drop h)) oL=sN xs) :=
  ⟨Et λx hx=>hW x (xR hx),Et λx hx=>hW x (xS hx),MG λx hx=>hf x (xR hx),MG λx hx=>hf x (xS hx),Qr hW h⟩
 have m1:(sN (xs.take h)).length=h:=by rw[xL,l1]
 have m2:(sN (xs.drop h)).length=n-h:=by rw[xL,l2]
 have m3:(sN xs).length=n:=by rw[xL,hn]
 obtain⟨A,hA⟩:∃A,sN (xs.take h)=A:=⟨_,rfl⟩;obtain⟨Bs,hB⟩:∃Bs,sN (xs.drop h)=Bs:=⟨_,rfl⟩;obtain⟨R,hR⟩:∃R,sN xs=R:=⟨_,rfl⟩;obtain⟨nb,hnb⟩:∃nb,n-h=nb:=⟨_,rfl⟩;rw[hA] at m1 C1;rw[hB,hnb] at m2;rw[hB,hnb,m2] at C2;rw[m1] at C1;rw[hR] at m3;rw[hA,hB,hR] at HW;rw[hR,m3];have hhc:h<c:=ae
 have hnc:n<=c:=hc;have d2:decide ((n:Int)<2)=false:=by simp;omega
 have hn6:n<65537:=ae
 have HM:=(Ew m1 m2 m3 hh hl hnb hn);clear hF hcell F1 F2 l1 l2 m1 m2 m3 hA hB hR H1 H2 hW hf hnb hn hl hc hb hn2;subst hh;go_enter Tryz.func24,Tryz.ntmps24
 go_upto_region 3 with fail
 clear d2;go_wp2_with fail;refine C1.o.mono ?_;rintro r u1 ⟨⟨v1,rfl,kD⟩,hb1⟩;obtain⟨ao,co,rfl,hco,hFA⟩:=zV kD HM.o.1.symm;have B1:=(bA hb1 hFA);clear hb1 hFA kD C1;replace C2:=hid (C2.o u1 B1.o.1)
 go_upto_region 4 with fail
 go_wp2_with fail;rw[HM.o.r5.1];refine C2.o.mono ?_;rintro r u2 ⟨⟨v2,rfl,hO2⟩,hb2⟩;obtain⟨bo,do',rfl,hdo,hFB⟩:=zV hO2 HM.o.2.1.symm;have B2:Aside (An w u2/\Fs u2.heap.size u2 ao A/\Fs u2.heap.size u2 bo Bs):=⟨B1.o.1.trans (hb2.mono B1.o.1.size),(B1.o.2.below hb2).mono hb2.size,hFB⟩;clear hb2 hFB hO2 C2 B1;obtain⟨na,hna⟩:∃na,n/2=na:=⟨_,rfl⟩
 have HN:Aside (na+nb=n/\A.length=na/\Bs.length=nb/\R.length=n):=by
  have:=HM.o.r5.1;exact⟨ae,HM.o.1.trans hna,HM.o.2.1,HM.o.r2.1⟩
 have HNA:=ak hna;have HBw:=ak B2.o.1.size;have hnb6:nb<65537:=by have:=HN.o.1;omega
 have hna6:na<65537:=by have:=HN.o.1;omega
 clear hna HM hhc;go_wp2;rw[HNA.o];clear HNA
 go_loopg [5,6,7] n (λgk ov iv kv wr=>∃(i k:Nat) (O:List Nat) (v:Value),gk+(i+k)=n/\i<=na/\k<=nb/\iv=.int .i64 (i:Nat)/\kv=.int .i64 (k:Nat)/\ov=v/\Aside (wr.ownsRow u2.heap.size 27 1 v O.length (O.map jD)/\An w wr/\An u2 wr/\O++List.merge (A.drop i) (Bs.drop k) oL=R/\O.length=i+k))
 case atStart=>exact⟨0,0,[],.slice none 0 0,ae,ae,ae,aN,aN,rfl,yA _ _ _ _,B2.o.1,aD _ _,by simpa using HW.o.r4,rfl⟩
 case round =>
  obtain⟨i,k,O,v,jo,hi,hk,rfl,rfl,hv,HA⟩:=hrel;have hv':=hv.symm;clear hv;subst hv';have hib:i<4611686018427387904:=ae
  have hkb:k<4611686018427387904:=ae
  by_cases hia:i=na
  . by_cases hkn:k=nb
    . obtain rfl:=hia;obtain rfl:=hkn
      have HR:Aside (O=R/\O.length=n):=by
       have h1:=HA.o.r3.1;rw[wD (by have:=HN.o;omega),wD (by have:=HN.o;omega),List.nil_merge,Cr] at h1;exact⟨h1,by rw[h1];exact HN.o.r3⟩
      have e1:decide ((i:Int)<i)=false:=by simp
      have e2:decide ((k:Int)<k)=false:=by simp
      go_wp2;go_ret;have h1:=HA.o.1;rw[HR.o.2,HR.o.1] at h1;exact⟨⟨v,rfl,Vi h1 HBw.o⟩,HA.o.2.1⟩
    . have e1:decide ((i:Int)<na)=false:=by simp;omega
      have e9:¬ i<na:=ae
      have e8:¬ (i:Int)<na:=ae
      have e7:na<=i:=ae
      have HK9:Aside (k<nb):=by have:k<nb:=ae;exact this
      have e2:decide ((k:Int)<nb)=true:=by simp;omega
      have e3:((k:Int)==nb)=false:=by rw[beq_eq_false_iff_ne];omega
      obtain⟨bb,ob,rfl,hcb⟩:=B2.o.r2.at HA.o.r2.1 k (by have:=HN.o;omega);obtain⟨y,hy⟩:=ah (Bs.getD k 0);rw[<-hy] at hcb;obtain⟨v',w',r1,r2,r3,r4⟩:=uE u2.heap.size v O y wr.drew HA.o.1 HA.o.r2.1.size (by have:=HA.o.r4;omega);have HR:=ak r1
      have HNx:Aside (w'.ownsRow u2.heap.size 27 1 v' (O++[y]).length ((O++[y]).map jD)/\An w w'/\An u2 w'/\(O++[y])++List.merge (A.drop i) (Bs.drop (k+1)) oL=R/\(O++[y]).length=i+(k+1)):=by
       have r5:Below u2.heap.size wr w':=(aD u2.heap.size wr).drew.trans r3;refine⟨r2,HA.o.2.1.trans (r5.mono HBw.o),HA.o.r2.1.trans r5,?_,by rw[gU,HA.o.r4];simp;omega⟩;have h1:=HA.o.r3.1;rw[mgB (by have:=HN.o;omega) (.inl (by have:=HN.o;omega)),<-hy] at h1;rw[<-h1];simp
      clear r1 r2 r3 r4 HA hy hia hkn
      go_upto_region 9 with fail
      go_region
      all_goals
       go_wp2_with (at_builtin;refine gY rfl (.tmp 67) (.tmp 72) 22 rfl _ _ rfl rfl _ _ HR.o ?_)
       go_roundg (gk-1)
       case measure=>have:=HN.o;have:=HK9.o;omega
       case rel=>exact⟨i,k+1,_,_,by have:=HN.o;have:=HK9.o;omega,by have:=HN.o;omega,by have:=HN.o;have:=HK9.o;omega,by first | rfl | simp,by first | rfl | simp,rfl,HNx.o⟩
  . have e1:decide ((i:Int)<na)=true:=by simp;omega
    by_cases hkn:k=nb
    . have e3:((k:Int)==nb)=true:=by rw[hkn];simp
      obtain⟨ba,oa,rfl,ZL⟩:=B2.o.2.1.at HA.o.r2.1 i (by have:=HN.o;omega);obtain⟨x,hx⟩:=ah (A.getD i 0);rw[<-hx] at ZL;obtain⟨v',w',r1,r2,r3,r4⟩:=uE u2.heap.size v O x wr.drew HA.o.1 HA.o.r2.1.size (by have:=HA.o.r4;omega);have HR:=ak r1
      have HNx:Aside (w'.ownsRow u2.heap.size 27 1 v' (O++[x]).length ((O++[x]).map jD)/\An w w'/\An u2 w'/\(O++[x])++List.merge (A.drop (i+1)) (Bs.drop k) oL=R/\(O++[x]).length=i+1+k):=by
       have r5:Below u2.heap.size wr w':=(aD u2.heap.size wr).drew.trans r3;refine⟨r2,HA.o.2.1.trans (r5.mono HBw.o),HA.o.r2.1.trans r5,?_,by rw[gU,HA.o.r4];simp;omega⟩;have h1:=HA.o.r3.1;rw[mgA (by have:=HN.o;omega) (.inl (by have:=HN.o;omega)),<-hx] at h1;rw[<-h1];simp
      clear hkn;clear r1 r2 r3 r4 HA hx
      go_upto_region 9 with fail
      go_region
      all_goals
       exact yr
    . have e2:decide ((k:Int)<nb)=true:=by simp;omega
      have e3:((k:Int)==nb)=false:=by rw[beq_eq_false_iff_ne];omega
      by_cases hle:oL (A.getD i 0) (Bs.getD k 0)=true
      . have hle0:=hle;obtain⟨ba,oa,rfl,ZL⟩:=B2.o.2.1.at HA.o.r2.1 i (by have:=HN.o;omega);obtain⟨bb,ob,rfl,hcb⟩:=B2.o.r2.at HA.o.r2.1 k (by have:=HN.o;omega);obtain⟨x,hx⟩:=ah (A.getD i 0);rw[<-hx] at ZL;obtain⟨y,hy⟩:=ah (Bs.getD k 0);rw[<-hy] at hcb;rw[<-hx,<-hy] at hle;have HO:=hid (λu:World=>Im (x:=x) (y:=y) (by rw[hx];exact HW.o.1.get i) (by rw[hy];exact HW.o.2.1.get k) (by rw[hx];exact HW.o.r2.1 _ (uF (by have:=HN.o;omega))) (by rw[hy];exact HW.o.r3.1 _ (uF (by have:=HN.o;omega))) u);obtain⟨v',w',r1,r2,r3,r4⟩:=uE u2.heap.size v O x wr.drew HA.o.1 HA.o.r2.1.size (by have:=HA.o.r4;omega);have HR:=ak r1
        have HNx:Aside (w'.ownsRow u2.heap.size 27 1 v' (O++[x]).length ((O++[x]).map jD)/\An w w'/\An u2 w'/\(O++[x])++List.merge (A.drop (i+1)) (Bs.drop k) oL=R/\(O++[x]).length=i+1+k):=by
         have r5:Below u2.heap.size wr w':=(aD u2.heap.size wr).drew.trans r3;refine⟨r2,HA.o.2.1.trans (r5.mono HBw.o),HA.o.r2.1.trans r5,?_,by rw[gU,HA.o.r4];simp;omega⟩;have h1:=HA.o.r3.1;rw[mgA (by have:=HN.o;omega) (.inr ⟨by have:=HN.o;omega,hle0⟩),<-hx] at h1;rw[<-h1];simp
        have hkk:kW x<=kW y:=by unfold oL at hle;simpa using hle
        have e4:decide (B.oc (kW x) (kW y)<=0)=true:=by
         rw[decide_eq_true_eq];unfold B.oc;split
         . decide
         . rw[if_neg ae];decide
        obtain⟨o,ho⟩:∃o,B.oc (kW x) (kW y)=o:=⟨_,rfl⟩;rw[ho] at HO e4;clear ho hle hle0 hkk;have hi9:i<na:=ae
        have hk9:k<nb:=ae
        have hi8:(i:Int)<na:=ae
        have hk8:(k:Int)<nb:=ae
        have hi7:(0:Int)<=(i:Int):=ae
        have hk7:(0:Int)<=(k:Int):=ae
        clear r1 r2 r3 r4 HA hx hy hia hkn hi hk
        go_upto_region 9 with fail
        go_region_held3 (λw'=>w'.cell? ⟨ba,oa+i,none⟩=some (.float .f64 x)/\w'.cell? ⟨bb,ob+k,none⟩=some (.float .f64 y)) (go_keep) (first | (go_at_call 41;refine(HO.o _).mono ?_;rintro r u ⟨rfl,rfl⟩))
        all_goals
         exact yr
      . have hle0:oL (A.getD i 0) (Bs.getD k 0)=false:=by simpa using hle
        obtain⟨ba,oa,rfl,ZL⟩:=B2.o.2.1.at HA.o.r2.1 i (by have:=HN.o;omega);obtain⟨bb,ob,rfl,hcb⟩:=B2.o.r2.at HA.o.r2.1 k (by have:=HN.o;omega);obtain⟨y,hy⟩:=ah (Bs.getD k 0);rw[<-hy] at hcb;obtain⟨x,hx⟩:=ah (A.getD i 0);rw[<-hx] at ZL;rw[<-hx,<-hy] at hle;have HO:=hid (λu:World=>Im (x:=x) (y:=y) (by rw[hx];exact HW.o.1.get i) (by rw[hy];exact HW.o.2.1.get k) (by rw[hx];exact HW.o.r2.1 _ (uF (by have:=HN.o;omega))) (by rw[hy];exact HW.o.r3.1 _ (uF (by have:=HN.o;omega))) u);obtain⟨v',w',r1,r2,r3,r4⟩:=uE u2.heap.size v O y wr.drew HA.o.1 HA.o.r2.1.size (by have:=HA.o.r4;omega);have HR:=ak r1
        have HNx:Aside (w'.ownsRow u2.heap.size 27 1 v' (O++[y]).length ((O++[y]).map jD)/\An w w'/\An u2 w'/\(O++[y])++List.merge (A.drop i) (Bs.drop (k+1)) oL=R/\(O++[y]).length=i+(k+1)):=by
         have r5:Below u2.heap.size wr w':=(aD u2.heap.size wr).drew.trans r3;refine⟨r2,HA.o.2.1.trans (r5.mono HBw.o),HA.o.r2.1.trans r5,?_,by rw[gU,HA.o.r4];simp;omega⟩;have h1:=HA.o.r3.1;rw[mgB (by have:=HN.o;omega) (.inr ⟨by have:=HN.o;omega,hle0⟩),<-hy] at h1;rw[<-h1];simp
        have hkk:¬ kW x<=kW y:=by unfold oL at hle;simpa using hle
        have e4:decide (B.oc (kW x) (kW y)<=0)=false:=by
         unfold B.oc;rw[if_neg ae,if_pos ae];rfl
        obtain⟨o,ho⟩:∃o,B.oc (kW x) (kW y)=o:=⟨_,rfl⟩;rw[ho] at HO e4;clear ho hle hle0 hkk;have hi9:i<na:=ae
        have hk9:k<nb:=ae
        have hi8:(i:Int)<na:=ae
        have hk8:(k:Int)<nb:=ae
        have hi7:(0:Int)<=(i:Int):=ae
        have hk7:(0:Int)<=(k:Int):=ae
        clear r1 r2 r3 r4 HA hx hy hia hkn hi hk
        go_upto_region 9 with fail
        go_region_held3 (λw'=>w'.cell? ⟨ba,oa+i,none⟩=some (.float .f64 x)/\w'.cell? ⟨bb,ob+k,none⟩=some (.float .f64 y)) (go_keep) (first | (go_at_call 41;refine(HO.o _).mono ?_;rintro r u ⟨rfl,rfl⟩))
        all_goals
         go_wp2_with (at_builtin;refine gY rfl (.tmp 67) (.tmp 72) 22 rfl _ _ rfl rfl _ _ HR.o ?_)
         go_roundg (gk-1)
         case measure=>have:=HN.o;omega
         case rel=>exact⟨i,k+1,_,_,by have:=HN.o;omega,by have:=HN.o;omega,by have:=HN.o;omega,by first | rfl | simp,by first | rfl | simp,rfl,HNx.o⟩
theorem wh:∀(N:Nat) (xs:List Nat),xs.length<=N->xs≠[]->xs.length<=65536->jH xs->(∀x ∈ xs,bO x)->Vj xs
 | 0,xs,h,hne,_,_,_=>absurd (rF ae) hne
 | N+1,xs,h,hne,hl,hW,hf=>by
   have hp:=sU.2 hne
   by_cases h1:xs.length=1
   . obtain⟨x,rfl⟩:=List.length_eq_one_iff.1 h1;exact KE x
   . have l1:(xs.take (xs.length/2)).length=xs.length/2:=by rw[fJ];omega
     have l2:(xs.drop (xs.length/2)).length=xs.length-xs.length/2:=by rw[oU]
     exact KF xs ae hl hW hf _ rfl
      (wh N _ ae (by intro e;rw[e] at l1;simp at l1;omega) ae (λx hx=>hW x (xR hx)) (λx hx=>hf x (xR hx)))
      (wh N _ ae (by intro e;rw[e] at l2;simp at l2;omega) ae (λx hx=>hW x (xS hx)) (λx hx=>hf x (xS hx)))
end
section
open Go Go.RowKit J
theorem Io{lo:Nat}{w:World}{v:Value}{R:List Nat}(h:w.ownsRow lo 27 1 v R.length (R.map jD))(hR:0<R.length):∃g cap,v=.slice (some ⟨g,0,none⟩) R.length cap/\Fs w.heap.size w (some ⟨g,0,none⟩) R:=by
 obtain⟨a,c,rfl,_,hF⟩:=zV h rfl;rcases h.2 with h0|⟨g,cap,cur,e,_⟩
 . exfalso;have h1:=h0.2;omega
 . simp only[Value.slice.injEq] at e;obtain⟨rfl,_,rfl⟩:=e;exact⟨g,_,rfl,hF⟩
end
section
open Go.RowKit J
theorem YJ{s t:Nat}(hs:s<18446744073709551616)(ht:t<18446744073709551616):s6 [s,t]=sS [s,t]:=by
 unfold s6 sS;simp only[List.foldl_cons,List.foldl_nil];rw[(one7 hs).1,(one7 ht).1]
theorem Qs{s t num den:Nat}(h:num<=den):vC s*(den:Int)+(vC t-vC s)*(num:Int)=Yl s t num den:=by
 unfold Yl;rw[show((den-num:Nat):Int)=(den:Int)-(num:Int) by omega,Int.sub_mul,Int.mul_sub];omega
theorem YK(s t num den:Nat)(mode:Int)(hs:s<18446744073709551616)(fs:bO s)(ht:t<18446744073709551616)(ft:bO t)(hr:num<=den)(hd1:1<=den)(hd:den<=2147483648)(hm0:0<=mode)(qM:mode<=4)(w:World) :
 At 40 #[.float .f64 s,.float .f64 t,.int .i64 (num:Nat),.int .i64 (den:Nat),.int .i64 mode] w (.tuple #[.float .f64 (Iz s t num den mode),.int .i64 0]):=by
 obtain⟨z,hz⟩:∃z,z=2098:=⟨_,rfl⟩;obtain⟨k,hk⟩:∃z,z=31:=⟨_,rfl⟩;obtain⟨k1,hk1⟩:∃z,z=32:=⟨_,rfl⟩;have b1:=oh hs fs z hz;have b2:=oh ht ft z hz;have bn:∀n:Nat,n<=2147483648->Bd k (n:Int):=λn hn=>by unfold Bd;rw[oC,hk];exact hn
 have bf:=b2.sub b1;have bu:=bf.mul (bn num ae);have bg:=(b1.mono (show z<=z+1 by omega)).mul (bn den ae);have bq:=bg.add bu;have Fa:=mR (u:=1074) ae ae b1;have Fb:=mR (u:=1074) ae ae b2;have Ff:=mR (u:=1074) ae ae bf;have Fn:=mR (u:=0) ae ae (bn num ae);have Fd:=mR (u:=0) ae ae (bn den hd);have Fu:=mR (u:=1074) ae ae bu;have Fg:=mR (u:=1074) ae ae bg;have Fq:=mR (u:=1074) ae ae bq;have ef:=g_sub (u:=1074) ae ae b2 b1;have eu:=TR (u:=1074) (v:=0) ae ae ae ae bf (bn num ae);have eg:=TR (u:=1074) (v:=0) ae ae ae ae b1 (bn den hd);have eq:=TS (u:=1074) ae ae bg bu;have hsg:=(TT (u:=1074) ae ae bq).1;rw[Qs hr] at eq Fq hsg bq
 have hW2:jH [s,t]:=λx hx=>by
  rcases pg.1 hx with rfl|hx
  . exact hs
  . rw[Ar.1 hx];exact ht
 obtain⟨V,hV⟩:=ah (Yl s t num den);rw[<-hV] at eq Fq hsg bq
 have:=El s t num den mode _ _ _ _ _ _ _ _ Fa Fb Ff Fn Fd Fu Fg Fq (nt (snd (sS [s,t]).n (sS [s,t]).u (sS [s,t]).d (sS [s,t]).m (sS [s,t]).p (sS [s,t]).a) (sS [s,t]).n (sS [s,t]).u (sS [s,t]).d (sS [s,t]).m (sS [s,t]).p (sS [s,t]).a mode) (Am (gV 1074 V) (gV 0 (den:Int)) mode).1 (Am (gV 1074 V) (gV 0 (den:Int)) mode).2 (sS [s,t]).agg w
  (λu=>TY s hs fs u) (λu=>TY t ht ft u)
  (λu a b c d N1 N2=>rsub14 Fb Fa N1 N2 ef Ff)
  (λu=>(zb (num:Nat) u ae ae).mono (λr w' h=>h))
  (λu a b c d N1 N2=>TV Ff Fn N1 N2 eu Fu)
  (λu=>(zb (den:Nat) u ae ae).mono (λr w' h=>h))
  (λu a b c d N1 N2=>TV Fa Fd N1 N2 eg Fg)
  (λu a b c d N1 N2=>TW Fg Fu N1 N2 eq Fq)
  (λu b hF=>by
   have:=Hw [s,t] _ 2 2 u rfl hF hW2 aM;rw[YJ hs ht] at this
   exact this)
  (λu=>wZ _ _ _ _ _ _ _ u)
  (λu a b c d N1 N2=>ME (w:=u) mode (Fq.YC N1) (Fd.YC N2) Fq.sD (n:=dN (gV 1074 V)) (m:=dN (gV 0 (den:Int))) (f:=dE (gV 0 (den:Int))) Fd.sD)
 have hX:(ws (dX (gV 1074 V))).length=0↔V=0:=(bT _).trans hsg
 have e1:(if (ws (dX (gV 1074 V))).length=0 then(nt (snd (sS [s,t]).n (sS [s,t]).u (sS [s,t]).d (sS [s,t]).m (sS [s,t]).p (sS [s,t]).a) (sS [s,t]).n (sS [s,t]).u (sS [s,t]).d (sS [s,t]).m (sS [s,t]).p (sS [s,t]).a mode) else(Am (gV 1074 V) (gV 0 (den:Int)) mode).1)=Iz s t num den mode:=by
  unfold Iz;rw[<-hV]
  by_cases h:V=0
  . rw[if_pos (hX.2 h),if_pos h]
  . rw[if_neg (λe=>h (hX.1 e)),if_neg h]
 have e2:(if (ws (dX (gV 1074 V))).length=0 then 0 else(Am (gV 1074 V) (gV 0 (den:Int)) mode).2)=0:=by
  by_cases h:V=0
  . rw[if_pos (hX.2 h)]
  . rw[if_neg (λe=>h (hX.1 e))];obtain⟨K,t,m,_,hR⟩:=Mx (u:=1074) (v:=0) (V:=V) (D:=(den:Int)) ae ae ae h ae bq ((bn den hd).mono ae);rw[hR mode hm0 qM]
 rw[e1,e2] at this;exact this
theorem lev_ok{xs:List Nat}{s:Sp}{mode:Int}(hm:oJ mode=0)(hW:jH xs)(hl:xs.length<=65536)(hne:xs≠[]):(mU xs s mode).2=0:=by
 by_cases hV:vS xs=0
 . unfold mU;rw[if_neg hne,if_pos hV]
 . obtain⟨k,hk,hb⟩:=BO hW hl;unfold mU;rw[if_neg hne,if_neg hV];exact Zu hm hV k hk hb (sU.2 hne) hl
theorem sS_fin{xs:List Nat}(hW:jH xs)(hf:∀x ∈ xs,bO x)(hl:xs.length<=65536):(sS xs).n=0/\(sS xs).u=0/\(sS xs).d=0:=by
 obtain⟨b1,b2,b3,b4,b5⟩:=Ii hW hl;rw[Uk hW hf] at b5;omega
theorem KG{xs:List Nat}(hW:jH xs)(hf:∀x ∈ xs,bO x)(hl:xs.length<=65536):zX xs=0:=by
 obtain⟨h1,h2,h3⟩:=sS_fin hW hf hl;unfold zX;rw[if_neg ae,if_neg ae]
theorem Vk{x y:Nat}{mode:Int}(hx:x<18446744073709551616)(hy:y<18446744073709551616)(fx:bO x)(fy:bO y)(hm0:0<=mode)(qM:mode<=4):(rC x y mode).2=0:=by
 have hW2:jH [x,y]:=λa ha=>by
  rcases pg.1 ha with rfl|ha
  . exact hx
  . rw[Ar.1 ha];exact hy
 have hf2:∀a ∈ [x,y],bO a:=λa ha=>by
  rcases pg.1 ha with rfl|ha
  . exact fx
  . rw[Ar.1 ha];exact fy
 have ha:oJ mode=0:=by unfold oJ;rw[if_neg ae]
 have hp:=KG hW2 hf2 aN;unfold rC Uq;rw[if_pos ha,if_pos hp];exact lev_ok ha hW2 aN aN
end
section
open Go.RowKit
def Rf(lo:Nat)(w:World)(v:Value)(R:List Nat):Prop:=w.ownsRow lo 27 1 v R.length (R.map jD)
theorem Rf.nil(lo:Nat)(w:World):Rf lo w (.slice none 0 0) []:=yA w lo 27 1
theorem Rf.alloc{lo:Nat}{w:World}{v:Value}{R:List Nat}(h:Rf lo w v R)(o:Obj):Rf lo (w.alloc o) v R:=World.ownsRow.alloc h o
theorem Rf.mono{lo lo':Nat}{w:World}{v:Value}{R:List Nat}(h:Rf lo w v R)(hl:lo'<=lo):Rf lo' w v R:=by
 exact jn
theorem Qae{P:Prop}(h:P:=by
 rcases h.2 with ⟨rfl,_⟩|⟨g,cap,cur,rfl,hlo,hg,_⟩
 . simp[Value.ownBlock] at hb
 . simp[Value.ownBlock] at hb;subst hb;exact⟨hlo,(dQ.1 hg).1⟩):P:=h
theorem Rf.lt{lo:Nat}{w:World}{v:Value}{R:List Nat}(h:Rf lo w v R)(b:Nat)(hb:v.ownBlock=some b):lo<=b/\b<w.heap.size:=by
 exact Qae
theorem Rf.shape{lo:Nat}{w:World}{v:Value}{R:List Nat}(h:Rf lo w v R)(hR:0<R.length):∃g cap,v=.slice (some ⟨g,0,none⟩) R.length cap/\lo<=g/\g<w.heap.size/\R.length<=cap/\cap<=maxLen/\∀i,i<R.length->w.cell? ⟨g,i,none⟩=some (.float .f64 (R.getD i 0)):=by
 have h':=h;rcases h.2 with ⟨_,h0⟩|⟨g,cap,cur,rfl,hlo,hg,hn,hm,hs,ht⟩
 . omega
 . refine⟨g,cap,rfl,hlo,(dQ.1 hg).1,hn,hm,λi hi=>?_⟩;have:=World.ownsRow.cellAt h' i ae;rw[this,mY,aY hi,bF,aY hi];rfl
theorem Qav{P:Prop}(h:P:=by
 rcases h.2 with ⟨rfl,h0⟩|⟨g,cap,cur,rfl,_,_,hn,_⟩
 . exact⟨none,0,by rw[h0],ae⟩
 . exact⟨_,cap,rfl,hn⟩):P:=h
theorem Rf.iM{lo:Nat}{w:World}{v:Value}{R:List Nat}(h:Rf lo w v R):∃ao cap,v=.slice ao R.length cap/\R.length<=cap:=by
 exact Qav
theorem Rf.fs{lo:Nat}{w:World}{ao:Option Addr}{n c:Nat}{R:List Nat}(h:Rf lo w (.slice ao n c) R):Fs w.heap.size w ao R:=by
 intro hne;obtain⟨g,cap,e,h1,h2,h3,h4,h5⟩:=h.shape (sU.2 hne)
 cases e
 exact⟨g,0,h2,rfl,λi hi=>by rw[dA];exact h5 i hi⟩
theorem mO (w:World) (lo:Nat) (v:Value) (xs src:List Nat) (ao:Option Addr) (m c:Nat) (ty:TypeId) (hown:Rf lo w v xs) (hm:m=src.length)
 (hR:src≠[]->∃b off,ao=some ⟨b,off,none⟩/\∀i,i<src.length->w.cell? ⟨b,off+i,none⟩=some (.float .f64 (src.getD i 0)))
 (hnn:ao≠none) (hbig:xs.length+m<=100000) (hlo:lo<=w.heap.size) :
 ∃v' w',(Builtin.append_ #[22,22] ty #[v,.slice ao m c]).run Tryz.prog w=.ok v' w'/\Rf lo w' v' (xs++src)/\w.grownBy w' v.ownBlock/\(v'.ownBlock=v.ownBlock\/v'.ownBlock=some w.heap.size):=by
 obtain⟨i0,hi,hz0,hz1,hz2⟩:=info_parts Tryz.nK;subst hm;obtain⟨a,rfl⟩:∃a,ao=some a:=by cases ao;exact absurd rfl hnn;exact⟨_,rfl⟩
 obtain⟨v',w',h1,h2,h3,_,h5⟩:=run_append_own_at (P:=Tryz.prog) w lo 22 ty 27 i0 (.float .f64 0) 1 8 Tryz.iL hi hz0 hz1 hz2 rfl aM v xs.length (xs.map jD) hown a src.length c (src.map jD) aN (by
  intro j u hj;have hj2:j<src.length:=by have:=(iD.1 hj).1;simpa using this
  obtain⟨b,off,e,hc⟩:=hR (by intro e;subst e;simp at hj2)
  cases e
  have hadd:(⟨b,off,none⟩:Addr).add j=⟨b,off+j,none⟩:=by unfold Addr.add;split <;> simp_all
  rw[hadd,hc j hj2];rw[mY,aY hj2] at hj;rw[bF,aY hj2]
  exact hj) (by
  intro u hu;obtain⟨x,_,rfl⟩:=rE.1 hu
  rfl) (by unfold maxLen;omega) ae hlo
 exact⟨v',w',h1,by unfold Rf;rw[jy,gU];exact h2,h3,h5⟩
theorem uG {w:World}{ops:Array Oper}{rest:List Oper}{o:Oper}{a:Act}{Q:Exit->Act->World->Prop}(hgd:o.guard=none) (s x:Operand)
 (ho:o.op=.call { callee:=.builtin .append,args:=#[s,x],argTypes:=#[22,22] }) (v u:Value) (hs:a.eval s=v) (hx:a.eval x=u) (v':Value) (w':World)
 (hrun:(Builtin.append_ #[22,22] o.type #[v,u]).run Tryz.prog w=.ok v' w') (h:wpList Tryz.prog ops Q rest (a.put o.dst v') w'):wpList Tryz.prog ops Q (o::rest) a w:=by
 refine wpList_plain hgd λK hK=>?_;unfold Oper.wp;simp[execOp,ho,resolve,invoke,builtin,hs,hx,hrun,Result.andThen];exact hK _ _ h
end
section
open Go Go.RowKit J
theorem Rf.aF{lo:Nat}{w w':World}{v:Value}{R:List Nat}(h:Rf lo w v R)(hb:An w w'):Rf lo w' v R:=by
 refine⟨h.1,?_⟩;rcases h.2 with hn|⟨g,cap,cur,rfl,hlo,hgc,rest⟩
 . exact .inl hn
 . exact .inr ⟨g,cap,cur,rfl,hlo,(hb.block g (dQ.1 hgc).1).trans hgc,rest⟩
theorem KH(xs:List Nat)(ao:Option Addr)(n cap:Nat)(parts rule mode:Int)(w:World)(hF:Fs w.heap.size w ao xs)(hn:n=xs.length)(hc:n<=cap)(hb:n<=17592186044416)(hW:jH xs) :
 As 12 #[.slice ao n cap,.int .i64 parts,.int .i64 rule,.int .i64 mode] w λr w'=>((nM xs parts rule mode≠0/\r=.returned (.tuple #[.slice none 0 0,.int .i64 (nM xs parts rule mode)]))\/(nM xs parts rule mode=0/\∃(v:Value) (p:Nat),parts=(p:Int)/\1<=p/\p<=65536/\r=.returned (.tuple #[v,.int .i64 0])/\Rf w.heap.size w' v (sI xs p rule mode (p+1))))/\An w w':=by
 obtain⟨e,he⟩:=ah (nM xs parts rule mode);rw[<-he];have hE:=ak he;have bad:(Hq rule mode=false\/parts<1\/65536<parts)->e=1:=λh=>by rw[he];unfold nM;rw[if_pos h]
 have hkf:¬ (0<=rule/\rule<=4/\0<=mode/\mode<=4)->Hq rule mode=false:=λh=>decide_eq_false h;have CR:=hid (KC xs ao n cap w hF hn hb hW);have HY:=(iN hF hn hW hc);clear hF hn hW hc
 by_cases cb:mode<0\/4<mode\/parts<1\/65536<parts\/rule<0\/4<rule
 . have e1:e=1:=bad (by
    by_cases q:0<=rule/\rule<=4/\0<=mode/\mode<=4
    . exact .inr ae
    . exact .inl (hkf q))
   have key:decide (mode<0)=true\/(decide (mode<0)=false/\decide (4<mode)=true)\/(decide (mode<0)=false/\decide (4<mode)=false/\decide (parts<1)=true)\/(decide (mode<0)=false/\decide (4<mode)=false/\decide (parts<1)=false/\decide (65536<parts)=true)\/(decide (mode<0)=false/\decide (4<mode)=false/\decide (parts<1)=false/\decide (65536<parts)=false/\decide (rule<0)=true)\/(decide (mode<0)=false/\decide (4<mode)=false/\decide (parts<1)=false/\decide (65536<parts)=false/\decide (rule<0)=false/\decide (4<rule)=true):=by
    simp only[decide_eq_true_eq,decide_eq_false_iff_not];omega
   subst e1;clear bad hkf CR he cb;rcases key with d1|⟨d1,d2⟩|⟨d1,d2,d3⟩|⟨d1,d2,d3,d4⟩|⟨d1,d2,d3,d4,d5⟩|⟨d1,d2,d3,d4,d5,d6⟩
   all_goals
    go_enter Tryz.func12,Tryz.ntmps12;go_wp2;refine aH (v:=.tuple #[.slice none 0 0,.int .i64 1]) (by simp[results,Tryz.results12,go_sem]) rfl ?_
    first | exact⟨.inl ⟨aM,rfl⟩,aD _ _⟩ | exact⟨rfl,aD _ _⟩
 have d1:decide (mode<0)=false:=by simp;omega
 have d2:decide (4<mode)=false:=by simp;omega
 have d3:decide (parts<1)=false:=by simp;omega
 have d4:decide (65536<parts)=false:=by simp;omega
 have d5:decide (rule<0)=false:=by simp;omega
 have d6:decide (4<rule)=false:=by simp;omega
 have hkt:Hq rule mode=true:=decide_eq_true ae;obtain⟨p,hp⟩:∃p:Nat,parts=(p:Int):=⟨parts.toNat,ae⟩;subst hp;have hae:e=zR xs false:=by rw[he];unfold nM;rw[if_neg (by rw[hkt];rintro (h | h | h) <;> first | exact absurd h aM | omega)]
 rw[<-hae] at CR
 by_cases h5:e=0
 . obtain⟨hF,hn,hW,hc⟩:=HY.o;have hz:zR xs false=0:=by rw[<-hae];exact h5
   obtain⟨_,e2,e3,e4⟩:=Ej hz;have hpos:0<xs.length:=sU.2 e3;have hss:=Qp hW e4
   have HS:Hid (∀u:World,An w u->As 24 #[.slice ao n cap] u λr w'=>(∃g c,r=.returned (.slice (some ⟨g,0,none⟩) n c)/\Fs w'.heap.size w' (some ⟨g,0,none⟩) (dP xs))/\An u w'):=λu hu=>by
    have:=wh xs.length xs (aA _) e3 e2 hW e4 ao cap u ae ((hF.below hu).mono hu.size);rw[<-hn] at this;refine this.mono ?_;rintro r w' ⟨⟨v,rfl,hv⟩,hb'⟩;have hl:=xL xs;rw[show(sN xs).length=(sN xs).length from rfl] at hv;obtain⟨g,c,rfl,Qb⟩:=Io hv ae;rw[hss] at Qb;exact⟨⟨g,c,by rw[show(sN xs).length=n by omega],Qb⟩,hb'⟩
   have HAT:Hid (∀(u:World) (g c k:Nat),k<=p->Fs u.heap.size u (some ⟨g,0,none⟩) (dP xs)->At 23 #[.slice (some ⟨g,0,none⟩) n c,.int .i64 (k:Nat),.int .i64 (p:Nat),.int .i64 rule,.int .i64 mode] u (.tuple #[.float .f64 (qm (dP xs) k p rule mode),.int .i64 0])):=λu g c k hk Qb=>by
    have hl:=ll xs
    exact rAt16 (dP xs) g n c k p rule mode u Qb ae ae ae (λx hx=>hW x (lq e4 x hx)) (λx hx=>e4 x (lq e4 x hx)) ae ae ae ae ae
     (λx y u hx hy fx fy=>by
      have:=Qo x y hx hy mode u _ rfl;rw[Vk hx hy fx fy ae ae] at this
      exact this)
     (λx y m u hx hy fx fy hm=>YK x y m p mode hx fx hy fy hm ae ae ae ae u)
   have HPB:Aside (1<=p/\p<=65536):=ak ⟨ae,ae⟩;subst h5;have HE0:=hE;clear hz e2 e3 e4 hpos hss hF hn hW hc HY bad hkf hkt hae he hE;go_enter Tryz.func12,Tryz.ntmps12;go_wp2_with fail;refine CR.o.mono ?_;rintro r v ⟨rfl,hv⟩;have HB:=ak hv;clear hv CR;have C:=hid (HS.o v HB.o);go_wp2_with fail;refine C.o.mono ?_;rintro r v2 ⟨⟨g,c,rfl,Qb⟩,hv⟩;have HB2:=ak (HB.o.trans (hv.mono HB.o.size));have kr:=ak Qb;clear hv Qb C HS HB;go_wp2
   go_loopg [12,13] (p+1) (λgk sv iv wr=>∃(k:Nat) (a9:Option Addr) (c9:Nat),gk+k=p+1/\sv=.slice a9 k c9/\iv=.int .i64 (k:Nat)/\Aside (Rf v2.heap.size wr (.slice a9 k c9) (sI xs p rule mode k)/\An v2 wr))
   case atStart=>exact⟨0,none,0,ae,rfl,aN,ak ⟨Rf.nil _ _,aD _ _⟩⟩
   case round =>
    obtain⟨k,a9,c9,jo,rfl,rfl,HA⟩:=hrel
    by_cases hk:k<p+1
    . have hd:decide ((k:Int)<=p)=true:=by simp;omega
      have hd':decide (k<=p)=true:=by simp;omega
      have wk:IntKind.i64.wrap ((k:Int)+1)=((k+1:Nat):Int):=aL ae (by have:=HPB.o;omega);have C:=hid (HAT.o _ g c k ae ((kr.o.below HA.o.2).mono HA.o.2.size));obtain⟨y,hy⟩:=ah (qm (dP xs) k p rule mode);rw[<-hy] at C;have HK:=bA jo hk;have HYY:=ak hy;clear jo hk hy;go_wp2_with fail;refine C.o.mono ?_;rintro r u ⟨rfl,hu⟩;obtain⟨hR0,hB0⟩:=HA.o;have hz:=af u (Obj.cells #[.float .f64 y] 27);have hRu:=(hR0.aF hu).alloc (Obj.cells #[.float .f64 y] 27);have hBu:=(hB0.trans (hu.mono hB0.size)).trans (hz.mono (dB hB0.size hu.size));have hN:=Bl.new u 27 [.float .f64 y]
      obtain⟨q',w',hrun,hR',hg',_⟩:=mO _ v2.heap.size _ _ [y] (some ⟨u.heap.size,0,none⟩) 1 1 22 hRu rfl (λ_=>⟨u.heap.size,0,rfl,λi hi=>by
       obtain rfl:i=0:=by simpa using hi
       exact hN.cell 0 _ rfl⟩) aN (by rw[qo];have:=HPB.o;have:=HK.o;omega) hBu.size
      have hR2:Rf v2.heap.size w' q' (sI xs p rule mode (k+1)):=by rw[Qd,<-HYY.o];exact hR'
      have hB2:An v2 w':=Below.grown hBu hg' hBu.size (λb hb=>(hRu.lt b hb).1);obtain⟨a8,c8,e8,_⟩:=hR2.iM;rw[qo] at e8;subst e8;have YL:=ak hrun;have HN2:=bA hR2 hB2;clear hR0 hB0 hz hRu hBu hN hrun hR' hg' hR2 hB2 HA C hu
      go_wp2_with (at_builtin;refine uG rfl (.tmp 59) (.tmp 61) rfl _ _ rfl rfl _ _ YL.o ?_)
      go_wp2;go_roundg (gk-1)
      case measure=>exact x6
      case rel=>exact⟨k+1,a8,c8,by have:=HK.o;omega,rfl,by first | rfl | simp,HN2⟩
    . obtain rfl:k=p+1:=ae
      have hd:decide (((p+1:Nat):Int)<=p)=false:=by simp;omega
      have hd':decide (p+1<=p)=false:=by simp
      go_wp2;refine aH (v:=.tuple #[.slice a9 (p+1) c9,.int .i64 0]) (by simp[results,Tryz.results12,go_sem]) rfl ?_;exact⟨.inr ⟨by first | exact trivial | rfl,.slice a9 (p+1) c9,p,rfl,HPB.o.1,HPB.o.2,rfl,HA.o.1.mono HB2.o.size⟩,HB2.o.trans (HA.o.2.mono HB2.o.size)⟩
 . have k2:(e != 0)=true:=by simp[h5]
   have k1:(e==0)=false:=by simp[h5]
   have HE5:=ak h5;clear HY bad hkf hkt hae he h5 hE;go_enter Tryz.func12,Tryz.ntmps12;go_wp2_with fail;refine CR.o.mono ?_;rintro r v ⟨rfl,hv⟩;have HB:=ak hv;clear hv CR;go_wp2;refine aH (v:=.tuple #[.slice none 0 0,.int .i64 e]) (by simp[results,Tryz.results12,go_sem]) rfl ?_
   first | exact⟨.inl ⟨HE5.o,rfl⟩,HB.o⟩ | (simp[HE5.o];exact HB.o)
end
section
open Go Go.RowKit J
open Go.Proofs.YtjppdacikihpdaaGreatDoor.B (aW aJ)
attribute [local go_sem] cZ aW aJ
theorem Vl(x:Nat):∃y:Nat,∀w:World,Ax 102 #[.float .f64 x] w (.int .u64 y):=by
 by_cases h:(9218868437227405312:Int)<(x:Int)%9223372036854775808
 . refine⟨9221120237041090560,λw=>?_⟩;go_enter Tryz.func102,Tryz.ntmps102;go_wp2;exact Jx
 . refine⟨x,λw=>?_⟩;go_enter Tryz.func102,Tryz.ntmps102;go_wp2;exact Jx
theorem YM(x:Nat)(w:World):Ax 75 #[.float .f64 x,.float .f64 x] w (.bool true):=by
 obtain⟨y,H⟩:=Vl x;have H:=hid H;go_enter Tryz.func75,Tryz.ntmps75;go_wp2_with fail;refine(H.o _).mono ?_;rintro r w1 ⟨rfl,rfl⟩;go_wp2_with fail;refine(H.o _).mono ?_;rintro r w1 ⟨rfl,rfl⟩;go_wp2_with fail;exact z9
theorem KI(L:List Nat)(a b:Option Addr)(n c d:Nat)(w:World)(hn:n=L.length)(hl:n<=17592186044416)(h1:Fs w.heap.size w a L)(h2:Fs w.heap.size w b L) :
 At 42 #[.slice a n c,.slice b n d] w (.bool true):=by
 have hne:((n:Int) != n)=false:=by simp
 have HN:=(gp hn h1 h2);clear hn h1 h2;go_enter Tryz.func42,Tryz.ntmps42;go_wp2
 go_loopg [5] n (λgk iv wr=>∃k:Nat,gk+k=n/\iv=.int .i64 (k:Nat)/\Aside (An w wr))
 case atStart=>exact⟨0,ae,by first | rfl | simp,aD _ _⟩
 case round =>
  obtain⟨k,jo,rfl,HA⟩:=hrel
  by_cases hk:k<n
  . have hdk:decide ((k:Int)<(n:Int))=true:=by simp;omega
    have bk:(k:Int)<(n:Int):=ae
    obtain⟨k1,hk1⟩:=ah (k+1);have wk:IntKind.i64.wrap ((k:Int)+1)=(k1:Int):=aL ae ae;obtain⟨b1,o1,rfl,c1⟩:=HN.o.2.1.at HA.o k (by rw[<-HN.o.1];exact hk);obtain⟨b2,o2,rfl,c2⟩:=HN.o.r2.at HA.o k (by rw[<-HN.o.1];exact hk);obtain⟨x,hx⟩:=ah (L.getD k 0);rw[<-hx] at c1 c2;have CA:=hid (λv:World=>YM x v);have HD:Aside (∀m,An w (wr.drewN m)):=λm=>by have h:=HA.o;exact⟨h.os,h.tape,h.output,h.size,h.block⟩
    have HK:=ak hk1;clear HA hx hk1;go_wp2_with fail
    go_quiet (first | (go_at_call 75;exact Calls.quiet_of_same (CA.o _)))
    go_wp2;go_roundg (n-k1)
    case measure=>exact x6
    case rel=>exact⟨k1,by have:=HK.o;omega,by first | rfl | simp,HD.o _⟩
  . have hdk:decide ((k:Int)<(n:Int))=false:=by simp;omega
    go_wp2;go_ret;exact⟨rfl,HA.o⟩
end
section
open Go Go.RowKit J
theorem Tryz.Qt:Tryz.prog.underlying 37=some (.slice 22):=by kernel_rfl
theorem Tryz.KJ:(Tryz.prog.info? 22).map (λi=>(i.zero,i.size,i.bytes))=some (some (.slice none 0 0),1,24):=by kernel_rfl
def Vw(lo:Nat)(w:World)(v:Value)(V:List Value):Prop:=w.ownsRow lo 22 1 v V.length V
theorem Vw.nil(lo:Nat)(w:World):Vw lo w (.slice none 0 0) []:=yA w lo 22 1
theorem Vw.alloc{lo:Nat}{w:World}{v:Value}{V:List Value}(h:Vw lo w v V)(o:Obj):Vw lo (w.alloc o) v V:=World.ownsRow.alloc h o
theorem Qah{P:Prop}(h:P:=by
 refine⟨h.1,?_⟩;rcases h.2 with hn|⟨g,cap,cur,rfl,hlo,hgc,rest⟩
 . exact .inl hn
 . exact .inr ⟨g,cap,cur,rfl,hlo,(hb g rfl).trans hgc,rest⟩):P:=h
theorem Vw.same{lo:Nat}{w w':World}{v:Value}{V:List Value}(h:Vw lo w v V)(hb:∀b,v.ownBlock=some b->w'.heap[b]?=w.heap[b]?):Vw lo w' v V:=by
 exact Qah
theorem Vw.lt{lo:Nat}{w:World}{v:Value}{V:List Value}(h:Vw lo w v V)(b:Nat)(hb:v.ownBlock=some b):lo<=b/\b<w.heap.size:=by
 exact Qae
theorem Vw.aF{lo:Nat}{w w':World}{v:Value}{V:List Value}(h:Vw lo w v V)(hb:An w w'):Vw lo w' v V:=h.same λb hbb=>hb.block b (h.lt b hbb).2
theorem Vw.shape{lo:Nat}{w:World}{v:Value}{V:List Value}(h:Vw lo w v V)(hV:0<V.length):∃g cap,v=.slice (some ⟨g,0,none⟩) V.length cap/\V.length<=cap/\∀i (hi:i<V.length),w.cell? ⟨g,i,none⟩=some V[i]:=by
 have h':=h;rcases h.2 with ⟨_,h0⟩|⟨g,cap,cur,rfl,hlo,hg,hn,hm,hs,ht⟩
 . omega
 . refine⟨g,cap,rfl,hn,λi hi=>?_⟩;have:=World.ownsRow.cellAt h' i ae;rw[this,aY hi]
theorem Vw.iM{lo:Nat}{w:World}{v:Value}{V:List Value}(h:Vw lo w v V):∃ao cap,v=.slice ao V.length cap/\V.length<=cap:=by
 exact Qav
theorem rR(w:World)(lo:Nat)(v x:Value)(V:List Value)(s:Nat)(ty:TypeId)(hown:Vw lo w v V)(hx:w.cell? ⟨s,0,none⟩=some x)(h1:x.oneCell'=true)(hbig:V.length<=1000)(hlo:lo<=w.heap.size) :
 ∃v' w',(Builtin.append_ #[37,37] ty #[v,.slice (some ⟨s,0,none⟩) 1 1]).run Tryz.prog w=.ok v' w'/\Vw lo w' v' (V++[x])/\w.grownBy w' v.ownBlock/\(v'.ownBlock=v.ownBlock\/v'.ownBlock=some w.heap.size):=by
 obtain⟨i0,hi,hz0,hz1,hz2⟩:=info_parts Tryz.KJ
 obtain⟨v',w',r1,r2,r3,_,r5⟩:=run_append_own_at (P:=Tryz.prog) w lo 37 ty 22 i0 (.slice none 0 0) 1 24 Tryz.Qt hi hz0 hz1 hz2 rfl aM v V.length V hown ⟨s,0,none⟩ 1 1 [x] aN (by
  intro j u hj;obtain rfl:j=0:=by have:=(iD.1 hj).1;simpa using this
  simp at hj;subst hj
  exact hx) (by intro u hu;simp at hu;subst hu;exact h1) (by unfold maxLen;omega) ae hlo
 exact⟨v',w',r1,by unfold Vw;rw[gU];exact r2,r3,r5⟩
theorem Vw.cellAt{lo:Nat}{w:World}{g n c:Nat}{V:List Value}(h:Vw lo w (.slice (some ⟨g,0,none⟩) n c) V)(i:Nat){x:Value}(hi:V[i]?=some x):w.cell? ⟨g,i,none⟩=some x:=by
 have hil:i<V.length:=(iD.1 hi).1;obtain⟨g',cap,e,_,k⟩:=Vw.shape h ae
 cases e
 rw[k i hil,<-hi,aY hil]
def Lv16(w:World)(v:Value)(L:List Nat):Prop:=∃a n c,v=.slice a n c/\n=L.length/\n<=100000/\Fs w.heap.size w a L
structure Br16 (lo:Nat) (w:World) (h:Nat) (V U:List Value) (LS:List (List Nat)):Prop where
 ex:∃ov wv,Bl w h 39 [ov,wv]/\Vw lo w ov V/\Vw lo w wv U
 lv:V.length=LS.length
 lu:U.length=LS.length
 rd:∀i,i<LS.length->∃x y,V[i]?=some x/\U[i]?=some y/\Lv16 w x (LS.getD i [])/\Lv16 w y (LS.getD i [])
theorem YN{lo:Nat}{w:World}{h:Nat}{V U:List Value}{LS:List (List Nat)}(H:Br16 lo w h V U LS)(hp:0<LS.length)(hl:LS.length<=1000) :
 At 26 #[.pointer (some ⟨h,0,none⟩)] w (.bool true):=by
 obtain⟨⟨ov,wv,hB,hO,hU⟩,l1,l2,rd⟩:=H;obtain⟨gv,cv,rfl,_,_⟩:=hO.shape ae;obtain⟨gu,cu,rfl,_,_⟩:=hU.shape ae;obtain⟨m,hm⟩:=ah (LS.length);rw[l1,<-hm] at hO hB;rw[l2,<-hm] at hU hB;have HX:Aside (∀u,An w u->u.cell? ⟨h,0,none⟩=some (.slice (some ⟨gv,0,none⟩) m cv)/\u.cell? ⟨h,1,none⟩=some (.slice (some ⟨gu,0,none⟩) m cu)):=ak λu hu=>⟨(hB.below hu hB.lt).cell 0 _ rfl,(hB.below hu hB.lt).cell 1 _ rfl⟩
 have HR:Aside (∀i,i<m->∃(a b:Option Addr) (n c d:Nat),(∀u,An w u->u.cell? ⟨gv,i,none⟩=some (.slice a n c)/\u.cell? ⟨gu,i,none⟩=some (.slice b n d))/\∀u,An w u->At 42 #[.slice a n c,.slice b n d] u (.bool true)):=ak λi hi=>by
  obtain⟨x,y,hx,hy,⟨a,n,c,rfl,h2,h3,h4⟩,⟨b,n',d,rfl,k2,_,k4⟩⟩:=rd i ae;obtain rfl:n'=n:=ae
  exact⟨a,b,n',c,d,λu hu=>⟨(hO.aF hu).cellAt i hx,(hU.aF hu).cellAt i hy⟩,λu hu=>KI _ a b n' c d u h2 ae ((h4.below hu).mono hu.size) ((k4.below hu).mono hu.size)⟩
 have HM:=bA hp (show m<=1000 by omega);clear hB hO hU rd l1 l2 hm hp hl;go_enter Tryz.func26,Tryz.ntmps26;go_wp2
 go_loopg [3] m (λgk iv wr=>∃i:Nat,gk+i=m/\iv=.int .i64 (i:Nat)/\Aside (An w wr))
 case atStart=>exact⟨0,ae,by first | rfl | simp,aD _ _⟩
 case round =>
  obtain⟨i,jo,rfl,HA⟩:=hrel;obtain⟨k0,k1⟩:=HX.o _ HA.o
  by_cases hk:i<m
  . have hd:decide ((i:Int)<m)=true:=by simp;omega
    have bk:(i:Int)<m:=ae
    have wk:IntKind.i64.wrap ((i:Int)+1)=((i+1:Nat):Int):=aL ae (by have:=HM.o;omega);obtain⟨a,b,n,c,d,hc,hs⟩:=HR.o i hk;have HC:=ak hc;have C:=hid hs;have HK:=ak jo;clear hc hs jo hk;go_wp2_with fail;clear k0 k1;have hwd:=HA.o.drew;have kS:Aside (World.cell? (World.drew _) ⟨h,0,none⟩=some (.slice (some ⟨gv,0,none⟩) m cv)/\World.cell? (World.drew _) ⟨h,1,none⟩=some (.slice (some ⟨gu,0,none⟩) m cu)/\World.cell? (World.drew _) ⟨gv,i,none⟩=some (.slice a n c)/\World.cell? (World.drew _) ⟨gu,i,none⟩=some (.slice b n d)):=ak ⟨(HX.o _ hwd).1,(HX.o _ hwd).2,(HC.o _ hwd).1,(HC.o _ hwd).2⟩;have C2:=hid (C.o _ hwd);have HD:=ak hwd;clear hwd C
    go_cut [4] from 14 to 28 (λv wx=>v=.bool true/\Aside (An w wx))
    case first =>
     go_region_held3 (λw'=>w'.cell? ⟨h,0,none⟩=some (.slice (some ⟨gv,0,none⟩) m cv)/\w'.cell? ⟨h,1,none⟩=some (.slice (some ⟨gu,0,none⟩) m cu)/\w'.cell? ⟨gv,i,none⟩=some (.slice a n c)/\w'.cell? ⟨gu,i,none⟩=some (.slice b n d)) (with_reducible exact kS.o) (first
      | (go_at_call 42
         with_reducible refine eG C2.o ?_
         rintro r v ⟨rfl,hb⟩;have HV:=ak (HD.o.trans (hb.mono HD.o.size));have kS:Aside (v.cell? ⟨h,0,none⟩=some (.slice (some ⟨gv,0,none⟩) m cv)/\v.cell? ⟨h,1,none⟩=some (.slice (some ⟨gu,0,none⟩) m cu)/\v.cell? ⟨gv,i,none⟩=some (.slice a n c)/\v.cell? ⟨gu,i,none⟩=some (.slice b n d)):=ak ⟨(HX.o _ HV.o).1,(HX.o _ HV.o).2,(HC.o _ HV.o).1,(HC.o _ HV.o).2⟩
         clear hb C2))
     all_goals
      go_wp2
      go_meet
      case rel=>exact⟨rfl,HV⟩
    obtain⟨rfl,hcu⟩:=hcut;clear kS C2 HD HC;go_wp2;go_roundg (gk-1)
    case measure=>exact x6
    case rel=>exact⟨i+1,by have:=HK.o;omega,by first | rfl | simp,hcu⟩
  . have hd:decide ((i:Int)<m)=false:=by simp;omega
    go_wp2;go_ret;exact⟨rfl,HA.o⟩
structure dw (lo:Nat) (w:World) (P:List (Value×List Nat)):Prop where
 row:∀p ∈ P,Rf lo w p.1 p.2
 nd:P.Pairwise λp q=>∀b,p.1.ownBlock=some b->q.1.ownBlock≠some b
theorem dw.nil(lo:Nat)(w:World):dw lo w []:=⟨λp h=>by simp at h,List.Pairwise.nil⟩
theorem Rf.same{lo:Nat}{w w':World}{v:Value}{R:List Nat}(h:Rf lo w v R)(hb:∀b,v.ownBlock=some b->w'.heap[b]?=w.heap[b]?):Rf lo w' v R:=by
 exact Qah
theorem dw.same{lo:Nat}{w w':World}{P:List (Value×List Nat)}(h:dw lo w P)(hb:∀p ∈ P,∀b,p.1.ownBlock=some b->w'.heap[b]?=w.heap[b]?):dw lo w' P :=
 ⟨λp hp=>(h.row p hp).same (hb p hp),h.nd⟩
theorem dw.aF{lo:Nat}{w w':World}{P:List (Value×List Nat)}(h:dw lo w P)(hb:An w w'):dw lo w' P :=
 h.same λp hp b e=>hb.block b ((h.row p hp).lt b e).2
theorem dw.perm{lo:Nat}{w:World}{P Q:List (Value×List Nat)}(h:dw lo w P)(p:P.Perm Q):dw lo w Q :=
 ⟨λq hq=>h.row q (p.mem_iff.2 hq),(p.pairwise_iff (λhxy=>λb e1 e2=>hxy b e2 e1)).1 h.nd⟩
theorem dw.cons{lo:Nat}{w:World}{P:List (Value×List Nat)}{x:Value}{L:List Nat}(h:dw lo w P)(hx:Rf lo w x L)(hn:∀b,x.ownBlock=some b->∀p ∈ P,p.1.ownBlock≠some b):dw lo w ((x,L)::P):=by
 refine⟨λp hp=>?_,CS.2 ⟨λp hp b e=>hn b e p hp,h.nd⟩⟩;rcases pg.1 hp with rfl|hp
 . exact hx
 . exact h.row p hp
theorem dw.set{lo:Nat}{w:World}{P:List (Value×List Nat)}{g n c k y:Nat}{L:List Nat}(h:dw lo w ((.slice (some ⟨g,0,none⟩) n c,L)::P))(hn:n=L.length):dw lo (w.setCell ⟨g,k,none⟩ (.float .f64 y)) ((.slice (some ⟨g,0,none⟩) n c,L.set k y)::P):=by
 obtain⟨hr,hd⟩:=h;obtain⟨hd1,hd2⟩:=CS.1 hd;have hx:=hr _ kK;have hx':w.ownsRow lo 27 1 (.slice (some ⟨g,0,none⟩) n c) n (L.map jD):=by have h:=hx;unfold Rf at h;rw[<-hn] at h;exact h
 obtain⟨s1,s2⟩:=World.ownsRow.stored hx' k (jD y);refine⟨λp hp=>?_,CS.2 ⟨hd1,hd2⟩⟩;rcases pg.1 hp with rfl|hp
 . show World.ownsRow _ _ _ _ _ _ _;rw[CF,<-hn,sO];exact s1
 . have q1:=hr p (kJ _ hp);refine q1.same λb' hb'=>?_;have hne:g≠b':=λe=>hd1 p hp g rfl (e ▸ hb');exact s2.block b' (q1.lt b' hb').2 (λe=>hne (Eq.symm (by simpa using e)))
theorem qW{lo lo':Nat}{w:World}{v x:Value}{V:List Value}{L:List Nat}(h:Vw lo w v V)(k:Rf lo' w x L)(b:Nat)(e1:v.ownBlock=some b)(e2:x.ownBlock=some b):False:=by
 rcases h.2 with ⟨rfl,_⟩|⟨g,cap,cur,rfl,_,hg,_⟩
 . simp[Value.ownBlock] at e1
 . rcases k.2 with ⟨rfl,_⟩ | ⟨g',cap',cur',rfl,_,hg',_⟩
   . simp[Value.ownBlock] at e2
   . simp[Value.ownBlock] at e1 e2;subst e1 e2;rw[hg] at hg';simp at hg'
theorem xi{P:Prop}(h:P:=by
 rcases k.2 with ⟨rfl,_⟩|⟨g',cap',cur',rfl,_,hg',_⟩
 . simp[Value.ownBlock] at e2
 . simp[Value.ownBlock] at e2;subst e2;unfold Bl at hB;rw[hB] at hg';simp at hg'):P:=h
theorem Ev{lo:Nat}{w:World}{x:Value}{h:Nat}{C:List Value}{L:List Nat}(hB:Bl w h 39 C)(k:Rf lo w x L):x.ownBlock≠some h:=λe2=>by
 exact xi
theorem qX{lo:Nat}{w:World}{v:Value}{h:Nat}{C V:List Value}(hB:Bl w h 39 C)(k:Vw lo w v V):v.ownBlock≠some h:=λe2=>by
 exact xi
def jG(w w':World):Prop:=∀(b:Nat) (cur:Array Value),w.heap[b]?=some (Obj.cells cur 27 (0,0))->w'.heap[b]?=w.heap[b]?
theorem jG.trans{a b c:World}(h:jG a b)(k:jG b c):jG a c:=λg cur e=>(k g cur ((h g cur e).trans e)).trans (h g cur e)
theorem jG.aF{w w':World}(h:An w w'):jG w w':=λg cur e=>h.block g (dQ.1 e).1
theorem Rf.fst{lo:Nat}{w w':World}{v:Value}{R:List Nat}(h:Rf lo w v R)(k:jG w w'):Rf lo w' v R:=by
 refine⟨h.1,?_⟩;rcases h.2 with hn|⟨g,cap,cur,rfl,hlo,hgc,rest⟩
 . exact .inl hn
 . exact .inr ⟨g,cap,cur,rfl,hlo,(k g cur hgc).trans hgc,rest⟩
theorem dw.fst{lo:Nat}{w w':World}{P:List (Value×List Nat)}(h:dw lo w P)(k:jG w w'):dw lo w' P :=
 ⟨λp hp=>(h.row p hp).fst k,h.nd⟩
theorem gm{lo:Nat}{w w':World}{row:Option Nat}(hg:w.grownBy w' row)(hz:lo<=w.heap.size)(hr:∀b,row=some b->lo<=b):Below lo w w':=Below.grown (aD _ _) hg hz hr
theorem Qaw{P:Prop}(h:P:=by
 simp only[World.setCell,gz];rw[if_neg (λe=>hb e.symm)]):P:=h
theorem Ip{lo:Nat}{w:World}{h:Nat}{ov wv x:Value}{V U:List Value}{P:List (Value×List Nat)}(hB:Bl w h 39 [ov,wv])(hO:Vw lo w ov V)(hU:Vw lo w wv U)(hne:∀b,ov.ownBlock=some b->wv.ownBlock≠some b)(hF:dw lo w P)(hlo:lo<=w.heap.size)(hlh:lo<=h)(hV:V.length<=1000)(hx1:x.oneCell'=true) :
 ∃v' w2,(Builtin.append_ #[37,37] 37 #[ov,.slice (some ⟨w.heap.size,0,none⟩) 1 1]).run Tryz.prog (w.alloc (Obj.cells #[x] 22))=.ok v' w2/\Bl w2 h 39 [ov,wv] /\
   Bl (w2.setCell ⟨h,0,none⟩ v') h 39 [v',wv]/\Vw lo (w2.setCell ⟨h,0,none⟩ v') v' (V++[x])/\Vw lo (w2.setCell ⟨h,0,none⟩ v') wv U/\(∀b,v'.ownBlock=some b->wv.ownBlock≠some b)/\dw lo (w2.setCell ⟨h,0,none⟩ v') P/\Below lo w (w2.setCell ⟨h,0,none⟩ v')/\w.heap.size<=(w2.setCell ⟨h,0,none⟩ v').heap.size/\jG w (w2.setCell ⟨h,0,none⟩ v'):=by
 have ha:An w (w.alloc (Obj.cells #[x] 22)):=af _ _;have hz:w.heap.size<(w.alloc (Obj.cells #[x] 22)).heap.size:=by simp
 obtain⟨v',w2,r1,r2,r3,r5⟩:=rR (w.alloc (Obj.cells #[x] 22)) lo ov x V w.heap.size 37 (hO.alloc _) ((Bl.new w 22 [x]).cell 0 _ rfl) hx1 hV ae;obtain⟨W,hW⟩:=ah (w.alloc (Obj.cells #[x] 22));rw[<-hW] at ha hz r1 r3 r5 |-;have hB1:Bl W h 39 [ov,wv]:=hB.below ha hB.lt;have kD:Vw lo W ov V:=hO.aF ha;have aX:Vw lo W wv U:=hU.aF ha;have hF1:dw lo W P:=hF.aF ha;have hz2:W.heap.size<=w2.heap.size:=r3.size;have nh:ov.ownBlock≠some h:=qX hB1 kD;have hB2:Bl w2 h 39 [ov,wv]:=by unfold Bl;rw[r3.block h hB1.lt nh.symm];exact hB1
 have dK:Vw lo w2 wv U:=aX.same λb e=>r3.block b (aX.lt b e).2 (λq=>hne b q.symm e)
 have hs2:jG W w2:=λb cur e=>r3.block b (dQ.1 e).1 (λq=>by
  replace q:=q.symm;rcases kD.2 with ⟨rfl,_⟩|⟨g,cap,cur',rfl,_,hg,_⟩
  . simp[Value.ownBlock] at q
  . simp[Value.ownBlock] at q;subst q;rw[hg] at e
    simp at e)
 have hb2:Below lo W w2:=gm r3 ae λb e=>(kD.lt b e).1
 have other:∀b,b≠h->(w2.setCell ⟨h,0,none⟩ v').heap[b]?=w2.heap[b]?:=λb hb=>by
  exact Qaw
 have hs3:jG w2 (w2.setCell ⟨h,0,none⟩ v'):=λb cur e=>other b (λq=>by
  subst q;unfold Bl at hB2;rw[hB2] at e
  simp at e)
 have nv:v'.ownBlock≠some h:=qX hB2 r2;have nw:wv.ownBlock≠some h:=qX hB2 dK;refine⟨v',w2,r1,hB2,hB2.set 0 v',r2.same λb e=>other b (λq=>nv (q ▸ e)),dK.same λb e=>other b (λq=>nw (q ▸ e)),λb e q=>?_,(hF1.fst hs2).fst hs3,?_,?_,((jG.aF ha).trans hs2).trans hs3⟩
 . rcases r5 with r5 | r5
   . exact hne b (r5 ▸ e) q
   . rw[r5] at e
     cases e
     have:=(aX.lt _ q).2;omega
 . exact((ha.mono hlo).trans hb2).setCell hlh _
 . have:(w2.setCell ⟨h,0,none⟩ v').heap.size=w2.heap.size:=by simp[World.setCell]
   omega
theorem Ci{lo:Nat}{w:World}{h:Nat}{wv ov x:Value}{V U:List Value}{P:List (Value×List Nat)}(hB:Bl w h 39 [ov,wv])(hO:Vw lo w wv V)(hU:Vw lo w ov U)(hne:∀b,wv.ownBlock=some b->ov.ownBlock≠some b)(hF:dw lo w P)(hlo:lo<=w.heap.size)(hlh:lo<=h)(hV:V.length<=1000)(hx1:x.oneCell'=true) :
 ∃v' w2,(Builtin.append_ #[37,37] 37 #[wv,.slice (some ⟨w.heap.size,0,none⟩) 1 1]).run Tryz.prog (w.alloc (Obj.cells #[x] 22))=.ok v' w2/\Bl w2 h 39 [ov,wv] /\
   Bl (w2.setCell ⟨h,1,none⟩ v') h 39 [ov,v']/\Vw lo (w2.setCell ⟨h,1,none⟩ v') v' (V++[x])/\Vw lo (w2.setCell ⟨h,1,none⟩ v') ov U/\(∀b,v'.ownBlock=some b->ov.ownBlock≠some b)/\dw lo (w2.setCell ⟨h,1,none⟩ v') P/\Below lo w (w2.setCell ⟨h,1,none⟩ v')/\w.heap.size<=(w2.setCell ⟨h,1,none⟩ v').heap.size/\jG w (w2.setCell ⟨h,1,none⟩ v'):=by
 have ha:An w (w.alloc (Obj.cells #[x] 22)):=af _ _;have hz:w.heap.size<(w.alloc (Obj.cells #[x] 22)).heap.size:=by simp
 obtain⟨v',w2,r1,r2,r3,r5⟩:=rR (w.alloc (Obj.cells #[x] 22)) lo wv x V w.heap.size 37 (hO.alloc _) ((Bl.new w 22 [x]).cell 0 _ rfl) hx1 hV ae;obtain⟨W,hW⟩:=ah (w.alloc (Obj.cells #[x] 22));rw[<-hW] at ha hz r1 r3 r5 |-;have hB1:Bl W h 39 [ov,wv]:=hB.below ha hB.lt;have kD:Vw lo W wv V:=hO.aF ha;have aX:Vw lo W ov U:=hU.aF ha;have hF1:dw lo W P:=hF.aF ha;have hz2:W.heap.size<=w2.heap.size:=r3.size;have nh:wv.ownBlock≠some h:=qX hB1 kD;have hB2:Bl w2 h 39 [ov,wv]:=by unfold Bl;rw[r3.block h hB1.lt nh.symm];exact hB1
 have dK:Vw lo w2 ov U:=aX.same λb e=>r3.block b (aX.lt b e).2 (λq=>hne b q.symm e)
 have hs2:jG W w2:=λb cur e=>r3.block b (dQ.1 e).1 (λq=>by
  replace q:=q.symm;rcases kD.2 with ⟨rfl,_⟩|⟨g,cap,cur',rfl,_,hg,_⟩
  . simp[Value.ownBlock] at q
  . simp[Value.ownBlock] at q;subst q;rw[hg] at e
    simp at e)
 have hb2:Below lo W w2:=gm r3 ae λb e=>(kD.lt b e).1
 have other:∀b,b≠h->(w2.setCell ⟨h,1,none⟩ v').heap[b]?=w2.heap[b]?:=λb hb=>by
  exact Qaw
 have hs3:jG w2 (w2.setCell ⟨h,1,none⟩ v'):=λb cur e=>other b (λq=>by
  subst q;unfold Bl at hB2;rw[hB2] at e
  simp at e)
 have nv:v'.ownBlock≠some h:=qX hB2 r2;have nw:ov.ownBlock≠some h:=qX hB2 dK;refine⟨v',w2,r1,hB2,hB2.set 1 v',r2.same λb e=>other b (λq=>nv (q ▸ e)),dK.same λb e=>other b (λq=>nw (q ▸ e)),λb e q=>?_,(hF1.fst hs2).fst hs3,?_,?_,((jG.aF ha).trans hs2).trans hs3⟩
 . rcases r5 with r5 | r5
   . exact hne b (r5 ▸ e) q
   . rw[r5] at e
     cases e
     have:=(aX.lt _ q).2;omega
 . exact((ha.mono hlo).trans hb2).setCell hlh _
 . have:(w2.setCell ⟨h,1,none⟩ v').heap.size=w2.heap.size:=by simp[World.setCell]
   omega
end
end Go.Proofs.YtjppdacikihpdaaGreatDoor
