import Derived.Test.YteginbngplldaaaGreatDoorW17x
import Derived.ArgAppend
import Derived.Maps.AppendAt
import Derived.WalkMore
import Derived.Test.YteginbngplldaaaGreatDoorW7x
import Derived.ProofKit
import Derived.OpenShut
import Derived.ChangeOld
import Derived.SizedLaws
set_option linter.unusedVariables false
set_option linter.unusedSimpArgs false
set_option maxHeartbeats 16000000
set_option maxRecDepth 20000
namespace Go.Proofs.YteginbngplldaaaGreatDoor
section
open Go.RowKit
abbrev Rw(lo:Nat)(w:World)(v:Value)(n:Nat)(ys:List Value):Prop:=w.ownsRow lo 91 1 v n ys
theorem jj{P:Prop}(h:P:=by
 refine⟨h.1,?_⟩;rcases h.2 with hn|⟨g,cap,cur,rfl,hlo,hg,rest⟩
 · exact .inl hn
 · refine .inr ⟨g,cap,cur,rfl,hlo,?_,rest⟩;rw[hb g rfl];exact hg):P:=h
theorem tq{w w':World}{lo e s:Nat}{v:Value}{n:Nat}{ys:List Value}(h:w.ownsRow lo e s v n ys)(hb:∀ g,v.ownBlock=some g->w'.heap[g]?=w.heap[g]?):w'.ownsRow lo e s v n ys:=by
 exact jj
theorem Qav{P:Prop}(h:P:=by
 intro j u hj
 match j,hj with
 | 0,hj=>simp at hj;subst hj;simpa [Addr.add] using hx):P:=h
theorem Qaj{P:Prop}(h:P:=by
 intro v' w' m zs h;rcases h.2 with ⟨_,h0⟩|⟨g,cap,cur,rfl,hl,_⟩
 · omega
 · exact⟨g,rfl,hl⟩):P:=h
theorem Qaf{P:Prop}(h:P:=by
 refine⟨hr2.1,.inr ⟨g2,cap2,Wq,rfl,hl2,?_,Ob,hm2,hs2,ht2⟩⟩;rw[setRow_other w g g2 _ he];exact hg2):P:=h
theorem x7{P:Prop}(h:P:=by
 simp only[zO,Ce,iw,qR,zP,qQ,zQ];omega):P:=h
theorem xF{P:Prop}(h:P:=by
 rw[ht];have hyl:ys.length=n:=by simpa using hown.1
 simp only[eO,yH];rw[<-yH];rw[Ch (by simp[hyl])];rw[iy (by simp[hyl])]):P:=h
theorem xt{P:Prop}(h:P:=by
 have hcl:cur.toList.length=cap2:=by simpa using hs2
 rw[<-ht2];simp only[eO,yH];rw[Ch (by rw[iw];omega),List.take_take,jd hk]):P:=h
theorem j7{P:Prop}(h:P:=by
 intro v' w' m zs h;refine⟨h.1,?_⟩;rcases h.2 with hn|⟨g,cap,cur,rfl,hl,rest⟩
 · exact .inl hn
 · exact .inr ⟨g,cap,cur,rfl,by omega,rest⟩):P:=h
theorem y6{P:Prop}(h:P:=by
 exact⟨v',w',r1,mono _ _ _ _ r2,⟨r3.os,r3.tape,r3.output,r3.size,fun k hk _=>r3.block k hk (by simp)⟩,.inr (Oa _ _ n _ r2),fun u k zs hr _=>keep _ r3 u k zs hr⟩):P:=h
theorem ye{P:Prop}(h:P:=by
 intro w' hg u k zs hr;rcases hr.2 with hn|⟨g,cap,cur,rfl,hl,hgb,rest⟩
 · exact⟨hr.1,.inl hn⟩
 · refine⟨hr.1,.inr ⟨g,cap,cur,rfl,hl,?_,rest⟩⟩;rw[hg.block g (fV.1 hgb).1 (by simp)];exact hgb):P:=h
theorem lZ (w:World) (lo:Nat) (v:Value) (n:Nat) (ys:List Value) (x:Value) (s:Nat) (ty:TypeId) (hown:Rw lo w v n ys) (hx:w.cell? ⟨s,0,none⟩=some x) (h1:x.oneCell'=true)
 (hbig:n+1<=35184372088832) (hlo:lo<=w.heap.size) :
 ∃ v' w',(Builtin.append_ #[35,35] ty #[v,.slice (some ⟨s,0,none⟩) 1 1]).run Tryz.prog w=.ok v' w'/\Rw lo w' v' (n+1) (ys++[x])/\w.grownBy w' v.ownBlock /\
   (v'.ownBlock=v.ownBlock\/∃ g,v'.ownBlock=some g/\w.heap.size<=g)/\(∀ (u:Value) (k:Nat) (zs:List Value),Rw lo w u k zs->(u.ownBlock=v.ownBlock->k<=n)->Rw lo w' u k zs):=by
 obtain⟨i0,hi,hz0,hz1,hz2⟩:=info_parts Tryz.E8
 have hnews:∀ j u,[x][j]?=some u->w.cell? ((⟨s,0,none⟩:Addr).add j)=some u:=by
  exact Qav
 have h1':∀ u ∈ [x],u.oneCell'=true:=by intro u hu;simp at hu;subst hu;exact h1
 have keep:∀ w',w.grownBy w' none->∀ (u:Value) (k:Nat) (zs:List Value),Rw lo w u k zs->Rw lo w' u k zs:=by
  exact ye
 have Oa:∀ (v':Value) (w':World) (m:Nat) (zs:List Value),w'.ownsRow w.heap.size 91 1 v' (m+1) zs->∃ g,v'.ownBlock=some g/\w.heap.size<=g:=by
  exact Qaj
 have mono:∀ (v':Value) (w':World) (m:Nat) (zs:List Value),w'.ownsRow w.heap.size 91 1 v' m zs->Rw lo w' v' m zs:=by
  exact j7
 rcases hown.2 with ⟨rfl,rfl⟩|⟨g,cap,cur,rfl,hlg,hg,hnc,hm,hs,ht⟩
 · obtain⟨v',w',r1,r2,r3,_,_⟩:=run_append_own_at (P:=Tryz.prog) w w.heap.size 35 ty 91 i0 (.int .u32 0) 1 4 Tryz.underlying35 hi hz0 hz1 hz2 rfl (by decide) (.slice none 0 0) 0 [] (Cn _ _ _ _) ⟨s,0,none⟩ 1 1 [x] rfl hnews h1' (by unfold maxLen;omega) (by omega) (aA _);have hy:ys=[]:=uy (by simpa using hown.1);subst hy;exact⟨v',w',r1,mono _ _ _ _ (by simpa using r2),r3,.inr (Oa _ _ 0 _ (by simpa using r2)),fun u k zs hr _=>keep _ r3 u k zs hr⟩
 · by_cases hroom:n+1<=cap
   · have hr:=run_append_room (P:=Tryz.prog) w 35 ty 91 i0 Tryz.underlying35 hi g n cap cur hg ⟨s,0,none⟩ 1 1 [x] (by rw[hz1];rfl) hnews h1' hroom (by rw[hz1,hs];simp;omega);rw[hz1] at hr;refine⟨_,_,hr,⟨by simpa using hown.1,.inr ⟨g,cap,_,rfl,hlg,setRow_heap w g cur _ 91 _ hg,hroom,hm,?_,?_⟩⟩,⟨rfl,rfl,rfl,by simp,fun k _ hk=>setRow_other w g k _ (fun e=>hk (by simp[Value.ownBlock,e]))⟩,.inl rfl,?_⟩
     · exact x7
     · exact xF
     · intro u k zs hr2 hle;rcases hr2.2 with hn|⟨g2,cap2,Wq,rfl,hl2,hg2,Ob,hm2,hs2,ht2⟩
       · exact⟨hr2.1,.inl hn⟩
       · by_cases he:g2=g
         · subst he;rw[hg] at hg2
           cases hg2
           have hk:=hle rfl;refine⟨hr2.1,.inr ⟨g2,cap2,_,rfl,hl2,setRow_heap w g2 cur _ 91 _ hg,Ob,hm2,?_,?_⟩⟩
           · exact x7
           · exact xt
         · exact Qaf
   · obtain⟨v',w',r1,r2,r3⟩:=run_append_arg_grows (P:=Tryz.prog) w 35 ty 91 i0 (.int .u32 0) 1 4 Tryz.underlying35 hi hz0 hz1 hz2 rfl (by decide) ⟨g,0,none⟩ n cap ys (by simpa using hown.1) (fun j u hj=>hown.cells (g:=g) (by simp[Value.ownBlock]) j u hj) ⟨s,0,none⟩ 1 1 [x] rfl hnews (by omega) (by unfold maxLen;omega) (by omega);exact y6
theorem dB {w:World}{ops:Array Oper}{rest:List Oper}{o:Oper}{a:Act}{Q:Exit->Act->World->Prop}(hgd:o.guard=none) (s x:Operand) (t:TypeId)
 (ho:o.op=.call { callee:=.builtin .append,args:=#[s,x],argTypes:=#[t,t] }) (v u:Value) (hs:a.eval s=v) (hx:a.eval x=u) (v':Value) (w':World)
 (hrun:(Builtin.append_ #[t,t] o.type #[v,u]).run Tryz.prog w=.ok v' w') (h:wpList Tryz.prog ops Q rest (a.put o.dst v') w'):wpList Tryz.prog ops Q (o::rest) a w:=by
 refine wpList_plain hgd fun K hK=>?_;unfold Oper.wp;simp[execOp,ho,resolve,invoke,builtin,hs,hx,hrun,Result.andThen];exact hK _ _ h
theorem Rw.lt{lo:Nat}{w:World}{v:Value}{n:Nat}{ys:List Value}(h:Rw lo w v n ys)(b:Nat)(hb:v.ownBlock=some b):lo<=b/\b<w.heap.size/\∃ cur,w.heap[b]?=some (.cells cur 91 (0,0)):=by
 rcases h.2 with ⟨rfl,h0⟩|⟨g,cap,cur,rfl,hlo,hg,_⟩
 · cases hb
 · cases hb
   exact⟨hlo,(fV.1 hg).1,cur,hg⟩
theorem Rw.cell{lo:Nat}{w:World}{g n cap:Nat}{ys:List Value}(h:Rw lo w (.slice (some ⟨g,0,none⟩) n cap) n ys)(k:Nat)(u:Value)(hk:ys[k]?=some u):w.cell? ⟨g,k,none⟩=some u:=by
 have h1:=h.cells (g:=g) (by simp[Value.ownBlock]) k u hk;have e:(⟨g,0,none⟩:Addr).add k=⟨g,k,none⟩:=by unfold Addr.add;split <;> simp_all
 rw[e] at h1;exact h1
theorem Rw.words{lo:Nat}{w:World}{v:Value}{n:Nat}{L:List Nat}(h:Rw lo w v n (L.map U)):∃ ao cap,v=.slice ao n cap/\n<=cap/\n=L.length/\(ao=none->cap=0)/\Rd w.heap.size w ao L:=by
 have hl:n=L.length:=by have:=h.1;simp at this;omega
 rcases h.2 with ⟨rfl,h0⟩|⟨g,cap,cur,rfl,hlo,hg,hn,hm,hs,ht⟩
 · refine⟨none,0,by rw[h0],by omega,hl,fun _=>rfl,?_⟩;have:L=[]:=EN.1 (by omega);rw[this];exact Rd.nil _ _ _
 · refine⟨_,cap,rfl,hn,hl,(fun e=>by cases e),fun _=>⟨g,0,(fV.1 hg).1,rfl,fun i hi=>?_⟩⟩;have h1:=Rw.cell h i (U (L.getD i 0)) (by simp[hi]);rw[dK];exact h1
theorem kE(xs:List Nat)(k:Nat):val (xs.take (k+1))=val (xs.take k)+pw k*xs.getD k 0:=by
 by_cases h:k<xs.length
 · exact mf xs k h
 · rw[iy (by omega),iy (by omega)];simp[fP,nZ (show xs.length<=k by omega)]
theorem Ke(p V c a b x y s d:Nat)(h:V+c*p=a+b)(e:s+d*4294967296=x+y+c):(V+p*s)+d*(4294967296*p)=(a+p*x)+(b+p*y):=qy p a b V c x y s d h e
theorem FJ(p V c a b x y s d:Nat)(h:V+b=a+c*p)(e:s+y+c=x+d*4294967296):(V+p*s)+(b+p*y)=(a+p*x)+d*(4294967296*p):=oz p a b V c x y s d h e
theorem Aq(xs:List Nat)(ao:Option Addr)(n cap B i:Nat)(w:World)(hn:n=xs.length)(hm:n<=70368744177664)(hx:Wf xs)(hR:Rd B w ao xs)(hi:i<=70368744177664) :
 Ax 188 #[.slice ao n cap,.int .i64 (i:Nat)] w (.int .u64 ((xs.getD i 0:Nat):Int)):=by
 by_cases hin:i<n
 · obtain⟨b,off,hB,rfl,hcell⟩:=hR (by intro e;subst e;simp at hn;omega);have hck:=hcell i (by omega);have hxl:=hx.get i;obtain⟨t,ht⟩:∃ t,xs.getD i 0=t:=⟨_,rfl⟩;rw[ht] at hck hxl |-;clear hcell hR hn hx ht;go_enter Tryz.func188,Tryz.ntmps188;go_wp2;go_ret;exact⟨rfl,rfl⟩
 · have e:xs.getD i 0=0:=by simp[fP,nZ (show xs.length<=i by omega)]
   rw[e];clear hR hn hx e;go_enter Tryz.func188,Tryz.ntmps188;exact Jx
theorem Oc(X Y V c n m N:Nat)(hX:X<pw n)(hY:Y<pw m)(hn:n<=N)(hm:m<=N)(h:V+c*pw (N+1)=X+Y):c=0:=by
 rcases kU c with h0|h0
 · exact h0
 · exfalso;have h1:=jK hn;have h2:=jK hm;have h3:1*pw (N+1)<=c*pw (N+1):=fQ _ h0;rw[bU] at h3 h;have:=jZ N;omega
theorem yq{P:Prop}(h:P:=by
 go_wp2_with fail;refine Vb.o.mono ?_;rintro r w1 ⟨v,rfl,EI,hb⟩;have HZ:=(aJ EI hb);clear EI hb;go_wp2;go_ret;have hsz:=HB.o.size;exact⟨v,rfl,HZ.o.1.mono hsz,HB.o.trans (HZ.o.2.mono hsz)⟩):P:=h
theorem Kg (xs ys:List Nat) (ao bo:Option Addr) (n cap m aX B:Nat) (w:World) (hn:n=xs.length) (hm:m=ys.length) (hc:n<=cap) (hcb:m<=aX) (hbig:n<=35184372088000) (hbig2:m<=35184372088000)
 (hx:Wf xs) (hy:Wf ys) (hR:Rd B w ao xs) (hS:Rd B w bo ys) (hB:B<=w.heap.size) :
 As 153 #[.slice ao n cap,.slice bo m aX] w fun r w'=>∃ v,r=.returned v/\Nt w.heap.size w' v (val xs+val ys)/\An w w':=by
 have hX:=df xs hx;have hY:=df ys hy;rw[<-hn] at hX;rw[<-hm] at hY;obtain⟨N,hN⟩:=af (max n m);have hnN:n<=N:=by omega
 have hmN:m<=N:=by omega
 have hNb:N<=35184372088000:=by omega
 have HR:=(xZ hR hS hn hm hx hy hB hX hY hN);clear hR hS hn hm hx hy hB hX hY hN;go_enter Tryz.func153,Tryz.ntmps153;go_wp2
 go_loopg [5,6,7] (N+1) (fun gk ov cv iv wr=>∃ (i c:Nat) (L:List Nat),gk+i=N+1/\cv=.int .u64 (c:Nat)/\c<=1/\iv=.int .i64 (i:Nat)/\Hid (Rw w.heap.size wr ov i (L.map U))/\Hid (An w wr) /\
  Aside (Wf L/\val L+c*pw i=val (xs.take i)+val (ys.take i)))
 case atStart=>exact⟨0,0,[],by omega,rfl,by omega,rfl,Cn _ _ _ _,aB _ _,Wf.nil,by simp[val]⟩
 case round =>
  obtain⟨i,c,L,hgi,rfl,hc1,rfl,HO,HB,HA⟩:=hrel
  by_cases hgo:i<n\/i<m\/c=1
  · have hiN:i<=N:=by
     rcases hgo with h|h|h
     · omega
     · omega
     · by_cases hi1:i=N+1
       · exfalso;obtain⟨hR,hS,hn,hm,hx,hy,hB,hX,hY,hN⟩:=HR.o;have h1:=HA.o.2;rw[iy (by omega),iy (by omega),hi1] at h1;have:=Oc _ _ _ _ _ _ _ hX hY hnN hmN h1;omega
       · omega
    obtain⟨hR,hS,hn,hm,hx,hy,hB,hX,hY,hN⟩:=HR.o;have HA1:=hid (Aq xs ao n cap B i wr hn (by omega) hx (hR.below (HB.o.mono hB)) (by omega));have HA2:=hid (Aq ys bo m aX B i wr hm (by omega) hy (hS.below (HB.o.mono hB)) (by omega));obtain⟨x,gF⟩:∃ x,xs.getD i 0=x:=⟨_,rfl⟩;obtain⟨y,qi⟩:∃ y,ys.getD i 0=y:=⟨_,rfl⟩;have hxl:x<4294967296:=gF ▸ hx.get i;have hyl:y<4294967296:=qi ▸ hy.get i;rw[gF] at HA1;rw[qi] at HA2;obtain⟨s,hs⟩:∃ s:Nat,s=(x+y+c)%4294967296:=⟨_,rfl⟩;obtain⟨d,hd⟩:∃ d:Nat,d=(x+y+c)/4294967296:=⟨_,rfl⟩;have e1:((x:Int)+y+c)%4294967296=(s:Int):=by omega
    have e2:((x:Int)+y+c)/4294967296=(d:Int):=by omega
    have hsz:=HB.o.size;obtain⟨v',w',hap,hown,hgrow,_,_⟩:=lZ (wr.alloc (.cells #[.int .u32 (s:Nat)] 91)) w.heap.size u5 i (L.map U) (.int .u32 (s:Nat)) wr.heap.size 35 (HO.o.alloc _) (by unfold World.cell?;simp only[gZ];rfl) rfl (by omega) (by simp;omega);have HX:Aside (xs.getD i 0=x/\ys.getD i 0=y/\s+d*4294967296=x+y+c/\s<4294967296/\d<=1):=⟨gF,qi,by omega,by omega,by omega⟩;have hbel:An w w':=(HB.o.alloc hsz _).grown hgrow (by simp;omega) (fun k hk=>(HO.o.lt k hk).1);have HI:=(aJ hown hbel);have J5:=hid hap;clear hap hown hgrow hbel hs hd gF qi hR hS hn hm hx hy hB hX hY hN hsz
    have Yp:(decide (i<n)=true)\/(decide (i<n)=false/\decide (i<m)=true)\/(decide (i<n)=false/\decide (i<m)=false/\decide (0<c)=true):=by
     by_cases a:i<n
     · exact .inl (decide_eq_true (by omega))
     · by_cases b:i<m
       · exact .inr (.inl ⟨decide_eq_false (by omega),decide_eq_true (by omega)⟩)
       · exact .inr (.inr ⟨decide_eq_false (by omega),decide_eq_false (by omega),decide_eq_true (by omega)⟩)
    rcases Yp with h1|⟨h1,h2⟩|⟨h1,h2,h3⟩
    all_goals (
     go_wp2_with fail;refine HA1.o.mono ?_;rintro r w1 ⟨rfl,rfl⟩;go_wp2_with fail;refine HA2.o.mono ?_;rintro r w1 ⟨rfl,rfl⟩
     go_wp2_with (at_builtin;refine dB rfl (.tmp 34) (.tmp 37) 35 rfl _ _ rfl rfl _ _ J5.o ?_)
     go_roundg (gk-1)
     case measure=>omega
     case rel =>
      obtain⟨a1,a2,a3,a4,a5⟩:=HX.o;obtain⟨sS,EH⟩:=HA.o;refine⟨i+1,d,L++[s],by omega,by first | rfl | rw[e2],a5,by first | go_num | (congr 1;omega),by rw[Cc];exact HI.o.1,HI.o.2,sS.append (Wf.cons a4 Wf.nil),?_⟩;have sQ:L.length=i:=by have:=HO.o.1;simp at this;omega
      rw[val_append,sQ,kE,kE,a1,a2,bU]
      simpa [val] using Ke (pw i) _ _ _ _ x y s d EH a3)
  · have hi:N<=i:=by have:=HR.o.2.2.2.2.2.2.2.2.2;omega
    obtain rfl:c=0:=by omega
    obtain⟨aoo,Ws,hsh,hcap,hl,hnil,Yq⟩:=HO.o.words;subst hsh;obtain⟨hR,hS,hn,hm,hx,hy,hB,hX,hY,hN⟩:=HR.o;have Vb:=hid (jG L aoo i Ws wr.heap.size wr hl hcap (by omega) HA.o.1 Yq hnil)
    have EH:val L=val xs+val ys:=by
     have h1:=HA.o.2;rw[iy (by omega),iy (by omega)] at h1;omega
    rw[EH] at Vb;have h1:decide (i<n)=false:=decide_eq_false (by omega);have h2:decide (i<m)=false:=decide_eq_false (by omega);clear hR hS hn hm hx hy hB hX hY hN hl hnil Yq EH hgo HO;exact yq
theorem yV(xs:List Nat)(hx:Wf xs)(k r:Nat)(hk:k<xs.length)(hr:r<32):val xs/2^(32*k+r)%2=xs.getD k 0/2^r%2:=by
 have e:=fM xs k (by omega)
 have hl:val (xs.take k)<pw k:=by
  have:=df _ (hx.take k);rwa [iw,jd (by omega)] at this
 rw[mg,<-nP,e,qV _ _ (jZ k),gY hl,dK,dV xs k hk]
 have e2:4294967296*val (xs.drop (k+1))=2^r*(2*(2^(31-r)*val (xs.drop (k+1)))):=by
  have:(4294967296:Nat)=2^r*(2*2^(31-r)):=by
   rw[<-aM,cZ (2^r) 2,aM,<-aL,show r+(31-r)=31 by omega]
  rw[this];grind
 rw[e2,qV _ _ (bz r),zI]
theorem Qap{P:Prop}(h:P:=by
 exact fq (by decide) (by omega)):P:=h
theorem wF(xs:List Nat)(hx:Wf xs)(i:Nat)(h:xs.length<=i/32):val xs/2^i%2=0:=by
 have h1:=df xs hx
 have h2:pw xs.length<=2^i:=by
  have:pw xs.length=2^(32*xs.length):=by rw[<-gW (32*xs.length),mg];simp
  rw[this];exact Qap
 rw[gY (by omega)]
theorem and_one(z:Nat)(h:z<4294967296):bits BinOp.and IntKind.u32 (z:Int) 1=((z%2:Nat):Int):=by
 have:=Ia z 1 h (by decide);rw[Nat.and_one_is_mod] at this;exact this
theorem RP(ao:Option Addr)(n cap:Nat)(i:Int)(w:World)(hi:i<0) :
 Ax 179 #[.slice ao n cap,.int .i64 i] w (.bool false):=by
 go_enter Tryz.func179,Tryz.ntmps179;go_wp2;go_ret;exact⟨rfl,rfl⟩
theorem Qam{P:Prop}(h:P:=by
 rw[hz2] at e4 |-;clear hz2;go_enter Tryz.func179,Tryz.ntmps179;go_wp2;go_ret;exact⟨rfl,rfl⟩):P:=h
theorem rD(xs:List Nat)(ao:Option Addr)(n cap B i:Nat)(w:World)(hn:n=xs.length)(hx:Wf xs)(hR:Rd B w ao xs)(hi:i<=9223372036854775807) :
 Ax 179 #[.slice ao n cap,.int .i64 (i:Int)] w (.bool (decide (val xs/2^i%2=1))):=by
 obtain⟨k,hk⟩:=af (i/32);obtain⟨r,hr⟩:=af (i%32);have e1:(i:Int)/32=(k:Int):=by omega
 have e2:(i:Int)%32=(r:Int):=by omega
 by_cases hkn:k<n
 · have hb:=yV xs hx k r (by omega) (by omega);rw[show 32*k+r=i by omega] at hb;rw[hb];obtain⟨b,off,hB,rfl,hcell⟩:=hR (by intro e;subst e;simp at hn;omega);have hck:=hcell k (by omega);obtain⟨t,ht⟩:∃ t,xs.getD k 0=t:=⟨_,rfl⟩;have htl:t<4294967296:=ht ▸ hx.get k;rw[ht] at hck |-;obtain⟨z,hz⟩:=af (t/2^r);have hzt:z<=t:=by rw[hz];exact nO _ _
   have e3:(t:Int)/2^r=(z:Int):=by rw[hz];simp
   have e4:=and_one z (by omega);have hr32:r<32:=by omega
   rw[<-hz];clear hb hn hx hR hcell ht hz hk hr;rcases(by omega:z%2=0\/z%2=1) with hz2|hz2
   · exact Qam
   · exact Qam
 · rw[wF xs hx i (by omega)];clear hn hx hR hk hr;go_enter Tryz.func179,Tryz.ntmps179;go_wp2;go_ret;exact⟨rfl,rfl⟩
def FK(X:Nat):Value:=if X<18446744073709551616 then .tuple #[.int .u64 (X:Int),.int .i64 0] else .tuple #[.int .u64 0,.int .i64 2]
theorem Wt(xs:List Nat)(hx:Wf xs):nl xs<=2↔val xs<18446744073709551616:=by
 rw[fI xs hx,aP];rfl
theorem Kh(xs:List Nat)(ao:Option Addr)(n cap B:Nat)(w:World)(hn:n=xs.length)(hc:n<=cap)(hm:n<=70368744177664)(hx:Wf xs)(hR:Rd B w ao xs) :
 Ax 196 #[.slice ao n cap] w (FK (val xs)):=by
 have H:=hid (dW xs ao n cap B w hn hc (by omega) hR);have hl:=jN xs;have h2:=Wt xs hx;have hf:=kX xs hx;obtain⟨m,hm'⟩:∃ m,nl xs=m:=⟨_,rfl⟩;rw[hm'] at H hl h2 hf;unfold FK
 by_cases h:2<m
 · rw[if_neg (by omega)];clear h2 hl hn hx hR hm' hf;go_enter Tryz.func196,Tryz.ntmps196;go_wp2_with fail;refine H.o.mono ?_;rintro r w1 ⟨rfl,rfl⟩;go_wp2
   go_ret2
   exact Vc
 · rw[if_pos (by omega)];rw[<-jO] at hf;have HR:=(dJ hR hn hx hl hf);have hm2:m<=2:=by omega
   clear h2 hl hn hx hR hm' hf h;go_enter Tryz.func196,Tryz.ntmps196;go_wp2_with fail;refine H.o.mono ?_;rintro r w1 ⟨rfl,rfl⟩;go_wp2
   go_loopg [4,14] m (fun gk s i wr=>∃ (k sv:Nat),gk+k=m/\s=.int .u64 (sv:Nat)/\i=.int .i64 (k:Nat)/\wr=w1/\Aside (sv=sg xs 0 k))
   case atStart=>exact⟨0,0,by omega,rfl,rfl,rfl,(dZ _ _).symm⟩
   case round =>
    obtain⟨k,sv,Ff,rfl,rfl,rfl,HA⟩:=hrel
    by_cases hk:k<m
    · obtain⟨hR,hn,hx,hl,hf⟩:=HR.o;obtain⟨b,off,hB,rfl,hcell⟩:=hR (by intro e;subst e;simp at hl;omega);have hck:=hcell k (by omega);obtain⟨t,ht⟩:∃ t,xs.getD k 0=t:=⟨_,rfl⟩;have htl:t<4294967296:=ht ▸ hx.get k;rw[ht] at hck;have hs1:=nT xs 0 k hx (by omega);have hs2:=bC xs 0 k (by omega);rw[dK,ht,<-HA.o] at hs2;rw[<-HA.o] at hs1;have HX:=(aJ hs1 hs2);clear hR hn hx hl hf hcell ht hs1 hs2;rcases(by omega:k=0\/k=1) with rfl|rfl
      · have hsv:sv=0:=by have:=HX.o.1;rw[jo] at this;omega
        have e:bits BinOp.or IntKind.u64 (sv:Int) (t:Int)=(t:Int):=by rw[bits_or_u64_nat _ _ (by omega) (by omega),hsv,Nat.zero_or]
        rw[gW] at hck;have HS:=(ak hsv);clear hsv;go_wp2;go_roundg (gk-1)
        case measure=>omega
        case rel =>
         refine⟨1,t,by omega,by first | rfl | rw[e],by go_num,rfl,?_⟩;have:=HX.o.2;rw[jo,HS.o] at this;rw[Aside,this];omega
      · have hsv:sv<4294967296:=by have:=HX.o.1;rw[show(1:Nat)=0+1 from rfl,bU,jo] at this;omega
        have e:=wy t sv htl hsv;go_wp2;go_roundg (gk-1)
        case measure=>omega
        case rel =>
         refine⟨2,sv+t*4294967296,by omega,by first | rfl | rw[e] | (rw[e];rfl),by go_num,rfl,?_⟩;have:=HX.o.2;rw[show pw 1=4294967296 from rfl] at this;rw[Aside,this];omega
    · obtain rfl:k=m:=by omega
      go_wp2
      go_ret2
      obtain⟨hR,hn,hx,hl,hf⟩:=HR.o;rw[<-hf,<-HA.o];exact Vc
theorem wG(ys:List Nat)(hy:Wf ys)(n:Nat)(h:val ys<pw n):val (ys.take n)=val ys:=by
 by_cases hn:n<=ys.length
 · have h1:=fM ys n hn
   have:val (ys.drop n)=0:=by
    rcases kU (val (ys.drop n)) with h0|h0
    · exact h0
    · have h2:pw n*1<=pw n*val (ys.drop n):=gX _ h0;omega
   rw[this] at h1;omega
 · rw[iy (by omega)]
theorem Ki(V Y X c p:Nat)(hV:V<p)(hle:Y<=X)(hc:c<=1)(h:V+Y=X+c*p):V=X-Y:=by
 rcases(by omega:c=0\/c=1) with rfl|rfl <;> omega
theorem FL (xs ys:List Nat) (ao bo:Option Addr) (n cap m aX B:Nat) (w:World) (hn:n=xs.length) (hm:m=ys.length) (hc:n<=cap) (hcb:m<=aX) (hbig:n<=35184372088000) (hbig2:m<=35184372088000)
 (hx:Wf xs) (hy:Wf ys) (hR:Rd B w ao xs) (hS:Rd B w bo ys) (hB:B<=w.heap.size) (hle:val ys<=val xs) :
 As 155 #[.slice ao n cap,.slice bo m aX] w fun r w'=>∃ v,r=.returned v/\Nt w.heap.size w' v (val xs-val ys)/\An w w':=by
 have hX:=df xs hx;rw[<-hn] at hX;have HR:=(Rj hR hS hn hm hx hy hB hX hle);clear hR hS hn hm hx hy hB hX hle;go_enter Tryz.func155,Tryz.ntmps155;go_wp2
 go_loopg [5,6,7] n (fun gk ov cv iv wr=>∃ (i c:Nat) (L:List Nat),gk+i=n/\cv=.int .u64 (c:Nat)/\c<=1/\iv=.int .i64 (i:Nat)/\Hid (Rw w.heap.size wr ov i (L.map U))/\Hid (An w wr) /\
  Aside (Wf L/\val L+val (ys.take i)=val (xs.take i)+c*pw i))
 case atStart=>exact⟨0,0,[],by omega,rfl,by omega,rfl,Cn _ _ _ _,aB _ _,Wf.nil,by simp[val]⟩
 case round =>
  obtain⟨i,c,L,hgi,rfl,hc1,rfl,HO,HB,HA⟩:=hrel
  by_cases hgo:i<n
  · obtain⟨hR,hS,hn,hm,hx,hy,hB,hX,hle⟩:=HR.o;have HA1:=hid (Aq xs ao n cap B i wr hn (by omega) hx (hR.below (HB.o.mono hB)) (by omega));have HA2:=hid (Aq ys bo m aX B i wr hm (by omega) hy (hS.below (HB.o.mono hB)) (by omega));obtain⟨x,gF⟩:∃ x,xs.getD i 0=x:=⟨_,rfl⟩;obtain⟨y,qi⟩:∃ y,ys.getD i 0=y:=⟨_,rfl⟩;have hxl:x<4294967296:=gF ▸ hx.get i;have hyl:y<4294967296:=qi ▸ hy.get i;rw[gF] at HA1;rw[qi] at HA2;obtain⟨s,hs⟩:∃ s:Nat,s=(x+4294967296-y-c)%4294967296:=⟨_,rfl⟩;obtain⟨q,hq⟩:∃ q:Nat,q=(x+4294967296-y-c)/4294967296:=⟨_,rfl⟩;obtain⟨d,hd⟩:∃ d:Nat,d=1-q:=⟨_,rfl⟩;have e1:((x:Int)+4294967296-y-c)%4294967296=(s:Int):=by omega
    have e2:((x:Int)+4294967296-y-c)/4294967296=(q:Int):=by omega
    have e3:(1:Int)-(q:Int)=(d:Int):=by omega
    have hsz:=HB.o.size;obtain⟨v',w',hap,hown,hgrow,_,_⟩:=lZ (wr.alloc (.cells #[.int .u32 (s:Nat)] 91)) w.heap.size u5 i (L.map U) (.int .u32 (s:Nat)) wr.heap.size 35 (HO.o.alloc _) (by unfold World.cell?;simp only[gZ];rfl) rfl (by omega) (by simp;omega);have HX:Aside (xs.getD i 0=x/\ys.getD i 0=y/\s+y+c=x+d*4294967296/\s<4294967296/\d<=1):=⟨gF,qi,by omega,by omega,by omega⟩;have hbel:An w w':=(HB.o.alloc hsz _).grown hgrow (by simp;omega) (fun k hk=>(HO.o.lt k hk).1);have HI:=(aJ hown hbel);have J5:=hid hap;clear hap hown hgrow hbel hs hd hq gF qi hR hS hn hm hx hy hB hX hsz hle;go_wp2_with fail;refine HA1.o.mono ?_;rintro r w1 ⟨rfl,rfl⟩;go_wp2_with fail;refine HA2.o.mono ?_;rintro r w1 ⟨rfl,rfl⟩
    go_wp2_with (at_builtin;refine dB rfl (.tmp 25) (.tmp 28) 35 rfl _ _ rfl rfl _ _ J5.o ?_)
    go_roundg (gk-1)
    case measure=>omega
    case rel =>
     obtain⟨a1,a2,a3,a4,a5⟩:=HX.o;obtain⟨sS,EH⟩:=HA.o;refine⟨i+1,d,L++[s],by omega,by first | rfl | rw[e3] | rw[e2,e3],a5,by first | go_num | (congr 1;omega),by rw[Cc];exact HI.o.1,HI.o.2,sS.append (Wf.cons a4 Wf.nil),?_⟩;have sQ:L.length=i:=by have:=HO.o.1;simp at this;omega
     rw[val_append,sQ,kE,kE,a1,a2,bU];simpa [val] using FJ (pw i) _ _ _ _ x y s d EH a3
  · obtain rfl:i=n:=by omega
    obtain⟨aoo,Ws,hsh,hcap,hl,hnil,Yq⟩:=HO.o.words;subst hsh;obtain⟨hR,hS,hn,hm,hx,hy,hB,hX,hle⟩:=HR.o;have Vb:=hid (jG L aoo i Ws wr.heap.size wr hl hcap (by omega) HA.o.1 Yq hnil)
    have EH:val L=val xs-val ys:=by
     have h1:=HA.o.2;rw[iy (l:=xs) (by omega),wG ys hy i (by omega)] at h1;have h2:=df L HA.o.1;rw[<-hl] at h2;exact Ki _ _ _ _ _ h2 hle hc1 h1
    rw[EH] at Vb;clear hR hS hn hm hx hy hB hX hl hnil Yq EH hgo HO hle;exact yq
theorem Below.drewN'{B:Nat}{a w:World}(h:Below B a w)(n:Nat):Below B a (w.drewN n):=⟨h.os,h.tape,h.output,h.size,h.block⟩
theorem Od (xs ys:List Nat) (ao bo:Option Addr) (n cap m aX B:Nat) (w:World) (hn:n=xs.length) (hm:m=ys.length) (hbig:n<=70368744177664) (hbig2:m<=70368744177664)
 (hx:Wf xs) (hy:Wf ys) (hR:Rd B w ao xs) (hS:Rd B w bo ys) :
 At 154 #[.slice ao n cap,.slice bo m aX] w (.int .i64 (bu (val xs) (val ys))):=by
 have H1:=hid (ou xs ao n cap B w hn (by omega) hR);have H2:=hid (ou ys bo m aX B w hm (by omega) hS);have hl1:=jN xs;have hl2:=jN ys;have f1:=kX xs hx;have f2:=kX ys hy;rw[<-jO] at f1 f2;rcases nQ (nl xs) (nl ys) with he|he|he
 · rw[nA (vN xs ys hx hy he)];obtain⟨k1,hk1⟩:∃ k,nl xs=k:=⟨_,rfl⟩;obtain⟨k2,hk2⟩:∃ k,nl ys=k:=⟨_,rfl⟩;rw[hk1] at H1 he;rw[hk2] at H2 he;clear hk1 hk2 hn hm hx hy hR hS f1 f2 hl1 hl2;go_enter Tryz.func154,Tryz.ntmps154;go_wp2_with fail;refine H1.o.mono ?_;rintro r w1 ⟨rfl,rfl⟩;go_wp2_with fail;refine H2.o.mono ?_;rintro r w1 ⟨rfl,rfl⟩;have hne:decide (k1=k2)=false:=decide_eq_false (by omega);have hne2:k1≠k2:=by omega
   exact Qad
 · obtain⟨k0,hk0⟩:∃ k,nl ys=k:=⟨_,rfl⟩;rw[he] at H1 hl1 f1;rw[hk0] at H1 H2 hl1 hl2 f1 f2;have HR:=(xZ hR hS hn hm hx hy hl1 hl2 f1 f2);have hkn:k0<=n:=by omega
   have hkm:k0<=m:=by omega
   clear hR hS hn hm hx hy hl1 hl2 f1 f2 he hk0;go_enter Tryz.func154,Tryz.ntmps154;go_wp2_with fail;refine H1.o.mono ?_;rintro r w1 ⟨rfl,rfl⟩;go_wp2_with fail;refine H2.o.mono ?_;rintro r w1 ⟨rfl,rfl⟩;go_wp2
   go_loopg [5] k0 (fun k i wr=>k<=k0/\i=.int .i64 ((k:Int)-1)/\Hid (An w1 wr)/\Aside (sg xs k (k0-k)=sg ys k (k0-k)))
   case atStart=>exact⟨aA _,by first | rfl | go_num,aB _ _,by rw[yE,dZ,dZ];exact rfl⟩
   case round =>
    obtain⟨hk,rfl,HB,HA⟩:=hrel
    by_cases hk0:gk=0
    · exact xa
    · obtain⟨k,rfl⟩:∃ k,gk=k+1:=⟨gk-1,by omega⟩;obtain⟨hR,hS,hn,hm,hx,hy,hl1,hl2,f1,f2⟩:=HR.o;obtain⟨b,off,hB1,rfl,hc1⟩:=hR (by intro e;subst e;simp at hl1;omega);obtain⟨b2,yf,hB2,rfl,hc2⟩:=hS (by intro e;subst e;simp at hl2;omega)
      have g1:wr.cell? ⟨b,off+k,none⟩=some (.int .u32 ((xs.getD k 0:Nat):Int)) :=
       (HB.o.cell (p:=⟨b,off+k,none⟩) (lK w1 ⟨b,off+k,none⟩ (hc1 k (by omega)))).trans (hc1 k (by omega))
      have g2:wr.cell? ⟨b2,yf+k,none⟩=some (.int .u32 ((ys.getD k 0:Nat):Int)) :=
       (HB.o.cell (p:=⟨b2,yf+k,none⟩) (lK w1 ⟨b2,yf+k,none⟩ (hc2 k (by omega)))).trans (hc2 k (by omega))
      obtain⟨x,gF⟩:∃ x:Nat,xs.getD k 0=x:=⟨_,rfl⟩;obtain⟨y,qi⟩:∃ y:Nat,ys.getD k 0=y:=⟨_,rfl⟩;rw[gF] at g1;rw[qi] at g2;have HX:=(aJ gF qi);have hki:(k:Int)<(n:Int):=by omega
      have hki0:0<=(k:Int):=by omega
      have hki2:(k:Int)<(m:Int):=by omega
      clear hR hS hn hm hx hy hl1 hl2 f1 f2 hc1 hc2 gF qi hk0;rcases nQ x y with hxy|hxy|hxy
      · go_wp2
        go_quiet (fail)
        go_wp2;go_ret;obtain⟨hR,hS,hn,hm,hx,hy,hl1,hl2,f1,f2⟩:=HR.o;have h:=HA.o;have t1:=pz xs ys hx hy k (k0-(k+1)) (by omega) (by omega) h (by rw[HX.o.1,HX.o.2];exact hxy);rw[show k+1+(k0-(k+1))=k0 by omega,f1,f2] at t1;rw[nA t1];exact⟨rfl,Below.drewN' HB.o _⟩
      · subst hxy;go_wp2
        go_quiet (fail)
        go_wp2
        go_quiet (fail)
        go_wp2;go_roundg k
        case measure=>omega
        case rel =>
         obtain⟨hR,hS,hn,hm,hx,hy,hl1,hl2,f1,f2⟩:=HR.o;refine⟨by omega,by first | go_num | (congr 1;omega),hid (Below.drewN' HB.o _),?_⟩;have h:=HA.o;obtain⟨r,hr⟩:∃ r,k0-k=r+1:=⟨k0-(k+1),by omega⟩;rw[show k0-(k+1)=r by omega] at h;rw[Aside,hr,kY xs k r (by omega),kY ys k r (by omega),h,HX.o.1,HX.o.2]
      · have hxy2:decide (x<y)=false:=decide_eq_false (by omega);go_wp2
        go_quiet (fail)
        go_wp2
        go_quiet (fail)
        go_wp2;go_ret;obtain⟨hR,hS,hn,hm,hx,hy,hl1,hl2,f1,f2⟩:=HR.o;have h:=HA.o;have t1:=pz ys xs hy hx k (k0-(k+1)) (by omega) (by omega) h.symm (by rw[HX.o.1,HX.o.2];exact hxy);rw[show k+1+(k0-(k+1))=k0 by omega,f1,f2] at t1;rw[pE t1];exact⟨rfl,Below.drewN' (Below.drewN' HB.o _) _⟩
 · rw[pE (vN ys xs hy hx he)];obtain⟨k1,hk1⟩:∃ k,nl xs=k:=⟨_,rfl⟩;obtain⟨k2,hk2⟩:∃ k,nl ys=k:=⟨_,rfl⟩;rw[hk1] at H1 he;rw[hk2] at H2 he;clear hk1 hk2 hn hm hx hy hR hS f1 f2 hl1 hl2;go_enter Tryz.func154,Tryz.ntmps154;go_wp2_with fail;refine H1.o.mono ?_;rintro r w1 ⟨rfl,rfl⟩;go_wp2_with fail;refine H2.o.mono ?_;rintro r w1 ⟨rfl,rfl⟩;have hne:decide (k1=k2)=false:=decide_eq_false (by omega);have hlt:decide (k1<k2)=false:=decide_eq_false (by omega);have hne2:k1≠k2:=by omega
   exact Qad
theorem Qan{P:Prop}(h:P:=by
 rw[hz2] at e4 |-;clear hz2;go_enter Tryz.func137,Tryz.ntmps137;go_wp2;go_ret;exact⟨rfl,rfl⟩):P:=h
theorem Oe(xs:List Nat)(ao:Option Addr)(n cap B i:Nat)(w:World)(hn:n=xs.length)(hx:Wf xs)(hR:Rd B w ao xs)(hi:i<=9223372036854775807) :
 Ax 137 #[.slice ao n cap,.int .i64 (i:Int)] w (.bool (decide (val xs/2^i%2=1))):=by
 obtain⟨k,hk⟩:=af (i/32);obtain⟨r,hr⟩:=af (i%32);have e1:(i:Int)/32=(k:Int):=by omega
 have e2:(i:Int)%32=(r:Int):=by omega
 by_cases hkn:k<n
 · have hb:=yV xs hx k r (by omega) (by omega);rw[show 32*k+r=i by omega] at hb;rw[hb];obtain⟨b,off,hB,rfl,hcell⟩:=hR (by intro e;subst e;simp at hn;omega);have hck:=hcell k (by omega);obtain⟨t,ht⟩:∃ t,xs.getD k 0=t:=⟨_,rfl⟩;have htl:t<4294967296:=ht ▸ hx.get k;rw[ht] at hck |-;obtain⟨z,hz⟩:=af (t/2^r);have hzt:z<=t:=by rw[hz];exact nO _ _
   have e3:(t:Int)/2^r=(z:Int):=by rw[hz];simp
   have e4:=and_one z (by omega);have hr32:r<32:=by omega
   have hnk:decide ((n:Int)<=(k:Int))=false:=decide_eq_false (by omega);have hnk2:decide (n<=k)=false:=decide_eq_false (by omega);rw[<-hz];clear hb hn hx hR hcell ht hz hk hr;rcases(by omega:z%2=0\/z%2=1) with hz2|hz2
   · exact Qan
   · exact Qan
 · rw[wF xs hx i (by omega)];have hnk:decide ((n:Int)<=(k:Int))=true:=decide_eq_true (by omega);clear hn hx hR hk hr;go_enter Tryz.func137,Tryz.ntmps137;go_wp2;go_ret;exact⟨rfl,rfl⟩
theorem CG (M M2 xs bs:List Nat) (k n m c y:Nat) (gJ:M.length=n+m) (hk:k<n) (hn:n=xs.length) (hm:m=bs.length) (hMs:sg M 0 (k+m)=sg xs 0 k*val bs) (hy:xs.getD k 0=y)
 (hout:Out M M2 k m) (hsum:sg M2 k m+c*pw m=sg M k m+val bs*y):sg (M2.set (k+m) c) 0 (k+1+m)=sg xs 0 (k+1)*val bs:=by
 have e1:=cO M2 0 (k+m) c (by rw[hout.1];omega);rw[dK] at e1;have e2:=iW M2 0 k m (by rw[hout.1];omega);have e3:=iW M 0 k m (by omega);rw[dK] at e2 e3;have e4:=hout.below 0 k (by omega) (by omega);rw[show k+1+m=k+m+1 by omega,e1,e2,e4,bC xs 0 k (by omega),dK,hy,qx];rw[e3] at hMs;rw[cZ c] at hsum;have:=CB (pw k) _ _ y _ _ c hMs;rw[<-hsum] at this;rw[<-this,jM,aM,qc]
theorem FO (xs bs:List Nat) (ao bo:Option Addr) (n cap m aX B:Nat) (w:World) (hn:n=xs.length) (hm:m=bs.length) (hc:n<=cap) (hcb:m<=aX) (hbig:n+m<=35184372088832)
 (hx:Wf xs) (hb:Wf bs) (hR:Rd B w ao xs) (hS:Rd B w bo bs) (hB:B<=w.heap.size) :
 As 111 #[.slice ao n cap,.slice bo m aX] w fun r w'=>∃ v,r=.returned v/\Nt w.heap.size w' v (val xs*val bs)/\Below w.heap.size w w':=by
 obtain⟨W1,hW1⟩:=af (w.alloc (.cells (madeCells #[.int .u32 0] (n+m)) 91));have ni:Own W1 w.heap.size (List.replicate (n+m) 0):=by rw[hW1];exact Own.made w (n+m)
 have hB1:Below w.heap.size w W1:=by rw[hW1];exact(aB _ _).alloc (aA _) _
 have hmk:=dI ((n:Int)+m) (n+m) (by omega) (by omega) w;rw[<-hW1] at hmk;have qO:Rd B W1 ao xs:=hR.below (hB1.mono hB);have hS1:Rd B W1 bo bs:=hS.below (hB1.mono hB);obtain⟨g,hg⟩:=af (w.heap.size);rw[<-hg] at ni hmk hB1 hB;have HR:=(qb qO hS1 hm hb hx hn hB1 hg);have HO:=hid ni;clear hn hm hx hb hR hS ni hB1 hW1 qO hS1 hg;go_enter Tryz.func111,Tryz.ntmps111;go_wp2
 go_loopg [6] n (fun gk i wr=>∃ (k:Nat) (M:List Nat),gk+k=n/\i=.int .i64 (k:Nat) /\
  Hid (Own wr g M)/\Aside (Wf M/\M.length=n+m/\sg M 0 (k+m)=sg xs 0 k*val bs/\But g W1 wr))
 case atStart=>exact⟨0,_,by omega,rfl,HO,Wf.zeros _,by simp,by rw[q9,dZ];simp,But.refl _ _⟩
 case round =>
  obtain⟨i,L,Ff,rfl,HM,HA⟩:=hrel
  by_cases hi:i<n
  · obtain⟨hR,hS,hm,hb,hx,hn,hB1,hg⟩:=HR.o;obtain⟨a,RS,haB,rfl,hac⟩:=hR (by intro e;subst e;simp at hn;omega);have Ru:g<=W1.heap.size:=by have:=hB1.size;omega
    have HAC:Aside (W1.cell? ⟨a,RS+i,none⟩=some (.int .u32 ((xs.getD i 0:Nat):Int))/\a<B/\a<W1.heap.size):=⟨hac i (by omega),haB,lK W1 ⟨a,RS+i,none⟩ (hac i (by omega))⟩;obtain⟨q,hq⟩:∃ q:Nat,xs.getD i 0=q:=⟨_,rfl⟩;have hql:q<4294967296:=hq ▸ hx.get _;rw[hq] at HAC;have HQ:=ak hq;clear hq hR hS hm hb hx hn hB1 hg hac;go_wp2
    go_loopg [7,8] m (fun gk c kv w2=>∃ (k cv:Nat) (M:List Nat),gk+k=m/\c=.int .u64 (cv:Nat)/\cv<4294967296/\kv=.int .i64 (k:Nat) /\
     Hid (Own w2 g M)/\Aside (Wf M/\Out L M i k/\sg M i k+cv*pw k=sg L i k+sg bs 0 k*q/\But g W1 w2))
    case atStart=>exact⟨0,0,L,by omega,rfl,by omega,rfl,HM,HA.o.1,Out.refl _ _ _,by simp[dZ],HA.o.r3⟩
    case round =>
     obtain⟨k,cv,M,hgk2,rfl,hcv,rfl,HN,HC⟩:=hrel
     by_cases hk:k<m
     · obtain⟨hR,hS,hm,hb,hx,hn,hB1,hg⟩:=HR.o;obtain⟨dw,fO,hMs,aG⟩:=HC.o;obtain⟨sS,sQ,_,_⟩:=HA.o;obtain⟨b,fT,MI,rfl,hbc⟩:=hS (by intro e;subst e;simp at hm;omega)
       have hbk:wr.cell? ⟨b,fT+k,none⟩=some (.int .u32 ((bs.getD k 0:Nat):Int)):=by
        have h1:=aG.block b (lK W1 ⟨b,fT+k,none⟩ (hbc k (by omega))) (by omega);exact zc
       have hak:wr.cell? ⟨a,RS+i,none⟩=some (.int .u32 (q:Nat)):=by
        have h1:=aG.block a HAC.o.r2 (by have:=HAC.o.2.1;omega);exact(x8 (a:=⟨a,RS+i,none⟩) h1).trans HAC.o.1
       have hgc:=HN.o.cell (i+k) (by rw[fO.1];omega);have hgf:=HN.o.frozen (i+k);obtain⟨x,gF⟩:∃ x:Nat,M.getD (i+k) 0=x:=⟨_,rfl⟩;obtain⟨y,qi⟩:∃ y:Nat,bs.getD k 0=y:=⟨_,rfl⟩;have hxl:x<4294967296:=gF ▸ dw.get _;have hyl:y<4294967296:=qi ▸ hb.get _;rw[gF] at hgc;rw[qi] at hbk;have hp0:=sO q y hql hyl;have hp2:(q:Int)*(y:Int)<=18446744065119617025:=by rw[<-fZ];omega
       have hp1:0<=(q:Int)*(y:Int):=by rw[<-fZ];omega
       obtain⟨s,hs⟩:∃ s:Nat,s=(q*y+x+cv)%4294967296:=⟨_,rfl⟩;obtain⟨d,hd⟩:∃ d:Nat,d=(q*y+x+cv)/4294967296:=⟨_,rfl⟩;have e0:((q*y+x+cv:Nat):Int)=(q:Int)*y+x+cv:=by simp only[Hz,fZ]
       have e1:((q:Int)*y+x+cv)%4294967296=(s:Int):=by rw[<-e0];omega
       have e2:((q:Int)*y+x+cv)/4294967296=(d:Int):=by rw[<-e0];omega
       have HX:Aside (M.getD (i+k) 0=x/\bs.getD k 0=y/\s+d*4294967296=y*q+x+cv/\s<4294967296/\d<4294967296):=⟨gF,qi,by rw[cZ y q];omega,by omega,by omega⟩;have hik:i+k<n+m:=by omega
       clear gF qi hs hd hR hS hm hb hx hn hB1 hg dw fO hMs aG hbc e0 hp0 sS sQ;go_wp2
       go_quiet (fail)
       go_wp2;go_roundg (gk-1)
       case measure=>omega
       case rel =>
        obtain⟨gF,qi,he,hs,hd⟩:=HX.o;obtain⟨hR,hS,hm,hb,hx,hn,hB1,hg⟩:=HR.o;obtain⟨dw,fO,hMs,aG⟩:=HC.o;obtain⟨sS,sQ,_,_⟩:=HA.o;refine⟨k+1,d,M.set (i+k) s,by omega,by first | rfl | rw[e2],hd,by first | go_num | (congr 1;omega),HN.o.set _ _,dw.set _ _ hs,(fO.mono (by omega)).set _ _ (by omega) (by omega),?_,(But.drewN aG _).set _ _⟩;rw[cO _ _ _ _ (by rw[fO.1];omega),bC L i k (by omega),bC bs 0 k (by omega),dK,qi,bU];have e:L.getD (i+k) 0=x:=by rw[<-gF];exact(fO.2 _ (by omega)).symm
        rw[e];exact wm _ _ _ _ _ _ _ _ _ _ hMs he
     · obtain rfl:k=m:=by omega
       obtain⟨sS,sQ,hLs,hLb⟩:=HA.o;have hgc:=HN.o.cell (i+k) (by rw[HC.o.2.1.1];omega);have hgf:=HN.o.frozen (i+k);have hik:i+k<n+k:=by omega
       have hcm:(cv:Int)%4294967296=(cv:Int):=by omega
       clear sS sQ hLs hLb;go_wp2;go_roundg (n-(i+1))
       case measure=>omega
       case rel =>
        obtain⟨hR,hS,hm,hb,hx,hn,hB1,hg⟩:=HR.o;obtain⟨dw,fO,hMs,aG⟩:=HC.o;obtain⟨sS,sQ,hLs,hLb⟩:=HA.o;refine⟨i+1,M.set (i+k) cv,by omega,by first | go_num | (congr 1;omega),HN.o.set _ _,dw.set _ _ hcv,by simp[fO.1,sQ],?_,aG.set _ _⟩;have e2:sg bs 0 k=val bs:=by rw[hm];exact dL bs
        rw[e2] at hMs;exact CG L M xs bs i n k cv q sQ hi hn hm hLs HQ.o fO hMs
  · obtain rfl:i=n:=by omega
    obtain⟨dw,gJ,hMs,aG⟩:=HA.o;have T:=hid (jG L (some ⟨g,0,none⟩) (i+m) (i+m) (g+1) wr gJ.symm (aA _) (by omega) dw (by simpa [gJ,iy] using Rd.gD HM.o 0 (i+m)) (fun e=>by cases e));clear dw gJ hMs aG;go_wp2_with fail;refine T.o.mono ?_;rintro r w1 ⟨v,rfl,EI,hbb⟩;have HZ:=(aJ EI hbb);clear EI hbb;go_wp2;go_ret;obtain⟨hR,hS,hm,hb,hx,hn,hB1,hg⟩:=HR.o;obtain⟨dw,gJ,hMs,aG⟩:=HA.o;have e1:sg L 0 (i+m)=val L:=by rw[<-gJ];exact dL L
    have e2:sg xs 0 i=val xs:=by rw[hn];exact dL xs
    rw[e1,e2] at hMs;have hsz1:=hB1.size;have hsz2:=aG.size;have hbel:Below g w wr:=But.below hB1 aG (by omega) (aA _);rw[<-hMs,<-hg];exact⟨v,rfl,HZ.o.1.mono (by omega),hbel.trans (HZ.o.2.mono (by omega))⟩
theorem lg{w:World}{a b:Option Addr}{n c m d:Nat}{xs ys:List Nat}{V:Nat}(h1:Arg w a n c xs)(h2:Arg w b m d ys)(hs:n+m<=35184372088832)(e:val xs*val ys=V) :
 As 111 #[.slice a n c,.slice b m d] w fun r w'=>∃ v,r=.returned v/\Nt w.heap.size w' v V/\An w w':=by
 subst e;exact FO xs ys a b n c m d w.heap.size w h1.len h2.len h1.cap h2.cap hs h1.wf h2.wf h1.rd h2.rd (aA _)
theorem yX{w:World}{a b:Option Addr}{n c m d:Nat}{xs ys:List Nat}{V:Nat}(h1:Arg w a n c xs)(h2:Arg w b m d ys)(hs1:n<=35184372088000)(hs2:m<=35184372088000)(e:val xs+val ys=V) :
 As 153 #[.slice a n c,.slice b m d] w fun r w'=>∃ v,r=.returned v/\Nt w.heap.size w' v V/\An w w':=by
 subst e;exact Kg xs ys a b n c m d w.heap.size w h1.len h2.len h1.cap h2.cap hs1 hs2 h1.wf h2.wf h1.rd h2.rd (aA _)
theorem qB{w:World}{a b:Option Addr}{n c m d:Nat}{xs ys:List Nat}{V:Nat}(h1:Arg w a n c xs)(h2:Arg w b m d ys)(hs1:n<=35184372088000)(hs2:m<=35184372088000)(e:V+val ys=val xs) :
 As 155 #[.slice a n c,.slice b m d] w fun r w'=>∃ v,r=.returned v/\Nt w.heap.size w' v V/\An w w':=by
 have h:=FL xs ys a b n c m d w.heap.size w h1.len h2.len h1.cap h2.cap hs1 hs2 h1.wf h2.wf h1.rd h2.rd (aA _) (by omega);rw[show val xs-val ys=V by omega] at h;exact h
theorem jQ{w:World}{a b:Option Addr}{n c m d:Nat}{xs ys:List Nat}(h1:Arg w a n c xs)(h2:Arg w b m d ys)(z:Int)(e:bu (val xs) (val ys)=z) :
 At 154 #[.slice a n c,.slice b m d] w (.int .i64 z):=by
 have:=Od xs ys a b n c m d w.heap.size w h1.len h2.len (by have:=h1.big;omega) (by have:=h2.big;omega) h1.wf h2.wf h1.rd h2.rd;rw[e] at this;exact this
theorem rE(w:World)(d:Nat)(hd:d<4294967296):Arg (w.alloc (.cells #[.int .u32 (d:Int)] 91)) (some ⟨w.heap.size,0,none⟩) 1 1 [d]:=by
 refine⟨rfl,aA _,by omega,Wf.cons hd Wf.nil,fun _=>⟨w.heap.size,0,by simp,rfl,fun i hi=>?_⟩,fun e=>by cases e⟩;obtain rfl:i=0:=by simpa using hi
 unfold World.cell?;simp only[gZ];rfl
theorem ae(w:World)(o:Obj):An w (w.alloc o):=(aB _ _).alloc (aA _) _
theorem Og(N n:Nat)(h:N<pw n):bl N<=32*n:=by
 by_cases h0:N=0
 · rw[h0,dD];omega
 · have h1:=ib N h0;rcases kV (32*n) (bl N) with h2|h2
   · exfalso;have h3:2^(32*n)<=2^(bl N-1):=fq (by omega) (by omega);have h4:pw n=2^(32*n):=by unfold pw;rw[kR]
     omega
   · exact h2
theorem Nt.but{lo g:Nat}{w w':World}{v:Value}{X:Nat}(h:Nt lo w v X)(hb:But g w w')(hg:g<lo):Nt lo w' v X:=by
 have h1:Rw lo w v (ws X).length ((ws X).map U):=h
 exact tq h1 fun b hb2=>by
  obtain⟨h2,h3⟩:=h.lt b hb2;exact hb.block b h3 (by omega)
theorem yY{w:World}{a:Option Addr}{n c:Nat}{xs:List Nat}{V:Nat}(h1:Arg w a n c xs)(e:val xs=V) :
 As 89 #[.slice a n c] w fun r w'=>∃ v,r=.returned v/\Nt w.heap.size w' v V/\An w w':=by
 subst e;exact jG xs a n c w.heap.size w h1.len h1.cap h1.big h1.wf h1.rd h1.nil
theorem Iz{x y:Nat}(h:y<=x):0<=bu x y:=by unfold bu;split <;> (try split) <;> omega
theorem RU{x y:Nat}(h:x<=y):bu x y<=0:=by unfold bu;split <;> (try split) <;> omega
theorem Kj(X Y f t:Nat)(h1:Y*f<=X)(h2:X<Y*t)(h3:f<t)(h4:t-f<=1):X/Y=f:=by
 obtain rfl:t=f+1:=by omega
 exact Nat.div_eq_of_lt_le (by rw[cZ];exact h1) (by rw[cZ];exact h2)
theorem Kk{w:World}{a b:Option Addr}{n c m d:Nat}{xs ys:List Nat}(h1:Arg w a n c xs)(h2:Arg w b m d ys)(hm:m<=35184372088000)(hlt:val xs<val ys*4294967296) :
 As 175 #[.slice a n c,.slice b m d] w fun r w'=>∃ v,r=.returned (.tuple #[.int .u32 ((val xs/val ys:Nat):Int),v])/\Nt w.heap.size w' v (val ys*(val xs/val ys))/\An w w':=by
 have hlo:=aA w.heap.size;obtain⟨X,hX⟩:∃ X,val xs=X:=⟨_,rfl⟩;obtain⟨Y,hY⟩:∃ Y,val ys=Y:=⟨_,rfl⟩;have wH:=df ys h2.wf;rw[<-h2.len,hY] at wH;rw[hX,hY] at hlt |-;have HX:=(iC h1 h2 hX hY hlt wH);clear h1 h2 hX hY hlt wH;go_enter Tryz.func175,Tryz.ntmps175;go_wp2
 go_loopg [6,7,8] 4294967296 (fun gk fv tv bv wr=>∃ (f t:Nat),gk+f=t/\fv=.int .u64 (f:Nat)/\tv=.int .u64 (t:Nat)/\f<t/\t<=4294967296/\Aside (Y*f<=X/\X<Y*t/\An w wr/\Nt w.heap.size wr bv (Y*f)))
 case atStart=>exact⟨0,4294967296,by omega,rfl,rfl,by omega,by omega,by omega,HX.o.r4.1,aB _ _,by rw[mE];exact Nt.nil _ _⟩
 case round =>
  obtain⟨f,t,hgt,rfl,rfl,hft,ht,HA⟩:=hrel
  by_cases hend:t-f<=1
  · obtain⟨p1,p2,p3,p4⟩:=HA.o;have HQ:=ak (Kj X Y f t p1 p2 hft hend);obtain rfl:t=f+1:=by omega
    clear p1 p2 p3 p4;have hff:f<4294967296:=by omega
    go_wp2
    go_ret2
    rw[HQ.o];exact⟨_,by first | rfl | (congr 1),HA.o.r3,HA.o.r2.1⟩
  · obtain⟨mid,hmid⟩:=af ((f+t)/2);have em:((f:Int)+(t:Int))/2=(mid:Int):=by omega
    have hm1:f<mid:=by omega
    have hm2:mid<t:=by omega
    have hm3:mid<4294967296:=by omega
    have em2:(mid:Int)%4294967296=(mid:Int):=by omega
    have hgo:(1:Int)<(t:Int)-(f:Int):=by omega
    obtain⟨h1,h2,hX,hY,hlt,wH⟩:=HX.o;obtain⟨p1,p2,p3,p4⟩:=HA.o;have hsz:=p3.size;have T1:=hid (lg (V:=Y*mid) ((h2.below p3).below (ae wr _)) (rE wr mid hm3) (by omega) (by rw[hY];simp[val]));have hYm:Y*mid<pw (m+1):=by rw[bU,cZ 4294967296];exact qW wH hm3
    have hwl:(ws (Y*mid)).length<=m+1:=(aP _ _).2 hYm;clear h1 h2 hX hY hlt wH p1 p2 p3 p4 hYm hmid;go_wp2_with fail;refine T1.o.mono ?_;rintro r u1 ⟨v,rfl,hN,hb⟩;obtain⟨a1,c1,rfl,A1⟩:=hN.arg (by omega);obtain⟨h1,h2,hX,hY,hlt,wH⟩:=HX.o;obtain⟨p1,p2,p3,p4⟩:=HA.o;have hb2:An wr u1:=(ae wr _).trans (hb.mono (by simp));have q3:An w u1:=p3.trans (hb2.mono hsz);have q4:=p4.below hb2;have q5:=hN.mono (lo':=w.heap.size) (by simp;omega);have hs1:=hb2.size
    by_cases hle:Y*mid<=X
    · obtain⟨z,hz⟩:∃ z,bu (Y*mid) X=z:=⟨_,rfl⟩;have hz0:z<=0:=hz ▸ RU hle;have C1:=hid (jQ A1 (h1.below q3) z (by rw[aj,hX];exact hz));have S1:=(fE p2 q3 q5 hle);clear h1 h2 hX hY hlt wH p1 p2 p3 p4 q3 q4 q5 hN hb hb2 A1 hz hle T1 HA;go_wp2_with fail;refine C1.o.mono ?_;rintro r u2 ⟨rfl,hb⟩;have S2:=(aJ (S1.o.2.1.trans (hb.mono (by omega))) (S1.o.r2.1.below hb));clear hb C1;go_wp2;go_roundg (t-mid)
      case measure=>omega
      case rel=>exact⟨mid,t,by omega,rfl,rfl,hm2,ht,S1.o.r3,S1.o.1,S2.o.1,S2.o.2⟩
    · have hz:bu (Y*mid) X=1:=pE (by omega);have C1:=hid (jQ A1 (h1.below q3) 1 (by rw[aj,hX];exact hz));have S1:=(fE p1 q3 q4 hle);clear h1 h2 hX hY hlt wH p1 p2 p3 p4 q3 q4 q5 hN hb hb2 A1 hz hle T1 HA;go_wp2_with fail;refine C1.o.mono ?_;rintro r u2 ⟨rfl,hb⟩;have S2:=(aJ (S1.o.2.1.trans (hb.mono (by omega))) (S1.o.r2.1.below hb));clear hb C1;go_wp2;go_roundg (mid-f)
      case measure=>omega
      case rel=>exact⟨f,mid,by omega,rfl,rfl,hm1,by omega,S1.o.1,by have:=S1.o.r3;omega,S2.o.1,S2.o.2⟩
theorem FW(P x Y B:Nat)(hY:0<Y):(x+B*P)/Y=(x+B*(P%Y))/Y+B*(P/Y)/\(x+B*P)%Y=(x+B*(P%Y))%Y:=by
 have h:=qd P Y
 have e:x+B*P=(x+B*(P%Y))+Y*(B*(P/Y)):=by
  conv=>lhs;rw[<-h]
  rw[jM,<-aM,cZ B Y,aM];omega
 rw[e];exact⟨qV _ _ hY,zI _ _ _⟩
theorem CJ(P x Y B:Nat)(hY:0<Y)(hx:x<B):x+B*(P%Y)<Y*B:=by
 have h:=mD P hY;have h1:B*(P%Y+1)<=B*Y:=gX _ h;rw[jM] at h1;rw[cZ Y];omega
theorem Ar(M:List Nat)(k d:Nat)(hk:k<M.length):val ((M.set k d).drop k)=d+4294967296*val (M.drop (k+1)):=by
 rw[dV _ k (by simpa using hk),iO _ _ _ hk];rw[List.drop_set_of_lt (by omega)]
theorem RV{w:World}{g:Nat}{x:Nat}(h:Own w g [x]):w.ownsRow g 91 1 (.slice (some ⟨g,0,none⟩) 1 1) 1 ([x].map U) :=
 ⟨by simp,.inr ⟨g,1,_,rfl,aA _,h,aA _,by unfold maxLen;omega,by simp,by simp⟩⟩
theorem Oh(w:World)(x:Nat):Own (w.alloc (.cells #[.int .u32 (x:Int)] 91)) w.heap.size [x]:=by
 unfold Own;rw[gZ];rfl
set_option maxRecDepth 100000 in
theorem yZ{w:World}{a b:Option Addr}{n c m d:Nat}{xs ys:List Nat}(h1:Arg w a n c xs)(h2:Arg w b m d ys)(hn:n<=35184372088000)(hm:m+1<=35184372088000)(hY:0<val ys) :
 As 138 #[.slice a n c,.slice b m d] w fun r w'=>∃ v u,r=.returned (.tuple #[v,u])/\Nt w.heap.size w' v (val xs/val ys)/\Nt w.heap.size w' u (val xs%val ys)/\Below w.heap.size w w':=by
 obtain⟨W1,hW1⟩:=af (w.alloc (.cells (madeCells #[.int .u32 0] n) 91));have ni:Own W1 w.heap.size (List.replicate n 0):=by rw[hW1];exact Own.made w n
 have hB1:Below w.heap.size w W1:=by rw[hW1];exact(aB _ _).alloc (aA _) _
 have hmk:=dI (n:Int) n rfl (by omega) w;rw[<-hW1] at hmk;obtain⟨g,hg⟩:=af (w.heap.size);rw[<-hg] at ni hmk hB1;obtain⟨Y,CK⟩:∃ Y,val ys=Y:=⟨_,rfl⟩;have wH:=df ys h2.wf;rw[<-h2.len,CK] at wH;rw[CK] at hY |-;have hlen:=h1.len;have HX:=(jY h1 h2 CK wH hB1 hg hlen);have HO:=hid ni;clear h1 h2 CK wH hB1 ni hW1 hg hlen;go_enter Tryz.func138,Tryz.ntmps138;go_wp2
 go_loopg [7,8] n (fun k rv iv wr=>∃ (M:List Nat),k<=n/\iv=.int .i64 ((k:Int)-1)/\Hid (Own wr g M) /\
  Aside (Wf M/\M.length=n/\(∀ j,j<k->M.getD j 0=0)/\val (M.drop k)=val (xs.drop k)/Y/\Below g w wr/\Nt (g+1) wr rv (val (xs.drop k)%Y)))
 case atStart =>
  obtain⟨h1,h2,CK,wH,hB1,hg,hlen⟩:=HX.o;refine⟨List.replicate n 0,aA _,by first | rfl | go_num,HO,Wf.zeros _,by simp,fun j _=>wh _ _,?_,hB1,?_⟩
  · rw[yD (by simp),yD (by omega)];simp[val]
  · rw[yD (by omega)];simp only[val,Nat.zero_mod];exact Nt.nil _ _
 case round =>
  obtain⟨M,hk,rfl,HM,HA⟩:=hrel
  by_cases hk0:gk=0
  · subst hk0;obtain⟨dw,gJ,y7,xW,hbel,BS⟩:=HA.o;rw[List.drop_zero,List.drop_zero] at xW;rw[List.drop_zero] at BS;have T:=hid (jG M (some ⟨g,0,none⟩) n n (g+1) wr gJ.symm (aA _) (by omega) dw (by simpa [gJ,iy] using Rd.gD HM.o 0 n) (fun e=>by cases e));rw[xW] at T;have S:=(aJ hbel BS);have hgl:=HM.o.lt;clear dw gJ y7 xW hbel BS;go_wp2_with fail;refine T.o.mono ?_;rintro r u1 ⟨v,rfl,hN,hb⟩;have S2:=(aJ hN hb);clear hN hb;go_wp2
    go_ret2
    obtain⟨hN,hb⟩:=S2.o;obtain⟨hbel,BS⟩:=S.o;obtain⟨h1,h2,CK,wH,hB1,hg,hlen⟩:=HX.o;rw[<-hg];exact⟨v,_,rfl,hN.mono (by omega),(BS.below hb).mono (by omega),hbel.trans (hb.mono (by omega))⟩
  · obtain⟨k,rfl⟩:∃ k,gk=k+1:=⟨gk-1,by omega⟩;obtain⟨h1,h2,CK,wH,hB1,hg,hlen⟩:=HX.o;obtain⟨dw,gJ,y7,xW,hbel,BS⟩:=HA.o;have hgl:=HM.o.lt;obtain⟨ba,off,hBa,rfl,hcell⟩:=h1.rd (by intro e;subst e;simp at hlen;omega);have Wu:wr.cell? ⟨ba,off+k,none⟩=some (.int .u32 ((xs.getD k 0:Nat):Int)):=(hbel.cell (p:=⟨ba,off+k,none⟩) (by simp;omega)).trans (hcell k (by omega));obtain⟨x,hx⟩:∃ x,xs.getD k 0=x:=⟨_,rfl⟩;have hxl:x<4294967296:=hx ▸ h1.wf.get k;rw[hx] at Wu;obtain⟨P,hP⟩:∃ P,val (xs.drop (k+1))=P:=⟨_,rfl⟩;have hds:=dV xs k (by omega);rw[hx,hP] at hds;rw[hP] at xW BS;obtain⟨st1,st2⟩:=FW P x Y 4294967296 hY;rw[<-hds] at st1 st2;have hdl:=CJ P x Y 4294967296 hY hxl;obtain⟨R,hR⟩:∃ R,P%Y=R:=⟨_,rfl⟩;have sW:R<Y:=hR ▸ mD _ hY;rw[hR] at st1 st2 hdl BS;obtain⟨Z,hZ⟩:∃ Z,x+4294967296*R=Z:=⟨_,rfl⟩;rw[hZ] at st1 st2 hdl;have hwR:(ws R).length<=m:=(aP R m).2 (by omega);have hZp:Z<pw (m+1):=by rw[bU];rw[cZ Y] at hdl;omega
    have hwZ:(ws Z).length<=m+1:=(aP Z (m+1)).2 hZp;obtain⟨ar,cr,rfl,AR⟩:=BS.arg (by omega);have hLO:=Oh wr x;obtain⟨v',w2,hap,hown,hgrow⟩:=kD (wr.alloc (.cells #[.int .u32 (x:Int)] 91)) wr.heap.size (.slice (some ⟨wr.heap.size,0,none⟩) 1 1) 1 [x] (ws R) ar (ws R).length cr wr.heap.size 35 (RV hLO) rfl (AR.rd.below (ae wr _)) AR.nil (by omega) (by simp);have hb2:An wr w2:=(ae wr _).grown hgrow (by simp) (fun k hk=>by simp[Value.ownBlock] at hk;omega);obtain⟨a2,c2,rfl,hc2,hl2,uC,CL⟩:=Rw.words hown;have hval:val ([x]++ws R)=Z:=by rw[<-hZ];simp[val,aj]
    have N1:=hid (jG ([x]++ws R) a2 (1+(ws R).length) c2 w2.heap.size w2 hl2 hc2 (by omega) (Wf.append (Wf.cons hxl Wf.nil) (dm R)) CL uC);rw[hval] at N1;have J5:=hid hap;have hs2:=hb2.size;have S1:=(xZ dw gJ y7 xW (hbel.trans (hb2.mono (by omega))) (HM.o.below hb2 hgl) st1 st2 hdl hx);clear h1 h2 CK wH hB1 hg hlen dw gJ y7 xW hbel BS hcell hx hP hds st1 st2 hdl hR sW hZ hZp AR hLO hap hown hgrow hb2 hl2 uC CL hval HM HA
    go_wp2_with (at_builtin;refine dB rfl (.tmp 27) (.tmp 28) 35 rfl _ _ rfl rfl _ _ J5.o ?_)
    refine N1.o.mono ?_;rintro r u3 ⟨v3,rfl,eu,hb3⟩;obtain⟨a3,c3,rfl,A3⟩:=eu.arg (by omega);obtain⟨dw,gJ,y7,xW,hbel,Kl,st1,st2,hdl,hx⟩:=S1.o;obtain⟨h1,h2,CK,wH,hB1,hg,hlen⟩:=HX.o;have hs3:=hb3.size;have CO:Below g w u3:=hbel.trans (hb3.mono (by omega));have hO3:=Kl.below hb3 (by omega);have RX:Below w.heap.size w u3:=hg ▸ CO
    by_cases hge:Y<=Z
    · obtain⟨z,hz⟩:∃ z,bu Z Y=z:=⟨_,rfl⟩;have hz0:0<=z:=hz ▸ Iz hge;have C1:=hid (jQ A3 (h2.below RX) z (by rw[aj,CK];exact hz));have S2:=(xZ dw gJ y7 xW CO hO3 st1 st2 hdl eu);clear dw gJ y7 xW hbel Kl st1 st2 hdl hx h1 h2 CK wH hB1 hg hlen CO hO3 RX hb3 eu A3 hz S1 N1;go_wp2_with fail;refine C1.o.mono ?_;rintro r u4 ⟨rfl,hb4⟩;obtain⟨dw,gJ,y7,xW,hbel,Kl,st1,st2,hdl,eu⟩:=S2.o;obtain⟨h1,h2,CK,wH,hB1,hg,hlen⟩:=HX.o;have hs4:=hb4.size;have Oi:Below g w u4:=hbel.trans (hb4.mono (by omega));have hO4:=Kl.below hb4 (by omega);have Yr:Below w.heap.size w u4:=hg ▸ Oi;have iD:=eu.below hb4;obtain⟨_,_,e4,A4⟩:=iD.arg (by omega)
      cases e4
      have D0:=Kk A4 (h2.below Yr) (by omega) (by rw[aj,CK];exact hdl);rw[aj,CK] at D0;have hDl:Z/Y<4294967296:=Nat.div_lt_of_lt_mul hdl;have hmd:=Nat.mod_add_div Z Y;have hYD:Y*(Z/Y)<=Z:=by omega
      have hwD:(ws (Y*(Z/Y))).length<=m+1:=by
       have h5:=(aP Z (m+1)).1 hwZ;exact(aP _ (m+1)).2 (by omega)
      obtain⟨D,hD⟩:∃ D,Z/Y=D:=⟨_,rfl⟩;rw[hD] at D0 hDl hmd hYD hwD st1;have D1:=hid D0;have S3:=(xZ dw gJ y7 xW Oi hO4 st1 st2 iD hmd);clear dw gJ y7 xW hbel Kl st1 st2 hdl h1 h2 CK wH hB1 hg hlen Oi hO4 Yr hb4 eu iD A4 hmd hYD hD D0 S2 C1;go_wp2_with fail;refine D1.o.mono ?_;rintro r u5 ⟨v5,rfl,uW,hb5⟩;obtain⟨dw,gJ,y7,xW,hbel,Kl,st1,st2,iD,hmd⟩:=S3.o;have hs5:=hb5.size;have wI:Below g w u5:=hbel.trans (hb5.mono (by omega));have Ik:=Kl.below hb5 (by omega);have hgc:=Ik.cell k (by omega);have hgf:=Ik.frozen k;have hbt:But g u5 (u5.setCell ⟨g,k,none⟩ (.int .u32 (D:Nat))):=(But.refl g u5).set k _;have Ah:=(iD.below hb5).but hbt (by omega);have Yj:=uW.but hbt (by omega);obtain⟨_,_,e6,A6⟩:=Ah.arg (by omega)
      cases e6
      obtain⟨a7,c7,rfl,A7⟩:=Yj.arg (by omega);have M1:=hid (qB (V:=Z%Y) A6 A7 (by omega) (by omega) (by rw[aj,aj];exact hmd));have S4:=(Rj dw gJ y7 xW wI Ik st1 st2 hbt);clear dw gJ y7 xW hbel Kl st1 st2 iD hmd wI Ik hbt Ah Yj A6 A7 uW hb5 S3 D1;go_wp2_with fail;refine M1.o.mono ?_;rintro r u8 ⟨v8,rfl,EJ,BX⟩;have S5:=(aJ EJ BX);clear EJ BX M1;go_wp2;go_roundg k
      case measure=>omega
      case rel =>
       obtain⟨dw,gJ,y7,xW,hbel,Kl,st1,st2,hbt⟩:=S4.o;obtain⟨EJ,BX⟩:=S5.o;have hs8:=BX.size;have hss:(u5.setCell ⟨g,k,none⟩ (.int .u32 (D:Nat))).heap.size=u5.heap.size:=by simp[World.setCell]
       refine⟨M.set k D,by omega,by first | go_num | (congr 1;omega),(Kl.set k D).below BX (by omega),dw.set _ _ hDl,by simp[gJ],?_,?_,?_,?_⟩
       · intro j hj;rw[getD_set_ne _ _ _ _ (by omega)];exact y7 j (by omega)
       · rw[Ar M k D (by omega),xW,st1]
       · exact(But.below hbel hbt (by omega) (aA _)).trans (BX.mono (by omega))
       · rw[st2];exact EJ.mono (by omega)
    · have hz:bu Z Y=-1:=nA (by omega);have C1:=hid (jQ A3 (h2.below RX) (-1) (by rw[aj,CK];exact hz));have S2:=(VR dw gJ y7 xW CO hO3 st1 st2 hdl eu hlen);clear dw gJ y7 xW hbel Kl st1 st2 hdl hx h1 h2 CK wH hB1 hg hlen CO hO3 RX hb3 eu A3 hz S1 N1;go_wp2_with fail;refine C1.o.mono ?_;rintro r u4 ⟨rfl,hb4⟩;have S3:=ak hb4;clear hb4 C1;go_wp2;go_roundg k
      case measure=>omega
      case rel =>
       obtain⟨dw,gJ,y7,xW,hbel,Kl,st1,st2,hdl,eu,hlen⟩:=S2.o;have hb4:=S3.o;refine⟨M,by omega,by first | go_num | (congr 1;omega),Kl.below hb4 (by omega),dw,gJ,fun j hj=>y7 j (by omega),?_,hbel.trans (hb4.mono (by omega)),?_⟩
       · rw[dV M k (by omega),y7 k (by omega),xW,st1,gY (show Z<Y by omega)]
       · rw[st2,lT (show Z<Y by omega)];exact(eu.below hb4).mono (by omega)
theorem Oj(w:World)(a b:Nat)(ha:a<4294967296)(hb:b<4294967296):Arg (w.alloc (.cells #[.int .u32 (a:Int),.int .u32 (b:Int)] 91)) (some ⟨w.heap.size,0,none⟩) 2 2 [a,b]:=by
 refine⟨rfl,aA _,by omega,Wf.cons ha (Wf.cons hb Wf.nil),fun _=>⟨w.heap.size,0,by simp,rfl,fun i hi=>?_⟩,fun e=>by cases e⟩;have hi2:i=0\/i=1:=by simp at hi;omega
 unfold World.cell?;simp only[gZ];rcases hi2 with rfl|rfl <;> rfl
theorem vS(x:Nat)(w:World)(hx:x<18446744073709551616) :
 As 48 #[.int .u64 (x:Nat)] w fun r w'=>∃ v,r=.returned v/\Nt w.heap.size w' v x/\An w w':=by
 obtain⟨a,ha⟩:=af (x%4294967296);obtain⟨b,hb⟩:=af (x/4294967296);have e1:(x:Int)%4294967296=(a:Int):=by omega
 have e2:(x:Int)/4294967296=(b:Int):=by omega
 have e3:(b:Int)%4294967296=(b:Int):=by omega
 have N1:=hid (yY (V:=x) (Oj w a b (by omega) (by omega)) (by simp[val];omega));have hb3:b<4294967296:=by omega
 clear ha hb;go_enter Tryz.func48,Tryz.ntmps48;go_wp2_with fail;refine N1.o.mono ?_;rintro r u1 ⟨v,rfl,hN,hbl⟩;have S:=(aJ hN hbl);clear hN hbl;go_wp2;go_ret;exact⟨v,rfl,S.o.1.mono (by simp),(ae w _).trans (S.o.2.mono (by simp))⟩
theorem rF(X:Nat)(h:X≠0):∃ m,X=2^lo X*(2*m+1):=by
 have key:∀ Y:Nat,Y≠0->∃ i m,Y=2^i*(2*m+1):=by
  intro Y
  induction Y using Nat.strongRecOn with
  | ind Y ih =>
    intro hY;rcases EX Y with h0|h1
    · obtain⟨i,m,e⟩:=ih (Y/2) (by omega) (by omega);refine⟨i+1,m,?_⟩;rw[iq,cZ (2^i) 2,aM,<-e];omega
    · exact⟨0,Y/2,by omega⟩
 obtain⟨i,m,e⟩:=key X h;refine⟨m,?_⟩;rw[e,Ii]
theorem Wv(X:Nat)(h:X≠0):X/2^lo X%2=1:=by
 obtain⟨m,e⟩:=rF X h;generalize lo X=i at e;rw[e,yC _ (nY (by omega))];omega
theorem RY(X j:Nat)(h:X≠0)(hj:j<lo X):X/2^j%2=0:=by
 obtain⟨m,e⟩:=rF X h;generalize lo X=i at e hj;obtain⟨d,rfl⟩:∃ d,i=j+(d+1):=⟨i-j-1,by omega⟩;rw[e,aL,aM,yC _ (nY (by omega)),iq,cZ (2^d) 2,aM];omega
theorem Ol(X:Nat)(h:X≠0)(n:Nat)(hp:X<pw n):lo X<32*n:=by
 obtain⟨m,e⟩:=rF X h;rcases kV (lo X) (32*n) with h1|h1
 · exact h1
 · exfalso;have h2:2^(32*n)<=2^lo X:=fq (by omega) h1;have h3:pw n=2^(32*n):=by unfold pw;rw[kR]
   have h4:2^lo X*1<=2^lo X*(2*m+1):=gX _ (by omega);omega
theorem Om(xs:List Nat)(ao:Option Addr)(n cap B:Nat)(w:World)(hn:n=xs.length)(hm:n<=70368744177664)(hx:Wf xs)(hR:Rd B w ao xs) :
 Ax 90 #[.slice ao n cap] w (.int .i64 (lo (val xs):Nat)):=by
 have H:=hid (ou xs ao n cap B w hn (by omega) hR)
 by_cases h0:val xs=0
 · rw[h0,zZ];rw[(jg xs).2 h0] at H;clear hn hx hR h0;go_enter Tryz.func90,Tryz.ntmps90;go_wp2_with fail;refine H.o.mono ?_;rintro r w1 ⟨rfl,rfl⟩;go_wp2;go_ret;exact⟨rfl,rfl⟩
 · have hnl:nl xs≠0:=fun e=>h0 ((jg xs).1 e);have hv:=df xs hx;rw[<-hn] at hv;have hlt:=Ol _ h0 n hv;obtain⟨k,hk⟩:∃ k,nl xs=k:=⟨_,rfl⟩;rw[hk] at H hnl;obtain⟨L,hL⟩:∃ L,lo (val xs)=L:=⟨_,rfl⟩;have hb1:=Wv _ h0;have hb0:=RY (val xs) (h:=h0);rw[hL] at hb1 hb0 hlt |-
   have BT:Hid (∀ i:Nat,i<=9223372036854775807->∀ w1,w1=w->Ax 137 #[.slice ao n cap,.int .i64 (i:Int)] w1 (.bool (decide (val xs/2^i%2=1)))):=by
    intro i hi w1 hw;subst hw;exact Oe xs ao n cap B i w1 hn hx hR hi
   have HB:=(aJ hb1 hb0);clear hb1 hb0 hn hx hR h0 hv hk hL;go_enter Tryz.func90,Tryz.ntmps90;go_wp2_with fail;refine H.o.mono ?_;rintro r w1 ⟨rfl,rfl⟩;have hkf:((k:Int)==0)=false:=by simp;omega
   go_wp2
   go_loopg [3] L (fun gk iv wr=>∃ (i:Nat),gk+i=L/\iv=.int .i64 (i:Nat)/\wr=w1)
   case atStart=>exact⟨0,by omega,rfl,rfl⟩
   case round =>
    obtain⟨i,hi,rfl,rfl⟩:=hrel;have B1:=BT.o i (by omega) _ rfl
    by_cases hiL:i=L
    · subst hiL;obtain rfl:gk=0:=by omega
      rw[HB.o.1] at B1;have B2:=hid (show Ax 137 #[.slice ao n cap,.int .i64 (i:Int)] wr (.bool true) from B1);clear B1;go_wp2_with fail;refine B2.o.mono ?_;rintro r w2 ⟨rfl,rfl⟩;exact Jx
    · rw[HB.o.2 i (by omega)] at B1;have B2:=hid (show Ax 137 #[.slice ao n cap,.int .i64 (i:Int)] wr (.bool false) from B1);clear B1;go_wp2_with fail;refine B2.o.mono ?_;rintro r w2 ⟨rfl,rfl⟩;go_wp2;go_roundg (gk-1)
      case measure=>omega
      case rel=>exact⟨i+1,by omega,by first | go_num | (congr 1;omega),rfl⟩
theorem rG{w:World}{g:Nat}{L:List Nat}(h:Own w g L)(hm:L.length<=35184372088832):w.ownsRow g 91 1 (.slice (some ⟨g,0,none⟩) L.length L.length) L.length (L.map U) :=
 ⟨by simp,.inr ⟨g,L.length,_,rfl,aA _,h,aA _,by unfold maxLen;omega,by simp,by simp[iy]⟩⟩
theorem Arg.drew'{w:World}{a:Option Addr}{n c:Nat}{xs:List Nat}(h:Arg w a n c xs):Arg w.drew a n c xs:=⟨h.len,h.cap,h.big,h.wf,h.rd,h.nil⟩
theorem tu(r:Nat)(hr:r<32):2^r<4294967296:=by
 have:2^r<=2^31:=fq (by omega) (by omega);omega
theorem Qa0{P:Prop}(h:P:=by
 have:pw q=2^(32*q):=by unfold pw;rw[kR]
 rw[this,<-aL];congr 1;omega):P:=h
theorem Qaa{P:Prop}(h:P:=by
 have h5:((2^s:Nat):Int)=(2:Int)^s:=by simp
 rw[<-h5,<-hp]):P:=h
theorem Oo{w:World}{a:Option Addr}{l c:Nat}{X:Nat}(k:Nat)(h1:Arg w a l c (ws X))(hl:l<=2000000)(hk:k<=64000000) :
 As 91 #[.slice a l c,.int .i64 (k:Nat)] w fun r w'=>∃ v,r=.returned v/\Nt w.heap.size w' v (X*2^k)/\An w w':=by
 obtain⟨q,hq⟩:=af (k/32);obtain⟨s,hs⟩:=af (k%32);have e1:(k:Int)/32=(q:Int):=by omega
 have e2:(k:Int)%32=(s:Int):=by omega
 have hqb:q<=2000000:=by omega
 have Oq:s<32:=by omega
 obtain⟨W1,hW1⟩:=af (w.alloc (.cells (madeCells #[.int .u32 0] q) 91));have ni:Own W1 w.heap.size (List.replicate q 0):=by rw[hW1];exact Own.made w q
 have hB1:An w W1:=by rw[hW1];exact(aB _ _).alloc (aA _) _
 have hmk:=dI (q:Int) q rfl (by omega) w;rw[<-hW1] at hmk;have hR:=rG ni (by simp;omega);simp only[Cf] at hR;have A1:=h1.below hB1;obtain⟨v',w2,hap,hown,hgrow⟩:=kD W1 w.heap.size _ q (List.replicate q 0) (ws X) a l c W1.heap.size 35 hR A1.len A1.rd A1.nil (by omega) hB1.size;have hB2:An w w2:=hB1.grown hgrow hB1.size (fun k hk=>by simp[Value.ownBlock] at hk;omega);obtain⟨a2,c2,rfl,hc2,hl2,uC,CL⟩:=Rw.words hown;have AO:Arg w2 a2 (q+l) c2 (List.replicate q 0++ws X):=⟨hl2,hc2,by omega,(Wf.zeros q).append (dm X),CL,uC⟩
 have hval:val (List.replicate q 0++ws X)=X*pw q:=by
  rw[val_append,o8,aj,Cf,dK,cZ]
 have hpw:pw q*2^s=2^k:=by
  exact Qa0
 have hps:=tu s Oq;obtain⟨p,hp⟩:=af (2^s)
 have e3:(2:Int)^s=(p:Int):=by
  exact Qaa
 have hpl:p<4294967296:=by omega
 have T1:=hid (lg (V:=X*2^k) (AO.below (ae w2 _)) (rE w2 p (by omega)) (by omega) (by rw[hval];simp only[val];rw[<-hpw,hp,aM];simp));have J5:=hid hap;have hs2:=hB2.size;have S1:=ak hB2;clear hap hown hgrow hB2 hl2 uC CL AO hval hpw A1 hR ni hB1 h1 hW1 hq hs hps hp;go_enter Tryz.func91,Tryz.ntmps91
 go_wp2_with (at_builtin;refine dB rfl (.tmp 39) (.tmp 40) 35 rfl _ _ rfl rfl _ _ J5.o ?_)
 refine T1.o.mono ?_;rintro r u3 ⟨v3,rfl,eu,hb3⟩;have S2:=(aJ eu hb3);clear eu hb3;go_wp2;go_ret;obtain⟨eu,hb3⟩:=S2.o;exact⟨v3,rfl,eu.mono (by simp;omega),S1.o.trans (((ae w2 _).trans (hb3.mono (by simp))).mono hs2)⟩
theorem FZ{w:World}{b off:Nat}{l c:Nat}{X:Nat}(k:Nat)(h1:Arg w (some ⟨b,off,none⟩) l c (ws X))(hl:l<=2000000)(hk0:0<k)(hk:k<=64000000)(hkl:k/32<l) :
 As 91 #[.slice (some ⟨b,off,none⟩) l c,.int .i64 (-(k:Int))] w fun r w'=>∃ v,r=.returned v/\Nt w.heap.size w' v (X/2^k)/\An w w':=by
 obtain⟨q,hq⟩:=af (k/32);obtain⟨s,hs⟩:=af (k%32);have e1:(k:Int)/32=(q:Int):=by omega
 have e2:(k:Int)%32=(s:Int):=by omega
 have hql:q<l:=by omega
 have Oq:s<32:=by omega
 have hcl:=h1.cap;have hqc:¬ c=q:=by omega
 obtain⟨p,hp⟩:=af (2^s);have hps:=tu s Oq
 have e3:(2:Int)^s=(p:Int):=by
  exact Qaa
 have hpl:p<4294967296:=by omega
 have hd1:decide (l<=q)=false:=decide_eq_false (by omega);have hd2:decide ((-(k:Int)) < -1099511627776)=false:=decide_eq_false (by omega);have hd3:decide ((l:Int)<=(q:Int))=false:=decide_eq_false (by omega)
 have hvd:val ((ws X).drop q)=X/pw q:=by
  have h5:=fM (ws X) q (by rw[<-h1.len];omega);have h6:=df ((ws X).take q) ((dm X).take q);rw[aj] at h5;rw[iw,jd (by rw[<-h1.len];omega)] at h6;generalize val ((ws X).drop q)=Bv at h5 |-;generalize val ((ws X).take q)=Av at h5 h6;rw[h5,qV _ _ (jZ q),gY h6,dK]
 have hpw:X/pw q/p=X/2^k:=by
  have h5:pw q=2^(32*q):=by unfold pw;rw[kR]
  rw[nP,h5,hp,<-aL];congr 2;omega
 have Fj:(ws (X/pw q)).length<=2000000:=by
  have h5:X<pw l:=by rw[h1.len];exact gm X
  have h6:X/pw q<=X:=nO _ _;have h7:=(aP (X/pw q) l).2 (by omega);omega
 have hp0:0<p:=by rw[hp];exact nY (by omega)
 have Vb:Hid (∀ u,An w u->As 89 #[.slice (some ⟨b,off+q,none⟩) (l-q) (c-q)] u fun r w'=>∃ v,r=.returned v/\Nt u.heap.size w' v (X/pw q)/\An u w'):=by
  intro u hu;have h5:=jG ((ws X).drop q) (some ⟨b,off+q,none⟩) (l-q) (c-q) w.heap.size u (by rw[qR,<-h1.len]) (by omega) (by omega) ((dm X).drop q) ((h1.rd.drop q).below hu) (fun e=>by cases e);rw[hvd] at h5;exact h5
 have HP:=(aJ hpw Fj);have e7:IntKind.i64.wrap (k:Int)=(k:Int):=by simp[IntKind.wrap,IntKind.bits,IntKind.signed] <;> omega
 have e8:(k:Int).tmod 32=(s:Int):=by rw[Int.tmod_eq_emod_of_nonneg (by omega)];exact e2
 have e6:IntKind.u32.wrap (p:Int)=(p:Int):=by simp[IntKind.wrap,IntKind.bits,IntKind.signed] <;> omega
 clear h1 hq hs hp hvd hpw Fj hps;go_enter Tryz.func91,Tryz.ntmps91;go_wp2
 go_region_with (first
  | (go_at_call 89
     refine(Vb.o _ ((aB _ _).drew)).mono ?_;rintro r u1 ⟨v1,rfl,hN1,hb1⟩;obtain⟨a1,c1,rfl,A1⟩:=hN1.arg (by have:=HP.o.2;omega);have hbw:An w u1:=((aB w.heap.size w).drew).trans (hb1.mono (aA _));have S1:=(aJ hbw A1)
     clear hN1 hb1 A1 hbw)
  | (go_at_call 89
     refine(Vb.o _ ((ae w _).drew)).mono ?_;rintro r u1 ⟨v1,rfl,hN1,hb1⟩;obtain⟨a1,c1,rfl,A1⟩:=hN1.arg (by have:=HP.o.2;omega);have hbw:An w u1:=((ae w _).drew).trans (hb1.mono (by simp));have L1:=ak ((Arg.drew' (rE w p hpl)).below hb1);have S1:=(aJ hbw A1)
     clear hN1 hb1 A1 hbw)
  | (go_at_call 138
     refine(yZ S1.o.2 L1.o (by have:=HP.o.2;omega) (by omega) (by simp[val];exact hp0)).mono ?_;rintro r u2 ⟨v2,v3,rfl,j5,eu,hb2⟩;have hbw:An w u2:=S1.o.1.trans (hb2.mono S1.o.1.size);have Yt:=j5.mono (lo':=w.heap.size) S1.o.1.size;have S2:=(aJ Yt hbw)
     clear j5 eu hb2 hbw Yt)
  | (go_at_call 138
     refine(yZ (S1.o.2.below (ae u1 _)) (rE u1 p hpl) (by have:=HP.o.2;omega) (by omega) (by simp[val];exact hp0)).mono ?_;rintro r u2 ⟨v2,v3,rfl,j5,eu,hb2⟩;have hbw:An w u2:=S1.o.1.trans (((ae u1 _).trans (hb2.mono (by simp))).mono S1.o.1.size);have Yt:=j5.mono (lo':=w.heap.size) (by have:=S1.o.1.size;simp;omega);have S2:=(aJ Yt hbw)
     clear j5 eu hb2 hbw Yt))
 all_goals (
  go_wp2;go_ret;obtain⟨j5,hb2⟩:=S2.o;have e5:val [p]=p:=by simp[val]
  rw[aj,e5,HP.o.1] at j5
  exact⟨v2,rfl,j5,hb2⟩)
theorem Km(a:Option Addr)(l c k:Nat)(w:World)(hl:l<=2000000)(hk:k<=9223372036854775807)(hk0:0<k)(hkl:l<=k/32) :
 Ax 91 #[.slice a l c,.int .i64 (-(k:Int))] w (.slice none 0 0):=by
 obtain⟨q,hq⟩:=af (k/32);have e1:(k:Int)/32=(q:Int):=by omega
 have e7:IntKind.i64.wrap (k:Int)=(k:Int):=by simp[IntKind.wrap,IntKind.bits,IntKind.signed] <;> omega
 have hql:l<=q:=by omega
 clear hq hkl;go_enter Tryz.func91,Tryz.ntmps91;go_wp2;go_ret;exact⟨rfl,rfl⟩
theorem CP(a:Option Addr)(l c:Nat)(w:World)(hl:l<=2000000) :
 Ax 91 #[.slice a l c,.int .i64 (-9223372036854775808)] w (.slice none 0 0):=by
 go_enter Tryz.func91,Tryz.ntmps91;go_wp2
 all_goals (
  go_ret
  exact⟨rfl,rfl⟩)
theorem wJ(X k l:Nat)(h:X<pw l)(hk:32*l<=k):X/2^k=0:=by
 apply gY;have h1:pw l=2^(32*l):=by unfold pw;rw[kR]
 have h2:2^(32*l)<=2^k:=fq (by omega) hk;omega
theorem Nt.some{lo:Nat}{w:World}{v:Value}{X:Nat}(h:Nt lo w v X)(hX:X≠0):∃ g c,v=.slice (some ⟨g,0,none⟩) (ws X).length c:=by
 rcases h.2 with ⟨_,h0⟩|⟨g,cap,cur,rfl,_⟩
 · exact absurd ((aW X).1 h0) hX
 · exact⟨g,cap,rfl⟩
theorem pF{w:World}{v:Value}{X lo:Nat}(hN:Nt lo w v X)(by':Int)(hb0:-9223372036854775808<=by')(hb1:by'<=64000000)(hX:X≠0)(hl:(ws X).length<=2000000) :
 As 91 #[v,.int .i64 by'] w fun r w'=>∃ v,r=.returned v/\Nt w.heap.size w' v (if by'<0 then X/2^(-by').toNat else X*2^by'.toNat)/\An w w':=by
 obtain⟨g,c,rfl⟩:=hN.some hX;obtain⟨_,_,e,A⟩:=hN.arg (by omega)
 cases e
 by_cases h:by'<0
 · rw[if_pos h]
   by_cases hmin:by'=-9223372036854775808
   · subst hmin;rw[wJ X _ (ws X).length (gm X) (by omega)];exact(CP _ _ _ w hl).mono fun r w' ⟨h1,h2⟩=>⟨_,h1,Nt.nil _ _,by rw[h2];exact aB _ _⟩
   · obtain⟨k,hk⟩:∃ k:Nat,by'=-(k:Int):=⟨(-by').toNat,by omega⟩
     subst hk;rw[show(- -(k:Int)).toNat=k by omega]
     by_cases hkl:k/32<(ws X).length
     · exact FZ k A hl (by omega) (by omega) hkl
     · rw[wJ X k (ws X).length (gm X) (by omega)];exact(Km _ _ _ k w hl (by omega) (by omega) (by omega)).mono fun r w' ⟨h1,h2⟩=>⟨_,h1,Nt.nil _ _,by rw[h2];exact aB _ _⟩
 · rw[if_neg h];obtain⟨k,hk⟩:∃ k:Nat,by'=(k:Int):=⟨by'.toNat,by omega⟩
   subst hk;rw[show((k:Int)).toNat=k by omega];exact Oo k A hl (by omega)
def mkS(neg:Bool)(X:Nat)(e:Int):Option (Bool×Nat×Int) :=
 if X=0 then some (false,0,0)
 else if 262144<bl X-lo X\/1048576-(lo X:Int)<e\/e < -1048576-(lo X:Int) then none
 else some (neg,X/2^lo X,e+lo X)
def dN(o:Option (Bool×Nat×Int)):Bool:=(o.getD (false,0,0)).1
def dX(o:Option (Bool×Nat×Int)):Nat:=(o.getD (false,0,0)).2.1
def dE(o:Option (Bool×Nat×Int)):Int:=(o.getD (false,0,0)).2.2
def nU(o:Option (Bool×Nat×Int)):Int:=if o.isSome then 0 else 2
theorem uD(X m:Nat):m<bl X↔2^m<=X:=by
 constructor
 · intro h;have h0:X≠0:=by rintro rfl;rw[dD] at h;omega
   exact cB (fq (by omega) (by omega:m<=bl X-1)) (ib X h0)
 · intro h;exact(jD (by omega)).1 (fu h (iF X))
theorem F7(X k m:Nat)(hm:m=32*k):k<(ws X).length↔m<bl X:=by
 rw[uD,hm,kR];have h:=aP X k;unfold pw at h;rw[show(2:Nat)^32=4294967296 from rfl];generalize 4294967296^k=P at h |-;omega
theorem uE(X:Nat):LG X↔262144<bl X:=F7 X 8192 262144 rfl
theorem qC(k Y:Nat)(h:Y≠0):bl (2^k*Y)=k+bl Y:=by
 have h1:=iF Y;have h2:=ib Y h;have h3:=dG Y h;have e:k+bl Y=(k+(bl Y-1))+1:=by omega
 rw[e];apply Cu
 · rw[aL];exact gX _ h2
 · rw[show k+(bl Y-1)+1=k+bl Y by omega,aL];exact yB h1 (bz k)
theorem iH(X:Nat)(h:X≠0):∃ m,X=2^lo X*(2*m+1)/\X/2^lo X=2*m+1/\bl X=lo X+bl (X/2^lo X):=by
 obtain⟨m,hm⟩:=rF X h
 have e:X/2^lo X=2*m+1:=by
  obtain⟨k,hk⟩:∃ k,lo X=k:=⟨_,rfl⟩;rw[hk] at hm |-;rw[hm,yC _ (bz k)]
 refine⟨m,hm,e,?_⟩;rw[e];obtain⟨k,hk⟩:∃ k,lo X=k:=⟨_,rfl⟩;rw[hk] at hm |-;rw[hm];exact qC k _ (by omega)
theorem Kn(X:Nat)(h:X≠0):lo (2*X)=lo X+1:=by
 obtain⟨m,hm⟩:=rF X h;obtain⟨k,hk⟩:∃ k,lo X=k:=⟨_,rfl⟩;rw[hk] at hm |-;have e:2*X=2^(k+1)*(2*m+1):=by rw[hm,iq];grind
 rw[e];exact Ii (k+1) m
theorem Ko(X:Nat)(h:X≠0):bl (2*X)=bl X+1:=by
 have:=qC 1 X h;rw[mG] at this;omega
theorem F8(n:Bool)(X:Nat)(e:Int):mkS n (2*X) e=mkS n X (e+1):=by
 unfold mkS
 by_cases h:X=0
 · subst h;simp
 · rw[if_neg (by omega),if_neg h,Kn X h,Ko X h]
   have e1:2*X/2^(lo X+1)=X/2^lo X:=by
    rw[iq,cZ (2^lo X) 2,Nat.mul_div_mul_left _ _ (by omega)]
   rw[e1];have e2:(262144<bl X+1-(lo X+1)\/1048576-((lo X+1:Nat):Int)<e\/e < -1048576-((lo X+1:Nat):Int))↔(262144<bl X-lo X\/1048576-(lo X:Int)<e+1\/e+1 < -1048576-(lo X:Int)):=by omega
   by_cases h2:262144<bl X-lo X\/1048576-(lo X:Int)<e+1\/e+1 < -1048576-(lo X:Int)
   · rw[if_pos h2,if_pos (e2.2 h2)]
   · rw[if_neg h2,if_neg (fun h3=>h2 (e2.1 h3))];congr 3;omega
theorem eQ(n:Bool)(e:Int):mkS n 0 e=some (false,0,0):=by unfold mkS;rw[if_pos rfl]
theorem RZ(X:Nat)(h:X%2=1):lo X=0:=by
 have:=Nl (X/2);rw[show 2*(X/2)+1=X by omega] at this;exact this
theorem IC(n:Bool)(X:Nat)(e:Int)(h:X%2=1):mkS n X e=if 262144<bl X\/1048576<e\/e < -1048576 then none else some (n,X,e):=by
 have h0:X≠0:=by omega
 unfold mkS;rw[if_neg h0,RZ X h];simp only[Nat.sub_zero,fw,um]
 by_cases h2:262144<bl X\/1048576<e\/e < -1048576
 · rw[if_pos h2,if_pos (by omega)]
 · rw[if_neg h2,if_neg (by omega)];congr 3;omega
structure tC (n:Bool) (X:Nat) (e:Int):Prop where
 odd:X%2=1\/(X=0/\n=false/\e=0)
 size:bl X<=262144
 up:e<=1048576
 down:-1048576<=e
theorem bZ{n n':Bool}{X Y:Nat}{e f:Int}(h:mkS n X e=some (n',Y,f)):tC n' Y f:=by
 unfold mkS at h
 split at h
 · cases h
   exact⟨.inr ⟨rfl,rfl,rfl⟩,by rw[dD];omega,by omega,by omega⟩
 · next h0 =>
   split at h
   · cases h
   · next h1 =>
     obtain⟨m,hm,e1,hb⟩:=iH X h0
     cases h
     refine⟨.inl (by rw[e1];omega),by omega,by omega,by omega⟩
theorem tC.self{n:Bool}{X:Nat}{e:Int}(h:tC n X e):mkS n X e=some (n,X,e):=by
 rcases h.odd with h1|⟨rfl,rfl,rfl⟩
 · rw[IC n X e h1,if_neg];have:=h.size;have:=h.up;have:=h.down;omega
 · exact eQ _ _
theorem dF{n:Bool}{X:Nat}{e:Int}(h:tC n X e):(ws X).length<=8192:=by
 have h1:=uE X;have h2:=h.size;unfold LG at h1;omega
theorem aI(n:Bool)(X:Nat)(e:Int):(ws (dX (mkS n X e))).length<=8192:=by
 unfold dX
 cases h:mkS n X e with
 | none=>simp[aY]
 | some d =>
   obtain⟨n',Y,f⟩:=d;exact dF (bZ h)
end
end Go.Proofs.YteginbngplldaaaGreatDoor
