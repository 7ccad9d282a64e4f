import Derived.Test.YtfmfhehbdfhnbaaGreatDoorW17x
import Derived.ArgAppend
import Derived.Maps.AppendAt
import Derived.WalkMore
import Derived.Test.YtfmfhehbdfhnbaaGreatDoorW7x
import Derived.ProofKit
import Derived.OpenShut
import Derived.ChangeOld
import Derived.SizedLaws
set_option linter.unusedVariables false
set_option linter.unusedSimpArgs false
set_option maxHeartbeats 16000000
set_option maxRecDepth 20000
namespace Go.Proofs.YtfmfhehbdfhnbaaGreatDoor
section
open Go.RowKit
abbrev Rw (lo:Nat) (w:World) (v:Value) (n:Nat) (ys:List Value):Prop:=w.ownsRow lo 51 1 v n ys
theorem sJ {w w':World}{lo e s:Nat}{v:Value}{n:Nat}{ys:List Value}(h:w.ownsRow lo e s v n ys) (hb:∀ g,v.ownBlock=some g->w'.heap[g]?=w.heap[g]?):w'.ownsRow lo e s v n ys:=by
 refine ⟨h.1,?_⟩;rcases h.2 with hn|⟨g,cap,cur,rfl,hlo,hg,rest⟩
 · exact .inl hn
 · refine .inr ⟨g,cap,cur,rfl,hlo,?_,rest⟩;rw [hb g rfl];exact hg
theorem lI (w:World) (lo:Nat) (v:Value) (n:Nat) (ys:List Value) (x:Value) (s:Nat) (ty:TypeId) (hown:Rw lo w v n ys) (hx:w.cell? ⟨s,0,none⟩=some x) (h1:x.oneCell'=true)
 (hbig:n+1<=35184372088832) (hlo:lo<=w.heap.size) :
 ∃ v' w',(Builtin.append_ #[23,23] ty #[v,.slice (some ⟨s,0,none⟩) 1 1]).run Tryz.prog w=.ok v' w'/\Rw lo w' v' (n+1) (ys++[x])/\w.grownBy w' v.ownBlock /\
   (v'.ownBlock=v.ownBlock\/∃ g,v'.ownBlock=some g/\w.heap.size<=g)/\(∀ (u:Value) (k:Nat) (zs:List Value),Rw lo w u k zs->(u.ownBlock=v.ownBlock->k<=n)->Rw lo w' u k zs):=by
 obtain ⟨i0,hi,hz0,hz1,hz2⟩:=info_parts Tryz.D5
 have hnews:∀ j u,[x][j]?=some u->w.cell? ((⟨s,0,none⟩:Addr).add j)=some u:=by
  intro j u hj
  match j,hj with
  | 0,hj=>simp at hj;subst hj;simpa [Addr.add] using hx
 have h1':∀ u ∈ [x],u.oneCell'=true:=by intro u hu;simp at hu;subst hu;exact h1
 have keep:∀ w',w.grownBy w' none->∀ (u:Value) (k:Nat) (zs:List Value),Rw lo w u k zs->Rw lo w' u k zs:=by
  intro w' hg u k zs hr;rcases hr.2 with hn|⟨g,cap,cur,rfl,hl,hgb,rest⟩
  · exact ⟨hr.1,.inl hn⟩
  · refine ⟨hr.1,.inr ⟨g,cap,cur,rfl,hl,?_,rest⟩⟩;rw [hg.block g (gD.1 hgb).1 aO];exact hgb
 have Mo:∀ (v':Value) (w':World) (m:Nat) (zs:List Value),w'.ownsRow w.heap.size 51 1 v' (m+1) zs->∃ g,v'.ownBlock=some g/\w.heap.size<=g:=by
  intro v' w' m zs h;rcases h.2 with ⟨_,h0⟩|⟨g,cap,cur,rfl,hl,_⟩
  · omega
  · exact ⟨g,rfl,hl⟩
 have mono:∀ (v':Value) (w':World) (m:Nat) (zs:List Value),w'.ownsRow w.heap.size 51 1 v' m zs->Rw lo w' v' m zs:=by
  intro v' w' m zs h;refine ⟨h.1,?_⟩;rcases h.2 with hn|⟨g,cap,cur,rfl,hl,rest⟩
  · exact .inl hn
  · exact .inr ⟨g,cap,cur,rfl,af,rest⟩
 rcases hown.2 with ⟨rfl,rfl⟩|⟨g,cap,cur,rfl,ZF,hg,hnc,hm,hs,ht⟩
 · obtain ⟨v',w',r1,r2,r3,_,_⟩:=run_append_own_at (P:=Tryz.prog) w w.heap.size 23 ty 51 i0 (.int .u32 0) 1 4 Tryz.underlying23 hi hz0 hz1 hz2 rfl au (.slice none 0 0) 0 [] (Bj _ _ _ _) ⟨s,0,none⟩ 1 1 [x] rfl hnews h1' (by unfold maxLen;omega) af (aC _);have hy:ys=[]:=Be (by simpa using hown.1);subst hy;exact ⟨v',w',r1,mono _ _ _ _ (by simpa using r2),r3,.inr (Mo _ _ 0 _ (by simpa using r2)),fun u k zs hr _=>keep _ r3 u k zs hr⟩
 · by_cases hroom:n+1<=cap
   · have hr:=run_append_room (P:=Tryz.prog) w 23 ty 51 i0 Tryz.underlying23 hi g n cap cur hg ⟨s,0,none⟩ 1 1 [x] (by rw [hz1];rfl) hnews h1' hroom (by rw [hz1,hs];simp;omega);rw [hz1] at hr;refine ⟨_,_,hr,⟨by simpa using hown.1,.inr ⟨g,cap,_,rfl,ZF,setRow_heap w g cur _ 51 _ hg,hroom,hm,?_,?_⟩⟩,⟨rfl,rfl,rfl,aO,fun k _ hk=>setRow_other w g k _ (fun e=>hk (by simp [Value.ownBlock,e]))⟩,.inl rfl,?_⟩
     · simp only [zh,A9,gz,pI,zi,qD,zk];omega
     · rw [ht];have hyl:ys.length=n:=by simpa using hown.1
       simp only [fo,x9];rw [<-x9];rw [Bf (by simp [hyl])];rw [ic (by simp [hyl])]
     · intro u k zs hr2 hle;rcases hr2.2 with hn|⟨g2,cap2,U7,rfl,hl2,hg2,Mq,hm2,hs2,ht2⟩
       · exact ⟨hr2.1,.inl hn⟩
       · by_cases he:g2=g
         · subst he;rw [hg] at hg2
           cases hg2
           have hk:=hle rfl;refine ⟨hr2.1,.inr ⟨g2,cap2,_,rfl,hl2,setRow_heap w g2 cur _ 51 _ hg,Mq,hm2,?_,?_⟩⟩
           · simp only [zh,A9,gz,pI,zi,qD,zk];omega
           · have hcl:cur.toList.length=cap2:=by simpa using hs2
             rw [<-ht2];simp only [fo,x9];rw [Bf (by rw [gz];omega),List.take_take,jf hk]
         · refine ⟨hr2.1,.inr ⟨g2,cap2,U7,rfl,hl2,?_,Mq,hm2,hs2,ht2⟩⟩;rw [setRow_other w g g2 _ he];exact hg2
   · obtain ⟨v',w',r1,r2,r3⟩:=run_append_arg_grows (P:=Tryz.prog) w 23 ty 51 i0 (.int .u32 0) 1 4 Tryz.underlying23 hi hz0 hz1 hz2 rfl au ⟨g,0,none⟩ n cap ys (by simpa using hown.1) (fun j u hj=>hown.cells (g:=g) (by simp [Value.ownBlock]) j u hj) ⟨s,0,none⟩ 1 1 [x] rfl hnews af (by unfold maxLen;omega) af;exact ⟨v',w',r1,mono _ _ _ _ r2,⟨r3.os,r3.tape,r3.output,r3.size,fun k hk _=>r3.block k hk aO⟩,.inr (Mo _ _ n _ r2),fun u k zs hr _=>keep _ r3 u k zs hr⟩
theorem dC {w:World}{ops:Array Oper}{rest:List Oper}{o:Oper}{a:Act}{Q:Exit->Act->World->Prop}(hgd:o.guard=none) (s x:Operand) (t:TypeId)
 (ho:o.op=.call { callee:=.builtin .append,args:=#[s,x],argTypes:=#[t,t] }) (v u:Value) (hs:a.eval s=v) (hx:a.eval x=u) (v':Value) (w':World)
 (hrun:(Builtin.append_ #[t,t] o.type #[v,u]).run Tryz.prog w=.ok v' w') (h:wpList Tryz.prog ops Q rest (a.put o.dst v') w'):wpList Tryz.prog ops Q (o::rest) a w:=by
 refine wpList_plain hgd fun K hK=>?_;unfold Oper.wp;simp [execOp,ho,resolve,invoke,builtin,hs,hx,hrun,Result.andThen];exact hK _ _ h
theorem Rw.lt {lo:Nat}{w:World}{v:Value}{n:Nat}{ys:List Value}(h:Rw lo w v n ys) (b:Nat) (hb:v.ownBlock=some b):lo<=b/\b<w.heap.size/\∃ cur,w.heap[b]?=some (.cells cur 51 (0,0)):=by
 rcases h.2 with ⟨rfl,h0⟩|⟨g,cap,cur,rfl,hlo,hg,_⟩
 · cases hb
 · cases hb
   exact ⟨hlo,(gD.1 hg).1,cur,hg⟩
theorem Rw.cell {lo:Nat}{w:World}{g n cap:Nat}{ys:List Value}(h:Rw lo w (.slice (some ⟨g,0,none⟩) n cap) n ys) (k:Nat) (u:Value) (hk:ys[k]?=some u):w.cell? ⟨g,k,none⟩=some u:=by
 have h1:=h.cells (g:=g) (by simp [Value.ownBlock]) k u hk;have e:(⟨g,0,none⟩:Addr).add k=⟨g,k,none⟩:=by unfold Addr.add;split <;> simp_all
 rw [e] at h1;exact h1
theorem Rw.words {lo:Nat}{w:World}{v:Value}{n:Nat}{L:List Nat}(h:Rw lo w v n (L.map U)):∃ ao cap,v=.slice ao n cap/\n<=cap/\n=L.length/\(ao=none->cap=0)/\Rd w.heap.size w ao L:=by
 have hl:n=L.length:=by have:=h.1;simp at this;omega
 rcases h.2 with ⟨rfl,h0⟩|⟨g,cap,cur,rfl,hlo,hg,hn,hm,hs,ht⟩
 · refine ⟨none,0,by rw [h0],af,hl,fun _=>rfl,?_⟩;have:L=[]:=DN.1 af;rw [this];exact Rd.nil _ _ _
 · refine ⟨_,cap,rfl,hn,hl,(fun e=>by cases e),fun _=>⟨g,0,(gD.1 hg).1,rfl,fun i hi=>?_⟩⟩;have h1:=Rw.cell h i (U (L.getD i 0)) (by simp [hi]);rw [dS];exact h1
theorem j4 (xs:List Nat) (k:Nat):val (xs.take (k+1))=val (xs.take k)+pw k*xs.getD k 0:=by
 by_cases h:k<xs.length
 · exact lK xs k h
 · rw [ic af,ic af];simp [eP,nR (show xs.length<=k by omega)]
theorem I7 (p V c a b x y s d:Nat) (h:V+c*p=a+b) (e:s+d*4294967296=x+y+c):(V+p*s)+d*(4294967296*p)=(a+p*x)+(b+p*y):=qc p a b V c x y s d h e
theorem Er (p V c a b x y s d:Nat) (h:V+b=a+c*p) (e:s+y+c=x+d*4294967296):(V+p*s)+(b+p*y)=(a+p*x)+d*(4294967296*p):=nX p a b V c x y s d h e
theorem zN (xs:List Nat) (ao:Option Addr) (n cap B i:Nat) (w:World) (hn:n=xs.length) (hm:n<=70368744177664) (hx:Wf xs) (hR:Rd B w ao xs) (hi:i<=70368744177664) :
 Calls Tryz.prog 149 #[.slice ao n cap,.int .i64 (i:Nat)] w fun r w'=>r=.returned (.int .u64 ((xs.getD i 0:Nat):Int))/\w'=w:=by
 by_cases hin:i<n
 · obtain ⟨b,off,hB,rfl,hcell⟩:=hR (by intro e;subst e;simp at hn;omega);have hck:=hcell i af;have hxl:=hx.get i;obtain ⟨t,ht⟩:∃ t,xs.getD i 0=t:=⟨_,rfl⟩;rw [ht] at hck hxl |-;clear hcell hR hn hx ht;go_enter Tryz.func149,Tryz.ntmps149;go_wp2;go_ret;exact ⟨rfl,rfl⟩
 · have e:xs.getD i 0=0:=by simp [eP,nR (show xs.length<=i by omega)]
   rw [e];clear hR hn hx e;go_enter Tryz.func149,Tryz.ntmps149;go_wp2;go_ret;exact ⟨rfl,rfl⟩
theorem Mr (X Y V c n m N:Nat) (hX:X<pw n) (hY:Y<pw m) (hn:n<=N) (hm:m<=N) (h:V+c*pw (N+1)=X+Y):c=0:=by
 rcases kF c with h0|h0
 · exact h0
 · exfalso;have h1:=jE hn;have h2:=jE hm;have h3:1*pw (N+1)<=c*pw (N+1):=fO _ h0;rw [bK] at h3 h;have:=jQ N;omega
theorem I8 (xs ys:List Nat) (ao bo:Option Addr) (n cap m aX B:Nat) (w:World) (hn:n=xs.length) (hm:m=ys.length) (hc:n<=cap) (hcb:m<=aX) (hbig:n<=35184372088000) (hbig2:m<=35184372088000)
 (hx:Wf xs) (hy:Wf ys) (hR:Rd B w ao xs) (hS:Rd B w bo ys) (hB:B<=w.heap.size) :
 Calls Tryz.prog 106 #[.slice ao n cap,.slice bo m aX] w fun r w'=>∃ v,r=.returned v/\Nt w.heap.size w' v (val xs+val ys)/\Below w.heap.size w w':=by
 have hX:=dh xs hx;have hY:=dh ys hy;rw [<-hn] at hX;rw [<-hm] at hY;obtain ⟨N,hN⟩:=ah (max n m);have hnN:n<=N:=af
 have hmN:m<=N:=af
 have hNb:N<=35184372088000:=af
 have HR:=(y7 hR hS hn hm hx hy hB hX hY hN);clear hR hS hn hm hx hy hB hX hY hN;go_enter Tryz.func106,Tryz.ntmps106;go_wp2
 go_loopg [5,6,7] (N+1) (fun gk ov cv iv wr=>∃ (i c:Nat) (L:List Nat),gk+i=N+1/\cv=.int .u64 (c:Nat)/\c<=1/\iv=.int .i64 (i:Nat)/\Hid (Rw w.heap.size wr ov i (L.map U))/\Hid (Below w.heap.size w wr) /\
  Aside (Wf L/\val L+c*pw i=val (xs.take i)+val (ys.take i)))
 case atStart=>exact ⟨0,0,[],af,rfl,af,rfl,Bj _ _ _ _,aD _ _,Wf.nil,by simp [val]⟩
 case round =>
  obtain ⟨i,c,L,hgi,rfl,hc1,rfl,HO,HB,HA⟩:=hrel
  by_cases hgo:i<n\/i<m\/c=1
  · have hiN:i<=N:=by
     rcases hgo with h|h|h
     · omega
     · omega
     · by_cases hi1:i=N+1
       · exfalso;obtain ⟨hR,hS,hn,hm,hx,hy,hB,hX,hY,hN⟩:=HR.o;have h1:=HA.o.2;rw [ic af,ic af,hi1] at h1;have:=Mr _ _ _ _ _ _ _ hX hY hnN hmN h1;omega
       · omega
    obtain ⟨hR,hS,hn,hm,hx,hy,hB,hX,hY,hN⟩:=HR.o;have HA1:=hid (zN xs ao n cap B i wr hn af hx (hR.below (HB.o.mono hB)) af);have HA2:=hid (zN ys bo m aX B i wr hm af hy (hS.below (HB.o.mono hB)) af);obtain ⟨x,fZ⟩:∃ x,xs.getD i 0=x:=⟨_,rfl⟩;obtain ⟨y,pU⟩:∃ y,ys.getD i 0=y:=⟨_,rfl⟩;have hxl:x<4294967296:=fZ ▸ hx.get i;have hyl:y<4294967296:=pU ▸ hy.get i;rw [fZ] at HA1;rw [pU] at HA2;obtain ⟨s,hs⟩:∃ s:Nat,s=(x+y+c)%4294967296:=⟨_,rfl⟩;obtain ⟨d,hd⟩:∃ d:Nat,d=(x+y+c)/4294967296:=⟨_,rfl⟩;have e1:((x:Int)+y+c)%4294967296=(s:Int):=af
    have e2:((x:Int)+y+c)/4294967296=(d:Int):=af
    have hsz:=HB.o.size;obtain ⟨v',w',hap,hown,hgrow,_,_⟩:=lI (wr.alloc (.cells #[.int .u32 (s:Nat)] 51)) w.heap.size u5 i (L.map U) (.int .u32 (s:Nat)) wr.heap.size 23 (HO.o.alloc _) (by unfold World.cell?;simp only [ib];rfl) rfl af (by simp;omega);have HX:Aside (xs.getD i 0=x/\ys.getD i 0=y/\s+d*4294967296=x+y+c/\s<4294967296/\d<=1):=⟨fZ,pU,af,af,af⟩;have hbel:Below w.heap.size w w':=(HB.o.alloc hsz _).grown hgrow (by simp;omega) (fun k hk=>(HO.o.lt k hk).1);have HI:=(aJ hown hbel);have IV:=hid hap;clear hap hown hgrow hbel hs hd fZ pU hR hS hn hm hx hy hB hX hY hN hsz
    have Xe:(decide (i<n)=true)\/(decide (i<n)=false/\decide (i<m)=true)\/(decide (i<n)=false/\decide (i<m)=false/\decide (0<c)=true):=by
     by_cases a:i<n
     · exact .inl (decide_eq_true af)
     · by_cases b:i<m
       · exact .inr (.inl ⟨decide_eq_false af,decide_eq_true af⟩)
       · exact .inr (.inr ⟨decide_eq_false af,decide_eq_false af,decide_eq_true af⟩)
    rcases Xe with h1|⟨h1,h2⟩|⟨h1,h2,h3⟩
    all_goals (
     go_wp2_with fail;refine HA1.o.mono ?_;rintro r w1 ⟨rfl,rfl⟩;go_wp2_with fail;refine HA2.o.mono ?_;rintro r w1 ⟨rfl,rfl⟩
     go_wp2_with (at_builtin;refine dC rfl (.tmp 34) (.tmp 37) 23 rfl _ _ rfl rfl _ _ IV.o ?_)
     go_roundg (gk-1)
     case measure=>omega
     case rel =>
      obtain ⟨a1,a2,a3,a4,a5⟩:=HX.o;obtain ⟨sD,DC⟩:=HA.o;refine ⟨i+1,d,L++[s],af,by first | rfl | rw [e2],a5,by first | go_num | (congr 1;omega),by rw [y8];exact HI.o.1,HI.o.2,sD.append (Wf.cons a4 Wf.nil),?_⟩;have sw:L.length=i:=by have:=HO.o.1;simp at this;omega
      rw [val_append,sw,j4,j4,a1,a2,bK]
      simpa [val] using I7 (pw i) _ _ _ _ x y s d DC a3)
  · have hi:N<=i:=by have:=HR.o.2.2.2.2.2.2.2.2.2;omega
    obtain rfl:c=0:=af
    obtain ⟨ZG,U8,hsh,hcap,hl,hnil,Xf⟩:=HO.o.words;subst hsh;obtain ⟨hR,hS,hn,hm,hx,hy,hB,hX,hY,hN⟩:=HR.o;have TU:=hid (jB L ZG i U8 wr.heap.size wr hl hcap af HA.o.1 Xf hnil)
    have DC:val L=val xs+val ys:=by
     have h1:=HA.o.2;rw [ic af,ic af] at h1;omega
    rw [DC] at TU;have h1:decide (i<n)=false:=decide_eq_false af;have h2:decide (i<m)=false:=decide_eq_false af;clear hR hS hn hm hx hy hB hX hY hN hl hnil Xf DC hgo HO;go_wp2_with fail;refine TU.o.mono ?_;rintro r w1 ⟨v,rfl,DF,hb⟩;have HZ:=(aJ DF hb);clear DF hb;go_wp2;go_ret;have hsz:=HB.o.size;exact ⟨v,rfl,HZ.o.1.mono hsz,HB.o.trans (HZ.o.2.mono hsz)⟩
theorem yC (xs:List Nat) (hx:Wf xs) (k r:Nat) (hk:k<xs.length) (hr:r<32):val xs/2^(32*k+r)%2=xs.getD k 0/2^r%2:=by
 have e:=fJ xs k af
 have hl:val (xs.take k)<pw k:=by
  have:=dh _ (hx.take k);rwa [gz,jf af] at this
 rw [lN,<-nH,e,qF _ _ (jQ k),gQ hl,dS,dU xs k hk]
 have e2:4294967296*val (xs.drop (k+1))=2^r*(2*(2^(31-r)*val (xs.drop (k+1)))):=by
  have:(4294967296:Nat)=2^r*(2*2^(31-r)):=by
   rw [<-aN,df (2^r) 2,aN,<-aL,show r+(31-r)=31 by omega]
  rw [this];grind
 rw [e2,qF _ _ (bu r),y9]
theorem vV (xs:List Nat) (hx:Wf xs) (i:Nat) (h:xs.length<=i/32):val xs/2^i%2=0:=by
 have h1:=dh xs hx
 have h2:pw xs.length<=2^i:=by
  have:pw xs.length=2^(32*xs.length):=by rw [<-gM (32*xs.length),lN];simp
  rw [this];exact fB au af
 rw [gQ af]
theorem and_one (z:Nat) (h:z<4294967296):bits BinOp.and IntKind.u32 (z:Int) 1=((z%2:Nat):Int):=by
 have:=Gh z 1 h au;rw [Nat.and_one_is_mod] at this;exact this
theorem Qv (ao:Option Addr) (n cap:Nat) (i:Int) (w:World) (hi:i<0) :
 Calls Tryz.prog 160 #[.slice ao n cap,.int .i64 i] w fun r w'=>r=.returned (.bool false)/\w'=w:=by
 go_enter Tryz.func160,Tryz.ntmps160;go_wp2;go_ret;exact ⟨rfl,rfl⟩
theorem qU (xs:List Nat) (ao:Option Addr) (n cap B i:Nat) (w:World) (hn:n=xs.length) (hx:Wf xs) (hR:Rd B w ao xs) (hi:i<=9223372036854775807) :
 Calls Tryz.prog 160 #[.slice ao n cap,.int .i64 (i:Int)] w fun r w'=>r=.returned (.bool (decide (val xs/2^i%2=1)))/\w'=w:=by
 obtain ⟨k,hk⟩:=ah (i/32);obtain ⟨r,hr⟩:=ah (i%32);have e1:(i:Int)/32=(k:Int):=af
 have e2:(i:Int)%32=(r:Int):=af
 by_cases hkn:k<n
 · have hb:=yC xs hx k r af af;rw [show 32*k+r=i by omega] at hb;rw [hb];obtain ⟨b,off,hB,rfl,hcell⟩:=hR (by intro e;subst e;simp at hn;omega);have hck:=hcell k af;obtain ⟨t,ht⟩:∃ t,xs.getD k 0=t:=⟨_,rfl⟩;have htl:t<4294967296:=ht ▸ hx.get k;rw [ht] at hck |-;obtain ⟨z,hz⟩:=ah (t/2^r);have hzt:z<=t:=by rw [hz];exact nE _ _
   have e3:(t:Int)/2^r=(z:Int):=by rw [hz];simp
   have e4:=and_one z af;have ZH:r<32:=af
   rw [<-hz];clear hb hn hx hR hcell ht hz hk hr;rcases (by omega:z%2=0\/z%2=1) with hz2|hz2
   · rw [hz2] at e4 |-;clear hz2;go_enter Tryz.func160,Tryz.ntmps160;go_wp2;go_ret;exact ⟨rfl,rfl⟩
   · rw [hz2] at e4 |-;clear hz2;go_enter Tryz.func160,Tryz.ntmps160;go_wp2;go_ret;exact ⟨rfl,rfl⟩
 · rw [vV xs hx i af];clear hn hx hR hk hr;go_enter Tryz.func160,Tryz.ntmps160;go_wp2;go_ret;exact ⟨rfl,rfl⟩
def Es (X:Nat):Value:=if X<18446744073709551616 then .tuple #[.int .u64 (X:Int),.int .i64 0] else .tuple #[.int .u64 0,.int .i64 2]
theorem U9 (xs:List Nat) (hx:Wf xs):nl xs<=2↔val xs<18446744073709551616:=by
 rw [fH xs hx,aP];rfl
theorem I9 (xs:List Nat) (ao:Option Addr) (n cap B:Nat) (w:World) (hn:n=xs.length) (hc:n<=cap) (hm:n<=70368744177664) (hx:Wf xs) (hR:Rd B w ao xs) :
 Calls Tryz.prog 174 #[.slice ao n cap] w fun r w'=>r=.returned (Es (val xs))/\w'=w:=by
 have H:=hid (dV xs ao n cap B w hn hc af hR);have hl:=jH xs;have h2:=U9 xs hx;have hf:=kL xs hx;obtain ⟨m,hm'⟩:∃ m,nl xs=m:=⟨_,rfl⟩;rw [hm'] at H hl h2 hf;unfold Es
 by_cases h:2<m
 · rw [if_neg af];clear h2 hl hn hx hR hm' hf;go_enter Tryz.func174,Tryz.ntmps174;go_wp2_with fail;refine H.o.mono ?_;rintro r w1 ⟨rfl,rfl⟩;go_wp2
   go_ret2
   exact ⟨rfl,rfl⟩
 · rw [if_pos af];rw [<-jI] at hf;have HR:=(eu hR hn hx hl hf);have hm2:m<=2:=af
   clear h2 hl hn hx hR hm' hf h;go_enter Tryz.func174,Tryz.ntmps174;go_wp2_with fail;refine H.o.mono ?_;rintro r w1 ⟨rfl,rfl⟩;go_wp2
   go_loopg [4,14] m (fun gk s i wr=>∃ (k sv:Nat),gk+k=m/\s=.int .u64 (sv:Nat)/\i=.int .i64 (k:Nat)/\wr=w1/\Aside (sv=sg xs 0 k))
   case atStart=>exact ⟨0,0,af,rfl,rfl,rfl,(dW _ _).symm⟩
   case round =>
    obtain ⟨k,sv,Gm,rfl,rfl,rfl,HA⟩:=hrel
    by_cases hk:k<m
    · obtain ⟨hR,hn,hx,hl,hf⟩:=HR.o;obtain ⟨b,off,hB,rfl,hcell⟩:=hR (by intro e;subst e;simp at hl;omega);have hck:=hcell k af;obtain ⟨t,ht⟩:∃ t,xs.getD k 0=t:=⟨_,rfl⟩;have htl:t<4294967296:=ht ▸ hx.get k;rw [ht] at hck;have hs1:=nL xs 0 k hx af;have hs2:=bJ xs 0 k af;rw [dS,ht,<-HA.o] at hs2;rw [<-HA.o] at hs1;have HX:=(aJ hs1 hs2);clear hR hn hx hl hf hcell ht hs1 hs2;rcases (by omega:k=0\/k=1) with rfl|rfl
      · have hsv:sv=0:=by have:=HX.o.1;rw [jg] at this;omega
        have e:bits BinOp.or IntKind.u64 (sv:Int) (t:Int)=(t:Int):=by rw [bits_or_u64_nat _ _ af af,hsv,Nat.zero_or]
        rw [gM] at hck;have HS:=(ak hsv);clear hsv;go_wp2;go_roundg (gk-1)
        case measure=>omega
        case rel =>
         refine ⟨1,t,af,by first | rfl | rw [e],by go_num,rfl,?_⟩;have:=HX.o.2;rw [jg,HS.o] at this;rw [Aside,this];omega
      · have hsv:sv<4294967296:=by have:=HX.o.1;rw [show (1:Nat)=0+1 from rfl,bK,jg] at this;omega
        have e:=vQ t sv htl hsv;go_wp2;go_roundg (gk-1)
        case measure=>omega
        case rel =>
         refine ⟨2,sv+t*4294967296,af,by first | rfl | rw [e] | (rw [e];rfl),by go_num,rfl,?_⟩;have:=HX.o.2;rw [show pw 1=4294967296 from rfl] at this;rw [Aside,this];omega
    · obtain rfl:k=m:=af
      go_wp2
      go_ret2
      obtain ⟨hR,hn,hx,hl,hf⟩:=HR.o;rw [<-hf,<-HA.o];exact ⟨rfl,rfl⟩
theorem vW (ys:List Nat) (hy:Wf ys) (n:Nat) (h:val ys<pw n):val (ys.take n)=val ys:=by
 by_cases hn:n<=ys.length
 · have h1:=fJ ys n hn
   have:val (ys.drop n)=0:=by
    rcases kF (val (ys.drop n)) with h0|h0
    · exact h0
    · have h2:pw n*1<=pw n*val (ys.drop n):=gP _ h0;omega
   rw [this] at h1;omega
 · rw [ic af]
theorem Ja (V Y X c p:Nat) (hV:V<p) (hle:Y<=X) (hc:c<=1) (h:V+Y=X+c*p):V=X-Y:=by
 rcases (by omega:c=0\/c=1) with rfl|rfl <;> omega
theorem Et (xs ys:List Nat) (ao bo:Option Addr) (n cap m aX B:Nat) (w:World) (hn:n=xs.length) (hm:m=ys.length) (hc:n<=cap) (hcb:m<=aX) (hbig:n<=35184372088000) (hbig2:m<=35184372088000)
 (hx:Wf xs) (hy:Wf ys) (hR:Rd B w ao xs) (hS:Rd B w bo ys) (hB:B<=w.heap.size) (hle:val ys<=val xs) :
 Calls Tryz.prog 108 #[.slice ao n cap,.slice bo m aX] w fun r w'=>∃ v,r=.returned v/\Nt w.heap.size w' v (val xs-val ys)/\Below w.heap.size w w':=by
 have hX:=dh xs hx;rw [<-hn] at hX;have HR:=(P7 hR hS hn hm hx hy hB hX hle);clear hR hS hn hm hx hy hB hX hle;go_enter Tryz.func108,Tryz.ntmps108;go_wp2
 go_loopg [5,6,7] n (fun gk ov cv iv wr=>∃ (i c:Nat) (L:List Nat),gk+i=n/\cv=.int .u64 (c:Nat)/\c<=1/\iv=.int .i64 (i:Nat)/\Hid (Rw w.heap.size wr ov i (L.map U))/\Hid (Below w.heap.size w wr) /\
  Aside (Wf L/\val L+val (ys.take i)=val (xs.take i)+c*pw i))
 case atStart=>exact ⟨0,0,[],af,rfl,af,rfl,Bj _ _ _ _,aD _ _,Wf.nil,by simp [val]⟩
 case round =>
  obtain ⟨i,c,L,hgi,rfl,hc1,rfl,HO,HB,HA⟩:=hrel
  by_cases hgo:i<n
  · obtain ⟨hR,hS,hn,hm,hx,hy,hB,hX,hle⟩:=HR.o;have HA1:=hid (zN xs ao n cap B i wr hn af hx (hR.below (HB.o.mono hB)) af);have HA2:=hid (zN ys bo m aX B i wr hm af hy (hS.below (HB.o.mono hB)) af);obtain ⟨x,fZ⟩:∃ x,xs.getD i 0=x:=⟨_,rfl⟩;obtain ⟨y,pU⟩:∃ y,ys.getD i 0=y:=⟨_,rfl⟩;have hxl:x<4294967296:=fZ ▸ hx.get i;have hyl:y<4294967296:=pU ▸ hy.get i;rw [fZ] at HA1;rw [pU] at HA2;obtain ⟨s,hs⟩:∃ s:Nat,s=(x+4294967296-y-c)%4294967296:=⟨_,rfl⟩;obtain ⟨q,hq⟩:∃ q:Nat,q=(x+4294967296-y-c)/4294967296:=⟨_,rfl⟩;obtain ⟨d,hd⟩:∃ d:Nat,d=1-q:=⟨_,rfl⟩;have e1:((x:Int)+4294967296-y-c)%4294967296=(s:Int):=af
    have e2:((x:Int)+4294967296-y-c)/4294967296=(q:Int):=af
    have e3:(1:Int)-(q:Int)=(d:Int):=af
    have hsz:=HB.o.size;obtain ⟨v',w',hap,hown,hgrow,_,_⟩:=lI (wr.alloc (.cells #[.int .u32 (s:Nat)] 51)) w.heap.size u5 i (L.map U) (.int .u32 (s:Nat)) wr.heap.size 23 (HO.o.alloc _) (by unfold World.cell?;simp only [ib];rfl) rfl af (by simp;omega);have HX:Aside (xs.getD i 0=x/\ys.getD i 0=y/\s+y+c=x+d*4294967296/\s<4294967296/\d<=1):=⟨fZ,pU,af,af,af⟩;have hbel:Below w.heap.size w w':=(HB.o.alloc hsz _).grown hgrow (by simp;omega) (fun k hk=>(HO.o.lt k hk).1);have HI:=(aJ hown hbel);have IV:=hid hap;clear hap hown hgrow hbel hs hd hq fZ pU hR hS hn hm hx hy hB hX hsz hle;go_wp2_with fail;refine HA1.o.mono ?_;rintro r w1 ⟨rfl,rfl⟩;go_wp2_with fail;refine HA2.o.mono ?_;rintro r w1 ⟨rfl,rfl⟩
    go_wp2_with (at_builtin;refine dC rfl (.tmp 25) (.tmp 28) 23 rfl _ _ rfl rfl _ _ IV.o ?_)
    go_roundg (gk-1)
    case measure=>omega
    case rel =>
     obtain ⟨a1,a2,a3,a4,a5⟩:=HX.o;obtain ⟨sD,DC⟩:=HA.o;refine ⟨i+1,d,L++[s],af,by first | rfl | rw [e3] | rw [e2,e3],a5,by first | go_num | (congr 1;omega),by rw [y8];exact HI.o.1,HI.o.2,sD.append (Wf.cons a4 Wf.nil),?_⟩;have sw:L.length=i:=by have:=HO.o.1;simp at this;omega
     rw [val_append,sw,j4,j4,a1,a2,bK];simpa [val] using Er (pw i) _ _ _ _ x y s d DC a3
  · obtain rfl:i=n:=af
    obtain ⟨ZG,U8,hsh,hcap,hl,hnil,Xf⟩:=HO.o.words;subst hsh;obtain ⟨hR,hS,hn,hm,hx,hy,hB,hX,hle⟩:=HR.o;have TU:=hid (jB L ZG i U8 wr.heap.size wr hl hcap af HA.o.1 Xf hnil)
    have DC:val L=val xs-val ys:=by
     have h1:=HA.o.2;rw [ic (l:=xs) af,vW ys hy i af] at h1;have h2:=dh L HA.o.1;rw [<-hl] at h2;exact Ja _ _ _ _ _ h2 hle hc1 h1
    rw [DC] at TU;clear hR hS hn hm hx hy hB hX hl hnil Xf DC hgo HO hle;go_wp2_with fail;refine TU.o.mono ?_;rintro r w1 ⟨v,rfl,DF,hb⟩;have HZ:=(aJ DF hb);clear DF hb;go_wp2;go_ret;have hsz:=HB.o.size;exact ⟨v,rfl,HZ.o.1.mono hsz,HB.o.trans (HZ.o.2.mono hsz)⟩
theorem Below.drewN' {B:Nat}{a w:World}(h:Below B a w) (n:Nat):Below B a (w.drewN n):=⟨h.os,h.tape,h.output,h.size,h.block⟩
theorem Ms (xs ys:List Nat) (ao bo:Option Addr) (n cap m aX B:Nat) (w:World) (hn:n=xs.length) (hm:m=ys.length) (hbig:n<=70368744177664) (hbig2:m<=70368744177664)
 (hx:Wf xs) (hy:Wf ys) (hR:Rd B w ao xs) (hS:Rd B w bo ys) :
 Calls Tryz.prog 107 #[.slice ao n cap,.slice bo m aX] w fun r w'=>r=.returned (.int .i64 (aY (val xs) (val ys)))/\Below w.heap.size w w':=by
 have H1:=hid (nV xs ao n cap B w hn af hR);have H2:=hid (nV ys bo m aX B w hm af hS);have hl1:=jH xs;have hl2:=jH ys;have f1:=kL xs hx;have f2:=kL ys hy;rw [<-jI] at f1 f2;rcases nI (nl xs) (nl ys) with he|he|he
 · rw [mY (vk xs ys hx hy he)];obtain ⟨k1,hk1⟩:∃ k,nl xs=k:=⟨_,rfl⟩;obtain ⟨k2,hk2⟩:∃ k,nl ys=k:=⟨_,rfl⟩;rw [hk1] at H1 he;rw [hk2] at H2 he;clear hk1 hk2 hn hm hx hy hR hS f1 f2 hl1 hl2;go_enter Tryz.func107,Tryz.ntmps107;go_wp2_with fail;refine H1.o.mono ?_;rintro r w1 ⟨rfl,rfl⟩;go_wp2_with fail;refine H2.o.mono ?_;rintro r w1 ⟨rfl,rfl⟩;have hne:decide (k1=k2)=false:=decide_eq_false af;have hne2:k1≠k2:=af
   go_wp2;go_ret;exact ⟨rfl,aD _ _⟩
 · obtain ⟨k0,hk0⟩:∃ k,nl ys=k:=⟨_,rfl⟩;rw [he] at H1 hl1 f1;rw [hk0] at H1 H2 hl1 hl2 f1 f2;have HR:=(y7 hR hS hn hm hx hy hl1 hl2 f1 f2);have hkn:k0<=n:=af
   have hkm:k0<=m:=af
   clear hR hS hn hm hx hy hl1 hl2 f1 f2 he hk0;go_enter Tryz.func107,Tryz.ntmps107;go_wp2_with fail;refine H1.o.mono ?_;rintro r w1 ⟨rfl,rfl⟩;go_wp2_with fail;refine H2.o.mono ?_;rintro r w1 ⟨rfl,rfl⟩;go_wp2
   go_loopg [5] k0 (fun k i wr=>k<=k0/\i=.int .i64 ((k:Int)-1)/\Hid (Below w1.heap.size w1 wr)/\Aside (sg xs k (k0-k)=sg ys k (k0-k)))
   case atStart=>exact ⟨aC _,by first | rfl | go_num,aD _ _,by rw [xZ,dW,dW];exact rfl⟩
   case round =>
    obtain ⟨hk,rfl,HB,HA⟩:=hrel
    by_cases hk0:gk=0
    · subst hk0;go_wp2;go_ret;obtain ⟨hR,hS,hn,hm,hx,hy,hl1,hl2,f1,f2⟩:=HR.o;have h:=HA.o;rw [Nat.sub_zero,f1,f2] at h;rw [Gv h];exact ⟨rfl,HB.o⟩
    · obtain ⟨k,rfl⟩:∃ k,gk=k+1:=⟨gk-1,af⟩;obtain ⟨hR,hS,hn,hm,hx,hy,hl1,hl2,f1,f2⟩:=HR.o;obtain ⟨b,off,hB1,rfl,hc1⟩:=hR (by intro e;subst e;simp at hl1;omega);obtain ⟨b2,Ei,hB2,rfl,hc2⟩:=hS (by intro e;subst e;simp at hl2;omega)
      have g1:wr.cell? ⟨b,off+k,none⟩=some (.int .u32 ((xs.getD k 0:Nat):Int)) :=
       (HB.o.cell (p:=⟨b,off+k,none⟩) (lh w1 ⟨b,off+k,none⟩ (hc1 k af))).trans (hc1 k af)
      have g2:wr.cell? ⟨b2,Ei+k,none⟩=some (.int .u32 ((ys.getD k 0:Nat):Int)) :=
       (HB.o.cell (p:=⟨b2,Ei+k,none⟩) (lh w1 ⟨b2,Ei+k,none⟩ (hc2 k af))).trans (hc2 k af)
      obtain ⟨x,fZ⟩:∃ x:Nat,xs.getD k 0=x:=⟨_,rfl⟩;obtain ⟨y,pU⟩:∃ y:Nat,ys.getD k 0=y:=⟨_,rfl⟩;rw [fZ] at g1;rw [pU] at g2;have HX:=(aJ fZ pU);have hki:(k:Int)<(n:Int):=af
      have Zx:0<=(k:Int):=af
      have Zy:(k:Int)<(m:Int):=af
      clear hR hS hn hm hx hy hl1 hl2 f1 f2 hc1 hc2 fZ pU hk0;rcases nI x y with hxy|hxy|hxy
      · go_wp2
        go_quiet (fail)
        go_wp2;go_ret;obtain ⟨hR,hS,hn,hm,hx,hy,hl1,hl2,f1,f2⟩:=HR.o;have h:=HA.o;have t1:=oH xs ys hx hy k (k0-(k+1)) af af h (by rw [HX.o.1,HX.o.2];exact hxy);rw [show k+1+(k0-(k+1))=k0 by omega,f1,f2] at t1;rw [mY t1];exact ⟨rfl,Below.drewN' HB.o _⟩
      · subst hxy;go_wp2
        go_quiet (fail)
        go_wp2
        go_quiet (fail)
        go_wp2;go_roundg k
        case measure=>omega
        case rel =>
         obtain ⟨hR,hS,hn,hm,hx,hy,hl1,hl2,f1,f2⟩:=HR.o;refine ⟨af,by first | go_num | (congr 1;omega),hid (Below.drewN' HB.o _),?_⟩;have h:=HA.o;obtain ⟨r,hr⟩:∃ r,k0-k=r+1:=⟨k0-(k+1),af⟩;rw [show k0-(k+1)=r by omega] at h;rw [Aside,hr,kP xs k r af,kP ys k r af,h,HX.o.1,HX.o.2]
      · have hxy2:decide (x<y)=false:=decide_eq_false af;go_wp2
        go_quiet (fail)
        go_wp2
        go_quiet (fail)
        go_wp2;go_ret;obtain ⟨hR,hS,hn,hm,hx,hy,hl1,hl2,f1,f2⟩:=HR.o;have h:=HA.o;have t1:=oH ys xs hy hx k (k0-(k+1)) af af h.symm (by rw [HX.o.1,HX.o.2];exact hxy);rw [show k+1+(k0-(k+1))=k0 by omega,f1,f2] at t1;rw [oJ t1];exact ⟨rfl,Below.drewN' (Below.drewN' HB.o _) _⟩
 · rw [oJ (vk ys xs hy hx he)];obtain ⟨k1,hk1⟩:∃ k,nl xs=k:=⟨_,rfl⟩;obtain ⟨k2,hk2⟩:∃ k,nl ys=k:=⟨_,rfl⟩;rw [hk1] at H1 he;rw [hk2] at H2 he;clear hk1 hk2 hn hm hx hy hR hS f1 f2 hl1 hl2;go_enter Tryz.func107,Tryz.ntmps107;go_wp2_with fail;refine H1.o.mono ?_;rintro r w1 ⟨rfl,rfl⟩;go_wp2_with fail;refine H2.o.mono ?_;rintro r w1 ⟨rfl,rfl⟩;have hne:decide (k1=k2)=false:=decide_eq_false af;have hlt:decide (k1<k2)=false:=decide_eq_false af;have hne2:k1≠k2:=af
   go_wp2;go_ret;exact ⟨rfl,aD _ _⟩
theorem Mt (xs:List Nat) (ao:Option Addr) (n cap B i:Nat) (w:World) (hn:n=xs.length) (hx:Wf xs) (hR:Rd B w ao xs) (hi:i<=9223372036854775807) :
 Calls Tryz.prog 132 #[.slice ao n cap,.int .i64 (i:Int)] w fun r w'=>r=.returned (.bool (decide (val xs/2^i%2=1)))/\w'=w:=by
 obtain ⟨k,hk⟩:=ah (i/32);obtain ⟨r,hr⟩:=ah (i%32);have e1:(i:Int)/32=(k:Int):=af
 have e2:(i:Int)%32=(r:Int):=af
 by_cases hkn:k<n
 · have hb:=yC xs hx k r af af;rw [show 32*k+r=i by omega] at hb;rw [hb];obtain ⟨b,off,hB,rfl,hcell⟩:=hR (by intro e;subst e;simp at hn;omega);have hck:=hcell k af;obtain ⟨t,ht⟩:∃ t,xs.getD k 0=t:=⟨_,rfl⟩;have htl:t<4294967296:=ht ▸ hx.get k;rw [ht] at hck |-;obtain ⟨z,hz⟩:=ah (t/2^r);have hzt:z<=t:=by rw [hz];exact nE _ _
   have e3:(t:Int)/2^r=(z:Int):=by rw [hz];simp
   have e4:=and_one z af;have ZH:r<32:=af
   have hnk:decide ((n:Int)<=(k:Int))=false:=decide_eq_false af;have hnk2:decide (n<=k)=false:=decide_eq_false af;rw [<-hz];clear hb hn hx hR hcell ht hz hk hr;rcases (by omega:z%2=0\/z%2=1) with hz2|hz2
   · rw [hz2] at e4 |-;clear hz2;go_enter Tryz.func132,Tryz.ntmps132;go_wp2;go_ret;exact ⟨rfl,rfl⟩
   · rw [hz2] at e4 |-;clear hz2;go_enter Tryz.func132,Tryz.ntmps132;go_wp2;go_ret;exact ⟨rfl,rfl⟩
 · rw [vV xs hx i af];have hnk:decide ((n:Int)<=(k:Int))=true:=decide_eq_true af;clear hn hx hR hk hr;go_enter Tryz.func132,Tryz.ntmps132;go_wp2;go_ret;exact ⟨rfl,rfl⟩
theorem BL (M M2 xs bs:List Nat) (k n m c y:Nat) (gF:M.length=n+m) (hk:k<n) (hn:n=xs.length) (hm:m=bs.length) (hMs:sg M 0 (k+m)=sg xs 0 k*val bs) (hy:xs.getD k 0=y)
 (hout:Out M M2 k m) (hsum:sg M2 k m+c*pw m=sg M k m+val bs*y):sg (M2.set (k+m) c) 0 (k+1+m)=sg xs 0 (k+1)*val bs:=by
 have e1:=cB M2 0 (k+m) c (by rw [hout.1];omega);rw [dS] at e1;have e2:=iM M2 0 k m (by rw [hout.1];omega);have e3:=iM M 0 k m af;rw [dS] at e2 e3;have e4:=hout.below 0 k af af;rw [show k+1+m=k+m+1 by omega,e1,e2,e4,bJ xs 0 k af,dS,hy,qb];rw [e3] at hMs;rw [df c] at hsum;have:=BI (pw k) _ _ y _ _ c hMs;rw [<-hsum] at this;rw [<-this,jG,aN,pJ]
theorem Eu (xs bs:List Nat) (ao bo:Option Addr) (n cap m aX B:Nat) (w:World) (hn:n=xs.length) (hm:m=bs.length) (hc:n<=cap) (hcb:m<=aX) (hbig:n+m<=35184372088832)
 (hx:Wf xs) (hb:Wf bs) (hR:Rd B w ao xs) (hS:Rd B w bo bs) (hB:B<=w.heap.size) :
 Calls Tryz.prog 63 #[.slice ao n cap,.slice bo m aX] w fun r w'=>∃ v,r=.returned v/\Nt w.heap.size w' v (val xs*val bs)/\Below w.heap.size w w':=by
 obtain ⟨W1,hW1⟩:=ah (w.alloc (.cells (madeCells #[.int .u32 0] (n+m)) 51));have mU:Own W1 w.heap.size (List.replicate (n+m) 0):=by rw [hW1];exact Own.made w (n+m)
 have hB1:Below w.heap.size w W1:=by rw [hW1];exact (aD _ _).alloc (aC _) _
 have hmk:=dw ((n:Int)+m) (n+m) af af w;rw [<-hW1] at hmk;have uf:Rd B W1 ao xs:=hR.below (hB1.mono hB);have hS1:Rd B W1 bo bs:=hS.below (hB1.mono hB);obtain ⟨g,hg⟩:=ah (w.heap.size);rw [<-hg] at mU hmk hB1 hB;have HR:=(rT uf hS1 hm hb hx hn hB1 hg);have HO:=hid mU;clear hn hm hx hb hR hS mU hB1 hW1 uf hS1 hg;go_enter Tryz.func63,Tryz.ntmps63;go_wp2
 go_loopg [6] n (fun gk i wr=>∃ (k:Nat) (M:List Nat),gk+k=n/\i=.int .i64 (k:Nat) /\
  Hid (Own wr g M)/\Aside (Wf M/\M.length=n+m/\sg M 0 (k+m)=sg xs 0 k*val bs/\But g W1 wr))
 case atStart=>exact ⟨0,_,af,rfl,HO,Wf.zeros _,aO,by rw [qM,dW];simp,But.refl _ _⟩
 case round =>
  obtain ⟨i,L,Gm,rfl,HM,HA⟩:=hrel
  by_cases hi:i<n
  · obtain ⟨hR,hS,hm,hb,hx,hn,hB1,hg⟩:=HR.o;obtain ⟨a,Qw,haB,rfl,hac⟩:=hR (by intro e;subst e;simp at hn;omega);have Qg:g<=W1.heap.size:=by have:=hB1.size;omega
    have YV:Aside (W1.cell? ⟨a,Qw+i,none⟩=some (.int .u32 ((xs.getD i 0:Nat):Int))/\a<B/\a<W1.heap.size):=⟨hac i af,haB,lh W1 ⟨a,Qw+i,none⟩ (hac i af)⟩;obtain ⟨q,hq⟩:∃ q:Nat,xs.getD i 0=q:=⟨_,rfl⟩;have ZI:q<4294967296:=hq ▸ hx.get _;rw [hq] at YV;have HQ:=ak hq;clear hq hR hS hm hb hx hn hB1 hg hac;go_wp2
    go_loopg [7,8] m (fun gk c kv w2=>∃ (k cv:Nat) (M:List Nat),gk+k=m/\c=.int .u64 (cv:Nat)/\cv<4294967296/\kv=.int .i64 (k:Nat) /\
     Hid (Own w2 g M)/\Aside (Wf M/\Out L M i k/\sg M i k+cv*pw k=sg L i k+sg bs 0 k*q/\But g W1 w2))
    case atStart=>exact ⟨0,0,L,af,rfl,af,rfl,HM,HA.o.1,Out.refl _ _ _,by simp [dW],HA.o.r3⟩
    case round =>
     obtain ⟨k,cv,M,hgk2,rfl,hcv,rfl,HN,HC⟩:=hrel
     by_cases hk:k<m
     · obtain ⟨hR,hS,hm,hb,hx,hn,hB1,hg⟩:=HR.o;obtain ⟨dA,fK,hMs,aH⟩:=HC.o;obtain ⟨sD,sw,_,_⟩:=HA.o;obtain ⟨b,fQ,K7,rfl,hbc⟩:=hS (by intro e;subst e;simp at hm;omega)
       have hbk:wr.cell? ⟨b,fQ+k,none⟩=some (.int .u32 ((bs.getD k 0:Nat):Int)):=by
        have h1:=aH.block b (lh W1 ⟨b,fQ+k,none⟩ (hbc k af)) af;exact (zw (a:=⟨b,fQ+k,none⟩) h1).trans (hbc k af)
       have hak:wr.cell? ⟨a,Qw+i,none⟩=some (.int .u32 (q:Nat)):=by
        have h1:=aH.block a YV.o.r2 (by have:=YV.o.2.1;omega);exact (zw (a:=⟨a,Qw+i,none⟩) h1).trans YV.o.1
       have hgc:=HN.o.cell (i+k) (by rw [fK.1];omega);have hgf:=HN.o.frozen (i+k);obtain ⟨x,fZ⟩:∃ x:Nat,M.getD (i+k) 0=x:=⟨_,rfl⟩;obtain ⟨y,pU⟩:∃ y:Nat,bs.getD k 0=y:=⟨_,rfl⟩;have hxl:x<4294967296:=fZ ▸ dA.get _;have hyl:y<4294967296:=pU ▸ hb.get _;rw [fZ] at hgc;rw [pU] at hbk;have hp0:=sj q y ZI hyl;have hp2:(q:Int)*(y:Int)<=18446744065119617025:=by rw [<-fU];omega
       have hp1:0<=(q:Int)*(y:Int):=by rw [<-fU];omega
       obtain ⟨s,hs⟩:∃ s:Nat,s=(q*y+x+cv)%4294967296:=⟨_,rfl⟩;obtain ⟨d,hd⟩:∃ d:Nat,d=(q*y+x+cv)/4294967296:=⟨_,rfl⟩;have e0:((q*y+x+cv:Nat):Int)=(q:Int)*y+x+cv:=by simp only [Gd,fU]
       have e1:((q:Int)*y+x+cv)%4294967296=(s:Int):=by rw [<-e0];omega
       have e2:((q:Int)*y+x+cv)/4294967296=(d:Int):=by rw [<-e0];omega
       have HX:Aside (M.getD (i+k) 0=x/\bs.getD k 0=y/\s+d*4294967296=y*q+x+cv/\s<4294967296/\d<4294967296):=⟨fZ,pU,by rw [df y q];omega,af,af⟩;have hik:i+k<n+m:=af
       clear fZ pU hs hd hR hS hm hb hx hn hB1 hg dA fK hMs aH hbc e0 hp0 sD sw;go_wp2
       go_quiet (fail)
       go_wp2;go_roundg (gk-1)
       case measure=>omega
       case rel =>
        obtain ⟨fZ,pU,he,hs,hd⟩:=HX.o;obtain ⟨hR,hS,hm,hb,hx,hn,hB1,hg⟩:=HR.o;obtain ⟨dA,fK,hMs,aH⟩:=HC.o;obtain ⟨sD,sw,_,_⟩:=HA.o;refine ⟨k+1,d,M.set (i+k) s,af,by first | rfl | rw [e2],hd,by first | go_num | (congr 1;omega),HN.o.set _ _,dA.set _ _ hs,(fK.mono af).set _ _ af af,?_,(But.drewN aH _).set _ _⟩;rw [cB _ _ _ _ (by rw [fK.1];omega),bJ L i k af,bJ bs 0 k af,dS,pU,bK];have e:L.getD (i+k) 0=x:=by rw [<-fZ];exact (fK.2 _ af).symm
        rw [e];exact vN _ _ _ _ _ _ _ _ _ _ hMs he
     · obtain rfl:k=m:=af
       obtain ⟨sD,sw,ZJ,hLb⟩:=HA.o;have hgc:=HN.o.cell (i+k) (by rw [HC.o.2.1.1];omega);have hgf:=HN.o.frozen (i+k);have hik:i+k<n+k:=af
       have hcm:(cv:Int)%4294967296=(cv:Int):=af
       clear sD sw ZJ hLb;go_wp2;go_roundg (n-(i+1))
       case measure=>omega
       case rel =>
        obtain ⟨hR,hS,hm,hb,hx,hn,hB1,hg⟩:=HR.o;obtain ⟨dA,fK,hMs,aH⟩:=HC.o;obtain ⟨sD,sw,ZJ,hLb⟩:=HA.o;refine ⟨i+1,M.set (i+k) cv,af,by first | go_num | (congr 1;omega),HN.o.set _ _,dA.set _ _ hcv,by simp [fK.1,sw],?_,aH.set _ _⟩;have e2:sg bs 0 k=val bs:=by rw [hm];exact dM bs
        rw [e2] at hMs;exact BL L M xs bs i n k cv q sw hi hn hm ZJ HQ.o fK hMs
  · obtain rfl:i=n:=af
    obtain ⟨dA,gF,hMs,aH⟩:=HA.o;have T:=hid (jB L (some ⟨g,0,none⟩) (i+m) (i+m) (g+1) wr gF.symm (aC _) af dA (by simpa [gF,ic] using Rd.fM HM.o 0 (i+m)) (fun e=>by cases e));clear dA gF hMs aH;go_wp2_with fail;refine T.o.mono ?_;rintro r w1 ⟨v,rfl,DF,hbb⟩;have HZ:=(aJ DF hbb);clear DF hbb;go_wp2;go_ret;obtain ⟨hR,hS,hm,hb,hx,hn,hB1,hg⟩:=HR.o;obtain ⟨dA,gF,hMs,aH⟩:=HA.o;have e1:sg L 0 (i+m)=val L:=by rw [<-gF];exact dM L
    have e2:sg xs 0 i=val xs:=by rw [hn];exact dM xs
    rw [e1,e2] at hMs;have hsz1:=hB1.size;have hsz2:=aH.size;have hbel:Below g w wr:=But.below hB1 aH af (aC _);rw [<-hMs,<-hg];exact ⟨v,rfl,HZ.o.1.mono af,hbel.trans (HZ.o.2.mono af)⟩
theorem kQ {w:World}{a b:Option Addr}{n c m d:Nat}{xs ys:List Nat}{V:Nat}(h1:Arg w a n c xs) (h2:Arg w b m d ys) (hs:n+m<=35184372088832) (e:val xs*val ys=V) :
 Calls Tryz.prog 63 #[.slice a n c,.slice b m d] w fun r w'=>∃ v,r=.returned v/\Nt w.heap.size w' v V/\Below w.heap.size w w':=by
 subst e;exact Eu xs ys a b n c m d w.heap.size w h1.len h2.len h1.cap h2.cap hs h1.wf h2.wf h1.rd h2.rd (aC _)
theorem yD {w:World}{a b:Option Addr}{n c m d:Nat}{xs ys:List Nat}{V:Nat}(h1:Arg w a n c xs) (h2:Arg w b m d ys) (hs1:n<=35184372088000) (hs2:m<=35184372088000) (e:val xs+val ys=V) :
 Calls Tryz.prog 106 #[.slice a n c,.slice b m d] w fun r w'=>∃ v,r=.returned v/\Nt w.heap.size w' v V/\Below w.heap.size w w':=by
 subst e;exact I8 xs ys a b n c m d w.heap.size w h1.len h2.len h1.cap h2.cap hs1 hs2 h1.wf h2.wf h1.rd h2.rd (aC _)
theorem qg {w:World}{a b:Option Addr}{n c m d:Nat}{xs ys:List Nat}{V:Nat}(h1:Arg w a n c xs) (h2:Arg w b m d ys) (hs1:n<=35184372088000) (hs2:m<=35184372088000) (e:V+val ys=val xs) :
 Calls Tryz.prog 108 #[.slice a n c,.slice b m d] w fun r w'=>∃ v,r=.returned v/\Nt w.heap.size w' v V/\Below w.heap.size w w':=by
 have h:=Et xs ys a b n c m d w.heap.size w h1.len h2.len h1.cap h2.cap hs1 hs2 h1.wf h2.wf h1.rd h2.rd (aC _) af;rw [show val xs-val ys=V by omega] at h;exact h
theorem jK {w:World}{a b:Option Addr}{n c m d:Nat}{xs ys:List Nat}(h1:Arg w a n c xs) (h2:Arg w b m d ys) (z:Int) (e:aY (val xs) (val ys)=z) :
 Calls Tryz.prog 107 #[.slice a n c,.slice b m d] w fun r w'=>r=.returned (.int .i64 z)/\Below w.heap.size w w':=by
 have:=Ms xs ys a b n c m d w.heap.size w h1.len h2.len (by have:=h1.big;omega) (by have:=h2.big;omega) h1.wf h2.wf h1.rd h2.rd;rw [e] at this;exact this
theorem qV (w:World) (d:Nat) (hd:d<4294967296):Arg (w.alloc (.cells #[.int .u32 (d:Int)] 51)) (some ⟨w.heap.size,0,none⟩) 1 1 [d]:=by
 refine ⟨rfl,aC _,af,Wf.cons hd Wf.nil,fun _=>⟨w.heap.size,0,aO,rfl,fun i hi=>?_⟩,fun e=>by cases e⟩;obtain rfl:i=0:=by simpa using hi
 unfold World.cell?;simp only [ib];rfl
theorem ae (w:World) (o:Obj):Below w.heap.size w (w.alloc o):=(aD _ _).alloc (aC _) _
theorem Mv (N n:Nat) (h:N<pw n):bl N<=32*n:=by
 by_cases h0:N=0
 · rw [h0,dG];omega
 · have h1:=gT N h0;rcases kI (32*n) (bl N) with h2|h2
   · exfalso;have h3:2^(32*n)<=2^(bl N-1):=fB af af;have h4:pw n=2^(32*n):=by unfold pw;rw [kE]
     omega
   · exact h2
end
section
open Go.ChangeShapes Go.WideShapes Go.ChangeAt Go.RowKit
def Came (w:World) (a:Option Addr) (n c:Nat) (xs:List Nat):Prop:=n=xs.length/\n<=c/\Wf xs/\Rd w.heap.size w a xs/\(a=none->c=0)
theorem Came.arg {w:World}{a:Option Addr}{n c:Nat}{xs:List Nat}(h:Came w a n c xs) (hb:n<=35184372088832):Arg w a n c xs:=⟨h.1,h.2.1,hb,h.2.2.1,h.2.2.2.1,h.2.2.2.2⟩
theorem Qx {H:Type}{enc:TypeId×Value->H}{W:World}{a:Option Addr}{n c:Nat}{d:DataW H}{p:List MemPlace}(h:DataW.Trod enc Tryz.prog W 0 (fun _=>true) true 23 (.slice a n c) d p) :
 ∃ xs,Came W a n c xs/\((d=.nil/\c=0)\/∃ elems spare:List (DataW H),d=.slice elems spare/\elems.length+spare.length=c/\(∀ e ∈ elems,∃ l,e=.lit (.int .u32 l))/\∀ e ∈ spare,∃ l,e=.lit (.int .u32 l)):=by
 obtain ⟨fuel,hf⟩:=h;rcases open_ints Tryz.underlying23 Tryz.underlying51 dm hf with ⟨hcs,hx⟩|⟨x,l,cp,zs,hcs,hb,hl,hm,hz,hx,hcell,hwz⟩
 · simp [Value.cells] at hcs;obtain ⟨rfl,rfl,rfl⟩:=hcs;refine ⟨[],⟨rfl,aC _,Wf.nil,Rd.nil _ _ _,fun _=>rfl⟩,.inl ⟨?_,rfl⟩⟩;exact (fu hx).1
 · simp [Value.cells] at hcs;obtain ⟨rfl,rfl,rfl⟩:=hcs;have hz':zs.length=c:=by simpa using hz
   have hwf:∀ z ∈ zs,0<=z/\z<4294967296:=by
    intro z hzz;have:=hwz z hzz;simp [Lit.wf,IntKind.min,IntKind.max,IntKind.signed,IntKind.bits] at this;omega
   refine ⟨(zs.take n).map Int.toNat,⟨?_,hl,?_,?_,fun e=>by cases e⟩,.inr ⟨_,_,(fu hx).1,?_,?_,?_⟩⟩
   · rw [List.length_map,gz];omega
   · intro y hy;obtain ⟨z,hz1,rfl⟩:=A8.1 hy;have:=hwf z (List.mem_of_mem_take hz1);omega
   · intro hne;obtain ⟨b,off,spot⟩:=x
     have hn0:0<n:=by
      rcases kF n with h0|h0
      · subst h0;simp at hne
      · exact h0
     have hc0:=hcell 0 af;have hspot:spot=none:=by simpa [Addr.add] using World.cell?_spot hc0
     subst hspot;refine ⟨b,off,lh W _ (by simpa [Addr.add] using hc0),rfl,fun i hi=>?_⟩;rw [List.length_map,gz] at hi;have hadd:(⟨b,off,none⟩:Addr).add i=⟨b,off+i,none⟩:=by unfold Addr.add;split <;> simp_all
     have:=hcell i af;rw [hadd] at this;rw [this];have hi2:i<zs.length:=af
     have hin:i<n:=af
     have hv:0<=zs[i]:=(hwf _ (vJ hi2)).1;simp [eP,hi2,hin,Int.toNat_of_nonneg hv]
   · simp only [lits,List.length_map,gz,pI];omega
   · intro e he;simp only [lits,A8] at he;obtain ⟨z,_,rfl⟩:=he;exact ⟨z,rfl⟩
   · intro e he;simp only [lits,A8] at he;obtain ⟨z,_,rfl⟩:=he;exact ⟨z,rfl⟩
end
section
open Go.RowKit
theorem Nt.but {lo g:Nat}{w w':World}{v:Value}{X:Nat}(h:Nt lo w v X) (hb:But g w w') (hg:g<lo):Nt lo w' v X:=by
 have h1:Rw lo w v (ws X).length ((ws X).map U):=h
 exact sJ h1 fun b hb2=>by
  obtain ⟨h2,h3⟩:=h.lt b hb2;exact hb.block b h3 af
theorem yE {w:World}{a:Option Addr}{n c:Nat}{xs:List Nat}{V:Nat}(h1:Arg w a n c xs) (e:val xs=V) :
 Calls Tryz.prog 95 #[.slice a n c] w fun r w'=>∃ v,r=.returned v/\Nt w.heap.size w' v V/\Below w.heap.size w w':=by
 subst e;exact jB xs a n c w.heap.size w h1.len h1.cap h1.big h1.wf h1.rd h1.nil
theorem GD {x y:Nat}(h:y<=x):0<=aY x y:=by unfold aY;split <;> (try split) <;> omega
theorem Qy {x y:Nat}(h:x<=y):aY x y<=0:=by unfold aY;split <;> (try split) <;> omega
theorem Jb (X Y f t:Nat) (h1:Y*f<=X) (h2:X<Y*t) (h3:f<t) (h4:t-f<=1):X/Y=f:=by
 obtain rfl:t=f+1:=af
 exact Nat.div_eq_of_lt_le (by rw [df];exact h1) (by rw [df];exact h2)
theorem Jc {w:World}{a b:Option Addr}{n c m d:Nat}{xs ys:List Nat}(h1:Arg w a n c xs) (h2:Arg w b m d ys) (hm:m<=35184372088000) (hlt:val xs<val ys*4294967296) :
 Calls Tryz.prog 167 #[.slice a n c,.slice b m d] w fun r w'=>∃ v,r=.returned (.tuple #[.int .u32 ((val xs/val ys:Nat):Int),v])/\Nt w.heap.size w' v (val ys*(val xs/val ys))/\Below w.heap.size w w':=by
 have hlo:=aC w.heap.size;obtain ⟨X,hX⟩:∃ X,val xs=X:=⟨_,rfl⟩;obtain ⟨Y,hY⟩:∃ Y,val ys=Y:=⟨_,rfl⟩;have vX:=dh ys h2.wf;rw [<-h2.len,hY] at vX;rw [hX,hY] at hlt |-;have HX:=(iI h1 h2 hX hY hlt vX);clear h1 h2 hX hY hlt vX;go_enter Tryz.func167,Tryz.ntmps167;go_wp2
 go_loopg [6,7,8] 4294967296 (fun gk fv tv bv wr=>∃ (f t:Nat),gk+f=t/\fv=.int .u64 (f:Nat)/\tv=.int .u64 (t:Nat)/\f<t/\t<=4294967296/\Aside (Y*f<=X/\X<Y*t/\Below w.heap.size w wr/\Nt w.heap.size wr bv (Y*f)))
 case atStart=>exact ⟨0,4294967296,af,rfl,rfl,af,af,af,HX.o.r4.1,aD _ _,by rw [nG];exact Nt.nil _ _⟩
 case round =>
  obtain ⟨f,t,hgt,rfl,rfl,hft,ht,HA⟩:=hrel
  by_cases hend:t-f<=1
  · obtain ⟨p1,p2,p3,p4⟩:=HA.o;have HQ:=ak (Jb X Y f t p1 p2 hft hend);obtain rfl:t=f+1:=af
    clear p1 p2 p3 p4;have hff:f<4294967296:=af
    go_wp2
    go_ret2
    rw [HQ.o];exact ⟨_,by first | rfl | (congr 1),HA.o.r3,HA.o.r2.1⟩
  · obtain ⟨mid,hmid⟩:=ah ((f+t)/2);have em:((f:Int)+(t:Int))/2=(mid:Int):=af
    have hm1:f<mid:=af
    have hm2:mid<t:=af
    have hm3:mid<4294967296:=af
    have em2:(mid:Int)%4294967296=(mid:Int):=af
    have hgo:(1:Int)<(t:Int)-(f:Int):=af
    obtain ⟨h1,h2,hX,hY,hlt,vX⟩:=HX.o;obtain ⟨p1,p2,p3,p4⟩:=HA.o;have hsz:=p3.size;have T1:=hid (kQ (V:=Y*mid) ((h2.below p3).below (ae wr _)) (qV wr mid hm3) af (by rw [hY];simp [val]));have ZK:Y*mid<pw (m+1):=by rw [bK,df 4294967296];exact qG vX hm3
    have hwl:(ws (Y*mid)).length<=m+1:=(aP _ _).2 ZK;clear h1 h2 hX hY hlt vX p1 p2 p3 p4 ZK hmid;go_wp2_with fail;refine T1.o.mono ?_;rintro r u1 ⟨v,rfl,hN,hb⟩;obtain ⟨a1,c1,rfl,A1⟩:=hN.arg af;obtain ⟨h1,h2,hX,hY,hlt,vX⟩:=HX.o;obtain ⟨p1,p2,p3,p4⟩:=HA.o;have hb2:Below wr.heap.size wr u1:=(ae wr _).trans (hb.mono aO);have q3:Below w.heap.size w u1:=p3.trans (hb2.mono hsz);have q4:=p4.below hb2;have q5:=hN.mono (lo':=w.heap.size) (by simp;omega);have hs1:=hb2.size
    by_cases hle:Y*mid<=X
    · obtain ⟨z,hz⟩:∃ z,aY (Y*mid) X=z:=⟨_,rfl⟩;have hz0:z<=0:=hz ▸ Qy hle;have C1:=hid (jK A1 (h1.below q3) z (by rw [aj,hX];exact hz));have S1:=(gK p2 q3 q5 hle);clear h1 h2 hX hY hlt vX p1 p2 p3 p4 q3 q4 q5 hN hb hb2 A1 hz hle T1 HA;go_wp2_with fail;refine C1.o.mono ?_;rintro r u2 ⟨rfl,hb⟩;have S2:=(aJ (S1.o.2.1.trans (hb.mono af)) (S1.o.r2.1.below hb));clear hb C1;go_wp2;go_roundg (t-mid)
      case measure=>omega
      case rel=>exact ⟨mid,t,af,rfl,rfl,hm2,ht,S1.o.r3,S1.o.1,S2.o.1,S2.o.2⟩
    · have hz:aY (Y*mid) X=1:=oJ af;have C1:=hid (jK A1 (h1.below q3) 1 (by rw [aj,hX];exact hz));have S1:=(gK p1 q3 q4 hle);clear h1 h2 hX hY hlt vX p1 p2 p3 p4 q3 q4 q5 hN hb hb2 A1 hz hle T1 HA;go_wp2_with fail;refine C1.o.mono ?_;rintro r u2 ⟨rfl,hb⟩;have S2:=(aJ (S1.o.2.1.trans (hb.mono af)) (S1.o.r2.1.below hb));clear hb C1;go_wp2;go_roundg (mid-f)
      case measure=>omega
      case rel=>exact ⟨f,mid,af,rfl,rfl,hm1,af,S1.o.1,by have:=S1.o.r3;omega,S2.o.1,S2.o.2⟩
theorem Ev (P x Y B:Nat) (hY:0<Y):(x+B*P)/Y=(x+B*(P%Y))/Y+B*(P/Y)/\(x+B*P)%Y=(x+B*(P%Y))%Y:=by
 have h:=pK P Y
 have e:x+B*P=(x+B*(P%Y))+Y*(B*(P/Y)):=by
  conv=>lhs;rw [<-h]
  rw [jG,<-aN,df B Y,aN];omega
 rw [e];exact ⟨qF _ _ hY,y9 _ _ _⟩
theorem BM (P x Y B:Nat) (hY:0<Y) (hx:x<B):x+B*(P%Y)<Y*B:=by
 have h:=nD P hY;have h1:B*(P%Y+1)<=B*Y:=gP _ h;rw [jG] at h1;rw [df Y];omega
theorem zO (M:List Nat) (k d:Nat) (hk:k<M.length):val ((M.set k d).drop k)=d+4294967296*val (M.drop (k+1)):=by
 rw [dU _ k (by simpa using hk),iE _ _ _ hk];rw [List.drop_set_of_lt af]
theorem Qz {w:World}{g:Nat}{x:Nat}(h:Own w g [x]):w.ownsRow g 51 1 (.slice (some ⟨g,0,none⟩) 1 1) 1 ([x].map U) :=
 ⟨aO,.inr ⟨g,1,_,rfl,aC _,h,aC _,by unfold maxLen;omega,aO,aO⟩⟩
theorem Mw (w:World) (x:Nat):Own (w.alloc (.cells #[.int .u32 (x:Int)] 51)) w.heap.size [x]:=by
 unfold Own;rw [ib];rfl
set_option maxRecDepth 100000 in
theorem yF {w:World}{a b:Option Addr}{n c m d:Nat}{xs ys:List Nat}(h1:Arg w a n c xs) (h2:Arg w b m d ys) (hn:n<=35184372088000) (hm:m+1<=35184372088000) (hY:0<val ys) :
 Calls Tryz.prog 133 #[.slice a n c,.slice b m d] w fun r w'=>∃ v u,r=.returned (.tuple #[v,u])/\Nt w.heap.size w' v (val xs/val ys)/\Nt w.heap.size w' u (val xs%val ys)/\Below w.heap.size w w':=by
 obtain ⟨W1,hW1⟩:=ah (w.alloc (.cells (madeCells #[.int .u32 0] n) 51));have mU:Own W1 w.heap.size (List.replicate n 0):=by rw [hW1];exact Own.made w n
 have hB1:Below w.heap.size w W1:=by rw [hW1];exact (aD _ _).alloc (aC _) _
 have hmk:=dw (n:Int) n rfl af w;rw [<-hW1] at hmk;obtain ⟨g,hg⟩:=ah (w.heap.size);rw [<-hg] at mU hmk hB1;obtain ⟨Y,BN⟩:∃ Y,val ys=Y:=⟨_,rfl⟩;have vX:=dh ys h2.wf;rw [<-h2.len,BN] at vX;rw [BN] at hY |-;have hlen:=h1.len;have HX:=(l7 h1 h2 BN vX hB1 hg hlen);have HO:=hid mU;clear h1 h2 BN vX hB1 mU hW1 hg hlen;go_enter Tryz.func133,Tryz.ntmps133;go_wp2
 go_loopg [7,8] n (fun k rv iv wr=>∃ (M:List Nat),k<=n/\iv=.int .i64 ((k:Int)-1)/\Hid (Own wr g M) /\
  Aside (Wf M/\M.length=n/\(∀ j,j<k->M.getD j 0=0)/\val (M.drop k)=val (xs.drop k)/Y/\Below g w wr/\Nt (g+1) wr rv (val (xs.drop k)%Y)))
 case atStart =>
  obtain ⟨h1,h2,BN,vX,hB1,hg,hlen⟩:=HX.o;refine ⟨List.replicate n 0,aC _,by first | rfl | go_num,HO,Wf.zeros _,aO,fun j _=>vM _ _,?_,hB1,?_⟩
  · rw [xY aO,xY af];simp [val]
  · rw [xY af];simp only [val,Nat.zero_mod];exact Nt.nil _ _
 case round =>
  obtain ⟨M,hk,rfl,HM,HA⟩:=hrel
  by_cases hk0:gk=0
  · subst hk0;obtain ⟨dA,gF,yG,xE,hbel,AQ⟩:=HA.o;rw [List.drop_zero,List.drop_zero] at xE;rw [List.drop_zero] at AQ;have T:=hid (jB M (some ⟨g,0,none⟩) n n (g+1) wr gF.symm (aC _) af dA (by simpa [gF,ic] using Rd.fM HM.o 0 n) (fun e=>by cases e));rw [xE] at T;have S:=(aJ hbel AQ);have hgl:=HM.o.lt;clear dA gF yG xE hbel AQ;go_wp2_with fail;refine T.o.mono ?_;rintro r u1 ⟨v,rfl,hN,hb⟩;have S2:=(aJ hN hb);clear hN hb;go_wp2
    go_ret2
    obtain ⟨hN,hb⟩:=S2.o;obtain ⟨hbel,AQ⟩:=S.o;obtain ⟨h1,h2,BN,vX,hB1,hg,hlen⟩:=HX.o;rw [<-hg];exact ⟨v,_,rfl,hN.mono af,(AQ.below hb).mono af,hbel.trans (hb.mono af)⟩
  · obtain ⟨k,rfl⟩:∃ k,gk=k+1:=⟨gk-1,af⟩;obtain ⟨h1,h2,BN,vX,hB1,hg,hlen⟩:=HX.o;obtain ⟨dA,gF,yG,xE,hbel,AQ⟩:=HA.o;have hgl:=HM.o.lt;obtain ⟨ba,off,hBa,rfl,hcell⟩:=h1.rd (by intro e;subst e;simp at hlen;omega);have Va:wr.cell? ⟨ba,off+k,none⟩=some (.int .u32 ((xs.getD k 0:Nat):Int)):=(hbel.cell (p:=⟨ba,off+k,none⟩) (by simp;omega)).trans (hcell k af);obtain ⟨x,hx⟩:∃ x,xs.getD k 0=x:=⟨_,rfl⟩;have hxl:x<4294967296:=hx ▸ h1.wf.get k;rw [hx] at Va;obtain ⟨P,hP⟩:∃ P,val (xs.drop (k+1))=P:=⟨_,rfl⟩;have hds:=dU xs k af;rw [hx,hP] at hds;rw [hP] at xE AQ;obtain ⟨st1,st2⟩:=Ev P x Y 4294967296 hY;rw [<-hds] at st1 st2;have hdl:=BM P x Y 4294967296 hY hxl;obtain ⟨R,hR⟩:∃ R,P%Y=R:=⟨_,rfl⟩;have sH:R<Y:=hR ▸ nD _ hY;rw [hR] at st1 st2 hdl AQ;obtain ⟨Z,hZ⟩:∃ Z,x+4294967296*R=Z:=⟨_,rfl⟩;rw [hZ] at st1 st2 hdl;have hwR:(ws R).length<=m:=(aP R m).2 af;have hZp:Z<pw (m+1):=by rw [bK];rw [df Y] at hdl;omega
    have hwZ:(ws Z).length<=m+1:=(aP Z (m+1)).2 hZp;obtain ⟨ar,cr,rfl,AR⟩:=AQ.arg af;have hLO:=Mw wr x;obtain ⟨v',w2,hap,hown,hgrow⟩:=jZ (wr.alloc (.cells #[.int .u32 (x:Int)] 51)) wr.heap.size (.slice (some ⟨wr.heap.size,0,none⟩) 1 1) 1 [x] (ws R) ar (ws R).length cr wr.heap.size 23 (Qz hLO) rfl (AR.rd.below (ae wr _)) AR.nil af aO;have hb2:Below wr.heap.size wr w2:=(ae wr _).grown hgrow aO (fun k hk=>by simp [Value.ownBlock] at hk;omega);obtain ⟨a2,c2,rfl,hc2,hl2,ui,BO⟩:=Rw.words hown;have hval:val ([x]++ws R)=Z:=by rw [<-hZ];simp [val,aj]
    have N1:=hid (jB ([x]++ws R) a2 (1+(ws R).length) c2 w2.heap.size w2 hl2 hc2 af (Wf.append (Wf.cons hxl Wf.nil) (dz R)) BO ui);rw [hval] at N1;have IV:=hid hap;have hs2:=hb2.size;have S1:=(y7 dA gF yG xE (hbel.trans (hb2.mono af)) (HM.o.below hb2 hgl) st1 st2 hdl hx);clear h1 h2 BN vX hB1 hg hlen dA gF yG xE hbel AQ hcell hx hP hds st1 st2 hdl hR sH hZ hZp AR hLO hap hown hgrow hb2 hl2 ui BO hval HM HA
    go_wp2_with (at_builtin;refine dC rfl (.tmp 27) (.tmp 28) 23 rfl _ _ rfl rfl _ _ IV.o ?_)
    refine N1.o.mono ?_;rintro r u3 ⟨v3,rfl,dF,hb3⟩;obtain ⟨a3,c3,rfl,A3⟩:=dF.arg af;obtain ⟨dA,gF,yG,xE,hbel,Jd,st1,st2,hdl,hx⟩:=S1.o;obtain ⟨h1,h2,BN,vX,hB1,hg,hlen⟩:=HX.o;have hs3:=hb3.size;have BP:Below g w u3:=hbel.trans (hb3.mono af);have hO3:=Jd.below hb3 af;have QA:Below w.heap.size w u3:=hg ▸ BP
    by_cases hge:Y<=Z
    · obtain ⟨z,hz⟩:∃ z,aY Z Y=z:=⟨_,rfl⟩;have hz0:0<=z:=hz ▸ GD hge;have C1:=hid (jK A3 (h2.below QA) z (by rw [aj,BN];exact hz));have S2:=(y7 dA gF yG xE BP hO3 st1 st2 hdl dF);clear dA gF yG xE hbel Jd st1 st2 hdl hx h1 h2 BN vX hB1 hg hlen BP hO3 QA hb3 dF A3 hz S1 N1;go_wp2_with fail;refine C1.o.mono ?_;rintro r u4 ⟨rfl,hb4⟩;obtain ⟨dA,gF,yG,xE,hbel,Jd,st1,st2,hdl,dF⟩:=S2.o;obtain ⟨h1,h2,BN,vX,hB1,hg,hlen⟩:=HX.o;have hs4:=hb4.size;have Mx:Below g w u4:=hbel.trans (hb4.mono af);have hO4:=Jd.below hb4 af;have Xg:Below w.heap.size w u4:=hg ▸ Mx;have fw:=dF.below hb4;obtain ⟨_,_,e4,A4⟩:=fw.arg af
      cases e4
      have D0:=Jc A4 (h2.below Xg) af (by rw [aj,BN];exact hdl);rw [aj,BN] at D0;have hDl:Z/Y<4294967296:=Nat.div_lt_of_lt_mul hdl;have hmd:=Nat.mod_add_div Z Y;have hYD:Y*(Z/Y)<=Z:=af
      have hwD:(ws (Y*(Z/Y))).length<=m+1:=by
       have h5:=(aP Z (m+1)).1 hwZ;exact (aP _ (m+1)).2 af
      obtain ⟨D,hD⟩:∃ D,Z/Y=D:=⟨_,rfl⟩;rw [hD] at D0 hDl hmd hYD hwD st1;have D1:=hid D0;have S3:=(y7 dA gF yG xE Mx hO4 st1 st2 fw hmd);clear dA gF yG xE hbel Jd st1 st2 hdl h1 h2 BN vX hB1 hg hlen Mx hO4 Xg hb4 dF fw A4 hmd hYD hD D0 S2 C1;go_wp2_with fail;refine D1.o.mono ?_;rintro r u5 ⟨v5,rfl,nM,hb5⟩;obtain ⟨dA,gF,yG,xE,hbel,Jd,st1,st2,fw,hmd⟩:=S3.o;have hs5:=hb5.size;have vY:Below g w u5:=hbel.trans (hb5.mono af);have Gs:=Jd.below hb5 af;have hgc:=Gs.cell k af;have hgf:=Gs.frozen k;have hbt:But g u5 (u5.setCell ⟨g,k,none⟩ (.int .u32 (D:Nat))):=(But.refl g u5).set k _;have qP:=(fw.below hb5).but hbt af;have WZ:=nM.but hbt af;obtain ⟨_,_,e6,A6⟩:=qP.arg af
      cases e6
      obtain ⟨a7,c7,rfl,A7⟩:=WZ.arg af;have M1:=hid (qg (V:=Z%Y) A6 A7 af af (by rw [aj,aj];exact hmd));have S4:=(P7 dA gF yG xE vY Gs st1 st2 hbt);clear dA gF yG xE hbel Jd st1 st2 fw hmd vY Gs hbt qP WZ A6 A7 nM hb5 S3 D1;go_wp2_with fail;refine M1.o.mono ?_;rintro r u8 ⟨v8,rfl,DI,AU⟩;have S5:=(aJ DI AU);clear DI AU M1;go_wp2;go_roundg k
      case measure=>omega
      case rel =>
       obtain ⟨dA,gF,yG,xE,hbel,Jd,st1,st2,hbt⟩:=S4.o;obtain ⟨DI,AU⟩:=S5.o;have hs8:=AU.size;have hss:(u5.setCell ⟨g,k,none⟩ (.int .u32 (D:Nat))).heap.size=u5.heap.size:=by simp [World.setCell]
       refine ⟨M.set k D,af,by first | go_num | (congr 1;omega),(Jd.set k D).below AU af,dA.set _ _ hDl,by simp [gF],?_,?_,?_,?_⟩
       · intro j hj;rw [getD_set_ne _ _ _ _ af];exact yG j af
       · rw [zO M k D af,xE,st1]
       · exact (But.below hbel hbt af (aC _)).trans (AU.mono af)
       · rw [st2];exact DI.mono af
    · have hz:aY Z Y=-1:=mY af;have C1:=hid (jK A3 (h2.below QA) (-1) (by rw [aj,BN];exact hz));have S2:=(UH dA gF yG xE BP hO3 st1 st2 hdl dF hlen);clear dA gF yG xE hbel Jd st1 st2 hdl hx h1 h2 BN vX hB1 hg hlen BP hO3 QA hb3 dF A3 hz S1 N1;go_wp2_with fail;refine C1.o.mono ?_;rintro r u4 ⟨rfl,hb4⟩;have S3:=ak hb4;clear hb4 C1;go_wp2;go_roundg k
      case measure=>omega
      case rel =>
       obtain ⟨dA,gF,yG,xE,hbel,Jd,st1,st2,hdl,dF,hlen⟩:=S2.o;have hb4:=S3.o;refine ⟨M,af,by first | go_num | (congr 1;omega),Jd.below hb4 af,dA,gF,fun j hj=>yG j af,?_,hbel.trans (hb4.mono af),?_⟩
       · rw [dU M k af,yG k af,xE,st1,gQ (show Z<Y by omega)]
       · rw [st2,lD (show Z<Y by omega)];exact (dF.below hb4).mono af
theorem MB (w:World) (a b:Nat) (ha:a<4294967296) (hb:b<4294967296):Arg (w.alloc (.cells #[.int .u32 (a:Int),.int .u32 (b:Int)] 51)) (some ⟨w.heap.size,0,none⟩) 2 2 [a,b]:=by
 refine ⟨rfl,aC _,af,Wf.cons ha (Wf.cons hb Wf.nil),fun _=>⟨w.heap.size,0,aO,rfl,fun i hi=>?_⟩,fun e=>by cases e⟩;have hi2:i=0\/i=1:=by simp at hi;omega
 unfold World.cell?;simp only [ib];rcases hi2 with rfl|rfl <;> rfl
theorem vC (x:Nat) (w:World) (hx:x<18446744073709551616) :
 Calls Tryz.prog 55 #[.int .u64 (x:Nat)] w fun r w'=>∃ v,r=.returned v/\Nt w.heap.size w' v x/\Below w.heap.size w w':=by
 obtain ⟨a,ha⟩:=ah (x%4294967296);obtain ⟨b,hb⟩:=ah (x/4294967296);have e1:(x:Int)%4294967296=(a:Int):=af
 have e2:(x:Int)/4294967296=(b:Int):=af
 have e3:(b:Int)%4294967296=(b:Int):=af
 have N1:=hid (yE (V:=x) (MB w a b af af) (by simp [val];omega));have hb3:b<4294967296:=af
 clear ha hb;go_enter Tryz.func55,Tryz.ntmps55;go_wp2_with fail;refine N1.o.mono ?_;rintro r u1 ⟨v,rfl,hN,hbl⟩;have S:=(aJ hN hbl);clear hN hbl;go_wp2;go_ret;exact ⟨v,rfl,S.o.1.mono aO,(ae w _).trans (S.o.2.mono aO)⟩
theorem qW (X:Nat) (h:X≠0):∃ m,X=2^lo X*(2*m+1):=by
 have key:∀ Y:Nat,Y≠0->∃ i m,Y=2^i*(2*m+1):=by
  intro Y
  induction Y using Nat.strongRecOn with
  | ind Y ih =>
    intro hY;rcases DV Y with h0|h1
    · obtain ⟨i,m,e⟩:=ih (Y/2) af af;refine ⟨i+1,m,?_⟩;rw [gY,df (2^i) 2,aN,<-e];omega
    · exact ⟨0,Y/2,af⟩
 obtain ⟨i,m,e⟩:=key X h;refine ⟨m,?_⟩;rw [e,Gq]
theorem Vb (X:Nat) (h:X≠0):X/2^lo X%2=1:=by
 obtain ⟨m,e⟩:=qW X h;generalize lo X=i at e;rw [e,xX _ (nP af)];omega
theorem QB (X j:Nat) (h:X≠0) (hj:j<lo X):X/2^j%2=0:=by
 obtain ⟨m,e⟩:=qW X h;generalize lo X=i at e hj;obtain ⟨d,rfl⟩:∃ d,i=j+(d+1):=⟨i-j-1,af⟩;rw [e,aL,aN,xX _ (nP af),gY,df (2^d) 2,aN];omega
theorem MC (X:Nat) (h:X≠0) (n:Nat) (hp:X<pw n):lo X<32*n:=by
 obtain ⟨m,e⟩:=qW X h;rcases kI (lo X) (32*n) with h1|h1
 · exact h1
 · exfalso;have h2:2^(32*n)<=2^lo X:=fB af h1;have h3:pw n=2^(32*n):=by unfold pw;rw [kE]
   have h4:2^lo X*1<=2^lo X*(2*m+1):=gP _ af;omega
theorem ME (xs:List Nat) (ao:Option Addr) (n cap B:Nat) (w:World) (hn:n=xs.length) (hm:n<=70368744177664) (hx:Wf xs) (hR:Rd B w ao xs) :
 Calls Tryz.prog 96 #[.slice ao n cap] w fun r w'=>r=.returned (.int .i64 (lo (val xs):Nat))/\w'=w:=by
 have H:=hid (nV xs ao n cap B w hn af hR)
 by_cases h0:val xs=0
 · rw [h0,zy];rw [(iU xs).2 h0] at H;clear hn hx hR h0;go_enter Tryz.func96,Tryz.ntmps96;go_wp2_with fail;refine H.o.mono ?_;rintro r w1 ⟨rfl,rfl⟩;go_wp2;go_ret;exact ⟨rfl,rfl⟩
 · have hnl:nl xs≠0:=fun e=>h0 ((iU xs).1 e);have hv:=dh xs hx;rw [<-hn] at hv;have hlt:=MC _ h0 n hv;obtain ⟨k,hk⟩:∃ k,nl xs=k:=⟨_,rfl⟩;rw [hk] at H hnl;obtain ⟨L,hL⟩:∃ L,lo (val xs)=L:=⟨_,rfl⟩;have hb1:=Vb _ h0;have hb0:=QB (val xs) (h:=h0);rw [hL] at hb1 hb0 hlt |-
   have BT:Hid (∀ i:Nat,i<=9223372036854775807->∀ w1,w1=w->Calls Tryz.prog 132 #[.slice ao n cap,.int .i64 (i:Int)] w1 fun r w'=>r=.returned (.bool (decide (val xs/2^i%2=1)))/\w'=w1):=by
    intro i hi w1 hw;subst hw;exact Mt xs ao n cap B i w1 hn hx hR hi
   have HB:=(aJ hb1 hb0);clear hb1 hb0 hn hx hR h0 hv hk hL;go_enter Tryz.func96,Tryz.ntmps96;go_wp2_with fail;refine H.o.mono ?_;rintro r w1 ⟨rfl,rfl⟩;have hkf:((k:Int)==0)=false:=by simp;omega
   go_wp2
   go_loopg [3] L (fun gk iv wr=>∃ (i:Nat),gk+i=L/\iv=.int .i64 (i:Nat)/\wr=w1)
   case atStart=>exact ⟨0,af,rfl,rfl⟩
   case round =>
    obtain ⟨i,hi,rfl,rfl⟩:=hrel;have B1:=BT.o i af _ rfl
    by_cases hiL:i=L
    · subst hiL;obtain rfl:gk=0:=af
      rw [HB.o.1] at B1;have B2:=hid (show Calls Tryz.prog 132 #[.slice ao n cap,.int .i64 (i:Int)] wr fun r w'=>r=.returned (.bool true)/\w'=wr from B1);clear B1;go_wp2_with fail;refine B2.o.mono ?_;rintro r w2 ⟨rfl,rfl⟩;go_wp2;go_ret;exact ⟨rfl,rfl⟩
    · rw [HB.o.2 i af] at B1;have B2:=hid (show Calls Tryz.prog 132 #[.slice ao n cap,.int .i64 (i:Int)] wr fun r w'=>r=.returned (.bool false)/\w'=wr from B1);clear B1;go_wp2_with fail;refine B2.o.mono ?_;rintro r w2 ⟨rfl,rfl⟩;go_wp2;go_roundg (gk-1)
      case measure=>omega
      case rel=>exact ⟨i+1,af,by first | go_num | (congr 1;omega),rfl⟩
theorem qX {w:World}{g:Nat}{L:List Nat}(h:Own w g L) (hm:L.length<=35184372088832):w.ownsRow g 51 1 (.slice (some ⟨g,0,none⟩) L.length L.length) L.length (L.map U) :=
 ⟨aO,.inr ⟨g,L.length,_,rfl,aC _,h,aC _,by unfold maxLen;omega,aO,by simp [ic]⟩⟩
theorem Arg.drew' {w:World}{a:Option Addr}{n c:Nat}{xs:List Nat}(h:Arg w a n c xs):Arg w.drew a n c xs:=⟨h.len,h.cap,h.big,h.wf,h.rd,h.nil⟩
theorem sM (r:Nat) (hr:r<32):2^r<4294967296:=by
 have:2^r<=2^31:=fB af af;omega
theorem MF {w:World}{a:Option Addr}{l c:Nat}{X:Nat}(k:Nat) (h1:Arg w a l c (ws X)) (hl:l<=2000000) (hk:k<=64000000) :
 Calls Tryz.prog 97 #[.slice a l c,.int .i64 (k:Nat)] w fun r w'=>∃ v,r=.returned v/\Nt w.heap.size w' v (X*2^k)/\Below w.heap.size w w':=by
 obtain ⟨q,hq⟩:=ah (k/32);obtain ⟨s,hs⟩:=ah (k%32);have e1:(k:Int)/32=(q:Int):=af
 have e2:(k:Int)%32=(s:Int):=af
 have hqb:q<=2000000:=af
 have MG:s<32:=af
 obtain ⟨W1,hW1⟩:=ah (w.alloc (.cells (madeCells #[.int .u32 0] q) 51));have mU:Own W1 w.heap.size (List.replicate q 0):=by rw [hW1];exact Own.made w q
 have hB1:Below w.heap.size w W1:=by rw [hW1];exact (aD _ _).alloc (aC _) _
 have hmk:=dw (q:Int) q rfl af w;rw [<-hW1] at hmk;have hR:=qX mU (by simp;omega);simp only [Ba] at hR;have A1:=h1.below hB1;obtain ⟨v',w2,hap,hown,hgrow⟩:=jZ W1 w.heap.size _ q (List.replicate q 0) (ws X) a l c W1.heap.size 23 hR A1.len A1.rd A1.nil af hB1.size;have hB2:Below w.heap.size w w2:=hB1.grown hgrow hB1.size (fun k hk=>by simp [Value.ownBlock] at hk;omega);obtain ⟨a2,c2,rfl,hc2,hl2,ui,BO⟩:=Rw.words hown;have AO:Arg w2 a2 (q+l) c2 (List.replicate q 0++ws X):=⟨hl2,hc2,af,(Wf.zeros q).append (dz X),BO,ui⟩
 have hval:val (List.replicate q 0++ws X)=X*pw q:=by
  rw [val_append,oz,aj,Ba,dS,df]
 have hpw:pw q*2^s=2^k:=by
  have:pw q=2^(32*q):=by unfold pw;rw [kE]
  rw [this,<-aL];congr 1;omega
 have hps:=sM s MG;obtain ⟨p,hp⟩:=ah (2^s)
 have e3:(2:Int)^s=(p:Int):=by
  have h5:((2^s:Nat):Int)=(2:Int)^s:=by simp
  rw [<-h5,<-hp]
 have hpl:p<4294967296:=af
 have T1:=hid (kQ (V:=X*2^k) (AO.below (ae w2 _)) (qV w2 p af) af (by rw [hval];simp only [val];rw [<-hpw,hp,aN];simp));have IV:=hid hap;have hs2:=hB2.size;have S1:=ak hB2;clear hap hown hgrow hB2 hl2 ui BO AO hval hpw A1 hR mU hB1 h1 hW1 hq hs hps hp;go_enter Tryz.func97,Tryz.ntmps97
 go_wp2_with (at_builtin;refine dC rfl (.tmp 39) (.tmp 40) 23 rfl _ _ rfl rfl _ _ IV.o ?_)
 refine T1.o.mono ?_;rintro r u3 ⟨v3,rfl,dF,hb3⟩;have S2:=(aJ dF hb3);clear dF hb3;go_wp2;go_ret;obtain ⟨dF,hb3⟩:=S2.o;exact ⟨v3,rfl,dF.mono (by simp;omega),S1.o.trans (((ae w2 _).trans (hb3.mono aO)).mono hs2)⟩
theorem Ew {w:World}{b off:Nat}{l c:Nat}{X:Nat}(k:Nat) (h1:Arg w (some ⟨b,off,none⟩) l c (ws X)) (hl:l<=2000000) (hk0:0<k) (hk:k<=64000000) (hkl:k/32<l) :
 Calls Tryz.prog 97 #[.slice (some ⟨b,off,none⟩) l c,.int .i64 (-(k:Int))] w fun r w'=>∃ v,r=.returned v/\Nt w.heap.size w' v (X/2^k)/\Below w.heap.size w w':=by
 obtain ⟨q,hq⟩:=ah (k/32);obtain ⟨s,hs⟩:=ah (k%32);have e1:(k:Int)/32=(q:Int):=af
 have e2:(k:Int)%32=(s:Int):=af
 have ZI:q<l:=af
 have MG:s<32:=af
 have hcl:=h1.cap;have hqc:¬ c=q:=af
 obtain ⟨p,hp⟩:=ah (2^s);have hps:=sM s MG
 have e3:(2:Int)^s=(p:Int):=by
  have h5:((2^s:Nat):Int)=(2:Int)^s:=by simp
  rw [<-h5,<-hp]
 have hpl:p<4294967296:=af
 have hd1:decide (l<=q)=false:=decide_eq_false af;have hd2:decide ((-(k:Int)) < -1099511627776)=false:=decide_eq_false af;have hd3:decide ((l:Int)<=(q:Int))=false:=decide_eq_false af
 have hvd:val ((ws X).drop q)=X/pw q:=by
  have h5:=fJ (ws X) q (by rw [<-h1.len];omega);have h6:=dh ((ws X).take q) ((dz X).take q);rw [aj] at h5;rw [gz,jf (by rw [<-h1.len];omega)] at h6;generalize val ((ws X).drop q)=Bv at h5 |-;generalize val ((ws X).take q)=Av at h5 h6;rw [h5,qF _ _ (jQ q),gQ h6,dS]
 have hpw:X/pw q/p=X/2^k:=by
  have h5:pw q=2^(32*q):=by unfold pw;rw [kE]
  rw [nH,h5,hp,<-aL];congr 2;omega
 have Ed:(ws (X/pw q)).length<=2000000:=by
  have h5:X<pw l:=by rw [h1.len];exact fV X
  have h6:X/pw q<=X:=nE _ _;have h7:=(aP (X/pw q) l).2 af;omega
 have hp0:0<p:=by rw [hp];exact nP af
 have TU:Hid (∀ u,Below w.heap.size w u->Calls Tryz.prog 95 #[.slice (some ⟨b,off+q,none⟩) (l-q) (c-q)] u fun r w'=>∃ v,r=.returned v/\Nt u.heap.size w' v (X/pw q)/\Below u.heap.size u w'):=by
  intro u hu;have h5:=jB ((ws X).drop q) (some ⟨b,off+q,none⟩) (l-q) (c-q) w.heap.size u (by rw [pI,<-h1.len]) af af ((dz X).drop q) ((h1.rd.drop q).below hu) (fun e=>by cases e);rw [hvd] at h5;exact h5
 have HP:=(aJ hpw Ed);have e7:IntKind.i64.wrap (k:Int)=(k:Int):=by simp [IntKind.wrap,IntKind.bits,IntKind.signed] <;> omega
 have e8:(k:Int).tmod 32=(s:Int):=by rw [Int.tmod_eq_emod_of_nonneg af];exact e2
 have e6:IntKind.u32.wrap (p:Int)=(p:Int):=by simp [IntKind.wrap,IntKind.bits,IntKind.signed] <;> omega
 clear h1 hq hs hp hvd hpw Ed hps;go_enter Tryz.func97,Tryz.ntmps97;go_wp2
 go_region_with (first
  | (go_at_call 95
     refine (TU.o _ ((aD _ _).drew)).mono ?_;rintro r u1 ⟨v1,rfl,hN1,hb1⟩;obtain ⟨a1,c1,rfl,A1⟩:=hN1.arg (by have:=HP.o.2;omega);have hbw:Below w.heap.size w u1:=((aD w.heap.size w).drew).trans (hb1.mono (aC _));have S1:=(aJ hbw A1)
     clear hN1 hb1 A1 hbw)
  | (go_at_call 95
     refine (TU.o _ ((ae w _).drew)).mono ?_;rintro r u1 ⟨v1,rfl,hN1,hb1⟩;obtain ⟨a1,c1,rfl,A1⟩:=hN1.arg (by have:=HP.o.2;omega);have hbw:Below w.heap.size w u1:=((ae w _).drew).trans (hb1.mono aO);have L1:=ak ((Arg.drew' (qV w p hpl)).below hb1);have S1:=(aJ hbw A1)
     clear hN1 hb1 A1 hbw)
  | (go_at_call 133
     refine (yF S1.o.2 L1.o (by have:=HP.o.2;omega) af (by simp [val];exact hp0)).mono ?_;rintro r u2 ⟨v2,v3,rfl,ko,dF,hb2⟩;have hbw:Below w.heap.size w u2:=S1.o.1.trans (hb2.mono S1.o.1.size);have Xh:=ko.mono (lo':=w.heap.size) S1.o.1.size;have S2:=(aJ Xh hbw)
     clear ko dF hb2 hbw Xh)
  | (go_at_call 133
     refine (yF (S1.o.2.below (ae u1 _)) (qV u1 p hpl) (by have:=HP.o.2;omega) af (by simp [val];exact hp0)).mono ?_;rintro r u2 ⟨v2,v3,rfl,ko,dF,hb2⟩;have hbw:Below w.heap.size w u2:=S1.o.1.trans (((ae u1 _).trans (hb2.mono aO)).mono S1.o.1.size);have Xh:=ko.mono (lo':=w.heap.size) (by have:=S1.o.1.size;simp;omega);have S2:=(aJ Xh hbw)
     clear ko dF hb2 hbw Xh))
 all_goals (
  go_wp2;go_ret;obtain ⟨ko,hb2⟩:=S2.o;have e5:val [p]=p:=by simp [val]
  rw [aj,e5,HP.o.1] at ko
  exact ⟨v2,rfl,ko,hb2⟩)
theorem Je (a:Option Addr) (l c k:Nat) (w:World) (hl:l<=2000000) (hk:k<=9223372036854775807) (hk0:0<k) (hkl:l<=k/32) :
 Calls Tryz.prog 97 #[.slice a l c,.int .i64 (-(k:Int))] w fun r w'=>r=.returned (.slice none 0 0)/\w'=w:=by
 obtain ⟨q,hq⟩:=ah (k/32);have e1:(k:Int)/32=(q:Int):=af
 have e7:IntKind.i64.wrap (k:Int)=(k:Int):=by simp [IntKind.wrap,IntKind.bits,IntKind.signed] <;> omega
 have ZI:l<=q:=af
 clear hq hkl;go_enter Tryz.func97,Tryz.ntmps97;go_wp2;go_ret;exact ⟨rfl,rfl⟩
theorem BQ (a:Option Addr) (l c:Nat) (w:World) (hl:l<=2000000) :
 Calls Tryz.prog 97 #[.slice a l c,.int .i64 (-9223372036854775808)] w fun r w'=>r=.returned (.slice none 0 0)/\w'=w:=by
 go_enter Tryz.func97,Tryz.ntmps97;go_wp2
 all_goals (
  go_ret
  exact ⟨rfl,rfl⟩)
theorem vZ (X k l:Nat) (h:X<pw l) (hk:32*l<=k):X/2^k=0:=by
 apply gQ;have h1:pw l=2^(32*l):=by unfold pw;rw [kE]
 have h2:2^(32*l)<=2^k:=fB af hk;omega
theorem Nt.some {lo:Nat}{w:World}{v:Value}{X:Nat}(h:Nt lo w v X) (hX:X≠0):∃ g c,v=.slice (some ⟨g,0,none⟩) (ws X).length c:=by
 rcases h.2 with ⟨_,h0⟩|⟨g,cap,cur,rfl,_⟩
 · exact absurd ((bz X).1 h0) hX
 · exact ⟨g,cap,rfl⟩
theorem oK {w:World}{v:Value}{X lo:Nat}(hN:Nt lo w v X) (by':Int) (hb0:-9223372036854775808<=by') (hb1:by'<=64000000) (hX:X≠0) (hl:(ws X).length<=2000000) :
 Calls Tryz.prog 97 #[v,.int .i64 by'] w fun r w'=>∃ v,r=.returned v/\Nt w.heap.size w' v (if by'<0 then X/2^(-by').toNat else X*2^by'.toNat)/\Below w.heap.size w w':=by
 obtain ⟨g,c,rfl⟩:=hN.some hX;obtain ⟨_,_,e,A⟩:=hN.arg af
 cases e
 by_cases h:by'<0
 · rw [if_pos h]
   by_cases hmin:by'=-9223372036854775808
   · subst hmin;rw [vZ X _ (ws X).length (fV X) af];exact (BQ _ _ _ w hl).mono fun r w' ⟨h1,h2⟩=>⟨_,h1,Nt.nil _ _,by rw [h2];exact aD _ _⟩
   · obtain ⟨k,hk⟩:∃ k:Nat,by'=-(k:Int):=⟨(-by').toNat,af⟩
     subst hk;rw [show (- -(k:Int)).toNat=k by omega]
     by_cases hkl:k/32<(ws X).length
     · exact Ew k A hl af af hkl
     · rw [vZ X k (ws X).length (fV X) af];exact (Je _ _ _ k w hl af af af).mono fun r w' ⟨h1,h2⟩=>⟨_,h1,Nt.nil _ _,by rw [h2];exact aD _ _⟩
 · rw [if_neg h];obtain ⟨k,hk⟩:∃ k:Nat,by'=(k:Int):=⟨by'.toNat,af⟩
   subst hk;rw [show ((k:Int)).toNat=k by omega];exact MF k A hl af
def mkS (neg:Bool) (X:Nat) (e:Int):Option (Bool×Nat×Int) :=
 if X=0 then some (false,0,0)
 else if 262144<bl X-lo X\/1048576-(lo X:Int)<e\/e < -1048576-(lo X:Int) then none
 else some (neg,X/2^lo X,e+lo X)
def dN (o:Option (Bool×Nat×Int)):Bool:=(o.getD (false,0,0)).1
def dX (o:Option (Bool×Nat×Int)):Nat:=(o.getD (false,0,0)).2.1
def dE (o:Option (Bool×Nat×Int)):Int:=(o.getD (false,0,0)).2.2
def l9 (o:Option (Bool×Nat×Int)):Int:=if o.isSome then 0 else 2
theorem uj (X m:Nat):m<bl X↔2^m<=X:=by
 constructor
 · intro h;have h0:X≠0:=by rintro rfl;rw [dG] at h;omega
   exact dP (fB af (by omega:m<=bl X-1)) (gT X h0)
 · intro h;exact (jw af).1 (gN h (il X))
theorem Ex (X k m:Nat) (hm:m=32*k):k<(ws X).length↔m<bl X:=by
 rw [uj,hm,kE];have h:=aP X k;unfold pw at h;rw [show (2:Nat)^32=4294967296 from rfl];generalize 4294967296^k=P at h |-;omega
theorem uk (X:Nat):LG X↔262144<bl X:=Ex X 8192 262144 rfl
theorem qh (k Y:Nat) (h:Y≠0):bl (2^k*Y)=k+bl Y:=by
 have h1:=il Y;have h2:=gT Y h;have h3:=dI Y h;have e:k+bl Y=(k+(bl Y-1))+1:=af
 rw [e];apply Bt
 · rw [aL];exact gP _ h2
 · rw [show k+(bl Y-1)+1=k+bl Y by omega,aL];exact xW h1 (bu k)
theorem iw (X:Nat) (h:X≠0):∃ m,X=2^lo X*(2*m+1)/\X/2^lo X=2*m+1/\bl X=lo X+bl (X/2^lo X):=by
 obtain ⟨m,hm⟩:=qW X h
 have e:X/2^lo X=2*m+1:=by
  obtain ⟨k,hk⟩:∃ k,lo X=k:=⟨_,rfl⟩;rw [hk] at hm |-;rw [hm,xX _ (bu k)]
 refine ⟨m,hm,e,?_⟩;rw [e];obtain ⟨k,hk⟩:∃ k,lo X=k:=⟨_,rfl⟩;rw [hk] at hm |-;rw [hm];exact qh k _ af
theorem Jf (X:Nat) (h:X≠0):lo (2*X)=lo X+1:=by
 obtain ⟨m,hm⟩:=qW X h;obtain ⟨k,hk⟩:∃ k,lo X=k:=⟨_,rfl⟩;rw [hk] at hm |-;have e:2*X=2^(k+1)*(2*m+1):=by rw [hm,gY];grind
 rw [e];exact Gq (k+1) m
theorem Jg (X:Nat) (h:X≠0):bl (2*X)=bl X+1:=by
 have:=qh 1 X h;rw [mf] at this;omega
theorem Ey (n:Bool) (X:Nat) (e:Int):mkS n (2*X) e=mkS n X (e+1):=by
 unfold mkS
 by_cases h:X=0
 · subst h;simp
 · rw [if_neg af,if_neg h,Jf X h,Jg X h]
   have e1:2*X/2^(lo X+1)=X/2^lo X:=by
    rw [gY,df (2^lo X) 2,Nat.mul_div_mul_left _ _ af]
   rw [e1];have e2:(262144<bl X+1-(lo X+1)\/1048576-((lo X+1:Nat):Int)<e\/e < -1048576-((lo X+1:Nat):Int))↔(262144<bl X-lo X\/1048576-(lo X:Int)<e+1\/e+1 < -1048576-(lo X:Int)):=af
   by_cases h2:262144<bl X-lo X\/1048576-(lo X:Int)<e+1\/e+1 < -1048576-(lo X:Int)
   · rw [if_pos h2,if_pos (e2.2 h2)]
   · rw [if_neg h2,if_neg (fun h3=>h2 (e2.1 h3))];congr 3;omega
theorem eY (n:Bool) (e:Int):mkS n 0 e=some (false,0,0):=by unfold mkS;rw [if_pos rfl]
theorem QC (X:Nat) (h:X%2=1):lo X=0:=by
 have:=LF (X/2);rw [show 2*(X/2)+1=X by omega] at this;exact this
theorem GG (n:Bool) (X:Nat) (e:Int) (h:X%2=1):mkS n X e=if 262144<bl X\/1048576<e\/e < -1048576 then none else some (n,X,e):=by
 have h0:X≠0:=af
 unfold mkS;rw [if_neg h0,QC X h];simp only [Nat.sub_zero,fC,tT]
 by_cases h2:262144<bl X\/1048576<e\/e < -1048576
 · rw [if_pos h2,if_pos af]
 · rw [if_neg h2,if_neg af];congr 3;omega
structure sN (n:Bool) (X:Nat) (e:Int):Prop where
 odd:X%2=1\/(X=0/\n=false/\e=0)
 size:bl X<=262144
 up:e<=1048576
 down:-1048576<=e
theorem bM {n n':Bool}{X Y:Nat}{e f:Int}(h:mkS n X e=some (n',Y,f)):sN n' Y f:=by
 unfold mkS at h
 split at h
 · cases h
   exact ⟨.inr ⟨rfl,rfl,rfl⟩,by rw [dG];omega,af,af⟩
 · next h0 =>
   split at h
   · cases h
   · next h1 =>
     obtain ⟨m,hm,e1,hb⟩:=iw X h0
     cases h
     refine ⟨.inl (by rw [e1];omega),af,af,af⟩
theorem sN.self {n:Bool}{X:Nat}{e:Int}(h:sN n X e):mkS n X e=some (n,X,e):=by
 rcases h.odd with h1|⟨rfl,rfl,rfl⟩
 · rw [GG n X e h1,if_neg];have:=h.size;have:=h.up;have:=h.down;omega
 · exact eY _ _
theorem dH {n:Bool}{X:Nat}{e:Int}(h:sN n X e):(ws X).length<=8192:=by
 have h1:=uk X;have h2:=h.size;unfold LG at h1;omega
theorem aM (n:Bool) (X:Nat) (e:Int):(ws (dX (mkS n X e))).length<=8192:=by
 unfold dX
 cases h:mkS n X e with
 | none=>simp [bI]
 | some d =>
   obtain ⟨n',Y,f⟩:=d;exact dH (bM h)
end
end Go.Proofs.YtfmfhehbdfhnbaaGreatDoor
