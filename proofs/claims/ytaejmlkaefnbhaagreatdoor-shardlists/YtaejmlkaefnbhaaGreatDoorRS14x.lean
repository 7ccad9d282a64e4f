import Derived.Test.YtaejmlkaefnbhaaGreatDoorRS8x
import Derived.Test.YtaejmlkaefnbhaaGreatDoorS11ax
import Derived.Test.YtaejmlkaefnbhaaGreatDoorSM7x
import Derived.Test.YtaejmlkaefnbhaaGreatDoorF9x
import Derived.Test.YtaejmlkaefnbhaaGreatDoorSN4x
import Derived.Laws.BytesArg
import Derived.BigQuiet
import Derived.Deep.RegionHeld3
import Derived.ProofKit
import Derived.OpenShut
import Derived.ChangeOld
import Derived.ChangeArms
import Derived.SizedLaws
import Derived.Laws.Cover2
set_option linter.unusedVariables false
set_option linter.unusedSimpArgs false
set_option maxHeartbeats 16000000
set_option maxRecDepth 20000
namespace Go.Proofs.YtaejmlkaefnbhaaGreatDoor
namespace J
end J
section
open Go.RowKit J
def jB(n k:Nat):List Nat:=List.range k++List.replicate (n-k) 0
theorem Qt(n:Nat):jB n 0=List.replicate n 0:=by simp[jB]
theorem UT(n:Nat):jB n n=List.range n:=by simp[jB]
theorem UW{n k:Nat}(h:k<=n):(jB n k).length=n:=by simp[jB];omega
theorem Qu{n k:Nat}(h:k<n):(jB n k).set k k=jB n (k+1):=by
 unfold jB;rw[Ci _ _ aL,Cr,wZ,show n-k=(n-(k+1))+1 by omega,EL,Cj,List.range_succ];simp
theorem il{g:Nat}{u v:World}{p:Addr}{x:Value}(hB:But g u v)(h:u.cell? p=some x)(hp:p.block≠g):v.cell? p=some x :=
 (rR (hB.block p.block (aH h) hp)).trans h
theorem tJ{g:Nat}{u v:World}{p:Addr}(hB:But g u v)(hl:p.block<u.heap.size)(h:u.frozen? p=false)(hp:p.block≠g):v.frozen? p=false:=by
 unfold World.frozen? at h |-;rw[hB.block p.block hl hp];exact h
theorem Qa5{P:Prop}(h:P:=by
 rw[hW1,World.cell?_alloc_lt _ _ _ (by simp;omega),World.cell?_alloc_lt _ _ _ aL,World.cell?_alloc_new];rfl):P:=h
theorem Yi(xs:List Nat)(ao:Option Addr)(n cap:Nat)(w:World)(hF:Fs w.heap.size w ao xs)(hn:n=xs.length)(hb:n<=17592186044416)(hW:eD xs) :
 Calls Tryz.prog 72 #[.slice ao n cap] w fun r w'=>∃ g,r=.returned (.agg #[.slice ao n cap,.slice (some ⟨g,0,none⟩) n n])/\bE w' g (jO xs)/\Below w.heap.size w w'/\w.heap.size<=g:=by
 have mk:=Qs n n rfl hb;have HF:=au hF;have HN:=(aT hn hW);clear hF hn hW;go_enter Tryz.func72,Tryz.ntmps72
 go_upto_region 2 with fail
 obtain⟨W1,hW1⟩:=ah ((((w.alloc (Obj.cells #[Value.slice none 0 0,Value.slice none 0 0] 116)).alloc (Obj.cells (madeCells #[Value.int IntKind.i64 0] n) 3)).alloc (Obj.cells #[Value.slice ao n cap,Value.slice (some ⟨w.heap.size+1,0,none⟩) n n] 116)))
 have o1:bE W1 (w.heap.size+1) (jB n 0):=by
  rw[hW1,Qt];have:=(bE.made (w.alloc (Obj.cells #[Value.slice none 0 0,Value.slice none 0 0] 116)) n);rw[dL] at this;exact this.below ((aG _ _).alloc (aB _) _) aL
 have o2:Below w.heap.size w W1:=by
  rw[hW1];exact(((aG w.heap.size w).alloc (aB _) _).alloc aL _).alloc (by simp;omega) _
 have q1:W1.cell? ⟨w.heap.size,0,none⟩=some (.slice none 0 0):=by
  exact Qa5
 have q2:W1.cell? ⟨w.heap.size,1,none⟩=some (.slice none 0 0):=by
  exact Qa5
 have q3:∀ i,W1.frozen? ⟨w.heap.size,i,none⟩=false:=fun i=>by
  rw[hW1,World.frozen?_alloc_old _ _ _ (by simp;omega),World.frozen?_alloc_old _ _ _ aL];exact World.frozen?_alloc_new _ _ _ _
 have r1:W1.cell? ⟨w.heap.size+2,0,none⟩=some (.slice ao n cap):=by
  have:=World.cell?_alloc_new ((w.alloc (Obj.cells #[Value.slice none 0 0,Value.slice none 0 0] 116)).alloc (Obj.cells (madeCells #[Value.int IntKind.i64 0] n) 3)) #[Value.slice ao n cap,Value.slice (some ⟨w.heap.size+1,0,none⟩) n n] 116 0;rw[dL,dL] at this;rw[hW1];exact this
 have r2:W1.cell? ⟨w.heap.size+2,1,none⟩=some (.slice (some ⟨w.heap.size+1,0,none⟩) n n):=by
  have:=World.cell?_alloc_new ((w.alloc (Obj.cells #[Value.slice none 0 0,Value.slice none 0 0] 116)).alloc (Obj.cells (madeCells #[Value.int IntKind.i64 0] n) 3)) #[Value.slice ao n cap,Value.slice (some ⟨w.heap.size+1,0,none⟩) n n] 116 1;rw[dL,dL] at this;rw[hW1];exact this
 rw[<-hW1];clear hW1 mk;obtain⟨q,hq⟩:=ah (w.heap.size);obtain⟨g,hg⟩:=ah (w.heap.size+1);obtain⟨h,hh⟩:=ah (w.heap.size+2);rw[<-hg] at o1 r2;rw[<-hh] at r1 r2;rw[<-hq] at q1 q2;simp only[<-hq] at q3;rw[show w.heap.size+1+1=h by omega,<-hg,<-hq];have vD:g≠q:=af
 have hgh:g≠h:=af
 have hqg:q≠g:=af
 have hhg:h≠g:=af
 have HQ:=(bM hq hg hh);have HB:=au o2;have HR:=(iq q1 q2 q3 r1 r2);have HA:Aside (bE W1 g (jB n 0)/\But g W1 W1):=⟨o1,But.refl _ _⟩;have hlh:h<W1.heap.size:=aH r1;have hlq:q<W1.heap.size:=aH q1;have HL:=(aT hlh hlq);clear o1 o2 q1 q2 q3 hq hg hh hlh hlq;go_wp2
 go_loopg [13] n (fun gk iv wr=>∃ k:Nat,gk+k=n/\iv=.int .i64 (k:Nat)/\Aside (bE wr g (jB n k)/\But g W1 wr))
 case atStart=>exact⟨0,rfl,by first | rfl | simp,HA.o⟩
 case round =>
  clear HA r1 r2;obtain⟨k,iL,rfl,HA⟩:=hrel
  by_cases hk:k<n
  · have hdk:decide ((k:Int)<(n:Int))=true:=by simp;omega
    have bk:(k:Int)<(n:Int):=af
    obtain⟨k1,hk1⟩:=ah (k+1);have wk:IntKind.i64.wrap ((k:Int)+1)=(k1:Int):=aQ af af;have r2:=il HA.o.2 HR.o.r4 hhg;have c1:=HA.o.1.cell k (by rw[UW af];exact hk);have z1:=HA.o.1.frozen k;have HX:Aside (bE (wr.setCell ⟨g,k,none⟩ (.int .i64 (k:Nat))) g (jB n k1)/\But g W1 (wr.setCell ⟨g,k,none⟩ (.int .i64 (k:Nat)))):=⟨by rw[hk1,<-Qu hk];exact HA.o.1.set k k,HA.o.2.set _ _⟩;obtain⟨y,hy⟩:=ah ((jB n k).getD k 0);rw[<-hy] at c1;have HK:=au hk1;clear HA hk1 hy;go_wp2;go_roundg (n-k1)
    case measure=>have:=HK.o;omega
    case rel=>exact⟨k1,by have:=HK.o;omega,by first | rfl | simp,HX.o⟩
  · have hdk:decide ((k:Int)<(n:Int))=false:=by simp;omega
    have hkn:k=n:=af
    subst hkn;obtain⟨a1,a2⟩:=HA.o;rw[UT] at a1;have r1:=il a2 HR.o.r3.1 hhg;have r2:=il a2 HR.o.r4 hhg;obtain⟨hn,hW⟩:=HN.o;obtain⟨hq,hg,hh⟩:=HQ.o
    have Qv:Fs w.heap.size wr ao xs:=by
     intro hne;obtain⟨b,off,h1,h2,h3⟩:=HF.o hne;refine⟨b,off,h1,h2,fun i hi=>?_⟩;exact il a2 ((rR (a:=⟨b,off+i,none⟩) (HB.o.block b h1)).trans (h3 i hi)) (by show b≠g;omega)
    have hsz:w.heap.size<=wr.heap.size:=aV HB.o.size a2.size;have hC:iQ (zD xs) k g (.agg #[.slice ao k cap,.slice (some ⟨g,0,none⟩) k k]) wr:=UQ xs ao k cap g w.heap.size _ wr Qv af hsz hn hW;rw[hn] at a1;have C:=hid (KH xs k g k _ wr a1 hn hb hC);clear Qv hC a1 hn hW hq hg hh hsz;have HA2:=au a2;clear HA a2;go_wp2_with fail;refine C.o.mono ?_;rintro r v ⟨rfl,e1,e2⟩;have a3:=HA2.o.trans e2;have r1:=il a3 HR.o.r3.1 hhg;have r2:=il a3 HR.o.r4 hhg;have q1:=il a3 HR.o.1 hqg;have q2:=il a3 HR.o.2.1 hqg;have q3:=tJ (p:=⟨q,0,none⟩) a3 HL.o.2 (HR.o.r2.1 0) hqg;have q4:=tJ (p:=⟨q,1,none⟩) a3 HL.o.2 (HR.o.r2.1 1) hqg;have HE:=(aT e1 a3);clear C e1 e2 a3 HA2;go_wp2;obtain⟨WE,hWE⟩:=ah (((v.setCell ⟨q,0,none⟩ (Value.slice ao k cap)).setCell ⟨q,1,none⟩ (Value.slice (some ⟨g,0,none⟩) k k)))
    have x1:WE.cell? ⟨q,0,none⟩=some (Value.slice ao k cap):=by
     rw[hWE,World.cell?_setCell_other _ _ _ _ aL];exact World.cell?_setCell_same _ _ _ q1
    have x2:WE.cell? ⟨q,1,none⟩=some (Value.slice (some ⟨g,0,none⟩) k k):=by
     rw[hWE];exact World.cell?_setCell_same _ _ _ (by rw[World.cell?_setCell_other _ _ _ _ aL];exact q2)
    rw[<-hWE];have X:=au hWE;clear hWE;refine aJ (v:=.agg #[.slice ao k cap,.slice (some ⟨g,0,none⟩) k k]) (by simp[results,Tryz.results72,go_sem,x1,x2]) rfl ?_;obtain⟨e1,a3⟩:=HE.o;obtain⟨hq,hg,hh⟩:=HQ.o
    have hb2:∀ j,j≠q->WE.heap[j]?=v.heap[j]?:=fun j hj=>by
     rw[X.o];simp only[World.setCell,iA];rw[if_neg (fun e=>hj e.symm),if_neg (fun e=>hj e.symm)]
    have hb3:WE.heap.size=v.heap.size:=by rw[X.o];simp[World.setCell]
    refine⟨g,rfl,?_,⟨?_,?_,?_,?_,?_⟩,af⟩
    · unfold bE;rw[hb2 g vD];exact e1
    · rw[X.o];exact a3.os.trans HB.o.os
    · rw[X.o];exact a3.tape.trans HB.o.tape
    · rw[X.o];exact a3.output.trans HB.o.output
    · rw[hb3];exact aV HB.o.size a3.size
    · intro j hj;rw[hb2 j af,a3.block j (by have:=HB.o.size;omega) af];exact HB.o.block j hj
def clx(x:Nat):Int:=B.cls (aP x/4503599627370496) (aP x%4503599627370496)
theorem Yj{x:Nat}(hx:x<18446744073709551616)(w:World):Calls Tryz.prog 135 #[.float .f64 x] w fun r w'=>r=.returned (.int .i64 (clx x))/\Below w.heap.size w w':=by
 obtain⟨s,e,f,h1,h2,h3,h4,h5,h6⟩:=bw15 hx;have:=B.AU s e f h1 h2 w;rw[<-h3,h5,h6] at this;exact this
theorem Yk{x:Nat}(hx:x<18446744073709551616):clx x=4↔bN x=true:=by
 unfold clx B.cls bN aP;rw[decide_eq_true_eq]
 by_cases a:x%9223372036854775808/4503599627370496=2047
 · rw[if_pos a]
   by_cases b:x%9223372036854775808%4503599627370496=0
   · rw[if_pos b];constructor <;> intro h <;> omega
   · rw[if_neg b];constructor <;> intro h <;> omega
 · rw[if_neg a]
   by_cases b:x%9223372036854775808/4503599627370496=0
   · rw[if_pos b];split <;> (constructor <;> intro h <;> omega)
   · rw[if_neg b];constructor <;> intro h <;> omega
theorem told15{x:Nat}(hx:x<18446744073709551616)(w:World):Calls Tryz.prog 73 #[.float .f64 x] w fun r w'=>r=.returned (.float .f64 (IM x))/\Below w.heap.size w w':=by
 have C:=hid (Yj hx w);have hk:=Yk hx;obtain⟨c,hc⟩:=ah (clx x);rw[<-hc] at C hk;clear hc
 by_cases h:c=4
 · subst h;have e:IM x=9221120237041090560:=by unfold IM;rw[if_pos (hk.1 rfl)];rfl
   rw[e];clear e hk;go_enter Tryz.func73,Tryz.ntmps73;go_wp2_with fail;refine C.o.mono ?_;rintro r v ⟨rfl,hv⟩;have D:=hid (B.wM v);go_wp2_with fail;refine D.o.mono ?_;rintro r v2 ⟨rfl,rfl⟩;go_wp2;go_ret;exact⟨rfl,hv⟩
 · have e:IM x=x:=by unfold IM;rw[if_neg (fun q=>h (hk.2 q))]
   rw[e];clear e hk;have k1:(c==4)=false:=by simp[h]
   have k2:decide (c=4)=false:=by simp[h]
   go_enter Tryz.func73,Tryz.ntmps73;go_wp2_with fail;refine C.o.mono ?_;rintro r v ⟨rfl,hv⟩;go_wp2;go_ret;exact⟨rfl,hv⟩
def lI(xs:List Nat)(k:Nat):List Nat:=(iR xs).take k++List.replicate (xs.length-k) 0
theorem KI(xs:List Nat):lI xs 0=List.replicate xs.length 0:=by simp[lI]
theorem Qw(xs:List Nat):lI xs xs.length=iR xs:=by
 unfold lI;rw[jc (by rw[jh];exact aB _)];simp
theorem Qx{xs:List Nat}{k:Nat}(h:k<=xs.length):(lI xs k).length=xs.length:=by
 unfold lI;rw[kv,gm,Cb,jh];omega
theorem KJ{xs:List Nat}{k:Nat}(h:k<xs.length):(lI xs k).set k ((iR xs).getD k 0)=lI xs (k+1):=by
 have hl:k<(iR xs).length:=by rw[jh];exact h
 unfold lI;rw[Ci _ _ (by rw[gm];omega),gm,iy af,wZ,show xs.length-k=(xs.length-(k+1))+1 by omega,EL,Cj,aS,aY hl,vo,aY hl,nX];rfl
theorem fld15(a b:Value)(w:World):(Instr.field 116 (.agg #[a,b]) 1).run Tryz.prog w=.ok b w:=by kernel_rfl
attribute [local go_sem] fld15 gZ
theorem Sort15(xs:List Nat)(ao:Option Addr)(n cap:Nat)(w:World)(hF:Fs w.heap.size w ao xs)(hn:n=xs.length)(hb:n<=17592186044416)(hW:eD xs) :
 Calls Tryz.prog 24 #[.slice ao n cap] w fun r w'=>r=.returned (.slice (some ⟨w.heap.size,0,none⟩) n n)/\jY w' w.heap.size (iR xs)/\Below w.heap.size w w':=by
 have mk:=Ht n n rfl hb;obtain⟨G,hG⟩:=ah (w.heap.size);obtain⟨W1,hW1⟩:=ah (w.alloc (.cells (madeCells #[.float .f64 0] n) 31));have o1:jY W1 G (lI xs 0):=by rw[hW1,KI,hG,<-hn];exact jY.made w n
 have o2:Below w.heap.size w W1:=by rw[hW1];exact(aG w.heap.size w).alloc (aB _) _
 have Qv:Fs w.heap.size W1 ao xs:=hF.below o2;have C:=hid (Yi xs ao n cap W1 (Qv.mono o2.size) hn hb hW);have hGl:G<W1.heap.size:=o1.lt;have HN:=(EF hn hW hF o1 o2 hG hGl);have HW1:=au hW1;clear hF Qv o1 o2 hn hW hGl hG hW1;go_enter Tryz.func24,Tryz.ntmps24
 go_upto_region 2 with fail
 rw[<-HW1.o,<-HN.o.r5.1];clear mk;go_wp2_with fail;refine C.o.mono ?_;rintro r v ⟨g,rfl,e1,e2,e3⟩
 have HA:Aside (jY v G (lI xs 0)/\bE v g (jO xs)/\Below w.heap.size w v/\G<g/\g<v.heap.size):=by
  obtain⟨hn,hW,Qv,o1,o2,hG,hGl⟩:=HN.o;exact⟨o1.below e2 hGl,e1,o2.trans (e2.mono o2.size),af,e1.lt⟩
 clear C e1 e2 e3;go_wp2
 go_loopg [13] n (fun gk iv wr=>∃ k:Nat,gk+k=n/\iv=.int .i64 (k:Nat)/\Aside (jY wr G (lI xs k)/\bE wr g (jO xs)/\Below w.heap.size w wr/\G<g/\g<wr.heap.size))
 case atStart=>exact⟨0,rfl,by first | rfl | simp,HA.o⟩
 case round =>
  clear HA;obtain⟨k,iL,rfl,HA⟩:=hrel
  by_cases hk:k<n
  · have hdk:decide ((k:Int)<(n:Int))=true:=by simp;omega
    have bk:(k:Int)<(n:Int):=af
    obtain⟨k1,hk1⟩:=ah (k+1);have wk:IntKind.i64.wrap ((k:Int)+1)=(k1:Int):=aQ af af;obtain⟨a1,a2,a3,a4,a5⟩:=HA.o;obtain⟨hn,hW,hF,o1,o2,hG,hGl⟩:=HN.o;have hkx:k<xs.length:=af
    obtain⟨i,hi⟩:=ah ((jO xs).getD k 0);have c1:=a2.cell k (by rw[ko];exact hkx);have hin:i<n:=by rw[hi,hn];exact Nf hkx
    rw[<-hi] at c1;have bi:(i:Int)<(n:Int):=af
    obtain⟨b,off,rfl,c2⟩:=hF.at a3 i af;have hx:xs.getD i 0<18446744073709551616:=hW _ (nJ af);have e4:(iR xs).getD k 0=IM (xs.getD i 0):=by rw[hi];exact BR hkx
    obtain⟨x,jl⟩:=ah (xs.getD i 0);rw[<-jl] at c2 hx e4;have D:=hid (told15 hx wr);obtain⟨y,hy⟩:=ah (IM x);rw[<-hy] at D e4
    have HX:Aside (∀ v,Below wr.heap.size wr v->v.cell? ⟨G,k,none⟩=some (.float .f64 ((lI xs k).getD k 0))/\v.frozen? ⟨G,k,none⟩=false/\jY (v.setCell ⟨G,k,none⟩ (.float .f64 y)) G (lI xs k1)/\bE (v.setCell ⟨G,k,none⟩ (.float .f64 y)) g (jO xs)/\Below w.heap.size w (v.setCell ⟨G,k,none⟩ (.float .f64 y))/\G<g/\g<(v.setCell ⟨G,k,none⟩ (.float .f64 y)).heap.size):=fun v hv=>by
     have a1':=a1.below hv af;have a2':=a2.below hv af;refine⟨a1'.cell k (by rw[Qx af];exact hkx),a1'.frozen k,?_,?_,?_,a4,?_⟩
     · rw[hk1,<-KJ hkx,e4];exact a1'.set k y
     · have hne:g≠G:=af
       unfold bE at a2' |-;simp only[World.setCell,iA];rw[if_neg (fun e=>hne e.symm)];exact a2'
     · exact(a3.trans (hv.mono a3.size)).setCell (show w.heap.size<=G by omega) _
     · have:=a2'.lt;simpa [World.setCell] using this
    have HK:=au hk1;clear HA a1 a2 a3 a4 a5 hn hW hF o1 o2 hG hGl hi hkx hx e4 jl hy hk1;go_wp2_with fail;refine D.o.mono ?_;rintro r v ⟨rfl,hv⟩;obtain⟨x1,x2,x3⟩:=HX.o v hv;have HY:=au x3;clear D HX x3 hv;obtain⟨z,hz⟩:=ah ((lI xs k).getD k 0);rw[<-hz] at x1;clear hz;go_wp2;go_roundg (n-k1)
    case measure=>have:=HK.o;omega
    case rel=>exact⟨k1,by have:=HK.o;omega,by first | rfl | simp,HY.o⟩
  · have hdk:decide ((k:Int)<(n:Int))=false:=by simp;omega
    go_wp2;go_ret;obtain⟨a1,a2,a3,a4,a5⟩:=HA.o;obtain⟨hn,hW,hF,o1,o2,hG,hGl⟩:=HN.o;rw[show k=xs.length by omega,Qw] at a1;exact⟨by rw[<-hG];rfl,by rw[<-hG];exact a1,a3⟩
end
section
open Go Go.RowKit J
theorem UX{x:Nat}(h:bN x=true):bG x=9221120237041090560:=by
 unfold bG;rw[if_pos];exact of_decide_eq_true h
theorem UY{x:Nat}(hx:x<18446744073709551616)(h:bN x=false):bG x<=9218868437227405312:=by
 obtain⟨h1,h2⟩:=zo hx h;rw[h1]
 split <;> omega
def zF(xs:List Nat)(k:Nat):Nat:=xs.getD ((jO xs).getD k 0) 0
theorem zG{xs:List Nat}{k:Nat}(h:k<xs.length):zF xs k ∈ xs:=nJ (Nf h)
theorem qo{xs:List Nat}{k:Nat}(h:k<xs.length):(iR xs).getD k 0=IM (zF xs k):=BR h
theorem Iz{xs:List Nat}{y:Nat}(h:y ∈ xs):∃ k,k<xs.length/\zF xs k=y:=by
 obtain⟨i,hi,rfl⟩:=xe.1 h;refine⟨zD xs i,KD hi,?_⟩;unfold zF;rw[tF hi,aS,aY hi];rfl
theorem Ng{xs:List Nat}{j k:Nat}(h:j<=k)(hk:k<xs.length):bG (zF xs j)<=bG (zF xs k):=by
 rcases Nat.lt_or_eq_of_le h with c|rfl
 · have hs:(jO xs).Pairwise (fun a b=>leI xs a b=true):=pM xs (List.range xs.length);have hjl:j<(jO xs).length:=by rw[ko];omega
   have hkl:k<(jO xs).length:=by rw[ko];omega
   have:=(Ah.1 hs) j k hjl hkl c;unfold leI at this;rw[decide_eq_true_eq] at this;have e1:(jO xs).getD j 0=(jO xs)[j]:=by rw[aS,aY hjl];rfl
   have e2:(jO xs).getD k 0=(jO xs)[k]:=by rw[aS,aY hkl];rfl
   rw[<-e1,<-e2] at this;show tkQ _<=tkQ _;unfold zF;omega
 · exact Int.le_refl _
theorem uP{y:Nat}(h:bN y=true):IM y=9221120237041090560:=by unfold IM;rw[if_pos h];rfl
theorem qw{y:Nat}(h:bN y=false):IM y=y:=by unfold IM;rw[if_neg (by rw[h];decide)]
theorem IC{xs:List Nat}(hW:eD xs)(hne:0<xs.length){z:Nat×Int}(h:UE bG xs z):z.2=0/\z.1=(iR xs).getD 0 0:=by
 rw[qo hne];have hm:=zG hne;rcases h with ⟨rfl,_⟩|⟨_,h1,rfl⟩|⟨x,h1,h2,h3,rfl⟩
 · simp at hne
 · exact⟨rfl,(uP (h1 _ hm)).symm⟩
 · refine⟨rfl,?_⟩;obtain⟨k,hk,e⟩:=Iz h1;have a:=Ng (jd k) hk;rw[e] at a;have b:=UY (hW x h1) h2
   have hn:bN (zF xs 0)=false:=by
    cases c:bN (zF xs 0) with
    | false=>rfl
    | true=>rw[UX c] at a;omega
   rw[qw hn];exact pF (hW x h1) (hW _ hm) h2 hn (Int.le_antisymm (h3 _ hm hn) a)
theorem KL{xs:List Nat}(hW:eD xs){l:Nat}(hl:l<xs.length)(hs:l=0\/bN ((iR xs).getD l 0)=false)(ha:∀ j,l<j->j<xs.length->bN ((iR xs).getD j 0)=true){z:Nat×Int}(h:UE nI xs z):z.2=0/\z.1=(iR xs).getD l 0:=by
 rw[qo hl] at hs |-;rw[MX] at hs;have hm:=zG hl;rcases h with ⟨rfl,_⟩|⟨_,h1,rfl⟩|⟨x,h1,h2,h3,rfl⟩
 · simp at hl
 · exact⟨rfl,(uP (h1 _ hm)).symm⟩
 · refine⟨rfl,?_⟩;obtain⟨k,hk,e⟩:=Iz h1
   have hkl:k<=l:=by
    rcases iJ l k with c|c
    · have:=ha k c hk;rw[qo hk,MX,e,h2] at this
      cases this
    · exact c
   rcases hs with rfl|hs
   · obtain rfl:k=0:=af
     rw[e,qw h2]
   · rw[qw hs];have a:=Ng hkl hl;rw[e] at a;have b:=h3 _ hm hs;unfold nI at b;have b2:bG (zF xs l)<=bG x:=af
     exact pF (hW x h1) (hW _ hm) h2 hs (Int.le_antisymm a b2)
theorem Qy{xs:List Nat}(hW:eD xs):eD (iR xs):=by
 intro y hy;obtain⟨k,hk,e⟩:=xe.1 hy;rw[jh] at hk;have h1:(iR xs).getD k 0=y:=by rw[aS,aY (by rw[jh];exact hk)];exact e
 rw[<-h1,qo hk]
 cases c:bN (zF xs k) with
 | true=>rw[uP c];decide
 | false=>rw[qw c];exact hW _ (zG hk)
end
section
open Go Go.RowKit J
open Go.Proofs.YtaejmlkaefnbhaaGreatDoor.B (bu aM)
attribute [local go_sem] gZ bu aM
theorem rD{P:Program}{ops:Array Oper}{Q:Exit->Act->World->Prop}{md:Region.Mode}{S S':World->Prop}{stop:Nat}(hs:∀ u,S' u->S u):∀ (fuel:Nat) (listed:Array Bool) (a:Act) (w:World),fF P md ops Q S' stop fuel listed a w->fF P md ops Q S stop fuel listed a w
 | 0,_,_,_,h=>h
 | fuel+1,_,_,_,h=>⟨h.1,fun i hi=>wpOp_mono (fun b u k=>⟨fun q=>hs u (k.1 q),rD hs fuel _ b u k.2⟩) (h.2 i hi)⟩
theorem aI {P:Program}{ops:Array Oper}{Q:Exit->Act->World->Prop}{md:Region.Mode}{S:World->Prop}{stop:Nat}(i:Nat) (d:Tmp) {oi:Oper}{v:Value}{fuel:Nat}{listed:Array Bool}{a:Act}{w:World}(hi:ops[i]?=some oi) (hd:oi.dst=some d) (hS:S w)
 (h:fF P md ops Q S stop fuel (listed.setIfInBounds i true) (a.put (some d) v) w)
 (hy:∀ w,S w->(execOp a.eval oi).run P w=.ok (.value v) w:=by intro u hSu;(try dsimp only at hSu);first | (go_simp;done) | (go_simp;with_reducible rfl))
 (hs:Region.noSelect ops=true:=by kernel_rfl) (hf:Region.free md ops listed i=true:=by kernel_rfl) (hr:(Region.ready md ops listed).contains i=true:=by kernel_rfl) (hw:waits md ops i stop []=true:=by kernel_rfl)
 (hQ:∀ c a w,Q (.panic c) (a.put oi.dst v) w->Q (.panic c) a w:=by exact fun _ _ _ h=>h) (h1:Region.wanted oi (yielded ops a.tmps)=true:=by rfl):fF P md ops Q S stop (fuel+1) listed a w :=
 qU [] hi hs hf hr hw rfl hQ (Or.inl ⟨h1,hy⟩) hS (by rw[hd];exact h)
theorem Yl(xs:List Nat)(a:Option Addr)(n c:Nat)(mode pa pb:Int)(w:World)(hn:n=xs.length)(hF:Fs w.heap.size w a xs)(hW:eD xs)(hT:bO w)(hl:n<=65536)(z:Nat×Int)(hz:exR xs mode pa pb=z) :
 Calls Tryz.prog 17 #[.slice a n c,.int .i64 mode,.agg #[.int .i64 pa,.int .i64 pb]] w fun r w'=>r=.returned (.tuple #[.float .f64 z.1,.int .i64 z.2])/\Below w.heap.size w w':=by
 unfold exR at hz
 by_cases hm:mode<0\/4<mode\/may pa pb=false
 · rw[if_pos hm] at hz;subst hz;exact Gt a n c mode pa pb w hm
 · rw[if_neg hm,if_neg af] at hz;subst hz;exact Gs xs a n c mode pa pb w hn hF hW hT af af (by cases q:may pa pb with | true=>rfl | false=>exact absurd (.inr (.inr q)) hm) hl
theorem Ym(x:Nat)(w:World):Calls Tryz.prog 20 #[.float .f64 x,.float .f64 x] w fun r w'=>r=.returned (.bool true)/\w'=w:=by
 go_enter Tryz.func20,Tryz.ntmps20;go_wp2;exact xa
theorem UZ(x:Nat):∃ y:Nat,∀ w:World,Calls Tryz.prog 74 #[.float .f64 x] w fun r w'=>r=.returned (.int .u64 y)/\w'=w:=by
 by_cases h:(9218868437227405312:Int)<(x:Int)%9223372036854775808
 · refine⟨9221120237041090560,fun w=>?_⟩;go_enter Tryz.func74,Tryz.ntmps74;go_wp2;exact Ks
 · refine⟨x,fun w=>?_⟩;go_enter Tryz.func74,Tryz.ntmps74;go_wp2;exact Ks
theorem Nh(x:Nat)(w:World):Calls Tryz.prog 25 #[.float .f64 x,.float .f64 x] w fun r w'=>r=.returned (.bool true)/\w'=w:=by
 obtain⟨y,H⟩:=UZ x;have H:=hid H;go_enter Tryz.func25,Tryz.ntmps25;go_wp2_with fail;refine(H.o _).mono ?_;rintro r w1 ⟨rfl,rfl⟩;go_wp2_with fail;refine(H.o _).mono ?_;rintro r w1 ⟨rfl,rfl⟩;go_wp2_with fail;exact xa
theorem Qz{x:Nat}(h:x<18446744073709551616):(FloatKind.f64.format.order x x != some .eq)=bN x:=by
 obtain⟨s,e,f,he,hf,h1,h2⟩:=bwz x h;rw[<-h2,h1];exact B.xX s e f he hf
theorem KM{w:World}{g:Nat}{xs:List Nat}(h:cK w g xs):Calls Tryz.prog 21 #[.pointer (some ⟨g,0,none⟩)] w fun r w'=>r=.returned (.int .i64 (xs.length:Nat))/\w'=w:=by
 obtain⟨h1,h2,lo,hi,h3,h4,H⟩:=h;have:=WV H;rw[show(sS xs).a=(xs.length:Nat) by rw[eu h1]] at this;exact this
theorem cK.ends{w:World}{g:Nat}{xs:List Nat}(h:cK w g xs):∃ lo hi,eB bG xs lo/\eB nI xs hi:=by
 obtain⟨h1,h2,lo,hi,h3,h4,H⟩:=h;exact⟨lo,hi,h3,h4⟩
theorem QA{w:World}{g:Nat}{xs:List Nat}(h:cK w g xs){lo hi:Nat}(h1:eB bG xs lo)(h2:eB nI xs hi){L:List Nat}(hL:L=zw xs lo hi){m:Nat}(hm:m=L.length) :
 Calls Tryz.prog 10 #[.pointer (some ⟨g,0,none⟩)] w fun r w'=>(∃ gb,r=.returned (.slice (some ⟨gb,0,none⟩) m m)/\By w' gb L)/\Below w.heap.size w w':=by
 have hW:=h.1;refine(l6 h).mono ?_;rintro r w' ⟨gb,lo',hi',e1,e2,rfl,hg,hB,hb⟩;obtain rfl:=eB.uniq hW (fun a b ha hb fa fb q=>pF ha hb fa fb q) e1 h1;obtain rfl:=eB.uniq hW (fun a b ha hb fa fb q=>H9 ha hb fa fb q) e2 h2;subst hm hL;exact⟨⟨gb,rfl,hB⟩,hb⟩
theorem str21{w:World}{gb m:Nat}{L:List Nat}(h:By w gb L)(hm:m=L.length):(convert 35 9 (.slice (some ⟨gb,0,none⟩) m m)).run Tryz.prog w=.ok (.string (strOfNums (L.map fun x:Nat=>(x:Int)))) w :=
 run_convert_bytes_arg w 35 5 gD gD gb 0 m m _ (by simp[hm]) (fun i hi=>by
  rw[dm,wW h af];unfold Ub;congr 2;rw[aS,aS,uX,aY af]
  rfl) 9 gD
theorem zH(l:List Nat)(al:Option Addr)(c n:Nat)(w:World)(hn:n=l.length)(hl:n<=4096)(hF:Fs w.heap.size w al l)(hW:eD l)(hT:bO w) :
 Calls Tryz.prog 11 #[.slice al n c,.int .i64 0,.int .i64 1] w fun r w'=>∃ g,r=.returned (.pointer (some ⟨g,0,none⟩))/\cK w' g l/\Below w.heap.size w w':=by
 have H:=Il l al c n 0 1 w hn hl hF hW hT af af af;refine dI H ?_;rintro r w' ⟨g,k,rfl,q1,q2,q3,q4,hb⟩;rw[X6 ⟨fun j hj=>by rw[<-hn];exact q2 j hj,by rw[<-hn];exact q3⟩] at q4;exact⟨g,rfl,q4,hb⟩
theorem wF.only{lo:Nat}{w wr:World}{v:Value}{l:List Nat}{g:Nat}{XS:List (List Nat)}(h:wF lo w wr v l [g] XS):cK wr g l:=by
 have hl:=h.len;obtain⟨X,rfl⟩:=List.length_eq_one_iff.1 (show XS.length=1 by rw[<-hl];rfl);have h0:=h.sh 0 aL;have h1:cK wr g X:=by simpa using h0
 exact h1.perm (by simpa using h.perm)
end
section
open Go Go.RowKit J
def QC(parts:Int)(n:Nat):Nat:=if parts<1\/64<parts then 1+n%9 else parts.toNat
theorem Yn(parts:Int)(n:Nat):1<=QC parts n/\QC parts n<=64:=by
 unfold QC;split <;> omega
theorem Qa7{P:Prop}(h:P:=by
 go_wp2
 go_meet
 case rel=>exact⟨by rw[E1.o],rfl⟩):P:=h
theorem Qax{P:Prop}(h:P:=by
 have E1:=au e1;clear e1 EE
 go_quiet (fail)
 go_wp2
 go_meet
 case rel=>exact⟨by rw[E1.o],au (ib HA.o.r2 _)⟩):P:=h
theorem zc{P:Prop}(h:P:=by
 go_wp2_with (at_builtin;refine gP rfl (.tmp 100) (.tmp 102) rfl _ _ rfl rfl _ _ jN.o ?_)
 go_wp2;go_roundg (gk-1)
 case measure=>have:=HL.o;omega
 case rel=>exact⟨_,_,v',by first | (simp;done) | (simp;have:=HL.o;omega),rfl,aL,by first | (simp;done) | (simp;have:=HL.o;omega),hWL⟩):P:=h
set_option maxRecDepth 100000 in
theorem wG(xs:List Nat)(al:Option Addr)(n c:Nat)(parts k0 k1 k2:Int)(kx:Nat)(Lv Bv:Value)(mode less kn pa pb:Int)(w:World)(hT:bO w)(hn:n=xs.length)(hF:Fs w.heap.size w al xs)(hW:eD xs)(hnb:n<=17592186044416) :
 Calls Tryz.prog 5 #[.slice al n c,.int .i64 parts,.agg #[.int .i64 k0,.int .i64 k1,.int .i64 k2,.float .f64 kx,Lv,.int .i64 mode,.int .i64 less,.int .i64 kn,.int .i64 pa,.int .i64 pb,Bv]] w fun r w'=>r=.returned (.bool true)/\Below w.heap.size w w':=by
 obtain⟨W,nS⟩:=ah (w.alloc (Obj.cells #[.int .i64 k0,.int .i64 k1,.int .i64 k2,.float .f64 kx,Lv,.int .i64 mode,.int .i64 less,.int .i64 kn,.int .i64 pa,.int .i64 pb,Bv] 37));have hb0:Below w.heap.size w W:=by rw[nS];exact ak _ _
 have hP:Bl W w.heap.size 37 [.int .i64 k0,.int .i64 k1,.int .i64 k2,.float .f64 kx,Lv,.int .i64 mode,.int .i64 less,.int .i64 kn,.int .i64 pa,.int .i64 pb,Bv]:=by rw[nS];exact Bl.new _ _ [_,_,_,_,_,_,_,_,_,_,_]
 have CA:=hid (XZ W (hT.belows hb0));have A:=(bM hb0 hP hT);have HC:=(bM hn hF hW);have HW:=au nS;clear hT hn hF hW hb0 hP nS;go_enter Tryz.func5,Tryz.ntmps5
 go_upto_region 1 with fail
 rw[<-HW.o];clear HW;go_wp2_with fail;refine CA.o.mono ?_;rintro r u1 ⟨rfl,hb⟩;have A1:=aT (A.o.1.trans (hb.mono A.o.1.size)) (A.o.2.1.below hb A.o.2.1.lt);clear hb CA
 by_cases h2:2000<n
 · have d0:decide ((2000:Int)<n)=true:=by simp;omega
   go_wp2;go_ret;exact⟨rfl,A1.o.1⟩
 have d0:decide ((2000:Int)<n)=false:=by simp;omega
 have hn2:n<=2000:=af
 clear h2 hnb;obtain⟨st,hst⟩:=ah (QC parts n);have hsb:=Yn parts n;rw[<-hst] at hsb;have HS:=(aT hsb hn2);have hsl:st<=64:=hsb.2;have hsg:1<=st:=hsb.1;have wr9:IntKind.i64.wrap (1+(n:Int)%9)=((1+n%9:Nat):Int):=by simp[IntKind.wrap,IntKind.bits,IntKind.signed];omega
 have tm9:Int.tmod (n:Int) 9=(n:Int)%9:=by rw[I4 af]
 clear hsb;obtain⟨bb,hbb⟩:∃ b:Bool,b=decide (parts<1\/64<parts):=⟨_,rfl⟩
 go_upto_region 4 with fail
 go_cut [47] from 42 to 46 (fun v wx=>v=.bool bb/\wx=u1)
 case first =>
  by_cases c1:parts<1
  · have d1:decide (parts<1)=true:=decide_eq_true c1;have e1:bb=true:=hbb.trans (decide_eq_true (.inl c1));clear c1 hbb;have E1:=au e1;clear e1;exact Qa7
  · have d1:decide (parts<1)=false:=decide_eq_false c1;have e1:bb=decide (64<parts):=by rw[hbb];simp[c1]
    clear c1 hbb;have E1:=au e1;clear e1;exact Qa7
 obtain⟨rfl,hu⟩:=hcut;rw[hu];clear hu
 go_upto_if 47 with fail
 go_cut [1] from 48 to 51 (fun v wx=>v=.int .i64 (st:Nat)/\wx=u1)
 case first =>
  cases bb
  · have c1:=of_decide_eq_false hbb.symm;have e1:parts=(st:Nat):=by rw[hst];unfold QC;rw[if_neg c1];omega
    have E1:=au e1;clear hst hbb c1 e1;exact Qa7
  · have c1:=of_decide_eq_true hbb.symm;have e1:st=1+n%9:=by rw[hst];unfold QC;rw[if_pos c1]
    rw[<-e1] at wr9;clear c1 e1 hst hbb;go_wp2
    go_meet
    case rel=>exact KK
 obtain⟨rfl,hu⟩:=hcut;rw[hu];clear hu;clear hbb hst wr9 tm9 d0;obtain⟨lo,hlo⟩:=ah (u1.heap.size);have F0:Aside (zX lo u1 u1 (.slice none 0 0) xs st 0):=au (by rw[hlo];exact zX.start _ _ _ _ _ (aG _ _) (aB _));have HU:Aside (bO u1/\Fs u1.heap.size u1 al xs/\lo=u1.heap.size):=au ⟨A.o.r2.belows A1.o.1,(HC.o.2.1.below A1.o.1).mono A1.o.1.size,hlo⟩;clear hlo A;go_wp2
 go_loopg [8,9] st (fun gk sv iv wr=>∃ (i:Nat) (v:Value),gk+i=st/\sv=v/\iv=.int .i64 (i:Nat)/\Aside (zX lo u1 wr v xs st i))
 case atStart=>exact⟨0,_,af,rfl,aL,F0⟩
 case round =>
  clear F0;obtain⟨i,v,iL,rfl,rfl,HA⟩:=hrel
  by_cases hk:i<st
  · have hd:decide ((i:Int)<st)=true:=by simp;omega
    have hbw:Below u1.heap.size u1 wr:=by rw[<-HU.o.r2];exact HA.o.aD
    have C:=hid (Il xs al c n i st wr HC.o.1 af ((HU.o.2.1.below hbw).mono hbw.size) HC.o.r2 (HU.o.1.belows hbw) af hsg af);clear hbw;go_wp2_with fail;refine C.o.mono ?_;rintro r u ⟨g,k,rfl,q1,q2,q3,q4,hb⟩;have hB:=Bl.new u 39 [jA g];have hz:=ak u (Obj.cells #[jA g] 39);have hq:Qi xs.length st i k:=by rw[<-HC.o.1];exact⟨q2,q3⟩
    obtain⟨v',w',hrun,hP⟩:=HA.o.more (hb.trans (hz.mono hb.size)) q1 hq (q4.aD hz) hB af;have jN:=au hrun;have HN:=au hP;clear q1 q2 q3 q4 hb hB hz hq hrun hP HA C
    go_wp2_with (at_builtin;refine gP rfl (.tmp 57) (.tmp 62) rfl _ _ rfl rfl _ _ jN.o ?_)
    go_wp2;go_roundg (gk-1)
    case measure=>omega
    case rel=>exact⟨i+1,v',af,rfl,aL,HN⟩
  · obtain rfl:i=st:=af
    have hd:decide ((i:Int)<i)=false:=by simp
    obtain⟨gs,XS,hgl,HL⟩:=HA.o.all hsg;have W0:=au HL;have QD:1<=gs.length:=af
    have U4:gs.length<=64:=af
    clear HL HA hk hgl;go_wp2
    go_loopg [8] gs.length (fun gk sv wr=>∃ (gs:List Nat) (XS:List (List Nat)) (v:Value),gk=gs.length/\sv=v/\1<=gs.length/\gs.length<=64/\Aside (wF lo u1 wr v xs gs XS))
    case atStart=>exact⟨gs,XS,_,rfl,rfl,QD,U4,W0⟩
    case round =>
     clear W0 QD U4;obtain⟨gs,XS,v,iL,rfl,QD,U4,HA⟩:=hrel
     by_cases hk:2<=gs.length
     · obtain⟨b,off,cap,hv,hc2,hc3,_,_,_⟩:=HA.o.pw.two hk;subst hv;obtain⟨g0,g1,gs',X0,X1,XS',rfl,rfl,hs0,hs1,hne,hll⟩:=HA.o.front hk;obtain⟨m,hm⟩:=ah ((g0::g1::gs').length);rw[<-hm] at HA hc3 iL |-;have hd:decide ((1:Int)<m)=true:=by simp at hm;simp;omega
       have hm2:2<=m:=af
       have bm1:(1:Int)<m:=af
       have bm0:(0:Int)<m:=af
       have HL:Aside (m=gs'.length+2/\gk=m/\m<=cap/\m<=64):=au ⟨by simpa using hm,iL,hc3,af⟩;obtain⟨kc0,kc1,_⟩:=HA.o.pw.X5 aL;have kS:Aside (wr.drew.cell? ⟨b,off,none⟩=some (.pointer (some ⟨g0,0,none⟩))/\wr.drew.cell? ⟨b,off+1,none⟩=some (.pointer (some ⟨g1,0,none⟩))):=au ⟨kc0,kc1⟩;have hdr:Below wr.heap.size wr wr.drew:=(aG _ _).drew;have QL:bO wr.drew:=HU.o.1.belows (by rw[<-HU.o.r2];exact HA.o.aD.drew);have hxl:X1.length+X0.length<=4096:=by rw[<-HC.o.1] at hll;omega
       have C:=hid (Kt (w:=wr.drew) (g:=g1) (h:=g0) (hs1.aD hdr) (hs0.aD hdr) hxl QL);have HWD:=au (HA.o.uJ hdr);have HXL:=au hxl;obtain⟨C1,hC1⟩:=(hs1.aD hdr).Y6;have Mr:=au hC1;have bn0:0<m:=af
       have bn1:1<m:=af
       have bn2:¬ m=0:=af
       have bn3:¬ m<=0:=af
       have bn4:¬ (m:Int)<=0:=af
       have bn5:¬ (m:Int)=0:=af
       have bn6:decide ((0:Int)<m)=true:=by simp;omega
       clear kc0 kc1 hs0 hs1 hne hll hdr QL HA iL QD U4 hk hc3 hxl hm hC1;have kd0:wr.drew.cell? ⟨b,off,none⟩=some (.pointer (some ⟨g0,0,none⟩)):=kS.o.1;have kd1:wr.drew.cell? ⟨b,off+1,none⟩=some (.pointer (some ⟨g1,0,none⟩)):=kS.o.2;have kw0:wr.cell? ⟨b,off,none⟩=some (.pointer (some ⟨g0,0,none⟩)):=kS.o.1;have kw1:wr.cell? ⟨b,off+1,none⟩=some (.pointer (some ⟨g1,0,none⟩)):=kS.o.2;go_wp2_with fail
       go_cut [10] from 67 to 73 (fun v wx=>v=.int .i64 0/\Aside (cK wx g1 (X1++X0)/\But g1 wr.drew wx))
       case first =>
        go_region_with (go_at_call 12;refine C.o.mono ?_;rintro r u ⟨rfl,hmg,hbt⟩)
        all_goals
         have HF:=aT hmg hbt;clear hmg hbt C;go_wp2
         go_meet
         case rel=>exact⟨rfl,HF⟩
       obtain⟨rfl,EJ⟩:=hcut;clear C kd0 kd1 kw0 kw1 kS
       have hpd:kg lo wr.drew (if cap=2 then .slice (some ⟨b,off,none⟩) 0 0 else .slice (some ⟨b,off+2,none⟩) (m-2) (cap-2)) gs':=by
        obtain⟨_,_,p1,p2,_⟩:=HWD.o.pw.X5 aL
        by_cases hc:cap=2
        · rw[if_pos hc];exact p2 hc
        · rw[if_neg hc];exact p1
       have HM:=au (HWD.o.merge hpd EJ.o.1 EJ.o.2);have hpu:=HWD.o.pw.but Mr.o aA EJ.o.2;have ku1:World.cell? _ ⟨b,off+1,none⟩=some (.pointer (some ⟨g1,0,none⟩)):=(hpu.X5 aL).2.1;have HPU:=au hpu;have CE:=hid (l6 EJ.o.1);have HX:=(aT EJ.o.1.1 EJ.o.1.2.1);clear hpd hpu EJ HWD Mr;go_wp2_with fail;refine CE.o.mono ?_;rintro r u2 ⟨gb,lo',hi',he1,he2,rfl,hge,hB,hb⟩;have LZ:bO u2:=(HU.o.1.belows (by rw[<-HU.o.r2];exact HM.o.aD)).belows hb;have CD:=hid (vW u2 (some ⟨gb,0,none⟩) (X1++X0) _ _ lo' hi' LZ HX.o.1 HX.o.2 he1 he2 rfl (fun _=>⟨gb,0,hB.lt,rfl,fun i hi=>by rw[dm];exact wW hB hi⟩) (aB _));have HB2:=au hb;clear he1 he2 hge hB hb LZ CE HX ku1;go_wp2_with fail;refine CD.o.mono ?_;rintro r u3 ⟨gS,rfl,QI,hsS,hb⟩;have HB3:=au (HB2.o.trans (hb.mono HB2.o.size));have HS3:=aT (aV HB2.o.size QI) hsS;have ku1:u3.cell? ⟨b,off+1,none⟩=some (.pointer (some ⟨g1,0,none⟩)):=((HPU.o.aD HB3.o).X5 aL).2.1;have tm:Int.tmod (m:Int) 2=(m:Int)%2:=by rw[I4 af]
       clear QI hsS hb CD HPU HB2
       by_cases hod:m%2=1
       · have t0:((m:Int)%2==1)=true:=by simp;omega
         have t0':((m:Int).tmod 2==1)=true:=by rw[tm];exact t0
         have HWM:=au (HM.o.uJ HB3.o);have hcap:¬ cap=2:=by have h1:=HL.o.1;have h2:=HL.o.r2.1;omega
         clear HM HB3 HS3 hod tm;have IP:=HWM.o;have hmc:=HL.o.r2.1;have hme:m-2=gs'.length:=by rw[HL.o.1];omega
         rw[if_neg hcap,hme] at IP;have hB:=Bl.new u3 39 [jA g1];have hz:=ak u3 (Obj.cells #[jA g1] 39);obtain⟨v',w',hrun,hP,hb1,hk1,hz1⟩:=(IP.uJ hz).pw.snoc hB (IP.uJ hz).hlo (by have h1:=HL.o.1;have h2:=HL.o.r3;omega);have hWL:=au ((IP.uJ hz).snoc hP hb1 hk1 hz1);have jN:=au hrun;clear IP hB hz hrun hP hb1 hk1 hz1 HWM
         exact zc
       · have t0:((m:Int)%2==1)=false:=by simp;omega
         have t0':((m:Int).tmod 2==1)=false:=by rw[tm];exact t0
         have HWM:=au (HM.o.other HB3.o HS3.o.1 HS3.o.2);clear HM HB3 HS3 hod tm;have IP:=HWM.o;have hmc:=HL.o.r2.1
         by_cases hcap:cap=2
         · rw[if_pos hcap] at IP;obtain rfl:gs'=[]:=xg (by have h1:=HL.o.1;have h2:=HL.o.r2.1;omega);have hB:=Bl.new u3 39 [jA gS];have hz:=ak u3 (Obj.cells #[jA gS] 39);obtain⟨v',w',hrun,hP,hb1,hk1,hz1⟩:=(IP.uJ hz).pw.snoc hB (IP.uJ hz).hlo (by have h1:=HL.o.1;have h2:=HL.o.r3;omega);have hWL:=au ((IP.uJ hz).snoc hP hb1 hk1 hz1);have jN:=au hrun;have hme:m=2:=by have:=HL.o;omega
           clear IP hB hz hrun hP hb1 hk1 hz1 HWM;subst hcap hme
           exact zc
         · have hme:m-2=gs'.length:=by rw[HL.o.1];omega
           rw[if_neg hcap,hme] at IP;have hB:=Bl.new u3 39 [jA gS];have hz:=ak u3 (Obj.cells #[jA gS] 39);obtain⟨v',w',hrun,hP,hb1,hk1,hz1⟩:=(IP.uJ hz).pw.snoc hB (IP.uJ hz).hlo (by have h1:=HL.o.1;have h2:=HL.o.r3;omega);have hWL:=au ((IP.uJ hz).snoc hP hb1 hk1 hz1);have jN:=au hrun;clear IP hB hz hrun hP hb1 hk1 hz1 HWM
           exact zc
     · have hg1:gs.length=1:=af
       obtain⟨g,rfl⟩:=List.length_eq_one_iff.1 hg1;obtain⟨b,off,cap,hv,hc,kc⟩:=HA.o.pw.one QD;subst hv;replace kc:wr.cell? ⟨b,off,none⟩=some (.pointer (some ⟨g,0,none⟩)):=kc;have hls:=HA.o.only;have hbw:Below u1.heap.size u1 wr:=by rw[<-HU.o.r2];exact HA.o.aD
       have QL:bO wr:=HU.o.1.belows hbw;have Qv:Fs wr.heap.size wr al xs:=(HU.o.2.1.below hbw).mono hbw.size;have hPw:Bl wr w.heap.size 37 [.int .i64 k0,.int .i64 k1,.int .i64 k2,.float .f64 kx,Lv,.int .i64 mode,.int .i64 less,.int .i64 kn,.int .i64 pa,.int .i64 pb,Bv]:=A1.o.2.below (hbw.mono (aB _)) A1.o.2.lt;have B0:=au (A1.o.1.trans (hbw.mono A1.o.1.size));clear hg1 QD U4 hk hbw HA A1 HU;simp only[Cm] at hc |-;obtain⟨⟨x1,e1⟩,z1⟩:∃ z,exR xs mode pa pb=z:=⟨_,rfl⟩;obtain⟨⟨x2,e2⟩,z2⟩:∃ z,vU xs mode pa pb=z:=⟨_,rfl⟩;obtain⟨⟨x3,e3⟩,z3⟩:∃ z,Es wE xs less mode pa pb=z:=⟨_,rfl⟩;have hW:=HC.o.r2;have hn:=HC.o.1;have hT':=hid (fun(u:World) (hu:Below wr.heap.size wr u)=>QL.belows hu);have K0:=hid (zH xs al c n wr hn af Qv hW QL);have K1:=hid (fun(u:World) (hu:Below wr.heap.size wr u)=>Ih (hls.aD hu) (QL.belows hu) mode pa pb _ z1);have K2:=hid (fun(u:World) (hu:Below wr.heap.size wr u)=>Qe (hls.aD hu) (QL.belows hu) mode pa pb _ z2);have K3:=hid (fun(u:World) (hu:Below wr.heap.size wr u)=>Ii (hls.aD hu) (QL.belows hu) less mode pa pb _ z3);have K4:=hid (fun(u:World) (hu:Below wr.heap.size wr u)=>Yl xs al n c mode pa pb u hn ((Qv.below hu).mono hu.size) hW (QL.belows hu) af _ z1);have K5:=hid (fun(u:World) (hu:Below wr.heap.size wr u)=>Mean13 xs al n c mode pa pb u hn ((Qv.below hu).mono hu.size) hW (QL.belows hu) af _ z2);have K6:=hid (fun(u:World) (hu:Below wr.heap.size wr u)=>Var14 xs al n c less mode pa pb u hn ((Qv.below hu).mono hu.size) hW (QL.belows hu) af _ z3);have K7:=hid (fun(u:World) (hu:Below wr.heap.size wr u)=>Ku (hls.aD hu));have K8:=hid (fun(u:World) (hu:Below wr.heap.size wr u)=>Qf (hls.aD hu));have K9:=hid (fun(u:World) (hu:Below wr.heap.size wr u)=>Sort15 xs al n c u ((Qv.below hu).mono hu.size) hn af hW);have KC:=hid (fun(u:World) (hu:Below wr.heap.size wr u)=>KM (hls.aD hu));rw[<-hn] at KC;obtain⟨lo1,hi1,he1,he2⟩:=hls.ends;obtain⟨L,hL⟩:=ah (zw xs lo1 hi1);obtain⟨m,hm⟩:=ah (L.length);have KE:=hid (fun(u:World) (k:Nat) (hu:cK u k xs)=>QA hu he1 he2 hL hm);obtain⟨S,hS⟩:=ah (strOfNums (L.map fun x:Nat=>(x:Int)));have KS:=hid (fun(u:World) (k:Nat) (hu:By u k L)=>str21 hu hm);rw[<-hS] at KS;have HLS:=au hls;have HB:=au hn2;have A:=aT (aG wr.heap.size wr) hPw;have d1:decide ((1:Int)<(1:Nat))=false:=aA
       have bn1:0<cap:=af
       have hne:((n:Int) != n)=false:=by simp
       simp only at K1 K2 K3 K4 K5 K6;clear z1 z2 z3 hls QL Qv hPw he1 he2 hL hm hS hW hn hn2;go_wp2_with fail;refine K0.o.mono ?_;rintro r v0 ⟨g2,rfl,hl2,hb⟩;have HL2:=au hl2;replace A:=aT (A.o.1.trans (hb.mono A.o.1.size)) (A.o.2.below hb A.o.2.lt);have A2:=au (aG v0.heap.size v0);clear hb hl2 K0 kc;have p5:=A.o.2.cell 5 _ rfl;have p8:=A.o.2.cell 8 _ rfl;have p9:=A.o.2.cell 9 _ rfl;have C:=hid (K1.o _ A.o.1);go_wp2_with fail;refine C.o.mono ?_;rintro r v1 ⟨rfl,hb⟩;replace A:=aT (A.o.1.trans (hb.mono A.o.1.size)) (A.o.2.below hb A.o.2.lt);replace A2:=au (A2.o.trans (hb.mono A2.o.size));clear hb C p5 p8 p9 K1;have p5:=A.o.2.cell 5 _ rfl;have p8:=A.o.2.cell 8 _ rfl;have p9:=A.o.2.cell 9 _ rfl;have C:=hid (K2.o _ A.o.1);go_wp2_with fail;refine C.o.mono ?_;rintro r v2 ⟨rfl,hb⟩;replace A:=aT (A.o.1.trans (hb.mono A.o.1.size)) (A.o.2.below hb A.o.2.lt);replace A2:=au (A2.o.trans (hb.mono A2.o.size));clear hb C p5 p8 p9 K2;have p5:=A.o.2.cell 5 _ rfl;have p6:=A.o.2.cell 6 _ rfl;have p8:=A.o.2.cell 8 _ rfl;have p9:=A.o.2.cell 9 _ rfl;have C:=hid (K3.o _ A.o.1);go_wp2_with fail;refine C.o.mono ?_;rintro r v3 ⟨rfl,hb⟩;replace A:=aT (A.o.1.trans (hb.mono A.o.1.size)) (A.o.2.below hb A.o.2.lt);replace A2:=au (A2.o.trans (hb.mono A2.o.size));clear hb C p5 p6 p8 p9 K3;have p5:=A.o.2.cell 5 _ rfl;have p8:=A.o.2.cell 8 _ rfl;have p9:=A.o.2.cell 9 _ rfl;have C:=hid (K4.o _ A.o.1);go_wp2_with fail;refine C.o.mono ?_;rintro r v4 ⟨rfl,hb⟩;replace A:=aT (A.o.1.trans (hb.mono A.o.1.size)) (A.o.2.below hb A.o.2.lt);replace A2:=au (A2.o.trans (hb.mono A2.o.size));clear hb C p5 p8 p9 K4;have p5:=A.o.2.cell 5 _ rfl;have p8:=A.o.2.cell 8 _ rfl;have p9:=A.o.2.cell 9 _ rfl;have C:=hid (K5.o _ A.o.1);go_wp2_with fail;refine C.o.mono ?_;rintro r v5 ⟨rfl,hb⟩;replace A:=aT (A.o.1.trans (hb.mono A.o.1.size)) (A.o.2.below hb A.o.2.lt);replace A2:=au (A2.o.trans (hb.mono A2.o.size));clear hb C p5 p8 p9 K5;have p5:=A.o.2.cell 5 _ rfl;have p6:=A.o.2.cell 6 _ rfl;have p8:=A.o.2.cell 8 _ rfl;have p9:=A.o.2.cell 9 _ rfl;have C:=hid (K6.o _ A.o.1);go_wp2_with fail;refine C.o.mono ?_;rintro r v6 ⟨rfl,hb⟩;replace A:=aT (A.o.1.trans (hb.mono A.o.1.size)) (A.o.2.below hb A.o.2.lt);replace A2:=au (A2.o.trans (hb.mono A2.o.size));clear hb C p5 p6 p8 p9 K6;have SA:=hid (fun(x:Nat) (u:World)=>Ym x u);have hls6:=HLS.o.aD A.o.1;have C1:=hid hls6;have HL3:=au (HL2.o.aD A2.o);have A3:=au (A.o.1);clear hls6;clear HL2 A2 HLS A hT';go_wp2_with fail
       go_cut [213] from 167 to 212 (fun v wx=>v=.bool false/\Aside (Below wr.heap.size wr wx))
       case first =>
        clear K7 K8 K9;refine eZ (fun _=>True) 47 gD ?_;obtain⟨Wd,hWd⟩:=ah (v6.drew);have hl6:cK Wd g xs:=by rw[hWd];exact(C1.o).aD ((aG _ _).drew)
        have HL4:Aside (cK Wd g2 xs):=au (by rw[hWd];exact HL3.o.aD ((aG _ _).drew));have A4:Aside (Below wr.heap.size wr Wd):=au (by rw[hWd];exact A3.o.drew);replace C1:=hid (KE.o Wd g hl6);rw[<-hWd];clear hWd hl6 HL3 A3;refine aI 0 167 rfl rfl trivial ?_
        try simp only[Act.put,sa,sb,sc]
        refine aI 1 168 rfl rfl trivial ?_
        try simp only[Act.put,sa,sb,sc]
        refine aI 2 169 rfl rfl trivial ?_
        try simp only[Act.put,sa,sb,sc]
        refine aI 3 170 rfl rfl trivial ?_
        try simp only[Act.put,sa,sb,sc]
        refine aI 4 171 rfl rfl trivial ?_
        try simp only[Act.put,sa,sb,sc]
        refine aI 5 172 rfl rfl trivial ?_
        try simp only[Act.put,sa,sb,sc]
        refine aI 6 173 rfl rfl trivial ?_
        try simp only[Act.put,sa,sb,sc]
        refine aI 7 174 rfl rfl trivial ?_
        try simp only[Act.put,sa,sb,sc]
        refine aI 8 175 rfl rfl trivial ?_
        try simp only[Act.put,sa,sb,sc]
        refine aI 9 176 rfl rfl trivial ?_
        try simp only[Act.put,sa,sb,sc]
        refine aI 10 177 rfl rfl trivial ?_
        try simp only[Act.put,sa,sb,sc]
        refine aI 11 178 rfl rfl trivial ?_
        try simp only[Act.put,sa,sb,sc]
        refine aI 12 179 rfl rfl trivial ?_
        try simp only[Act.put,sa,sb,sc]
        refine aI 13 180 rfl rfl trivial ?_
        try simp only[Act.put,sa,sb,sc]
        refine aI 14 181 rfl rfl trivial ?_
        try simp only[Act.put,sa,sb,sc]
        refine aI 15 182 rfl rfl trivial ?_
        try simp only[Act.put,sa,sb,sc]
        refine aO (i:=16) gD rfl (fun K' hK=>?_);go_simp;refine dI (SA.o _ _) ?_;rintro r u ⟨rfl,hu⟩;rw[hu];clear hu u
        try dsimp only
        refine hK.out _ _ (fun _=>trivial) ?_;clear hK K'
        try simp only[Act.put,sa,sb,sc]
        refine aI 17 184 rfl rfl trivial ?_
        try simp only[Act.put,sa,sb,sc]
        refine aI 18 185 rfl rfl trivial ?_
        try simp only[Act.put,sa,sb,sc]
        refine aI 19 186 rfl rfl trivial ?_
        try simp only[Act.put,sa,sb,sc]
        refine aI 20 187 rfl rfl trivial ?_
        try simp only[Act.put,sa,sb,sc]
        refine aI 21 188 rfl rfl trivial ?_
        try simp only[Act.put,sa,sb,sc]
        refine aO (i:=22) gD rfl (fun K' hK=>?_);go_simp;refine dI (SA.o _ _) ?_;rintro r u ⟨rfl,hu⟩;rw[hu];clear hu u
        try dsimp only
        refine hK.out _ _ (fun _=>trivial) ?_;clear hK K'
        try simp only[Act.put,sa,sb,sc]
        refine aI 23 190 rfl rfl trivial ?_
        try simp only[Act.put,sa,sb,sc]
        refine aI 24 191 rfl rfl trivial ?_
        try simp only[Act.put,sa,sb,sc]
        refine aI 25 192 rfl rfl trivial ?_
        try simp only[Act.put,sa,sb,sc]
        refine aI 26 193 rfl rfl trivial ?_
        try simp only[Act.put,sa,sb,sc]
        refine aI 27 194 rfl rfl trivial ?_
        try simp only[Act.put,sa,sb,sc]
        refine aO (i:=28) gD rfl (fun K' hK=>?_);go_simp;refine dI (SA.o _ _) ?_;rintro r u ⟨rfl,hu⟩;rw[hu];clear hu u
        try dsimp only
        refine hK.out _ _ (fun _=>trivial) ?_;clear hK K'
        try simp only[Act.put,sa,sb,sc]
        refine aI 29 196 rfl rfl trivial ?_
        try simp only[Act.put,sa,sb,sc]
        refine aI 30 197 rfl rfl trivial ?_
        try simp only[Act.put,sa,sb,sc]
        refine aI 31 198 rfl rfl trivial ?_
        try simp only[Act.put,sa,sb,sc]
        refine aI 32 199 rfl rfl trivial ?_
        try simp only[Act.put,sa,sb,sc]
        refine aI 35 202 rfl rfl trivial ?_
        try simp only[Act.put,sa,sb,sc]
        refine aO (i:=33) gD rfl (fun K' hK=>?_);go_simp;refine dI C1.o ?_;rintro r u7 ⟨⟨gb1,rfl,hB1⟩,hb⟩;have kA1:=KS.o _ _ hB1;have HB1:=au hB1;have C2:=hid (KE.o u7 g2 (HL4.o.aD hb));replace A4:=au (A4.o.trans (hb.mono A4.o.size));clear hB1 hb C1 HL4
        try dsimp only
        refine hK.out _ _ (fun _=>trivial) ?_;clear hK K'
        try simp only[Act.put,sa,sb,sc]
        refine rD (S':=fun u=>(convert 35 9 (.slice (some ⟨gb1,0,none⟩) m m)).run Tryz.prog u=.ok (.string S) u) (fun _ _=>trivial) _ _ _ _ ?_;refine aI 34 201 rfl rfl kA1 ?_
        try simp only[Act.put,sa,sb,sc]
        refine aO (i:=36) gD rfl (fun K' hK=>?_);go_simp;refine dI C2.o ?_;rintro r u8 ⟨⟨gb2,rfl,hB2⟩,hb⟩;have kA2:=KS.o _ _ (Bl.below HB1.o hb (Bl.lt HB1.o));have kB2:=KS.o _ _ hB2;have C3:=hid (KC.o u8 (A4.o.trans (hb.mono A4.o.size)));have A5:=au (A4.o.trans (hb.mono A4.o.size));clear hB2 hb C2 kA1
        try dsimp only
        refine hK.out _ _ (fun _=>kA2) ?_;clear hK K'
        try simp only[Act.put,sa,sb,sc]
        refine rD (S':=fun u=>((convert 35 9 (.slice (some ⟨gb1,0,none⟩) m m)).run Tryz.prog u=.ok (.string S) u)/\((convert 35 9 (.slice (some ⟨gb2,0,none⟩) m m)).run Tryz.prog u=.ok (.string S) u)) (fun _ h=>h.1) _ _ _ _ ?_;refine aI 37 204 rfl rfl ⟨kA2,kB2⟩ ?_
        try simp only[Act.put,sa,sb,sc]
        refine aI 38 205 rfl rfl ⟨kA2,kB2⟩ ?_
        try simp only[Act.put,sa,sb,sc]
        refine aI 39 206 rfl rfl ⟨kA2,kB2⟩ ?_
        try simp only[Act.put,sa,sb,sc]
        refine aI 40 207 rfl rfl ⟨kA2,kB2⟩ ?_
        try simp only[Act.put,sa,sb,sc]
        refine aI 41 208 rfl rfl ⟨kA2,kB2⟩ ?_
        try simp only[Act.put,sa,sb,sc]
        refine aI 43 210 rfl rfl ⟨kA2,kB2⟩ ?_
        try simp only[Act.put,sa,sb,sc]
        refine aI 44 211 rfl rfl ⟨kA2,kB2⟩ ?_
        try simp only[Act.put,sa,sb,sc]
        refine aO (i:=42) gD rfl (fun K' hK=>?_);go_simp;refine dI C3.o ?_;rintro r u ⟨rfl,hu⟩;rw[hu];clear hu u
        try dsimp only
        refine hK.out _ _ (fun _=>⟨kA2,kB2⟩) ?_;clear hK K'
        try simp only[Act.put,sa,sb,sc]
        refine aI 45 212 rfl rfl ⟨kA2,kB2⟩ ?_
        try simp only[Act.put,sa,sb,sc]
        refine aI 46 213 rfl rfl ⟨kA2,kB2⟩ ?_
        try simp only[Act.put,sa,sb,sc]
        refine gY gD ?_ _;go_wp2
        go_meet
        case rel=>exact⟨rfl,A5⟩
       obtain⟨rfl,EJ⟩:=hcut;clear C1 HL3 A3 SA KC KE KS;go_wp2_with fail;have C:=hid (K7.o _ EJ.o);go_wp2_with fail;refine C.o.mono ?_;rintro r v7 ⟨⟨⟨y1,f1⟩,hz1,rfl⟩,hb⟩;have A:=au (EJ.o.trans (hb.mono EJ.o.size));have Z1:=au hz1;clear hb C K7 EJ hz1;have C:=hid (K8.o _ A.o);go_wp2_with fail;refine C.o.mono ?_;rintro r v8 ⟨⟨⟨y2,f2⟩,hz2,rfl⟩,hb⟩;replace A:=au (A.o.trans (hb.mono A.o.size));have Z2:=au hz2;clear hb C K8 hz2;have C:=hid (K9.o _ A.o);go_wp2_with fail;refine C.o.mono ?_;rintro r v9 ⟨rfl,hO,hb⟩;have O:=aT hO (gG (jY.lt hO) (aB _));replace A:=au (A.o.trans (hb.mono A.o.size));obtain⟨G,hG⟩:=ah (v8.heap.size);rw[<-hG] at O |-;clear hb C K9 hO hG
       by_cases hn0:n=0
       · have hx0:xs=[]:=xg (by rw[<-HC.o.1];exact hn0)
         obtain rfl:f1=3:=by
          rcases Z1.o with ⟨_,h⟩|⟨h,_⟩|⟨x,h,_⟩
          · exact(fB h).2
          · exact absurd hx0 h
          · rw[hx0] at h;simp at h
         obtain rfl:f2=3:=by
          rcases Z2.o with ⟨_,h⟩|⟨h,_⟩|⟨x,h,_⟩
          · exact(fB h).2
          · exact absurd hx0 h
          · rw[hx0] at h;simp at h
         clear hx0;have d2:((n:Int)==0)=true:=by simp[hn0]
         go_wp2;go_ret;exact⟨rfl,B0.o.trans (A.o.mono B0.o.size)⟩
       · have hnp:0<n:=af
         have HN:=au hnp;have d2:((n:Int)==0)=false:=by simp;omega
         have wr3:IntKind.i64.wrap ((n:Int)-1)=((n-1:Nat):Int):=by have:=HB.o;simp[IntKind.wrap,IntKind.bits,IntKind.signed];omega
         clear hn0;go_wp2
         go_loopg [32] n (fun gk iv wx=>∃ l:Nat,gk=l+1/\iv=.int .i64 (l:Nat)/\Aside (l<n/\(∀ j,l<j->j<n->bN ((iR xs).getD j 0)=true)/\Below v9.heap.size v9 wx))
         case atStart=>exact⟨n-1,af,rfl,au ⟨af,fun j h1 h2=>by omega,aG _ _⟩⟩
         case round =>
          obtain⟨l,iL,rfl,HA⟩:=hrel;obtain⟨x,hx⟩:=ah ((iR xs).getD l 0);obtain⟨bb2,EE⟩:∃ b:Bool,b=(decide (0<l)&&bN x):=⟨_,rfl⟩;have hll:=HA.o.1;have hOw:=O.o.1.below HA.o.r2 O.o.2;have cl:=hOw.cell l (by rw[jh,<-HC.o.1];exact hll);rw[<-hx] at cl;have hx6:x<18446744073709551616:=by rw[hx];exact(Qy HC.o.r2).get l
          have t1:=Qz hx6;have HGK:=au iL;have HX:=au hx;have b1:(0:Int)<=l:=af
          have b2:(l:Int)<n:=af
          clear iL hx hOw hx6;go_wp2_with fail
          go_cut [250] from 238 to 249 (fun v wz=>v=.bool bb2/\Aside (Below v9.heap.size v9 wz))
          case first =>
           by_cases hl0:0<l
           · have d1:decide ((0:Int)<l)=true:=by simp;omega
             have e1:bb2=bN x:=by rw[EE];simp[hl0]
             exact Qax
           · have d1:decide ((0:Int)<l)=false:=by simp;omega
             have e1:bb2=false:=by rw[EE];simp[hl0]
             exact Qax
          obtain⟨rfl,EJ⟩:=hcut;clear cl t1
          cases bb2
          · have he:l=0\/bN ((iR xs).getD l 0)=false:=by
             rw[<-HX.o]
             by_cases h0:0<l
             · refine .inr ?_;rw[decide_eq_true h0,vk] at EE;exact EE.symm
             · exact .inl af
            have a1:=IC HC.o.r2 (by rw[<-HC.o.1];exact HN.o) Z1.o;have a2:=KL HC.o.r2 (by rw[<-HC.o.1];exact hll) he (fun j h1 h2=>HA.o.2.1 j h1 (by rw[HC.o.1];exact h2)) Z2.o;simp only at a1 a2;obtain⟨rfl,a1⟩:=a1;obtain⟨rfl,a2⟩:=a2;have hOz:=O.o.1.below EJ.o O.o.2;have c0:=hOz.cell 0 (by rw[jh,<-HC.o.1];exact HN.o);rw[<-a1] at c0;have cl:=hOz.cell l (by rw[jh,<-HC.o.1];exact hll);rw[<-a2] at cl;have R1:=hid (fun u:World=>Nh y1 u);have R2:=hid (fun u:World=>Nh y2 u);have AZ:=au (B0.o.trans ((A.o.trans (EJ.o.mono A.o.size)).mono B0.o.size));have b3:(0:Int)<n:=af
            clear he a1 a2 hOz EJ EE;go_wp2_with fail;refine dI (R1.o _) ?_;rintro r u ⟨rfl,hu⟩;rw[hu];clear hu u R1;go_wp2_with fail;refine dI (R2.o _) ?_;rintro r u ⟨rfl,hu⟩;rw[hu];clear hu u R2;go_wp2;go_ret;exact⟨rfl,AZ.o⟩
          · have h0:0<l/\bN x=true:=by
             have:=EE.symm;rw[xD,decide_eq_true_eq] at this;exact this
            have wr4:IntKind.i64.wrap ((l:Int)-1)=((l-1:Nat):Int):=by have:=HB.o;simp[IntKind.wrap,IntKind.bits,IntKind.signed];omega
            have H2:Aside (l-1<n/\(∀ j,l-1<j->j<n->bN ((iR xs).getD j 0)=true)/\_):=au ⟨af,fun j h1 h2=>by
             by_cases e:j=l
             · subst e;rw[<-HX.o];exact h0.2
             · exact HA.o.2.1 j af h2,EJ.o⟩
            have HL0:=au h0.1;clear EE h0 EJ b1 b2;go_wp2;go_roundg (gk-1)
            case measure=>have:=HGK.o;omega
            case rel=>exact⟨l-1,by have:=HGK.o;have:=HL0.o;omega,rfl,H2⟩
end
section
open Go.ChangeShapes Go.WideShapes Go.ChangeAt Go.RowKit
theorem jk{H:Type}{enc:TypeId×Value->H}{W:World}{k:Nat}{c:Value}{x:Option (DataW H×List MemPlace)}{y:DataW H×List MemPlace}(h:DataW.trod enc Tryz.prog W 0 (fun _=>true) true k 3 [c]=x)(hx:x=some y):∃ n:Int,c=.int .i64 n/\y.1=.lit (.int .i64 n)/\-9223372036854775808<=n/\n<=9223372036854775807:=by
 subst hx;obtain⟨e,e2,rfl,hw⟩:=DataW.trod_int Tryz.underlying3 h
 cases e2
 have hw':-9223372036854775808<=e/\e<=9223372036854775807:=by
  simp[Lit.wf,IntKind.min,IntKind.max,IntKind.signed,IntKind.bits] at hw;omega
 exact⟨e,rfl,rfl,hw'.1,hw'.2⟩
theorem Yo{H:Type}{enc:TypeId×Value->H}{W:World}{r:Reach}{b0:Nat}{v:Value}{d:DataW H}{p:List MemPlace}(hv:Value.okWide Tryz.prog W r b0 37 v)(h:DataW.Trod enc Tryz.prog W 0 (fun _=>true) true 37 v d p) :
 ∃ (k0 k1 k2:Int) (kx:Nat) (Lv Bv:Value) (mode less kn pa pb:Int),v=.agg #[.int .i64 k0,.int .i64 k1,.int .i64 k2,.float .f64 kx,Lv,.int .i64 mode,.int .i64 less,.int .i64 kn,.int .i64 pa,.int .i64 pb,Bv]:=by
 obtain⟨cs,rfl,hsz⟩:=okWide_struct Tryz.underlying37 hv;obtain⟨fuel,hf⟩:=h;have hC:Tryz.prog.cellsOf 37=11:=by kernel_rfl
 have c3:Tryz.prog.cellsOf 3=1:=by kernel_rfl
 have cf:Tryz.prog.cellsOf 31=1:=by kernel_rfl
 have cP:Tryz.prog.cellsOf 34=2:=by kernel_rfl
 obtain⟨xs,k,rfl,hx,hl,hxl,hfs⟩:=DataW.trod_struct Tryz.underlying37 hf;rw[hC] at hsz
 obtain⟨x0,x1,x2,x3,x4,x5,x6,x7,x8,x9,Yp,rfl⟩:∃ a0 a1 a2 a3 a4 a5 a6 a7 a8 a9 Vi,cs=#[a0,a1,a2,a3,a4,a5,a6,a7,a8,a9,Vi]:=by
  obtain⟨l⟩:=cs
  match l,hsz with
  | [a0,a1,a2,a3,a4,a5,a6,a7,a8,a9,Vi],_=>exact⟨a0,a1,a2,a3,a4,a5,a6,a7,a8,a9,Vi,rfl⟩
 have h0:DataW.trod enc Tryz.prog W 0 (fun _=>true) true k 3 (List.take (Tryz.prog.cellsOf 3) [x0,x1,x2,x3,x4,x5,x6,x7,x8,x9,Yp])=xs[0]?:=hfs 0 _ rfl;have h1:DataW.trod enc Tryz.prog W 0 (fun _=>true) true k 3 (List.take (Tryz.prog.cellsOf 3) [x1,x2,x3,x4,x5,x6,x7,x8,x9,Yp])=xs[1]?:=hfs 1 _ rfl;have h2:DataW.trod enc Tryz.prog W 0 (fun _=>true) true k 3 (List.take (Tryz.prog.cellsOf 3) [x2,x3,x4,x5,x6,x7,x8,x9,Yp])=xs[2]?:=hfs 2 _ rfl;have h3:DataW.trod enc Tryz.prog W 0 (fun _=>true) true k 31 (List.take (Tryz.prog.cellsOf 31) [x3,x4,x5,x6,x7,x8,x9,Yp])=xs[3]?:=hfs 3 _ rfl;have h5:DataW.trod enc Tryz.prog W 0 (fun _=>true) true k 3 (List.take (Tryz.prog.cellsOf 3) [x5,x6,x7,x8,x9,Yp])=xs[5]?:=hfs 5 _ rfl;have h6:DataW.trod enc Tryz.prog W 0 (fun _=>true) true k 3 (List.take (Tryz.prog.cellsOf 3) [x6,x7,x8,x9,Yp])=xs[6]?:=hfs 6 _ rfl;have h7:DataW.trod enc Tryz.prog W 0 (fun _=>true) true k 3 (List.take (Tryz.prog.cellsOf 3) [x7,x8,x9,Yp])=xs[7]?:=hfs 7 _ rfl;have h8:DataW.trod enc Tryz.prog W 0 (fun _=>true) true k 34 (List.take (Tryz.prog.cellsOf 34) [x8,x9,Yp])=xs[8]?:=hfs 8 _ rfl;rw[c3] at h0 h1 h2 h5 h6 h7;rw[cf] at h3;rw[cP] at h8
 match xs,hxl with
 | [y0,y1,y2,y3,y4,y5,y6,y7,y8,y9],_ =>
   obtain⟨a0,rfl,_⟩:=jk (c:=x0) h0 rfl;obtain⟨a1,rfl,_⟩:=jk (c:=x1) h1 rfl;obtain⟨a2,rfl,_⟩:=jk (c:=x2) h2 rfl;obtain⟨a5,rfl,_⟩:=jk (c:=x5) h5 rfl;obtain⟨a6,rfl,_⟩:=jk (c:=x6) h6 rfl;obtain⟨a7,rfl,_⟩:=jk (c:=x7) h7 rfl;replace h3:DataW.trod enc Tryz.prog W 0 (fun _=>true) true k 31 [x3]=some y3:=h3;obtain⟨a3,e3,_,_⟩:=Y5 Tryz.underlying31 h3
   cases e3
   replace h8:DataW.trod enc Tryz.prog W 0 (fun _=>true) true k 34 [x8,x9]=some y8:=h8;obtain⟨zs,k',e8,_,_,hzl,hgs⟩:=DataW.trod_struct Tryz.underlying34 h8;have g0:DataW.trod enc Tryz.prog W 0 (fun _=>true) true k' 3 (List.take (Tryz.prog.cellsOf 3) [x8,x9])=zs[0]?:=hgs 0 _ rfl;have g1:DataW.trod enc Tryz.prog W 0 (fun _=>true) true k' 3 (List.take (Tryz.prog.cellsOf 3) [x9])=zs[1]?:=hgs 1 _ rfl;rw[c3] at g0 g1
   match zs,hzl with
   | [z0,z1],_ =>
     obtain⟨a8,rfl,_⟩:=jk (c:=x8) g0 rfl;obtain⟨a9,rfl,_⟩:=jk (c:=x9) g1 rfl;exact⟨a0,a1,a2,a3,x4,Yp,a5,a6,a7,a8,a9,rfl⟩
end
end Go.Proofs.YtaejmlkaefnbhaaGreatDoor
