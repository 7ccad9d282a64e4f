import Derived.Test.YteginbngplldaaaGreatDoorF2x
import Derived.Test.YteginbngplldaaaGreatDoorZ22x
import Derived.OwnWalk
import Derived.ArgAppend
import Derived.Maps.AppendAt
import Derived.WalkMore
import Derived.Test.YteginbngplldaaaGreatDoorD39x
import Derived.Test.YteginbngplldaaaGreatDoorM1x
import Derived.Test.YteginbngplldaaaGreatDoorW17x
import Derived.BigQuiet
import Derived.Test.YteginbngplldaaaGreatDoorD2x
import Derived.Test.YteginbngplldaaaGreatDoorZ8x
import Derived.Test.YteginbngplldaaaGreatDoorMO6x
import Derived.Deep.RegionHeld3
set_option linter.unusedVariables false
set_option linter.unusedSimpArgs false
set_option maxHeartbeats 16000000
set_option maxRecDepth 20000
namespace Go.Proofs.YteginbngplldaaaGreatDoor
namespace J
end J
section
open Go.RowKit
section
attribute [local go_sem] B.aD
theorem xO (k:Nat) (hk:k<9223372036854775808) (neg:Bool) (er:Int) (w:World) :
 Calls Tryz.prog 106 #[.int .u64 (k:Nat),.bool neg,.int .i64 er] w fun r w'=>r=.returned (.tuple #[.float .f64 (k+(if neg then 9223372036854775808 else 0)),.int .i64 er])/\w'=w:=by
 have e1:IntKind.u64.wrap ((k:Int)+9223372036854775808)=((k+9223372036854775808:Nat):Int):=by rw [kL];omega
 cases neg
 · go_enter Tryz.func106,Tryz.ntmps106;go_wp2;exact aC (v:=.tuple #[.float .f64 k,.int .i64 er]) (by simp [results,Tryz.results106,go_sem]) rfl ⟨by simp,rfl⟩
 · go_enter Tryz.func106,Tryz.ntmps106;go_wp2;exact aC (v:=.tuple #[.float .f64 (k+9223372036854775808),.int .i64 er]) (by simp [results,Tryz.results106,go_sem] <;> omega) rfl ⟨by simp,rfl⟩
end
theorem Tryz.GN:Tryz.prog.underlying 130=some (.slice 73):=by kernel_rfl
theorem Tryz.GQ:(Tryz.prog.info? 73).map (fun i=>(i.zero,i.size,i.bytes))=some (some (.agg #[.bool false,.slice none 0 0,.int .i64 0,.bool false,.slice none 0 0,.int .i64 0]),6,80):=by kernel_rfl
structure R1 (w:World) (v:Value) (n:Bool) (x:Value) (e:Int) (m:Bool) (y:Value) (f:Int):Prop where
 ex:∃ g cap,v=.slice (some ⟨g,0,none⟩) 1 cap/\1<=cap/\g<w.heap.size/\(w.cell? ⟨g,0,none⟩=some (.bool n)/\w.cell? ⟨g,1,none⟩=some x/\w.cell? ⟨g,2,none⟩=some (.int .i64 e)/\w.cell? ⟨g,3,none⟩=some (.bool m)/\w.cell? ⟨g,4,none⟩=some y/\w.cell? ⟨g,5,none⟩=some (.int .i64 f))
theorem PS (w:World) (n:Bool) (a:Option Addr) (l c:Nat) (e:Int) (m:Bool) (b:Option Addr) (k d:Nat) (f:Int) :
 ∃ v' w',(Builtin.append_ #[130,130] 130 #[.slice none 0 0,.slice (some ⟨w.heap.size,0,none⟩) 1 1]).run Tryz.prog (w.alloc (.cells #[.bool n,.slice a l c,.int .i64 e,.bool m,.slice b k d,.int .i64 f] 73))=.ok v' w'/\R1 w' v' n (.slice a l c) e m (.slice b k d) f/\Below w.heap.size w w':=by
 obtain ⟨i0,hi,hz0,hz1,hz2⟩:=info_parts Tryz.GQ;obtain ⟨W,hW⟩:=af (w.alloc (.cells #[.bool n,.slice a l c,.int .i64 e,.bool m,.slice b k d,.int .i64 f] 73));have hq:Rq W w.heap.size n (.slice a l c) e m (.slice b k d) f:=by rw [hW];exact Rq.new _ _ _ _ _ _ _
 obtain ⟨x0,x1,x2,x3,x4,x5⟩:=hq.facts;have hWs:w.heap.size<=W.heap.size:=by subst hW;simp
 obtain ⟨v',w',r1,r2,r3,r4,r5⟩:=run_append_own_at (P:=Tryz.prog) W w.heap.size 130 130 73 i0 _ 6 80 Tryz.GN hi hz0 hz1 hz2 rfl (by decide) (.slice none 0 0) 0 [] (zY W w.heap.size 73 6) ⟨w.heap.size,0,none⟩ 1 1 [.bool n,.slice a l c,.int .i64 e,.bool m,.slice b k d,.int .i64 f] rfl (by
  intro j u hj
  match j,hj with
  | 0,hj=>simp at hj;subst hj;simpa [Addr.add] using x0
  | 1,hj=>simp at hj;subst hj;simpa [Addr.add] using x1
  | 2,hj=>simp at hj;subst hj;simpa [Addr.add] using x2
  | 3,hj=>simp at hj;subst hj;simpa [Addr.add] using x3
  | 4,hj=>simp at hj;subst hj;simpa [Addr.add] using x4
  | 5,hj=>simp at hj;subst hj;simpa [Addr.add] using x5
  | j+6,hj=>simp at hj) (by intro u hu;simp at hu;rcases hu with rfl | rfl | rfl | rfl | rfl | rfl <;> rfl) (by unfold maxLen;omega) (by omega) hWs
 rw [<-hW];refine ⟨v',w',r1,?_,?_⟩
 · rcases r2.2 with ⟨h1,h2⟩ | ⟨g,cap,cur,rfl,hlo,hg,hn1,hm,hs,ht⟩
   · exact absurd (r4.1 h1).2 (by decide)
   · have C:∀ i,i<6->w'.cell? ⟨g,i,none⟩=([.bool n,.slice a l c,.int .i64 e,.bool m,.slice b k d,.int .i64 f]:List Value)[i]?:=by
      intro i hi6;have:=World.ownsRow.cellAt r2 i (by simp;omega);simpa using this
     exact ⟨g,cap,rfl,hn1,(fP.1 hg).1,C 0 (by omega),C 1 (by omega),C 2 (by omega),C 3 (by omega),C 4 (by omega),C 5 (by omega)⟩
 · have Zn:Below w.heap.size w W:=by subst hW;exact ae _ _
   refine ⟨r3.os.trans Zn.os,r3.tape.trans Zn.tape,r3.output.trans Zn.output,dC Zn.size r3.size,fun k hkl=>?_⟩;rw [r3.block k (by omega) (fun e=>by simp [Value.ownBlock] at e)];exact Zn.block k hkl
end
section
open Go.RowKit J
attribute [local go_sem] rD
def uf (n:Nat):Value:=.float .f64 n
theorem Tryz.qE:Tryz.prog.underlying 27=some (.slice 23):=by kernel_rfl
theorem Tryz.PT:(Tryz.prog.info? 23).map (fun i=>(i.zero,i.size,i.bytes))=some (some (.float .f64 0),1,8):=by kernel_rfl
def iw (w:World) (g:Nat) (L:List Nat):Prop:=w.heap[g]?=some (.cells (L.map uf).toArray 23 (0,0))
theorem iw.lt {w:World}{g:Nat}{L:List Nat}(h:iw w g L):g<w.heap.size:=(fP.1 h).1
theorem iw.cell {w:World}{g:Nat}{L:List Nat}(h:iw w g L) (i:Nat) (hi:i<L.length):w.cell? ⟨g,i,none⟩=some (.float .f64 (L.getD i 0)):=by
 unfold iw at h;simp [World.cell?,h,uf,hi]
theorem iw.frozen {w:World}{g:Nat}{L:List Nat}(h:iw w g L) (i:Nat):w.frozen? ⟨g,i,none⟩=false:=by
 unfold iw at h;simp [World.frozen?,h]
theorem iw.set {w:World}{g:Nat}{L:List Nat}(h:iw w g L) (i x:Nat):iw (w.setCell ⟨g,i,none⟩ (.float .f64 x)) g (L.set i x):=by
 unfold iw at h |-;simp only [World.setCell,jW,h];simp [uf,List.map_set]
theorem iw.drew {w:World}{g:Nat}{L:List Nat}(h:iw w g L):iw w.drew g L:=h
theorem iw.below {w w':World}{g B:Nat}{L:List Nat}(h:iw w g L) (hb:Below B w w') (hg:g<B):iw w' g L:=by
 unfold iw at h |-;rw [hb.block g hg];exact h
theorem iw.fs {w:World}{g B:Nat}{L:List Nat}(h:iw w g L) (hg:g<B) (n:Nat):Fs B w (some ⟨g,0,none⟩) (L.take n):=by
 intro _;refine ⟨g,0,hg,rfl,fun i hi=>?_⟩;rw [gm] at hi;rw [dL,h.cell i (by omega)];congr 2;rw [gN,gN,List.getElem?_take,if_pos (by omega)]
theorem uM (z:Int) (n:Nat) (hz:z=(n:Int)) (hn:n<=17592186044416) (w:World) :
 (Instr.makeSlice 27 (.int .i64 z) (.int .i64 z)).run Tryz.prog w=.ok (.slice (some ⟨w.heap.size,0,none⟩) n n) (w.alloc (.cells (madeCells #[.float .f64 0] n) 23)):=by
 subst hz;exact run_make_row' 27 23 (.float .f64 0) 8 Tryz.qE Tryz.PT rfl .i64 .i64 n (by omega) (by omega) w
theorem iw.made (w:World) (n:Nat):iw (w.alloc (.cells (madeCells #[.float .f64 0] n) 23)) w.heap.size (List.replicate n 0):=by
 unfold iw;have h1:=gK w (.cells (madeCells #[.float .f64 0] n) 23);rw [h1];congr 2;apply Array.toList_inj.1;rw [toList_madeCells_one];simp [uf]
theorem Ef (w:World) (g dLen dCap:Nat) (ao:Option Addr) (sLen sCap B:Nat) (ty:TypeId)
 (L xs:List Nat) (hO:iw w g L) (hL:dLen<=L.length) (hx:sLen=xs.length) (hR:Fs B w ao xs) (hle:sLen<=dLen) :
 ∃ w',(Builtin.copy_ #[27,27] ty #[.slice (some ⟨g,0,none⟩) dLen dCap,.slice ao sLen sCap]).run Tryz.prog w=.ok (.int .i64 (sLen:Int)) w'/\iw w' g (xs++L.drop sLen)/\But g w w':=by
 subst hx;have hmin:Nat.min xs.length dLen=xs.length:=iY hle
 by_cases h0:xs=[]
 · subst h0;exact ⟨w,run_copy_none (P:=Tryz.prog) w 27 27 ty 23 _ _ _ _ _ _ Tryz.qE (by kernel_rfl) (by simp at hmin |-),by simpa using hO,But.refl _ _⟩
 · obtain ⟨b,off,hlt,rfl,hc⟩:=hR h0;have hadd:∀ j,(⟨b,off,none⟩:Addr).add j=⟨b,off+j,none⟩:=by intro j;unfold Addr.add;split <;> simp_all
   have hrun:=run_copy_row (P:=Tryz.prog) w 27 27 ty 23 g 0 dLen dCap ⟨b,off,none⟩ xs.length sCap (L.map uf).toArray 23 (xs.map uf) Tryz.qE (by kernel_rfl) hO (by rw [hmin];simp) (by
    intro j v hv;rw [hadd]
    have hj:j<xs.length:=by
     have:=(zI.1 hv).1;simpa using this
    rw [hc j hj];simp [hj,uf] at hv
    simp [hj,<-hv]) (by simp;omega) (by
    intro v hv;obtain ⟨n,_,rfl⟩:=List.mem_map.1 hv
    rfl)
   refine ⟨w.setRow g (((xs++L.drop xs.length).map uf)).toArray,?_,setRow_heap w g _ _ 23 _ hO,⟨rfl,rfl,rfl,by simp [World.setRow],fun k _ hk=>setRow_other w g k _ hk⟩⟩;simpa [Cc,List.map_drop,goInt] using hrun
theorem Fs.but {B g:Nat}{w w':World}{ao:Option Addr}{xs:List Nat}(h:Fs B w ao xs) (hb:But g w w') (hB:B<=w.heap.size) (hg:B<=g):Fs B w' ao xs:=by
 intro hne;obtain ⟨b,off,h1,h2,h3⟩:=h hne;refine ⟨b,off,h1,h2,fun i hi=>?_⟩;rw [<-h3 i hi];exact x9 (a:=⟨b,off+i,none⟩) (hb.block b (by omega) (by omega))
end
section
open Go.RowKit J
attribute [local go_sem] rD
theorem uZ {w:World}{ops:Array Oper}{rest:List Oper}{o:Oper}{a:Act}{Q:Exit->Act->World->Prop}(hgd:o.guard=none) (s x:Operand) (t:TypeId)
 (ho:o.op=.call { callee:=.builtin .append,args:=#[s,x],argTypes:=#[t,t] }) (v u:Value) (hs:a.eval s=v) (hx:a.eval x=u) (v':Value) (w':World)
 (hrun:(Builtin.append_ #[t,t] o.type #[v,u]).run Tryz.prog w=.ok v' w') (h:wpList Tryz.prog ops Q rest (a.put o.dst v') w'):wpList Tryz.prog ops Q (o::rest) a w:=by
 refine wpList_plain hgd fun K hK=>?_;unfold Oper.wp;simp [execOp,ho,resolve,invoke,builtin,hs,hx,hrun,Result.andThen];exact hK _ _ h
end
section
open Go.RowKit
theorem TE {w:World}{v:Value}{X:Nat}(h1:Al w v X) (ng:Bool) (e:Int):Calls Tryz.prog 184 #[.agg #[.bool ng,v,.int .i64 e]] w fun r w'=>r=.returned (.int .i64 (rF ng X))/\Below w.heap.size w w':=by
 obtain ⟨a,l,c,xs,rfl,hA,rfl,hl⟩:=h1;exact Gi hA ng e
theorem Jd {w:World}{v:Value}{X:Nat}(h1:Al w v X) (n:Bool) (e:Int) (be:-9223372036854775808<=e/\e<=9223372036854775807) (o:Option (Bool×Nat×Int)) (ho:mkS n X e=o) (s:Bool) (hs:o.isSome=s):Calls Tryz.prog 109 #[.agg #[.bool n,v,.int .i64 e]] w fun r w'=>(∃ p,r=.returned (.tuple #[.agg #[.bool (dN o),p,.int .i64 (dE o)],.bool s])/\Nt w.heap.size w' p (dX o))/\Below w.heap.size w w':=by
 obtain ⟨a,l,c,xs,rfl,hA,rfl,hl⟩:=h1;subst ho hs;exact mE hA hl n e be.1 be.2
def MayA (lo:Nat) (w:World) (r:Ending) (o p:Option (Bool×Nat×Int)) (er:Int):Prop :=
 ∃ v,r=.returned (.tuple #[v,.int .i64 er])/\(er=0->∃ x y,R1 w v (dN o) x (dE o) (dN p) y (dE p)/\Nt lo w x (dX o)/\Nt lo w y (dX p))
theorem z7{P:Prop}(h:P:=by
 go_upto_region 12 with fail
 rw [<-dJ];clear dJ hbad;go_wp2;exact aC (v:=.tuple #[.slice none 0 0,.int .i64 2]) (by simp [results,Tryz.results150,go_sem]) rfl ⟨⟨_,by rw [HE.o],fun h=>by rw [HE.o] at h;cases h⟩,H5.o⟩):P:=h
theorem Xg {w:World}{g:Nat}{n m:Bool}{a b:Option Addr}{la ca lb cb X Y:Nat}{e f:Int}(hq:Rq w g n (.slice a la ca) e m (.slice b lb cb) f) (hN:Al w (.slice a la ca) X) (hD:Al w (.slice b lb cb) Y) (be:-9223372036854775808<=e/\e<=9223372036854775807) (bf:-9223372036854775808<=f/\f<=9223372036854775807)
 (o p:Option (Bool×Nat×Int)) (ho:mkS n X e=o) (hp:mkS m Y f=p) (er:Int) (her:jQ X n e Y m f=er) :
 Calls Tryz.prog 150 #[.slice (some ⟨g,0,none⟩) 1 1] w fun r w'=>MayA w.heap.size w' r o p er/\Below w.heap.size w w':=by
 have S0:=(aK (aB w.heap.size w) hq);have AA:=(lZ hN hD be bf ho hp her);have LL:Aside ((ws (dX o)).length<=8192/\(ws (dX p)).length<=8192):=ak ⟨by rw [<-ho];exact aI _ _ _,by rw [<-hp];exact aI _ _ _⟩;obtain ⟨sg,hsg⟩:∃ x,rF m Y=x:=⟨_,rfl⟩;have SG:=ak hsg;clear hq hN hD be bf ho hp her hsg;have one:decide ((1:Int)<1)=false:=by decide
 go_enter Tryz.func150,Tryz.ntmps150;go_wp2
 go_loopg [4] 1 (fun gk i wr=>∃ k:Nat,gk+k=1/\i=.int .i64 (k:Nat)/\Aside (Below w.heap.size w wr/\(k=1->¬ rF m Y<0)))
 case atStart=>exact ⟨0,by omega,by simp,ak ⟨S0.o.1,fun h=>by cases h⟩⟩
 case round =>
  obtain ⟨k,Hw,rfl,HA⟩:=hrel
  by_cases hk:k<1
  · obtain rfl:k=0:=by omega
    obtain ⟨x0,x1,x2,x3,x4,x5⟩:=(S0.o.2.below HA.o.1).facts;have HC:=hid (TE (AA.o.2.1.below HA.o.1) m f);rw [SG.o] at HC;go_wp2_with fail;clear x0 x1 x2 x3 x4 x5;refine HC.o.mono ?_;rintro r u1 ⟨rfl,hb⟩;have HB:=ak (HA.o.1.trans (hb.mono HA.o.1.size));clear HC hb HA
    by_cases hs:sg<0
    · have hs':decide (sg<0)=true:=decide_eq_true hs;have HE:Aside (er=1):=ak (by rw [<-AA.o.r6];unfold jQ;rw [if_pos (by rw [SG.o];exact hs)]);clear hs;go_wp2;exact aC (v:=.tuple #[.slice none 0 0,.int .i64 1]) (by simp [results,Tryz.results150,go_sem]) rfl ⟨⟨_,by rw [HE.o],fun h=>by rw [HE.o] at h;cases h⟩,HB.o⟩
    · have hs':decide (sg<0)=false:=decide_eq_false hs;have HS:=ak hs;clear hs;go_wp2_with fail;go_roundg 0
      case measure=>omega
      case rel=>exact ⟨1,by omega,by first | rfl | simp,ak ⟨HB.o,fun _=>by rw [SG.o];exact HS.o⟩⟩
  · obtain rfl:k=1:=by omega
    have HS:=ak (HA.o.2 rfl);have HB:=ak HA.o.1;clear HA;go_wp2
    go_loopg [6,5] 1 (fun gk i v wr=>∃ (k:Nat) (v0:Value),gk+k=1/\i=.int .i64 (k:Nat)/\v=v0/\Aside (Below w.heap.size w wr/\(k=0->v0=.slice none 0 0)/\(k=1->o.isSome=true/\p.isSome=true/\∃ x y,R1 wr v0 (dN o) x (dE o) (dN p) y (dE p)/\Nt w.heap.size wr x (dX o)/\Nt w.heap.size wr y (dX p))))
    case atStart=>exact ⟨0,_,by omega,by simp,rfl,ak ⟨HB.o,fun _=>rfl,fun h=>by cases h⟩⟩
    case round =>
     obtain ⟨j,v,hgj,rfl,hv,HA⟩:=hrel
     by_cases hj:j<1
     · obtain rfl:j=0:=by omega
       have hv0:=HA.o.2.1 rfl;subst hv0;subst hv;obtain ⟨s1,hs1⟩:∃ x,o.isSome=x:=⟨_,rfl⟩;obtain ⟨s2,hs2⟩:∃ x,p.isSome=x:=⟨_,rfl⟩;have SS:=(aK hs1 hs2);have S1:=(fF HA.o.1 (S0.o.2.below HA.o.1) (AA.o.1.below HA.o.1) (AA.o.2.1.below HA.o.1));clear hs1 hs2 HA;obtain ⟨x0,x1,x2,x3,x4,x5⟩:=S1.o.2.1.facts;have HC:=hid (Jd S1.o.r2.1 n e AA.o.r2.1 o AA.o.r4.1 s1 SS.o.1);go_wp2_with fail;clear x0 x1 x2 x3 x4 x5;refine HC.o.mono ?_;rintro r u1 ⟨⟨q,rfl,hN⟩,hb⟩;obtain ⟨q1,d1,rfl,-⟩:=hN.shape;obtain ⟨U1,aP⟩:=af (u1.alloc (.cells #[.bool (dN o),.slice q1 (ws (dX o)).length d1,.int .i64 (dE o)] 37))
       have S2:Aside (Below w.heap.size w U1/\Rq U1 g n (.slice a la ca) e m (.slice b lb cb) f/\Al U1 (.slice b lb cb) Y/\Dk U1 u1.heap.size (dN o) (.slice q1 (ws (dX o)).length d1) (dE o)/\Nt w.heap.size U1 (.slice q1 (ws (dX o)).length d1) (dX o)):=by
        have b0:=S1.o.1;have b1:=b0.trans (hb.mono b0.size);have hA:Below u1.heap.size u1 U1:=by rw [aP];exact ae _ _
        exact ak ⟨b1.trans (hA.mono b1.size),(S1.o.2.1.below hb).below hA,(S1.o.r3.below hb).below hA,by rw [aP];exact Dk.new _ _ _ _,(hN.mono b0.size).below hA⟩
       clear HC hb hN S1;obtain ⟨x0,x1,x2,x3,x4,x5⟩:=S2.o.2.1.facts;have HC:=hid (Jd S2.o.r2.1 m f AA.o.r3.1 p AA.o.r5.1 s2 SS.o.2)
       go_upto_region 11 with fail
       rw [<-aP];clear aP;go_wp2_with fail;clear x0 x1 x2 x3 x4 x5;refine HC.o.mono ?_;rintro r u2 ⟨⟨q,rfl,hN⟩,hb⟩;obtain ⟨q2,d2,rfl,-⟩:=hN.shape;obtain ⟨U2,dJ⟩:=af (u2.alloc (.cells #[.bool (dN p),.slice q2 (ws (dX p)).length d2,.int .i64 (dE p)] 37))
       have S3:Aside (Below w.heap.size w U2/\Dk U2 u1.heap.size (dN o) (.slice q1 (ws (dX o)).length d1) (dE o)/\Nt w.heap.size U2 (.slice q1 (ws (dX o)).length d1) (dX o)/\Dk U2 u2.heap.size (dN p) (.slice q2 (ws (dX p)).length d2) (dE p)/\Nt w.heap.size U2 (.slice q2 (ws (dX p)).length d2) (dX p)):=by
        have b0:=S2.o.1;have b1:=b0.trans (hb.mono b0.size);have hA:Below u2.heap.size u2 U2:=by rw [dJ];exact ae _ _
        exact ak ⟨b1.trans (hA.mono b1.size),(S2.o.r3.1.below hb).below hA,(S2.o.r4.below hb).below hA,by rw [dJ];exact Dk.new _ _ _ _,(hN.mono b0.size).below hA⟩
       clear HC hb hN S2
       by_cases hbad:s1=true/\s2=true
       · obtain ⟨rfl,rfl⟩:=hbad;obtain ⟨x0,x1,x2,x3,x4,x5⟩:=S3.o.2.1.facts;obtain ⟨y0,y1,y2,y3,y4,y5⟩:=S3.o.r3.1.facts;obtain ⟨v',w',r1,r2,r3⟩:=PS U2 (dN o) q1 (ws (dX o)).length d1 (dE o) (dN p) q2 (ws (dX p)).length d2 (dE p);have HR:=ak r1;have HN:=(fF r2 (S3.o.1.trans (r3.mono S3.o.1.size)) (S3.o.r2.1.below r3) (S3.o.r4.below r3));clear r1 r2 r3
         go_upto_region 14 with fail
         rw [<-dJ];clear dJ
         go_wp2_with (at_builtin;refine uZ rfl (.tmp 55) (.tmp 59) 130 rfl _ _ rfl rfl _ _ HR.o ?_)
         go_roundg 0
         case measure=>omega
         case rel=>exact ⟨1,_,by omega,by first | rfl | simp,rfl,ak ⟨HN.o.2.1,(fun h=>by cases h),fun _=>⟨SS.o.1,SS.o.2,_,_,HN.o.1,HN.o.r2.1,HN.o.r3⟩⟩⟩
       · have HE:Aside (er=2):=ak (by
          rw [<-AA.o.r6];unfold jQ;rw [if_neg (by have:=HS.o;omega),AA.o.r4.1,AA.o.r5.1,SS.o.1,SS.o.2]
          rw [if_neg (by intro h;rw [nM] at h;exact hbad h)])
         have H5:=ak S3.o.1;clear S3
         cases s1
         · exact z7
         · cases s2
           · exact z7
           · exact absurd ⟨rfl,rfl⟩ hbad
     · obtain rfl:j=1:=by omega
       obtain ⟨i1,i2,x,y,hR,hx,hy⟩:=HA.o.r2 rfl;obtain ⟨gg,cap,rfl,hcap,hgg,c0,c1,c2,c3,c4,c5⟩:=hR.ex;subst hv;obtain ⟨q1,d1,rfl,-⟩:=hx.shape;obtain ⟨q2,d2,rfl,-⟩:=hy.shape;have HX:=(iM HA.o.1 hR hx hy i1 i2);clear HA hR hx hy hgg i1 i2;go_wp2
       go_loopg [11] 1 (fun gk i wq=>∃ (k:Nat),gk+k=1/\i=.int .i64 (k:Nat)/\wq=wr/\Aside (k=1->dX p≠0))
       case atStart=>exact ⟨0,by omega,by simp,rfl,ak fun h=>by cases h⟩
       case round =>
        obtain ⟨i,hgi,rfl,rfl,HP⟩:=hrel
        by_cases hi:i<1
        · obtain rfl:i=0:=by omega
          by_cases h0:dX p=0
          · have r1:((((ws (dX p)).length:Nat):Int)==0)=true:=by rw [h0,XF];rfl
            have r2:((ws (dX p)).length==0)=true:=by rw [h0,XF];rfl
            have HE:Aside (er=21):=ak (by
             rw [<-AA.o.r6];unfold jQ
             rw [if_neg (by have:=HS.o;omega),AA.o.r4.1,AA.o.r5.1,HX.o.r4.1,HX.o.r5,if_pos (by decide),if_pos h0])
            clear h0;go_wp2;exact aC (v:=.tuple #[.slice none 0 0,.int .i64 21]) (by simp [results,Tryz.results150,go_sem]) rfl ⟨⟨_,by rw [HE.o],fun h=>by rw [HE.o] at h;cases h⟩,HX.o.1⟩
          · have r1:((((ws (dX p)).length:Nat):Int)==0)=false:=dz h0;have r2:((ws (dX p)).length==0)=false:=beq_eq_false_iff_ne.2 (fun h=>h0 ((aZ _).1 h));have H0:=ak h0;clear h0;go_wp2_with fail;go_roundg 0
            case measure=>omega
            case rel=>exact ⟨1,by omega,by first | rfl | simp,rfl,ak fun _=>H0.o⟩
        · obtain rfl:i=1:=by omega
          have HE:Aside (er=0):=ak (by
           rw [<-AA.o.r6];unfold jQ
           rw [if_neg (by have:=HS.o;omega),AA.o.r4.1,AA.o.r5.1,HX.o.r4.1,HX.o.r5,if_pos (by decide),if_neg (HP.o rfl)])
          go_wp2;exact aC (v:=.tuple #[.slice (some ⟨gg,0,none⟩) 1 cap,.int .i64 0]) (by simp [results,Tryz.results150,go_sem]) rfl ⟨⟨_,by rw [HE.o],fun _=>⟨_,_,HX.o.2.1,HX.o.r2.1,HX.o.r3.1⟩⟩,HX.o.1⟩
theorem rY {w:World}{n m:Bool}{a b:Option Addr}{la ca lb cb X Y:Nat}{e f:Int}(dg ls:Int) (En:Nat) (sq:Bool) (mode:Int) (hm:mode<0\/4<mode) :
 Calls Tryz.prog 104 #[.agg #[.int .i64 dg,.int .i64 ls,.int .u64 (En:Nat)],.agg #[.bool n,.slice a la ca,.int .i64 e,.bool m,.slice b lb cb,.int .i64 f],.bool sq,.int .i64 mode] w fun r w'=>r=.returned (.tuple #[.int .u64 0,.bool false,.int .i64 1])/\Below w.heap.size w w':=by
 obtain ⟨W1,hW1⟩:=af ((w.alloc (.cells #[.int .i64 dg,.int .i64 ls,.int .u64 (En:Nat)] 118)).alloc (.cells #[.bool n,.slice a la ca,.int .i64 e,.bool m,.slice b lb cb,.int .i64 f] 73));obtain ⟨hB,Z,QR⟩:=kz w dg ls En n _ e m _ f W1 hW1;have S9:=ak hB;clear hB Z QR;have hd:(mode<0)\/(¬ mode<0/\4<mode):=by omega
 clear hm;go_enter Tryz.func104,Tryz.ntmps104
 go_upto_region 1 with fail
 rw [<-hW1];clear hW1;rcases hd with hd|⟨hd,hd2⟩
 · have d1:=decide_eq_true hd;clear hd;go_wp2;exact aC (v:=.tuple #[.int .u64 0,.bool false,.int .i64 1]) (by simp [results,Tryz.results104,go_sem]) rfl ⟨rfl,S9.o⟩
 · have d1:=decide_eq_false hd;have d2:=decide_eq_true hd2;clear hd hd2;go_wp2;exact aC (v:=.tuple #[.int .u64 0,.bool false,.int .i64 1]) (by simp [results,Tryz.results104,go_sem]) rfl ⟨rfl,S9.o⟩
theorem uN {w:World}{n m:Bool}{a b:Option Addr}{la ca lb cb X Y:Nat}{e f:Int}(dg ls:Int) (En:Nat) (sq:Bool) (mode:Int) (hm0:0<=mode) (mG:mode<=4) (hN:Al w (.slice a la ca) X) (hD:Al w (.slice b lb cb) Y) (be:-9223372036854775808<=e/\e<=9223372036854775807) (bf:-9223372036854775808<=f/\f<=9223372036854775807)
 (o p:Option (Bool×Nat×Int)) (ho:mkS n X e=o) (hp:mkS m Y f=p) (er:Int) (her:jQ X n e Y m f=er) (hne:er≠0) :
 Calls Tryz.prog 104 #[.agg #[.int .i64 dg,.int .i64 ls,.int .u64 (En:Nat)],.agg #[.bool n,.slice a la ca,.int .i64 e,.bool m,.slice b lb cb,.int .i64 f],.bool sq,.int .i64 mode] w fun r w'=>r=.returned (.tuple #[.int .u64 0,.bool false,.int .i64 er])/\Below w.heap.size w w':=by
 obtain ⟨W1,hW1⟩:=af ((w.alloc (.cells #[.int .i64 dg,.int .i64 ls,.int .u64 (En:Nat)] 118)).alloc (.cells #[.bool n,.slice a la ca,.int .i64 e,.bool m,.slice b lb cb,.int .i64 f] 73));obtain ⟨hB,Z,QR⟩:=kz w dg ls En n _ e m _ f W1 hW1;obtain ⟨L1,hL1⟩:=af (W1.alloc (.cells #[.bool n,.slice a la ca,.int .i64 e,.bool m,.slice b lb cb,.int .i64 f] 73));have hB2:Below W1.heap.size W1 L1:=by rw [hL1];exact ae _ _
 have au:=hB.trans (hB2.mono hB.size);have LQ:Rq L1 W1.heap.size n (.slice a la ca) e m (.slice b lb cb) f:=by rw [hL1];exact Rq.new _ _ _ _ _ _ _
 have HC:=hid (Xg LQ (hN.below au) (hD.below au) be bf o p ho hp er her);have LL:Aside ((ws (dX o)).length<=8192/\(ws (dX p)).length<=8192):=ak ⟨by rw [<-ho];exact aI _ _ _,by rw [<-hp];exact aI _ _ _⟩;obtain ⟨x0,x1,x2,x3,x4,x5⟩:=QR.facts;have S0:=(aK au (Z.below hB2));have d1:decide (mode<0)=false:=decide_eq_false (by omega);have d2:decide (4<mode)=false:=decide_eq_false (by omega);clear hB hB2 au LQ Z QR hN hD be bf ho hp her hm0 mG;go_enter Tryz.func104,Tryz.ntmps104
 go_upto_region 1 with fail
 rw [<-hW1];clear hW1;go_wp2_with fail;rw [<-hL1];clear hL1 x0 x1 x2 x3 x4 x5;refine HC.o.mono ?_;rintro r u1 ⟨⟨v,rfl,hR⟩,hb⟩;have S9:=ak (S0.o.1.trans (hb.mono S0.o.1.size));have hne':(er != 0)=true:=by simpa using hne
 have hne2:(er==0)=false:=by simpa using hne
 clear hb hR HC S0 LL;go_wp2;exact aC (v:=.tuple #[.int .u64 0,.bool false,.int .i64 er]) (by simp [results,Tryz.results104,go_sem]) rfl ⟨rfl,S9.o⟩
theorem yA {w:World}{n m:Bool}{a b:Option Addr}{la ca lb cb X Y:Nat}{e f:Int}(dg ls:Int) (En:Nat) (sq:Bool) (mode:Int) (hm0:0<=mode) (mG:mode<=4) (hN:Al w (.slice a la ca) X) (hD:Al w (.slice b lb cb) Y) (be:-9223372036854775808<=e/\e<=9223372036854775807) (bf:-9223372036854775808<=f/\f<=9223372036854775807)
 (o p:Option (Bool×Nat×Int)) (ho:mkS n X e=o) (hp:mkS m Y f=p) (er:Int) (her:jQ X n e Y m f=er) (h0:er=0) (Ig:sq=true) (Kc:dN o=true) :
 Calls Tryz.prog 104 #[.agg #[.int .i64 dg,.int .i64 ls,.int .u64 (En:Nat)],.agg #[.bool n,.slice a la ca,.int .i64 e,.bool m,.slice b lb cb,.int .i64 f],.bool sq,.int .i64 mode] w fun r w'=>r=.returned (.tuple #[.int .u64 0,.bool false,.int .i64 110])/\Below w.heap.size w w':=by
 obtain ⟨W1,hW1⟩:=af ((w.alloc (.cells #[.int .i64 dg,.int .i64 ls,.int .u64 (En:Nat)] 118)).alloc (.cells #[.bool n,.slice a la ca,.int .i64 e,.bool m,.slice b lb cb,.int .i64 f] 73));obtain ⟨hB,Z,QR⟩:=kz w dg ls En n _ e m _ f W1 hW1;obtain ⟨L1,hL1⟩:=af (W1.alloc (.cells #[.bool n,.slice a la ca,.int .i64 e,.bool m,.slice b lb cb,.int .i64 f] 73));have hB2:Below W1.heap.size W1 L1:=by rw [hL1];exact ae _ _
 have au:=hB.trans (hB2.mono hB.size);have LQ:Rq L1 W1.heap.size n (.slice a la ca) e m (.slice b lb cb) f:=by rw [hL1];exact Rq.new _ _ _ _ _ _ _
 have HC:=hid (Xg LQ (hN.below au) (hD.below au) be bf o p ho hp er her);have LL:Aside ((ws (dX o)).length<=8192/\(ws (dX p)).length<=8192):=ak ⟨by rw [<-ho];exact aI _ _ _,by rw [<-hp];exact aI _ _ _⟩;obtain ⟨x0,x1,x2,x3,x4,x5⟩:=QR.facts;have S0:=(aK au (Z.below hB2));have d1:decide (mode<0)=false:=decide_eq_false (by omega);have d2:decide (4<mode)=false:=decide_eq_false (by omega);clear hB hB2 au LQ Z QR hN hD be bf ho hp her hm0 mG;go_enter Tryz.func104,Tryz.ntmps104
 go_upto_region 1 with fail
 rw [<-hW1];clear hW1;go_wp2_with fail;rw [<-hL1];clear hL1 x0 x1 x2 x3 x4 x5;refine HC.o.mono ?_;rintro r u1 ⟨⟨v,rfl,hR⟩,hb⟩;obtain ⟨x,y,qH,hx,hy⟩:=hR h0;subst h0;obtain ⟨gg,cap,rfl,hcap,hgg,c0,c1,c2,c3,c4,c5⟩:=qH.ex;obtain ⟨q1,e1,rfl,-⟩:=hx.shape;obtain ⟨q2,e2,rfl,-⟩:=hy.shape;have S1:=(iM (S0.o.1.trans (hb.mono S0.o.1.size)) (S0.o.2.below hb) (hx.al' (dC LL.o.1 (by decide))) (hy.al' (dC LL.o.2 (by decide))) qH hgg);clear hb hR HC S0 LL hx hy qH hgg;subst Ig;rw [Kc] at c0;have S9:=ak S1.o.1;clear S1 Kc;go_wp2;exact aC (v:=.tuple #[.int .u64 0,.bool false,.int .i64 110]) (by simp [results,Tryz.results104,go_sem]) rfl ⟨rfl,S9.o⟩
theorem J0{P:Prop}(h:P:=by
 go_upto_region 8 with fail
 go_region_held3 (fun w'=>w'.cell? ⟨gg,0,none⟩=some (.bool false)/\w'.cell? ⟨gg,1,none⟩=some (.slice q1 (ws (dX o)).length e1)/\w'.cell? ⟨gg,2,none⟩=some (.int .i64 (dE o))/\w'.cell? ⟨gg,3,none⟩=some (.bool (dN p))/\w'.cell? ⟨gg,4,none⟩=some (.slice q2 (ws (dX p)).length e2)/\w'.cell? ⟨gg,5,none⟩=some (.int .i64 (dE p))/\w'.cell? ⟨w.heap.size,0,none⟩=some (.int .i64 dg)/\w'.cell? ⟨w.heap.size,1,none⟩=some (.int .i64 ls)/\w'.cell? ⟨w.heap.size,2,none⟩=some (.int .u64 (En:Nat))) (go_keep) (first
  | (go_at_call 151
     first | with_reducible refine T1.o.mono ?_ | with_reducible refine T2.o.mono ?_
     rintro r v1 ⟨rfl,hb⟩;have hw:Below u1.heap.size u1 v1:=by first | exact hb | exact ((aB _ u1).drew).trans (hb.mono (aA _))
     have hcg:∀ i,v1.cell? ⟨gg,i,none⟩=u1.cell? ⟨gg,i,none⟩:=fun i=>hw.cell (p:=⟨gg,i,none⟩) S1.o.r5;have k0:v1.cell? ⟨gg,0,none⟩=some (.bool false):=by rw [hcg,CC.o.1,NG.o]
     have k1:=(hcg 1).trans CC.o.2.1;have k2:=(hcg 2).trans CC.o.r2.1;have k3:=(hcg 3).trans CC.o.r3.1;have k4:=(hcg 4).trans CC.o.r4.1;have k5:=(hcg 5).trans CC.o.r5.1;obtain ⟨j0,j1,j2⟩:=(S1.o.2.1.below hw).facts;have S9:=ak (S1.o.1.trans (hw.mono S1.o.1.size))
     clear hb hw hcg)
  | fail)
 all_goals (
  go_wp2
  exact aC (v:=.tuple #[.int .u64 (K:Nat),.bool false,.int .i64 0]) (by simp [results,Tryz.results104,go_sem]) rfl ⟨by rw [NG.o],S9.o⟩)):P:=h
theorem xP {w:World}{n m:Bool}{a b:Option Addr}{la ca lb cb X Y:Nat}{e f:Int}(dg ls:Int) (En:Nat) (sq:Bool) (mode:Int) (hm0:0<=mode) (mG:mode<=4) (hN:Al w (.slice a la ca) X) (hD:Al w (.slice b lb cb) Y) (be:-9223372036854775808<=e/\e<=9223372036854775807) (bf:-9223372036854775808<=f/\f<=9223372036854775807)
 (o p:Option (Bool×Nat×Int)) (ho:mkS n X e=o) (hp:mkS m Y f=p) (er:Int) (her:jQ X n e Y m f=er) (h0:er=0) (Ig:sq=false\/dN o=false) (K:Nat)
 (HNb:Hid (∀ (u:World) (x y:Option Addr) (lx cx ly cy:Nat),Below w.heap.size w u->Al u (.slice x lx cx) (dX o)->Al u (.slice y ly cy) (dX p)->Calls Tryz.prog 151 #[.agg #[.int .i64 dg,.int .i64 ls,.int .u64 (En:Nat)],.agg #[.bool (dN o),.slice x lx cx,.int .i64 (dE o),.bool (dN p),.slice y ly cy,.int .i64 (dE p)],.bool sq,.int .i64 mode] u fun r w'=>r=.returned (.int .u64 (K:Nat))/\Below u.heap.size u w')) :
 Calls Tryz.prog 104 #[.agg #[.int .i64 dg,.int .i64 ls,.int .u64 (En:Nat)],.agg #[.bool n,.slice a la ca,.int .i64 e,.bool m,.slice b lb cb,.int .i64 f],.bool sq,.int .i64 mode] w fun r w'=>r=.returned (.tuple #[.int .u64 (K:Nat),.bool (dN o),.int .i64 0])/\Below w.heap.size w w':=by
 obtain ⟨W1,hW1⟩:=af ((w.alloc (.cells #[.int .i64 dg,.int .i64 ls,.int .u64 (En:Nat)] 118)).alloc (.cells #[.bool n,.slice a la ca,.int .i64 e,.bool m,.slice b lb cb,.int .i64 f] 73));obtain ⟨hB,Z,QR⟩:=kz w dg ls En n _ e m _ f W1 hW1;obtain ⟨L1,hL1⟩:=af (W1.alloc (.cells #[.bool n,.slice a la ca,.int .i64 e,.bool m,.slice b lb cb,.int .i64 f] 73));have hB2:Below W1.heap.size W1 L1:=by rw [hL1];exact ae _ _
 have au:=hB.trans (hB2.mono hB.size);have LQ:Rq L1 W1.heap.size n (.slice a la ca) e m (.slice b lb cb) f:=by rw [hL1];exact Rq.new _ _ _ _ _ _ _
 have HC:=hid (Xg LQ (hN.below au) (hD.below au) be bf o p ho hp er her);have LL:Aside ((ws (dX o)).length<=8192/\(ws (dX p)).length<=8192):=ak ⟨by rw [<-ho];exact aI _ _ _,by rw [<-hp];exact aI _ _ _⟩;obtain ⟨x0,x1,x2,x3,x4,x5⟩:=QR.facts;have S0:=(aK au (Z.below hB2));have d1:decide (mode<0)=false:=decide_eq_false (by omega);have d2:decide (4<mode)=false:=decide_eq_false (by omega);clear hB hB2 au LQ Z QR hN hD be bf ho hp her hm0 mG;go_enter Tryz.func104,Tryz.ntmps104
 go_upto_region 1 with fail
 rw [<-hW1];clear hW1;go_wp2_with fail;rw [<-hL1];clear hL1 x0 x1 x2 x3 x4 x5;refine HC.o.mono ?_;rintro r u1 ⟨⟨v,rfl,hR⟩,hb⟩;obtain ⟨x,y,qH,hx,hy⟩:=hR h0;subst h0;obtain ⟨gg,cap,rfl,hcap,hgg,c0,c1,c2,c3,c4,c5⟩:=qH.ex;obtain ⟨q1,e1,rfl,-⟩:=hx.shape;obtain ⟨q2,e2,rfl,-⟩:=hy.shape;have S1:=(iM (S0.o.1.trans (hb.mono S0.o.1.size)) (S0.o.2.below hb) (hx.al' (dC LL.o.1 (by decide))) (hy.al' (dC LL.o.2 (by decide))) qH hgg);clear hb hR HC S0 LL hx hy qH hgg;obtain ⟨ng,Kc⟩:∃ z,dN o=z:=⟨_,rfl⟩;obtain ⟨z0,z1,z2⟩:=S1.o.2.1.facts;have T1:=hid (HNb.o u1 q1 q2 _ e1 _ e2 S1.o.1 S1.o.r2.1 S1.o.r3.1);have dr:Below u1.heap.size u1 u1.drew:=(aB _ _).drew;have T2:=hid (HNb.o u1.drew q1 q2 _ e1 _ e2 S1.o.1.drew (S1.o.r2.1.below dr) (S1.o.r3.1.below dr));have CC:=(QL c0 c1 c2 c3 c4 c5 z0 z1 z2);rw [Kc] at c0 T1 T2 Ig;have NG:=ak Kc;clear dr HNb Kc;rcases Ig with rfl|rfl
 · go_upto_region 8 with fail
   go_region_held3 (fun w'=>w'.cell? ⟨gg,0,none⟩=some (.bool ng)/\w'.cell? ⟨gg,1,none⟩=some (.slice q1 (ws (dX o)).length e1)/\w'.cell? ⟨gg,2,none⟩=some (.int .i64 (dE o))/\w'.cell? ⟨gg,3,none⟩=some (.bool (dN p))/\w'.cell? ⟨gg,4,none⟩=some (.slice q2 (ws (dX p)).length e2)/\w'.cell? ⟨gg,5,none⟩=some (.int .i64 (dE p))/\w'.cell? ⟨w.heap.size,0,none⟩=some (.int .i64 dg)/\w'.cell? ⟨w.heap.size,1,none⟩=some (.int .i64 ls)/\w'.cell? ⟨w.heap.size,2,none⟩=some (.int .u64 (En:Nat))) (go_keep) (first
    | (go_at_call 151
       first | with_reducible refine T1.o.mono ?_ | with_reducible refine T2.o.mono ?_
       rintro r v1 ⟨rfl,hb⟩;have hw:Below u1.heap.size u1 v1:=by first | exact hb | exact ((aB _ u1).drew).trans (hb.mono (aA _))
       have hcg:∀ i,v1.cell? ⟨gg,i,none⟩=u1.cell? ⟨gg,i,none⟩:=fun i=>hw.cell (p:=⟨gg,i,none⟩) S1.o.r5;have k0:v1.cell? ⟨gg,0,none⟩=some (.bool ng):=by rw [hcg,CC.o.1,NG.o]
       have k1:=(hcg 1).trans CC.o.2.1;have k2:=(hcg 2).trans CC.o.r2.1;have k3:=(hcg 3).trans CC.o.r3.1;have k4:=(hcg 4).trans CC.o.r4.1;have k5:=(hcg 5).trans CC.o.r5.1;obtain ⟨j0,j1,j2⟩:=(S1.o.2.1.below hw).facts;have S9:=ak (S1.o.1.trans (hw.mono S1.o.1.size))
       clear hb hw hcg)
    | fail)
   all_goals (
    go_wp2
    exact aC (v:=.tuple #[.int .u64 (K:Nat),.bool ng,.int .i64 0]) (by simp [results,Tryz.results104,go_sem]) rfl ⟨by rw [NG.o],S9.o⟩)
 · cases sq
   · exact J0
   · exact J0
theorem BK {w:World}{n m:Bool}{a b:Option Addr}{la ca lb cb:Nat}{e f:Int}(mode:Int) (k:Nat) (ng:Bool) (er:Int) (hk:k<9223372036854775808) (z:Nat) (hz:k+(if ng then 9223372036854775808 else 0)=z)
 (HR:Hid (∀ u:World,Below w.heap.size w u->Calls Tryz.prog 104 #[.agg #[.int .i64 53,.int .i64 (-1074),.int .u64 9218868437227405312],.agg #[.bool n,.slice a la ca,.int .i64 e,.bool m,.slice b lb cb,.int .i64 f],.bool false,.int .i64 mode] u fun r w'=>r=.returned (.tuple #[.int .u64 (k:Nat),.bool ng,.int .i64 er])/\Below u.heap.size u w')) :
 Calls Tryz.prog 57 #[.agg #[.bool n,.slice a la ca,.int .i64 e,.bool m,.slice b lb cb,.int .i64 f],.int .i64 mode] w fun r w'=>r=.returned (.tuple #[.float .f64 z,.int .i64 er])/\Below w.heap.size w w':=by
 obtain ⟨W1,hW1⟩:=af (w.alloc (.cells #[.bool n,.slice a la ca,.int .i64 e,.bool m,.slice b lb cb,.int .i64 f] 73));have hB:Below w.heap.size w W1:=by rw [hW1];exact ae _ _
 have LW:Rq W1 w.heap.size n (.slice a la ca) e m (.slice b lb cb) f:=by rw [hW1];exact Rq.new _ _ _ _ _ _ _
 obtain ⟨x0,x1,x2,x3,x4,x5⟩:=LW.facts;have S0:=(aK hB LW);have HWd:Hid (∀ u:World,Calls Tryz.prog 106 #[.int .u64 (k:Nat),.bool ng,.int .i64 er] u fun r w'=>r=.returned (.tuple #[.float .f64 z,.int .i64 er])/\w'=u):=hid fun u=>by have h:=xO k hk ng er u;rw [hz] at h;exact h
 clear hB LW hk hz;go_enter Tryz.func57,Tryz.ntmps57
 go_upto_region 1 with fail
 rw [<-hW1];clear hW1;have T1:=hid (mF W1);have T2:=hid (mF W1.drew)
 go_region_held3 (fun w'=>w'.cell? ⟨w.heap.size,0,none⟩=some (.bool n)/\w'.cell? ⟨w.heap.size,1,none⟩=some (.slice a la ca)/\w'.cell? ⟨w.heap.size,2,none⟩=some (.int .i64 e)/\w'.cell? ⟨w.heap.size,3,none⟩=some (.bool m)/\w'.cell? ⟨w.heap.size,4,none⟩=some (.slice b lb cb)/\w'.cell? ⟨w.heap.size,5,none⟩=some (.int .i64 f)) (go_keep) (first
  | (go_at_call 105
     first | with_reducible refine T1.o.mono ?_ | with_reducible refine T2.o.mono ?_
     rintro r v1 ⟨rfl,hb⟩;have hw:Below W1.heap.size W1 v1:=by first | exact hb | exact ((aB _ W1).drew).trans (hb.mono (aA _))
     obtain ⟨m0,m1,m2,m3,m4,m5⟩:=(S0.o.2.below hw).facts;have T3:=hid (HR.o v1 (S0.o.1.trans (hw.mono S0.o.1.size)));have S4:=(aK (S0.o.1.trans (hw.mono S0.o.1.size)) (S0.o.2.below hw))
     clear hb hw)
  | (go_at_call 104
     with_reducible refine T3.o.mono ?_
     rintro r v2 ⟨rfl,hb⟩;obtain ⟨k0,k1,k2,k3,k4,k5⟩:=(S4.o.2.below hb).facts;have S5:=ak (S4.o.1.trans (hb.mono S4.o.1.size))
     clear hb))
 all_goals (
  go_wp2_with fail;refine (HWd.o _).mono ?_;rintro r v3 ⟨rfl,rfl⟩;go_wp2
  exact aC (v:=.tuple #[.float .f64 z,.int .i64 er]) (by simp [results,Tryz.results57,go_sem]) rfl ⟨rfl,S5.o⟩)
theorem vR {w:World}{n m:Bool}{a b:Option Addr}{la ca lb cb:Nat}{e f:Int}(mode:Int) (k:Nat) (ng:Bool) (er:Int) (hk:k<9223372036854775808) (z:Nat) (hz:k+(if ng then 9223372036854775808 else 0)=z)
 (HR:Hid (∀ u:World,Below w.heap.size w u->Calls Tryz.prog 104 #[.agg #[.int .i64 53,.int .i64 (-1074),.int .u64 9218868437227405312],.agg #[.bool n,.slice a la ca,.int .i64 e,.bool m,.slice b lb cb,.int .i64 f],.bool true,.int .i64 mode] u fun r w'=>r=.returned (.tuple #[.int .u64 (k:Nat),.bool ng,.int .i64 er])/\Below u.heap.size u w')) :
 Calls Tryz.prog 60 #[.agg #[.bool n,.slice a la ca,.int .i64 e,.bool m,.slice b lb cb,.int .i64 f],.int .i64 mode] w fun r w'=>r=.returned (.tuple #[.float .f64 z,.int .i64 er])/\Below w.heap.size w w':=by
 obtain ⟨W1,hW1⟩:=af (w.alloc (.cells #[.bool n,.slice a la ca,.int .i64 e,.bool m,.slice b lb cb,.int .i64 f] 73));have hB:Below w.heap.size w W1:=by rw [hW1];exact ae _ _
 have LW:Rq W1 w.heap.size n (.slice a la ca) e m (.slice b lb cb) f:=by rw [hW1];exact Rq.new _ _ _ _ _ _ _
 obtain ⟨x0,x1,x2,x3,x4,x5⟩:=LW.facts;have S0:=(aK hB LW);have HWd:Hid (∀ u:World,Calls Tryz.prog 106 #[.int .u64 (k:Nat),.bool ng,.int .i64 er] u fun r w'=>r=.returned (.tuple #[.float .f64 z,.int .i64 er])/\w'=u):=hid fun u=>by have h:=xO k hk ng er u;rw [hz] at h;exact h
 clear hB LW hk hz;go_enter Tryz.func60,Tryz.ntmps60
 go_upto_region 1 with fail
 rw [<-hW1];clear hW1;have T1:=hid (mF W1);have T2:=hid (mF W1.drew)
 go_region_held3 (fun w'=>w'.cell? ⟨w.heap.size,0,none⟩=some (.bool n)/\w'.cell? ⟨w.heap.size,1,none⟩=some (.slice a la ca)/\w'.cell? ⟨w.heap.size,2,none⟩=some (.int .i64 e)/\w'.cell? ⟨w.heap.size,3,none⟩=some (.bool m)/\w'.cell? ⟨w.heap.size,4,none⟩=some (.slice b lb cb)/\w'.cell? ⟨w.heap.size,5,none⟩=some (.int .i64 f)) (go_keep) (first
  | (go_at_call 105
     first | with_reducible refine T1.o.mono ?_ | with_reducible refine T2.o.mono ?_
     rintro r v1 ⟨rfl,hb⟩;have hw:Below W1.heap.size W1 v1:=by first | exact hb | exact ((aB _ W1).drew).trans (hb.mono (aA _))
     obtain ⟨m0,m1,m2,m3,m4,m5⟩:=(S0.o.2.below hw).facts;have T3:=hid (HR.o v1 (S0.o.1.trans (hw.mono S0.o.1.size)));have S4:=(aK (S0.o.1.trans (hw.mono S0.o.1.size)) (S0.o.2.below hw))
     clear hb hw)
  | (go_at_call 104
     with_reducible refine T3.o.mono ?_
     rintro r v2 ⟨rfl,hb⟩;obtain ⟨k0,k1,k2,k3,k4,k5⟩:=(S4.o.2.below hb).facts;have S5:=ak (S4.o.1.trans (hb.mono S4.o.1.size))
     clear hb))
 all_goals (
  go_wp2_with fail;refine (HWd.o _).mono ?_;rintro r v3 ⟨rfl,rfl⟩;go_wp2
  exact aC (v:=.tuple #[.float .f64 z,.int .i64 er]) (by simp [results,Tryz.results60,go_sem]) rfl ⟨rfl,S5.o⟩)
theorem uO {v:Nat->Nat}{top n S:Nat}(G:OW v top) (hn:n≠0) (hS:0<S):gZ v top n 0 true 0 0 S :=
 ⟨by have:=G.one;omega,hS,fun _=>by rw [G.zero,Nat.zero_pow (by omega),eF],(fun h=>by cases h),(fun h=>by cases h),(fun h=>by cases h)⟩
theorem Je (e f:Int) (u n:Nat):iP 0 e f u n=0:=by unfold iP;rw [eF]
theorem PU {Y:Nat}(h:Y≠0) (e f:Int) (u n:Nat):0<gL Y e f u n:=by unfold gL;exact iA (by omega) (aY _)
theorem zz {X:Nat}{n:Bool}{e:Int}{Y:Nat}{m:Bool}{f:Int}(h:jQ X n e Y m f=0):(mkS n X e).isSome=true/\(mkS m Y f).isSome=true/\dX (mkS m Y f)≠0:=by
 unfold jQ at h
 split at h
 · cases h
 · split at h
   · rename_i h2;rw [nM] at h2
     split at h
     · cases h
     · rename_i h3;exact ⟨h2.1,h2.2,h3⟩
   · cases h
theorem TF {w:World}{n m:Bool}{a b:Option Addr}{la ca lb cb X Y:Nat}{e f:Int}(mode:Int) (hN:Al w (.slice a la ca) X) (hD:Al w (.slice b lb cb) Y) (be:-9223372036854775808<=e/\e<=9223372036854775807) (bf:-9223372036854775808<=f/\f<=9223372036854775807) :
 Calls Tryz.prog 57 #[.agg #[.bool n,.slice a la ca,.int .i64 e,.bool m,.slice b lb cb,.int .i64 f],.int .i64 mode] w fun r w'=>r=.returned (.tuple #[.float .f64 (rJ fD ⟨n,.slice a la ca,X,e,m,.slice b lb cb,Y,f⟩ mode).1,.int .i64 (rJ fD ⟨n,.slice a la ca,X,e,m,.slice b lb cb,Y,f⟩ mode).2])/\Below w.heap.size w w':=by
 by_cases hm:mode<0\/4<mode
 · have e1:rJ fD ⟨n,.slice a la ca,X,e,m,.slice b lb cb,Y,f⟩ mode=(0,1):=by unfold rJ;rw [if_pos hm]
   rw [e1];exact BK mode 0 false 1 (by omega) 0 rfl (hid fun u hu=>rY (X:=X) (Y:=Y) _ _ _ _ mode hm)
 · have hm0:0<=mode:=by omega
   have mG:mode<=4:=by omega
   have el:=mO ⟨n,.slice a la ca,X,e,m,.slice b lb cb,Y,f⟩
   by_cases h0:jQ X n e Y m f=0
   · obtain ⟨s1,s2,hY⟩:=zz h0;have F1:=iK s1;have F2:=iK s2;have ez:iJ (yx ⟨n,.slice a la ca,X,e,m,.slice b lb cb,Y,f⟩) 1=0:=el.trans h0
     obtain ⟨K,t,mm,L,hq⟩:∃ K t mm,gZ vK 9218868437227405312 1 K t mm (iP (dX (mkS n X e)) (dE (mkS n X e)) (dE (mkS m Y f)) 1074 1) (gL (dX (mkS m Y f)) (dE (mkS n X e)) (dE (mkS m Y f)) 1074 1)/\fD (mM (dN (mkS n X e)) (dX (mkS n X e)) (dE (mkS n X e)) (dX (mkS m Y f)) (dE (mkS m Y f))) mode=((if t then K else if jU mode K mm (dN (mkS n X e)) then K+1 else K)+(if (dN (mkS n X e)) then 9223372036854775808 else 0),0):=by
      rcases F1.odd with h|⟨h1,h2,h3⟩
      · obtain ⟨K,t,mm,L,hq⟩:=UZ (dN (mkS n X e)) (dX (mkS n X e)) (dE (mkS n X e)) (dX (mkS m Y f)) (dE (mkS m Y f)) h hY F1.size F2.size;exact ⟨K,t,mm,L,by have q:=hq mode hm0 mG;rw [q];rfl⟩
      · refine ⟨0,true,0,?_,?_⟩
        · rw [h1,Je];exact uO oz (by omega) (PU hY _ _ _ _)
        · rw [h1,Dy _ _ _ _ hY F2.size];unfold fD;rw [if_neg (by omega)];simp [h2]
     have hfin:=L.fin
     have e1:rJ fD ⟨n,.slice a la ca,X,e,m,.slice b lb cb,Y,f⟩ mode=((if t then K else if jU mode K mm (dN (mkS n X e)) then K+1 else K)+(if dN (mkS n X e) then 9223372036854775808 else 0),0):=by
      unfold rJ;simp only;rw [if_neg hm,if_pos ez];exact hq
     rw [e1];refine BK mode _ (dN (mkS n X e)) 0 (by split;omega;split <;> omega) _ rfl (hid fun u hu=>?_);refine xP _ _ _ _ mode hm0 mG (hN.below hu) (hD.below hu) be bf _ _ rfl rfl _ h0 rfl (.inl rfl) _ (hid fun x p q lx cx ly cy hx A1 A2=>?_);exact Jc Jb A1 A2 ⟨F1.down,F1.up⟩ ⟨F2.down,F2.up⟩ F2.size (.inl rfl) L false rfl mode hm0 mG
   · have ez:iJ (yx ⟨n,.slice a la ca,X,e,m,.slice b lb cb,Y,f⟩) 1=jQ X n e Y m f:=el;have e1:rJ fD ⟨n,.slice a la ca,X,e,m,.slice b lb cb,Y,f⟩ mode=(0,jQ X n e Y m f):=by unfold rJ;rw [if_neg hm,if_neg (by rw [ez];exact h0),ez]
     rw [e1];exact BK mode 0 false _ (by omega) 0 rfl (hid fun u hu=>uN _ _ _ _ mode hm0 mG (hN.below hu) (hD.below hu) be bf _ _ rfl rfl _ rfl h0)
theorem TG {w:World}{n m:Bool}{a b:Option Addr}{la ca lb cb X Y:Nat}{e f:Int}(mode:Int) (hN:Al w (.slice a la ca) X) (hD:Al w (.slice b lb cb) Y) (be:-9223372036854775808<=e/\e<=9223372036854775807) (bf:-9223372036854775808<=f/\f<=9223372036854775807) :
 Calls Tryz.prog 60 #[.agg #[.bool n,.slice a la ca,.int .i64 e,.bool m,.slice b lb cb,.int .i64 f],.int .i64 mode] w fun r w'=>r=.returned (.tuple #[.float .f64 (lD fD ⟨n,.slice a la ca,X,e,m,.slice b lb cb,Y,f⟩ mode).1,.int .i64 (lD fD ⟨n,.slice a la ca,X,e,m,.slice b lb cb,Y,f⟩ mode).2])/\Below w.heap.size w w':=by
 by_cases hm:mode<0\/4<mode
 · have e1:lD fD ⟨n,.slice a la ca,X,e,m,.slice b lb cb,Y,f⟩ mode=(0,1):=by unfold lD;rw [if_pos hm]
   rw [e1];exact vR mode 0 false 1 (by omega) 0 rfl (hid fun u hu=>rY (X:=X) (Y:=Y) _ _ _ _ mode hm)
 · have hm0:0<=mode:=by omega
   have mG:mode<=4:=by omega
   have el:=mO ⟨n,.slice a la ca,X,e,m,.slice b lb cb,Y,f⟩
   by_cases h0:jQ X n e Y m f=0
   · obtain ⟨s1,s2,hY⟩:=zz h0;have F1:=iK s1;have F2:=iK s2;have ez:iJ (yx ⟨n,.slice a la ca,X,e,m,.slice b lb cb,Y,f⟩) 1=0:=el.trans h0
     by_cases Kc:dN (mkS n X e)=true
     · have e1:lD fD ⟨n,.slice a la ca,X,e,m,.slice b lb cb,Y,f⟩ mode=(0,110):=by unfold lD;simp only;rw [if_neg hm,if_pos ez,Kc,if_pos rfl]
       rw [e1];exact vR mode 0 false 110 (by omega) 0 rfl (hid fun u hu=>yA _ _ _ _ mode hm0 mG (hN.below hu) (hD.below hu) be bf _ _ rfl rfl _ rfl h0 rfl Kc)
     have Zo:dN (mkS n X e)=false:=by cases h:dN (mkS n X e);rfl;exact absurd h Kc
     obtain ⟨K,t,mm,L,hq⟩:∃ K t mm,gZ vK 9218868437227405312 2 K t mm (iP (dX (mkS n X e)) (dE (mkS n X e)) (dE (mkS m Y f)) 1074 2) (gL (dX (mkS m Y f)) (dE (mkS n X e)) (dE (mkS m Y f)) 1074 2)/\fD (uI (dX (mkS n X e)) (dE (mkS n X e)) (dX (mkS m Y f)) (dE (mkS m Y f))) mode=((if t then K else if jU mode K mm false then K+1 else K)+(if false then 9223372036854775808 else 0),0):=by
      rcases F1.odd with h|⟨h1,h2,h3⟩
      · obtain ⟨K,t,mm,L,hq⟩:=Pd (dX (mkS n X e)) (dE (mkS n X e)) (dX (mkS m Y f)) (dE (mkS m Y f)) h hY F1.size F2.size;exact ⟨K,t,mm,L,by have q:=hq mode hm0 mG;rw [q];unfold rK;simp⟩
      · refine ⟨0,true,0,?_,?_⟩
        · rw [h1,Je];exact uO oz (by omega) (PU hY _ _ _ _)
        · rw [h1,xw _ _ _ hY F2.size];unfold fD;rw [if_neg (by omega)];rfl
     have hfin:=L.fin
     have e1:lD fD ⟨n,.slice a la ca,X,e,m,.slice b lb cb,Y,f⟩ mode=((if t then K else if jU mode K mm (dN (mkS n X e)) then K+1 else K)+(if dN (mkS n X e) then 9223372036854775808 else 0),0):=by
      unfold lD;simp only;rw [if_neg hm,if_pos ez];rw [Zo,if_neg (by decide)];exact hq
     rw [e1];refine vR mode _ (dN (mkS n X e)) 0 (by split;omega;split <;> omega) _ rfl (hid fun u hu=>?_);refine xP _ _ _ _ mode hm0 mG (hN.below hu) (hD.below hu) be bf _ _ rfl rfl _ h0 rfl (.inr Zo) _ (hid fun x p q lx cx ly cy hx A1 A2=>?_);exact Jc Jb A1 A2 ⟨F1.down,F1.up⟩ ⟨F2.down,F2.up⟩ F2.size (.inr rfl) L true rfl mode hm0 mG
   · have ez:iJ (yx ⟨n,.slice a la ca,X,e,m,.slice b lb cb,Y,f⟩) 1=jQ X n e Y m f:=el;have e1:lD fD ⟨n,.slice a la ca,X,e,m,.slice b lb cb,Y,f⟩ mode=(0,jQ X n e Y m f):=by unfold lD;rw [if_neg hm,if_neg (by rw [ez];exact h0),ez]
     rw [e1];exact vR mode 0 false _ (by omega) 0 rfl (hid fun u hu=>uN _ _ _ _ mode hm0 mG (hN.below hu) (hD.below hu) be bf _ _ rfl rfl _ rfl h0)
end
section
open Go Go.RowKit J
theorem Nt.TH {lo:Nat}{w:World}{v:Value}{o:Option (Bool×Nat×Int)}(h:Nt lo w v (dX o)) (F:Fm o):Al w v (dX o):=by
 have:=F.len;obtain ⟨a,c,rfl,hA⟩:=h.arg (by omega);exact ⟨a,_,c,_,rfl,hA,ah _,by omega⟩
def qa (mode:Int):Bool:=decide (0<=mode)&&decide (mode<=4)
def lsB (less:Int):Bool:=decide (less=0) || decide (less=1)
theorem zA {mode:Int}(h:qa mode=true):0<=mode/\mode<=4:=by unfold qa at h;simpa using h
theorem xQ {less:Int}(h:lsB less=true):less=0\/less=1:=by unfold lsB at h;simpa using h
theorem iQ (mode:Int) (w:World):Calls Tryz.prog 38 #[.int .i64 mode] w fun r w'=>r=.returned (.bool (qa mode))/\w'=w:=by
 unfold qa
 by_cases h0:0<=mode
 · have d0:decide (0<=mode)=true:=decide_eq_true h0
   by_cases h4:mode<=4
   · have d4:decide (mode<=4)=true:=decide_eq_true h4;rw [d0,d4];go_enter Tryz.func38,Tryz.ntmps38;exact Z3
   · have d4:decide (mode<=4)=false:=decide_eq_false h4;rw [d0,d4];go_enter Tryz.func38,Tryz.ntmps38;exact Z3
 · have d0:decide (0<=mode)=false:=decide_eq_false h0;rw [d0,nK];go_enter Tryz.func38,Tryz.ntmps38;exact Z3
theorem Jf (mode:Int) (w:World):Calls Tryz.prog 61 #[.int .i64 mode] w fun r w'=>r=.returned (.bool (qa mode))/\w'=w:=by
 unfold qa
 by_cases h0:0<=mode
 · have d0:decide (0<=mode)=true:=decide_eq_true h0
   by_cases h4:mode<=4
   · have d4:decide (mode<=4)=true:=decide_eq_true h4;rw [d0,d4];go_enter Tryz.func61,Tryz.ntmps61;exact Z3
   · have d4:decide (mode<=4)=false:=decide_eq_false h4;rw [d0,d4];go_enter Tryz.func61,Tryz.ntmps61;exact Z3
 · have d0:decide (0<=mode)=false:=decide_eq_false h0;rw [d0,nK];go_enter Tryz.func61,Tryz.ntmps61;exact Z3
theorem mQ (less:Int) (w:World):Calls Tryz.prog 44 #[.int .i64 less] w fun r w'=>r=.returned (.bool (lsB less))/\w'=w:=by
 unfold lsB
 by_cases h0:less=0
 · subst h0;go_enter Tryz.func44,Tryz.ntmps44;exact Z3
 · by_cases h1:less=1
   · subst h1;go_enter Tryz.func44,Tryz.ntmps44;exact Z3
   · rw [decide_eq_false h0,decide_eq_false h1];have d0:(less==0)=false:=by simp [h0]
     have d1:(less==1)=false:=by simp [h1]
     go_enter Tryz.func44,Tryz.ntmps44;exact Z3
theorem PV (less:Int) (w:World):Calls Tryz.prog 68 #[.int .i64 less] w fun r w'=>r=.returned (.bool (lsB less))/\w'=w:=by
 unfold lsB
 by_cases h0:less=0
 · subst h0;go_enter Tryz.func68,Tryz.ntmps68;exact Z3
 · by_cases h1:less=1
   · subst h1;go_enter Tryz.func68,Tryz.ntmps68;exact Z3
   · rw [decide_eq_false h0,decide_eq_false h1];have d0:(less==0)=false:=by simp [h0]
     have d1:(less==1)=false:=by simp [h1]
     go_enter Tryz.func68,Tryz.ntmps68;exact Z3
theorem rZ (n:Nat) (less:Int) (w:World) (hT:dF w) (hn:n<=1099511627776) (h0:0<=less) (h1:less<=1) (hl:less<n) :
 Calls Tryz.prog 46 #[.int .i64 (n:Nat),.int .i64 less] w fun r w'=>aQ 0 w' r (gV 0 ((n:Int)*((n:Int)-less)))/\Below w.heap.size w w':=by
 have b1:Bd 41 (n:Int):=Bd.nat (by omega);have b2:Bd 41 ((n:Int)-less):=by unfold Bd;omega
 obtain ⟨oA,hA⟩:=af (gV 0 (n:Int));obtain ⟨oB,hB⟩:=af (gV 0 ((n:Int)-less));obtain ⟨oC,hC⟩:=af (gV 0 ((n:Int)*((n:Int)-less)));have FA:Fm oA:=by rw [hA];exact bB (by decide) (by decide) b1
 have FB:Fm oB:=by rw [hB];exact bB (by decide) (by decide) b2
 have FC:Fm oC:=by rw [hC];exact bB (by decide) (by decide) (b1.mul b2)
 have E:dZ oA oB=oC:=by rw [hA,hB,hC];exact jZ (by decide) (by decide) (by decide) (by decide) b1 b2
 rw [<-hC];have HI1:Hid (∀ u:World,dF u->Calls Tryz.prog 52 #[.int .i64 (n:Nat)] u fun r w'=>aQ 0 w' r oA/\Below u.heap.size u w'):=fun u hu=>by rw [hA];exact xB n u hu (by omega) (by omega)
 have HI2:Hid (∀ u:World,dF u->Calls Tryz.prog 52 #[.int .i64 ((n:Int)-less)] u fun r w'=>aQ 0 w' r oB/\Below u.heap.size u w'):=fun u hu=>by rw [hB];exact xB _ u hu (by omega) (by omega)
 have HX:=dK FA FB FC E hT;have hwr:IntKind.i64.wrap ((n:Int)-less)=(n:Int)-less:=by rw [yc];omega
 clear hA hB hC FA FB FC E hT b1 b2;obtain ⟨W,hW⟩:=af (w.alloc (Obj.cells #[.bool false,.slice none 0 0,.int .i64 0] 37));have H0:Aside (Lo W w.heap.size ig/\Below w.heap.size w W):=by rw [hW];exact ⟨Lo.zero _,ae _ _⟩
 have HW:=ak hW;clear hW;go_enter Tryz.func46,Tryz.ntmps46
 go_upto_region 1 with fail
 rw [<-HW.o];clear HW;have C:=hid (HI1.o W (HX.o.r4.belows H0.o.2));go_wp2_with fail;refine C.o.mono ?_;rintro r u1 ⟨hd,hb⟩;obtain ⟨a1,c1,rfl,hN1⟩:=hd.aH;have H1:=(cK (H0.o.1.below hb) (H0.o.2.trans (hb.mono H0.o.2.size)) hN1);clear hb hd hN1 H0 C;have C:=hid (HI2.o u1 (HX.o.r4.belows H1.o.2.1));go_wp2_with fail;refine C.o.mono ?_;rintro r u2 ⟨hd,hb⟩;obtain ⟨a2,c2,rfl,jH⟩:=hd.aH;have H2:=(fF (H1.o.1.below hb) (H1.o.2.1.trans (hb.mono H1.o.2.1.size)) (H1.o.r2.below hb) jH);clear hb hd jH H1 C;have C:=hid (gM HX.o.1 HX.o.2.1 HX.o.r2.1 H2.o.r2.1 H2.o.r3 (HX.o.r4.belows H2.o.2.1) HX.o.r3.1);go_wp2_with fail;refine C.o.mono ?_;rintro r u3 ⟨hd,hb⟩;obtain ⟨a3,c3,rfl,dV⟩:=hd.aH;have H3:=(cK (H2.o.1.below hb) (H2.o.2.1.trans (hb.mono H2.o.2.1.size)) dV);clear hb hd dV H2 C;obtain ⟨p2,q2,D2,M2⟩:=H3.o.1;obtain ⟨y0,y1,y2,bU,bZ,cu⟩:=D2.facts;clear D2 M2;go_wp2;exact iI Tryz.results46 rfl H3.o.1 H3.o.2.1 (aA _) H3.o.r2
noncomputable def mR (V D:Option (Bool×Nat×Int)) (mode:Int):Nat×Int:=rJ fD ⟨dN V,.bool false,dX V,dE V,dN D,.bool false,dX D,dE D⟩ mode
noncomputable def lh (V D:Option (Bool×Nat×Int)) (mode:Int):Nat×Int:=lD fD ⟨dN V,.bool false,dX V,dE V,dN D,.bool false,dX D,dE D⟩ mode
theorem GU {u:World}{a b:Option Addr}{ca cb:Nat}{V D:Option (Bool×Nat×Int)}(mode:Int) (FV:Fm V) (FD:Fm D) (n1:Nt 0 u (.slice a (ws (dX V)).length ca) (dX V)) (n2:Nt 0 u (.slice b (ws (dX D)).length cb) (dX D)) (hT:dF u) :
 Calls Tryz.prog 37 #[.agg #[.bool (dN V),.slice a (ws (dX V)).length ca,.int .i64 (dE V),.bool (dN D),.slice b (ws (dX D)).length cb,.int .i64 (dE D)],.int .i64 mode] u fun r w'=>r=.returned (.tuple #[.float .f64 (mR V D mode).1,.int .i64 (mR V D mode).2])/\Below u.heap.size u w' :=
 Pf (w:=u) (n:=dN V) (m:=dN D) (X:=dX V) (Y:=dX D) (e:=dE V) (f:=dE D) mode ⟨n1.av (dC FV.len (by decide)),n2.av (dC FD.len (by decide)),FV.mK,FD.mK⟩ hT
theorem GV {u:World}{a b:Option Addr}{ca cb:Nat}{V D:Option (Bool×Nat×Int)}(mode:Int) (FV:Fm V) (FD:Fm D) (n1:Nt 0 u (.slice a (ws (dX V)).length ca) (dX V)) (n2:Nt 0 u (.slice b (ws (dX D)).length cb) (dX D)) (hT:dF u) :
 Calls Tryz.prog 53 #[.agg #[.bool (dN V),.slice a (ws (dX V)).length ca,.int .i64 (dE V),.bool (dN D),.slice b (ws (dX D)).length cb,.int .i64 (dE D)],.int .i64 mode] u fun r w'=>r=.returned (.tuple #[.float .f64 (lh V D mode).1,.int .i64 (lh V D mode).2])/\Below u.heap.size u w' :=
 WA (w:=u) (n:=dN V) (m:=dN D) (X:=dX V) (Y:=dX D) (e:=dE V) (f:=dE D) mode ⟨n1.av (dC FV.len (by decide)),n2.av (dC FD.len (by decide)),FV.mK,FD.mK⟩ hT
theorem TI {u:World}{a b:Option Addr}{ca cb:Nat}{V D:Option (Bool×Nat×Int)}(mode:Int) (FV:Fm V) (FD:Fm D) (n1:Nt 0 u (.slice a (ws (dX V)).length ca) (dX V)) (n2:Nt 0 u (.slice b (ws (dX D)).length cb) (dX D)) :
 Calls Tryz.prog 57 #[.agg #[.bool (dN V),.slice a (ws (dX V)).length ca,.int .i64 (dE V),.bool (dN D),.slice b (ws (dX D)).length cb,.int .i64 (dE D)],.int .i64 mode] u fun r w'=>r=.returned (.tuple #[.float .f64 (mR V D mode).1,.int .i64 (mR V D mode).2])/\Below u.heap.size u w' :=
 TF (w:=u) (n:=dN V) (m:=dN D) (X:=dX V) (Y:=dX D) (e:=dE V) (f:=dE D) mode (n1.TH FV) (n2.TH FD) FV.mK FD.mK
theorem TJ {u:World}{a b:Option Addr}{ca cb:Nat}{V D:Option (Bool×Nat×Int)}(mode:Int) (FV:Fm V) (FD:Fm D) (n1:Nt 0 u (.slice a (ws (dX V)).length ca) (dX V)) (n2:Nt 0 u (.slice b (ws (dX D)).length cb) (dX D)) :
 Calls Tryz.prog 60 #[.agg #[.bool (dN V),.slice a (ws (dX V)).length ca,.int .i64 (dE V),.bool (dN D),.slice b (ws (dX D)).length cb,.int .i64 (dE D)],.int .i64 mode] u fun r w'=>r=.returned (.tuple #[.float .f64 (lh V D mode).1,.int .i64 (lh V D mode).2])/\Below u.heap.size u w' :=
 TG (w:=u) (n:=dN V) (m:=dN D) (X:=dX V) (Y:=dX D) (e:=dE V) (f:=dE D) mode (n1.TH FV) (n2.TH FD) FV.mK FD.mK
theorem Jg {B:Nat}{w:World}{a:Option Addr}{xs:List Nat}(h:Fs B w a xs):Ps.Rd B w a xs:=h
theorem vS {lo:Nat}{w:World}{v:Value}{xs:List Nat}(h:Ps.Lt lo w v xs):∃ a c,v=.slice a xs.length c/\Fs w.heap.size w a xs:=by
 have h2:=h.2;unfold Ps.Lt at h;rcases h2 with ⟨rfl,h0⟩|⟨g,cap,cur,rfl,hlo,hg,rest⟩
 · exact ⟨none,0,by rw [h0],fun hne=>absurd (yI h0) hne⟩
 · refine ⟨_,cap,rfl,fun _=>⟨g,0,(fP.1 hg).1,rfl,fun i hi=>?_⟩⟩;have h1:=h.cells (g:=g) (by simp [Value.ownBlock]) i (.float .f64 (xs.getD i 0)) (by simp [Ps.U,hi]);have e:(⟨g,0,none⟩:Addr).add i=⟨g,0+i,none⟩:=by unfold Addr.add;split <;> simp_all
   rw [e] at h1;exact h1
theorem PW (xs:List Nat) (a:Option Addr) (n c:Nat) (pa pb:Int) (w:World) (hn:n=xs.length) (hm:n<=35184372088832) (hF:Fs w.heap.size w a xs) (hW:j4 xs) :
 Calls Tryz.prog 78 #[.slice a n c,.agg #[.int .i64 pa,.int .i64 pb]] w fun r w' =>
  ((Ps.bO pa pb xs≠0/\∃ a' c',r=.returned (.tuple #[.slice a' 0 c',.agg #[.int .i64 0,.int .i64 0,.int .i64 0,.int .i64 0,.int .i64 0,.int .i64 0],.int .i64 (Ps.bO pa pb xs)])) \/
   (Ps.bO pa pb xs=0/\∃ a' c',r=.returned (.tuple #[.slice a' (Ps.fin xs).length c',.agg #[.int .i64 (Ps.cn 5 xs:Nat),.int .i64 (Ps.cn 3 xs:Nat),.int .i64 (Ps.cn 4 xs:Nat),.int .i64 (Ps.cn 1 xs:Nat),.int .i64 (Ps.cn 2 xs:Nat),.int .i64 (xs.length:Nat)],.int .i64 0])/\Fs w'.heap.size w' a' (Ps.fin xs)))/\Below w.heap.size w w':=by
 refine (Ps.PL xs a n c w.heap.size pa pb w hn hm hW (Jg hF) (aA _)).mono ?_;rintro r w' ⟨v,rfl,hL,hb⟩;refine ⟨?_,hb⟩;unfold Ps.D9;unfold Ps.D8 at hL
 by_cases h0:Ps.bO pa pb xs=0
 · rw [if_pos h0] at hL |-;obtain ⟨a',c',rfl,hF'⟩:=vS hL;exact .inr ⟨h0,a',c',by rw [h0],hF'⟩
 · rw [if_neg h0] at hL |-;obtain ⟨a',c',rfl,_⟩:=vS hL;exact .inl ⟨h0,a',c',rfl⟩
theorem TK (xs:List Nat) (a:Option Addr) (n c:Nat) (pa pb:Int) (w:World) (hn:n=xs.length) (hm:n<=35184372088832) (hF:Fs w.heap.size w a xs) (hW:j4 xs) :
 Calls Tryz.prog 102 #[.slice a n c,.agg #[.int .i64 pa,.int .i64 pb]] w fun r w' =>
  ((Ps.bO pa pb xs≠0/\∃ a' c',r=.returned (.tuple #[.slice a' 0 c',.agg #[.int .i64 0,.int .i64 0,.int .i64 0,.int .i64 0,.int .i64 0,.int .i64 0],.int .i64 (Ps.bO pa pb xs)])) \/
   (Ps.bO pa pb xs=0/\∃ a' c',r=.returned (.tuple #[.slice a' (Ps.fin xs).length c',.agg #[.int .i64 (Ps.cn 5 xs:Nat),.int .i64 (Ps.cn 3 xs:Nat),.int .i64 (Ps.cn 4 xs:Nat),.int .i64 (Ps.cn 1 xs:Nat),.int .i64 (Ps.cn 2 xs:Nat),.int .i64 (xs.length:Nat)],.int .i64 0])/\Fs w'.heap.size w' a' (Ps.fin xs)))/\Below w.heap.size w w':=by
 refine (Ps.LV xs a n c w.heap.size pa pb w hn hm hW (Jg hF) (aA _)).mono ?_;rintro r w' ⟨v,rfl,hL,hb⟩;refine ⟨?_,hb⟩;unfold Ps.D9;unfold Ps.D8 at hL
 by_cases h0:Ps.bO pa pb xs=0
 · rw [if_pos h0] at hL |-;obtain ⟨a',c',rfl,hF'⟩:=vS hL;exact .inr ⟨h0,a',c',by rw [h0],hF'⟩
 · rw [if_neg h0] at hL |-;obtain ⟨a',c',rfl,_⟩:=vS hL;exact .inl ⟨h0,a',c',rfl⟩
def GZ (pa pb:Int) (xs:List Nat):Bool:=(decide (0<Ps.cn 5 xs)&&decide (pa=0)) || (decide (0<Ps.cn 3 xs+Ps.cn 4 xs)&&decide (pb=0))
theorem qF {pa pb:Int}{xs:List Nat}(h:Ps.bO pa pb xs=0):may pa pb=true/\xs.length<=65536:=by
 unfold Ps.bO at h
 cases hm:may pa pb with
 | false=>rw [hm] at h;simp at h
 | true =>
   rw [hm,if_neg (by decide)] at h
   by_cases hl:65536<xs.length
   · rw [if_pos hl] at h;exact absurd h (by decide)
   · exact ⟨rfl,by omega⟩
theorem xR:∀ xs:List Nat,Ps.cn 5 xs+Ps.cn 3 xs+Ps.cn 4 xs+Ps.cn 1 xs+Ps.cn 2 xs<=xs.length
 | []=>by simp [Ps.cn]
 | x::xs=>by
   have ih:=xR xs;unfold Ps.cn at ih |-;simp only [List.countP_cons,qK];have hk:=Ps.I9 x;obtain q|q|q|q|q|q:kd x=0\/kd x=1\/kd x=2\/kd x=3\/kd x=4\/kd x=5:=by omega
   all_goals (rw [q];simp;omega)
theorem vd14 {pa pb:Int}{xs:List Nat}(h:Ps.bO pa pb xs=0):(vd (snd (Ps.cn 5 xs:Nat) (Ps.cn 3 xs:Nat) (Ps.cn 4 xs:Nat) (Ps.cn 1 xs:Nat) (Ps.cn 2 xs:Nat) (xs.length:Nat)&&may pa pb) (Ps.cn 5 xs:Nat) (Ps.cn 3 xs:Nat) (Ps.cn 4 xs:Nat) pa pb).2=GZ pa pb xs:=by
 obtain ⟨hm,hl⟩:=qF h;have hs:=xR xs
 have e:snd (Ps.cn 5 xs:Nat) (Ps.cn 3 xs:Nat) (Ps.cn 4 xs:Nat) (Ps.cn 1 xs:Nat) (Ps.cn 2 xs:Nat) (xs.length:Nat)=true:=by
  unfold snd ct;simp;omega
 rw [e,hm];unfold vd GZ
 by_cases h5:0<Ps.cn 5 xs/\pa=0
 · have h5':0<((Ps.cn 5 xs:Nat):Int)/\pa=0:=⟨by omega,h5.2⟩;rw [if_neg (by decide),if_pos h5'];simp [h5.1,h5.2]
 · have h5':¬ (0<((Ps.cn 5 xs:Nat):Int)/\pa=0):=fun q=>h5 ⟨by omega,q.2⟩
   have e5:(decide (0<Ps.cn 5 xs)&&decide (pa=0))=false:=by
    rcases kJ 0 (Ps.cn 5 xs) with q|q
    · have:¬ pa=0:=fun r=>h5 ⟨q,r⟩;simp [this]
    · have:¬ 0<Ps.cn 5 xs:=by omega
      simp [this]
   rw [if_neg (by decide),if_neg h5',e5,Bool.false_or]
   by_cases hb:pb=0
   · subst hb;rw [if_neg (by simp)]
     by_cases h3:0<Ps.cn 3 xs
     · have:0<Ps.cn 3 xs+Ps.cn 4 xs:=by omega
       by_cases h4:0<Ps.cn 4 xs
       · rw [if_pos ⟨by omega,by omega⟩];simp [this]
       · rw [if_neg (by omega),if_pos (by omega)];simp [this]
     · by_cases h4:0<Ps.cn 4 xs
       · have:0<Ps.cn 3 xs+Ps.cn 4 xs:=by omega
         rw [if_neg (by omega),if_neg (by omega),if_pos (by omega)];simp [this]
       · have:¬ 0<Ps.cn 3 xs+Ps.cn 4 xs:=by omega
         rw [if_neg (by omega),if_neg (by omega),if_neg (by omega)];simp [this]
   · rw [if_pos hb];simp [hb]
theorem zB {pa pb:Int}{xs:List Nat}(h:Ps.bO pa pb xs=0) (w:World):Calls Tryz.prog 79 #[.agg #[.int .i64 (Ps.cn 5 xs:Nat),.int .i64 (Ps.cn 3 xs:Nat),.int .i64 (Ps.cn 4 xs:Nat),.int .i64 (Ps.cn 1 xs:Nat),.int .i64 (Ps.cn 2 xs:Nat),.int .i64 (xs.length:Nat)],.agg #[.int .i64 pa,.int .i64 pb]] w fun r w'=>(∃ x,r=.returned (.tuple #[.float .f64 x,.bool (GZ pa pb xs)]))/\Below w.heap.size w w':=by
 refine (CR _ _ _ _ _ _ pa pb w).mono ?_;rintro r w' ⟨rfl,hb⟩;exact ⟨⟨_,by rw [vd14 h]⟩,hb⟩
theorem vT {xs:List Nat}(h:j4 xs):j4 (Ps.fin xs):=fun x hx=>h x (List.mem_filter.1 hx).1
theorem mU {xs:List Nat}(h:j4 xs):∀ x ∈ Ps.fin xs,fZ x:=fun x hx=>by
 have hk:kd x<=2:=by simpa using (List.mem_filter.1 hx).2
 have hl:=h x (List.mem_filter.1 hx).1;show jf x<9218868437227405312;have em:jf x=x%9223372036854775808:=rfl;unfold kd at hk;rcases kJ (jf x) 9218868437227405312 with q|q
 · exact q
 · rcases Nat.eq_or_lt_of_le q with r | r
   · rw [if_neg (by omega),if_pos (by omega)] at hk;split at hk <;> omega
   · rw [if_pos (by omega)] at hk;omega
theorem kC {pa pb:Int}{xs:List Nat}(h:Ps.bO pa pb xs=0):(Ps.fin xs).length<=65536:=dC (Ps.GG xs) (qF h).2
theorem Eg {pa pb:Int}{xs:List Nat}(hW:j4 xs) (h:Ps.bO pa pb xs=0):rP (Ps.fin xs)=0:=by
 unfold rP;rw [if_neg (by have:=kC h;omega),if_pos ((iT _).2 (mU hW))]
end
section
open Go Go.RowKit J
open Go.Proofs.YteginbngplldaaaGreatDoor.B (aV aD)
attribute [local go_sem] aV aD
def cS (xs ys:List Nat):Int:=(xs.length:Int)*tS (fun i=>fX xs i*fX ys i) xs.length-sX xs*sX ys
noncomputable def lI (rd:Option (Bool×Nat×Int)->Option (Bool×Nat×Int)->Int->Nat×Int) (xs:List Nat) (less mode pa pb:Int):Nat×Int :=
 if qa mode&&lsB less then
  if Ps.bO pa pb xs=0 then
   if GZ pa pb xs then (9221120237041090560,0)
   else if ((Ps.fin xs).length:Int)<=less then (0,3)
   else rd (gV 2148 (cS (Ps.fin xs) (Ps.fin xs))) (gV 0 (((Ps.fin xs).length:Int)*(((Ps.fin xs).length:Int)-less))) mode
  else (0,Ps.bO pa pb xs)
 else (0,1)
theorem ll {xs ys:List Nat}(hx:j4 xs) (fx:∀ x ∈ xs,fZ x) (hy:j4 ys) (fy:∀ x ∈ ys,fZ x) (hl:xs.length<=65536) (he:xs.length=ys.length):Bd 4229 (cS xs ys):=by
 have bP:=pg (f:=fX xs) (g:=fX ys) (n:=xs.length) (fun i hi=>ib hx fx i hi) (fun i hi=>ib hy fy i (by omega)) hl xs.length (aA _);have b1:=iF hx fx hl xs.length (aA _);have b2:=iF hy fy (by omega) ys.length (aA _);exact Bd.sub (m:=4228) (((Bd.nat (k:=16) (n:=xs.length) (by omega)).mul bP).mono (by decide)) ((b1.mul b2).mono (by decide))
theorem r9 {n:Nat}{less:Int}(hn:n<=1099511627776) (h0:0<=less) (h1:less<=1):Bd 82 ((n:Int)*((n:Int)-less)) :=
 (Bd.mul (a:=41) (b:=41) (Bd.nat (by omega)) (by unfold Bd;omega))
theorem Qaw{P:Prop}(h:P:=by
 rw [<-hfl];exact ⟨vT HX.o.r2.1,mU HX.o.r2.1,kC nP.o,Eg HX.o.r2.1 nP.o⟩):P:=h
theorem xr{P:Prop}(h:P:=by
 go_wp2;exact aC (v:=.tuple #[.float .f64 X,.int .i64 E]) (by simp [results,Tryz.results36,go_sem]) rfl ⟨rfl,BF.o⟩):P:=h
theorem j9{P:Prop}(h:P:=by
 rw [hU,hgs];exact ⟨Bl.new _ 99 [_,_,_,_,_,_],B1.o.1.alloc _,B1.o.2.trans ((aG _ _).mono B1.o.2.size),(hF'.below (aG _ _)).mono (by simp)⟩):P:=h
theorem y6{P:Prop}(h:P:=by
 rw [hz] at this;exact this):P:=h
theorem yW{P:Prop}(h:P:=by
 rw [hV,qC];have b3:=B3.o.1.trans (hb.mono B3.o.1.size);exact ⟨Bl.new _ 62 [_,_,_,_],b3.trans ((aG _ _).mono b3.size),hD.below (aG _ _),hN.below (aG _ _)⟩):P:=h
theorem zc{P:Prop}(h:P:=by
 rw [iq];exact ⟨Bl.new _ 26 [_,_],aG _ _⟩):P:=h
theorem qs{P:Prop}(h:P:=by
 have hz:=HZ.o;rw [if_neg (by rw [nP.o];exact he),nP.o] at hz;obtain ⟨rfl,rfl⟩:=gJ hz;have BE:Aside (Below w.heap.size w (v.alloc (Obj.cells #[.int .i64 0,.int .i64 0,.int .i64 0,.int .i64 0,.int .i64 0,.int .i64 0] 99))):=B1.o.2.trans ((aG _ _).mono B1.o.2.size);clear hz HZ nP B1 he;go_wp2;exact aC (v:=.tuple #[.float .f64 0,.int .i64 es]) (by simp [results,Tryz.results36,go_sem]) rfl ⟨rfl,BE.o⟩):P:=h
theorem Kp{P:Prop}(h:P:=by
 have hR:Rr u (.agg #[.slice (some ⟨gA,0,none⟩) m m,.bool (dN oS),.slice p1 (ws (dX oS)).length q1,.int .i64 (dE oS)]) m (fun i=>gV 1074 (fX fl i)) (gV 1074 (sX fl)):=by
  rw [Ca.o];exact ⟨gA,p1,q1,rfl,B4.o.r2.1.below hu,by have:=B4.o.r3.below hu;rw [Ca.o] at this;exact this⟩
 have:=mP (f:=fX fl) (g:=fX fl) (S:=sX fl) (T:=sX fl) m6 (HX.o.r3.1.belows (B4.o.2.1.trans (hu.mono B4.o.2.1.size))) (fun i hi=>ib PF.o.1 PF.o.2.1 i (by rw [Eh.o];exact hi)) (fun i hi=>ib PF.o.1 PF.o.2.1 i (by rw [Eh.o];exact hi)) (iF PF.o.1 PF.o.2.1 PF.o.r2.1 _ (aA _)) (iF PF.o.1 PF.o.2.1 PF.o.r2.1 _ (aA _)) hR hR;rw [vU];unfold cS;rw [Eh.o];exact this):P:=h
theorem G5 (xs:List Nat) (a:Option Addr) (n c:Nat) (less mode pa pb:Int) (w:World) (hn:n=xs.length) (hF:Fs w.heap.size w a xs) (hW:j4 xs) (hT:dF w) (hl:n<=35184372088832) (z:Nat×Int) (hz:lI mR xs less mode pa pb=z) :
 Calls Tryz.prog 36 #[.slice a n c,.int .i64 less,.int .i64 mode,.agg #[.int .i64 pa,.int .i64 pb],.func (.func 37) #[] #[]] w fun r w'=>r=.returned (.tuple #[.float .f64 z.1,.int .i64 z.2])/\Below w.heap.size w w':=by
 obtain ⟨X,E⟩:=z;simp only;obtain ⟨W,iq⟩:=af (w.alloc (Obj.cells #[.int .i64 pa,.int .i64 pb] 26))
 have B0:Aside (Bl W w.heap.size 26 [.int .i64 pa,.int .i64 pb]/\Below w.heap.size w W):=by
  exact zc
 have ik:=ak iq;clear iq;unfold lI at hz
 cases hm:qa mode with
 | false =>
   rw [hm,nK,if_neg (by decide)] at hz;obtain ⟨rfl,rfl⟩:=gJ hz;clear hz hn hF hW hT;go_enter Tryz.func36,Tryz.ntmps36
   go_upto_region 1 with fail
   rw [<-ik.o];clear ik;have C:=hid (iQ mode W);rw [hm] at C;go_wp2_with fail;refine C.o.mono ?_;rintro r v ⟨rfl,hv⟩;rw [hv];clear hv v C;go_wp2;exact aC (v:=.tuple #[.float .f64 0,.int .i64 1]) (by simp [results,Tryz.results36,go_sem]) rfl ⟨rfl,B0.o.2⟩
 | true =>
 cases hs:lsB less with
 | false =>
   rw [hm,hs,nT,if_neg (by decide)] at hz;obtain ⟨rfl,rfl⟩:=gJ hz;clear hz hn hF hW hT;go_enter Tryz.func36,Tryz.ntmps36
   go_upto_region 1 with fail
   rw [<-ik.o];clear ik;have C:=hid (iQ mode W);rw [hm] at C;go_wp2_with fail;refine C.o.mono ?_;rintro r v ⟨rfl,hv⟩;rw [hv];clear hv v C;have C:=hid (mQ less W);rw [hs] at C;go_wp2_with fail;refine C.o.mono ?_;rintro r v ⟨rfl,hv⟩;rw [hv];clear hv v C;go_wp2;exact aC (v:=.tuple #[.float .f64 0,.int .i64 1]) (by simp [results,Tryz.results36,go_sem]) rfl ⟨rfl,B0.o.2⟩
 | true =>
   rw [hm,hs,nT,if_pos rfl] at hz;have HS:=hid (PW xs a n c pa pb W hn hl ((hF.below B0.o.2).mono B0.o.2.size) hW);have HX:=iM hn hF hW hT (zA hm) (xQ hs);have HZ:=ak hz;obtain ⟨es,hes⟩:∃ e,Ps.bO pa pb xs=e:=⟨_,rfl⟩;rw [hes] at HS;have nP:=ak hes;have p0:=B0.o.1.cell 0 _ rfl;have p1:=B0.o.1.cell 1 _ rfl;clear hz hn hF hW hT hl hes;go_enter Tryz.func36,Tryz.ntmps36
   go_upto_region 1 with fail
   rw [<-ik.o];clear ik;have C:=hid (iQ mode W);rw [hm] at C;go_wp2_with fail;refine C.o.mono ?_;rintro r v ⟨rfl,hv⟩;rw [hv];clear hv v C;have C:=hid (mQ less W);rw [hs] at C;go_wp2_with fail;refine C.o.mono ?_;rintro r v ⟨rfl,hv⟩;rw [hv];clear hv v C;go_wp2_with fail;refine HS.o.mono ?_;rintro r v ⟨hr,hb⟩;have B1:=(aK (B0.o.1.below hb B0.o.1.lt) (B0.o.2.trans (hb.mono B0.o.2.size)));clear hb HS p0 p1 B0;rcases hr with ⟨he,a',c',rfl⟩|⟨he,a',c',rfl,hF'⟩
   · have h1:(es==0)=false:=by simp [he]
     exact qs
   · subst he;have HV:=hid (fun u:World=>zB nP.o u);have hz:=HZ.o;rw [if_pos nP.o] at hz;obtain ⟨s5,hs5⟩:∃ s:Int,(Ps.cn 5 xs:Nat)=s:=⟨_,rfl⟩;obtain ⟨s3,hs3⟩:∃ s:Int,(Ps.cn 3 xs:Nat)=s:=⟨_,rfl⟩;obtain ⟨s4,hs4⟩:∃ s:Int,(Ps.cn 4 xs:Nat)=s:=⟨_,rfl⟩;obtain ⟨s1,hs1⟩:∃ s:Int,(Ps.cn 1 xs:Nat)=s:=⟨_,rfl⟩;obtain ⟨s2,hs2⟩:∃ s:Int,(Ps.cn 2 xs:Nat)=s:=⟨_,rfl⟩;obtain ⟨sl,hsl⟩:∃ s:Int,(xs.length:Nat)=s:=⟨_,rfl⟩;rw [hs5,hs3,hs4,hs1,hs2,hsl] at HV |-;clear hs5 hs3 hs4 hs1 hs2 hsl;obtain ⟨fl,hfl⟩:∃ f,Ps.fin xs=f:=⟨_,rfl⟩;rw [hfl] at hF' hz |-
     have PF:Aside (j4 fl/\(∀ x ∈ fl,fZ x)/\fl.length<=65536/\rP fl=0):=by
      exact Qaw
     obtain ⟨m,nQ⟩:∃ m,fl.length=m:=⟨_,rfl⟩;obtain ⟨U,hU⟩:=af (v.alloc (Obj.cells #[.int .i64 s5,.int .i64 s3,.int .i64 s4,.int .i64 s1,.int .i64 s2,.int .i64 sl] 99));obtain ⟨gs,hgs⟩:=af (v.heap.size)
     have B2:Aside (Bl U gs 99 [.int .i64 s5,.int .i64 s3,.int .i64 s4,.int .i64 s1,.int .i64 s2,.int .i64 sl]/\Bl U w.heap.size 26 [.int .i64 pa,.int .i64 pb]/\Below w.heap.size w U/\Fs U.heap.size U a' fl):=by
      exact j9
     rw [nQ] at hz |-;have Eh:=ak nQ;have HU:=(aK hU hgs);obtain ⟨cr,hcr⟩:∃ b,GZ pa pb xs=b:=⟨_,rfl⟩;rw [hcr] at HV hz;clear hU hgs hF' B1 hfl nP HZ nQ hcr
     go_upto_region 6 with fail
     rw [<-HU.o.1,<-HU.o.2];clear HU;have q0:=B2.o.1.cell 0 _ rfl;have q1:=B2.o.1.cell 1 _ rfl;have q2:=B2.o.1.cell 2 _ rfl;have q3:=B2.o.1.cell 3 _ rfl;have q4:=B2.o.1.cell 4 _ rfl;have q5:=B2.o.1.cell 5 _ rfl;have p0:=B2.o.2.1.cell 0 _ rfl;have p1:=B2.o.2.1.cell 1 _ rfl;go_wp2_with fail;refine (HV.o _).mono ?_;rintro r u ⟨⟨x,rfl⟩,hb⟩;have B3:=(aK (B2.o.r2.1.trans (hb.mono B2.o.r2.1.size)) ((B2.o.r3.below hb).mono hb.size));clear hb HV q0 q1 q2 q3 q4 q5 p0 p1 B2
     cases cr with
     | true =>
       rw [if_pos rfl] at hz;obtain ⟨rfl,rfl⟩:=gJ hz;clear hz PF Eh;go_wp2;exact aC (v:=.tuple #[.float .f64 9221120237041090560,.int .i64 0]) (by simp [results,Tryz.results36,go_sem]) rfl ⟨rfl,B3.o.1⟩
     | false =>
       rw [if_neg (by decide)] at hz;have HZ:=ak hz;have HE:=hid (rQ fl a' m c' u Eh.o.symm B3.o.2 PF.o.1 (HX.o.r3.1.belows B3.o.1) (by have:=PF.o.r2.1;have:=Eh.o;omega));rw [PF.o.r3] at HE;clear hz;go_wp2_with fail;refine HE.o.mono ?_;rintro r u2 ⟨hr,hb⟩;rcases hr with ⟨hr,_⟩|⟨_,v2,rfl,hR⟩
       · exact absurd rfl hr
       obtain ⟨gA,p1,q1,rfl,hD,hN⟩:=hR;obtain ⟨oS,xS⟩:=af (gV 1074 (sX fl));rw [<-xS] at hN |-;obtain ⟨V,hV⟩:=af (u2.alloc (Obj.cells #[.slice (some ⟨gA,0,none⟩) m m,.bool (dN oS),.slice p1 (ws (dX oS)).length q1,.int .i64 (dE oS)] 62));obtain ⟨g7,qC⟩:=af (u2.heap.size)
       have B4:Aside (Bl V g7 62 [.slice (some ⟨gA,0,none⟩) m m,.bool (dN oS),.slice p1 (ws (dX oS)).length q1,.int .i64 (dE oS)]/\Below w.heap.size w V/\Dr V gA m m (fun i=>gV 1074 (fX fl i))/\Nt 0 V (.slice p1 (ws (dX oS)).length q1) (dX oS)):=by
        exact yW
       have HV:=(aK hV qC);have Ca:=ak xS;clear hV qC hb hD hN HE B3 xS
       go_upto_region 10 with fail
       rw [<-HV.o.1,<-HV.o.2];clear HV;have s0:=B4.o.1.cell 0 _ rfl
       by_cases hle:(m:Int)<=less
       · have Xh:decide ((m:Int)<=less)=true:=decide_eq_true hle;have hz:=HZ.o;rw [if_pos hle] at hz;obtain ⟨rfl,rfl⟩:=gJ hz;clear hz HZ;go_wp2;exact aC (v:=.tuple #[.float .f64 0,.int .i64 3]) (by simp [results,Tryz.results36,go_sem]) rfl ⟨rfl,B4.o.2.1⟩
       · have Xh:decide ((m:Int)<=less)=false:=decide_eq_false hle;have hz:=HZ.o;rw [if_neg hle] at hz;have m6:m<=65536:=by have:=PF.o.r2.1;have:=Eh.o;omega
         have qb:0<=less/\less<=1:=by have:=HX.o.r5;omega
         obtain ⟨oV,vU⟩:=af (gV 2148 (cS fl fl));obtain ⟨oD,pE⟩:=af (gV 0 ((m:Int)*((m:Int)-less)));rw [<-vU,<-pE] at hz;have FV:Fm oV:=by rw [vU];exact bB (by decide) (by decide) (ll PF.o.1 PF.o.2.1 PF.o.1 PF.o.2.1 PF.o.r2.1 rfl)
         have FD:Fm oD:=by rw [pE];exact bB (by decide) (by decide) (r9 (by omega) qb.1 qb.2)
         have Vb:Hid (∀ u:World,Below V.heap.size V u->Calls Tryz.prog 41 #[.agg #[.slice (some ⟨gA,0,none⟩) m m,.bool (dN oS),.slice p1 (ws (dX oS)).length q1,.int .i64 (dE oS)],.agg #[.slice (some ⟨gA,0,none⟩) m m,.bool (dN oS),.slice p1 (ws (dX oS)).length q1,.int .i64 (dE oS)]] u fun r w'=>aQ 0 w' r oV/\Below u.heap.size u w'):=fun u hu=>by
          exact Kp
         have qo:Hid (∀ u:World,dF u->Calls Tryz.prog 46 #[.int .i64 (m:Nat),.int .i64 less] u fun r w'=>aQ 0 w' r oD/\Below u.heap.size u w'):=fun u hu=>by
          rw [pE];exact rZ m less u hu (by omega) qb.1 qb.2 (by omega)
         have HR:Hid (∀ (u:World) (a b:Option Addr) (ca cb:Nat),dF u->Nt 0 u (.slice a (ws (dX oV)).length ca) (dX oV)->Nt 0 u (.slice b (ws (dX oD)).length cb) (dX oD)->Calls Tryz.prog 37 #[.agg #[.bool (dN oV),.slice a (ws (dX oV)).length ca,.int .i64 (dE oV),.bool (dN oD),.slice b (ws (dX oD)).length cb,.int .i64 (dE oD)],.int .i64 mode] u fun r w'=>r=.returned (.tuple #[.float .f64 X,.int .i64 E])/\Below u.heap.size u w'):=fun u a b ca cb qm n1 n2=>by
          have:=GU mode FV FD n1 n2 qm;exact y6
         have FF:=(aK FV FD);have HT:=ak HX.o.r3.1;have hdr:=(aB V.heap.size V).drew;have BD:=(aK (B4.o.1.below hdr B4.o.1.lt) (B4.o.2.1.trans (hdr.mono B4.o.2.1.size)));have C1:=hid (Vb.o V.drew hdr);clear hz HZ vU pE FV FD hdr Eh m6 qb PF HX Vb;have kS:Aside (V.drew.cell? ⟨g7,0,none⟩=some (.slice (some ⟨gA,0,none⟩) m m)/\V.drew.cell? ⟨g7,1,none⟩=some (.bool (dN oS))/\V.drew.cell? ⟨g7,2,none⟩=some (.slice p1 (ws (dX oS)).length q1)/\V.drew.cell? ⟨g7,3,none⟩=some (.int .i64 (dE oS))):=⟨BD.o.1.cell 0 _ rfl,BD.o.1.cell 1 _ rfl,BD.o.1.cell 2 _ rfl,BD.o.1.cell 3 _ rfl⟩;go_wp2_with fail;clear s0 B4
         go_region_held3 (fun w'=>w'.cell? ⟨g7,0,none⟩=some (.slice (some ⟨gA,0,none⟩) m m)/\w'.cell? ⟨g7,1,none⟩=some (.bool (dN oS))/\w'.cell? ⟨g7,2,none⟩=some (.slice p1 (ws (dX oS)).length q1)/\w'.cell? ⟨g7,3,none⟩=some (.int .i64 (dE oS))) (with_reducible exact kS.o) (first
          | (go_at_call 41
             with_reducible refine C1.o.mono ?_
             rintro r u3 ⟨hd,hb⟩;obtain ⟨a3,c3,rfl,dV⟩:=hd.aH;have BD:=cK (BD.o.1.below hb BD.o.1.lt) (BD.o.2.trans (hb.mono BD.o.2.size)) dV;have kS:=ak (ji hb kS.o);have C2:=hid (qo.o u3 (HT.o.belows BD.o.2.1))
             clear hb hd dV C1)
          | (go_at_call 46
             with_reducible refine C2.o.mono ?_
             rintro r u4 ⟨hd,hb⟩;obtain ⟨a4,c4,rfl,iy⟩:=hd.aH;have BE:=cK (BD.o.2.1.trans (hb.mono BD.o.2.1.size)) (BD.o.r2.below hb) iy;have kS:=ak (ji hb kS.o);have C3:=hid (HR.o u4 a3 a4 c3 c4 (HT.o.belows BE.o.1) BE.o.2.1 BE.o.r2)
             clear hb hd iy C2)
          | (go_at_call 37
             with_reducible refine C3.o.mono ?_
             rintro r u5 ⟨rfl,hb⟩;have BF:=ak (BE.o.1.trans (hb.mono BE.o.1.size));have kS:=ak (ji hb kS.o)
             clear hb C3))
         exact xr
theorem Ei (xs:List Nat) (a:Option Addr) (n c:Nat) (less mode pa pb:Int) (w:World) (hn:n=xs.length) (hF:Fs w.heap.size w a xs) (hW:j4 xs) (hT:dF w) (hl:n<=35184372088832) (z:Nat×Int) (hz:lI mR xs less mode pa pb=z) :
 Calls Tryz.prog 10 #[.slice a n c,.int .i64 less,.int .i64 mode,.agg #[.int .i64 pa,.int .i64 pb]] w fun r w'=>r=.returned (.tuple #[.float .f64 z.1,.int .i64 z.2])/\Below w.heap.size w w':=by
 obtain ⟨W,iq⟩:=af (w.alloc (Obj.cells #[.int .i64 pa,.int .i64 pb] 26))
 have B0:Aside (Bl W w.heap.size 26 [.int .i64 pa,.int .i64 pb]/\Below w.heap.size w W):=by
  exact zc
 have C:=hid (G5 xs a n c less mode pa pb W hn ((hF.below B0.o.2).mono B0.o.2.size) hW (hT.belows B0.o.2) hl z hz);have ik:=ak iq;obtain ⟨X,E⟩:=z;clear iq hn hF hW hT hl hz;simp only at C |-;go_enter Tryz.func10,Tryz.ntmps10
 go_upto_region 1 with fail
 rw [<-ik.o];clear ik;have p0:=B0.o.1.cell 0 _ rfl;have p1:=B0.o.1.cell 1 _ rfl;go_wp2_with fail;refine C.o.mono ?_;rintro r v ⟨rfl,hb⟩;have B1:=ak (B0.o.2.trans (hb.mono B0.o.2.size));clear hb C p0 p1;go_wp2;exact aC (v:=.tuple #[.float .f64 X,.int .i64 E]) (by simp [results,Tryz.results10,go_sem]) rfl ⟨rfl,B1.o⟩
end
end Go.Proofs.YteginbngplldaaaGreatDoor
