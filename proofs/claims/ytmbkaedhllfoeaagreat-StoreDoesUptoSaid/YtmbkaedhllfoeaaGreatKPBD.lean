/-
  Texts of the proof, put together.
-/
import Derived.Deep.QuietTactic
import Derived.BigQuiet
import Derived.RangeFuncNested
import Derived.RangeFuncBound
import Derived.RangeFuncCalls
import Derived.RangeFuncLeaves
import Derived.RangeFuncBox
import Derived.Shelf.Abstract
import Derived.Shelf.RegionOpen
import Derived.WalkKit
import Derived.OwnWalkIn
import Derived.TacticsInMore
import Derived.LoopNIn
import Derived.LoopIn
import Derived.Test.YtmbkaedhllfoeaaGreatKPBA
import Derived.Test.YtmbkaedhllfoeaaGreatKPBB
import Derived.Test.YtmbkaedhllfoeaaGreatKPBC
import Derived.Test.YtmbkaedhllfoeaaGreatKPWr
set_option maxRecDepth 100000
set_option maxHeartbeats 4000000
set_option linter.unusedVariables false
namespace Go.Pg
open Go.Rst Go.Crc
end Go.Pg
namespace Go.Proofs.YtmbkaedhllfoeaaGreat
open Go.RowKit Go.Rst Go.Pg Go.Crc Go.Shelf
attribute [local go_sem] Oper.semAt_some
theorem yield_at{F:Fence}{n m:Nat}{P:Program}{o:Oper}{a:Act}{K:Act→World→Prop}{Q:Exit→Act→World→Prop}{l:Nat}{args:Array Value}{W:World}{R:Ending→World→Prop}(h:YieldAt F m P l args W R)
  (hk:∀fn tmps assign body,RoundIn F m P l fn tmps assign body W R→Oper.uponIn F n P o a K Q (.ok (.round l fn tmps assign body) W)):Oper.uponIn F n P o a K Q ((Instr.yield l args).run P W):=by
 obtain⟨fn,tmps,assign,body,hy,hr⟩:=h;rw[hy];exact hk _ _ _ _ hr
def PtrTo(W:World)(v:Value):Option Rw→Prop
 |none=>v= .pointer none
 |some r=>∃b off u,v= .pointer (some ⟨b,off,none⟩)∧b<W.heap.size∧W.cell? ⟨b,off,none⟩=some (.string r.1)∧W.cell? ⟨b,off+1,none⟩=some u∧RB W u r.2
def DK(w:World)(fv tv:Value)(X:World):Prop:=Below w.heap.size w X∧Boxed X (w.heap.size+1) 40 fv∧Boxed X (w.heap.size+1+1) 40 tv
theorem chCells_append(a b:List (Chg×Value)):chCells (a++b)=chCells a++chCells b:=by unfold chCells;rw[List.flatMap_append]
structure CS (w:World) (fv tv:Value) (cs:List Chg) (cv:Value) (X:World):Prop where
 bx:Boxed X w.heap.size 56 cv
 oc:OC 5 76 X w.heap.size cv cs
 dk:DK w fv tv X
open Go.RowKit Go.Rst Go.Crc Go.Shelf
attribute [local go_sem] Oper.semAt_some
theorem rb_cap{w:World}{A:Option Addr}{n c c':Nat}{l:List UInt8}(h:RB w (.slice A n c) l)(h1:n≤c')(h2:c'≤maxLen):RB w (.slice A n c') l:=by
 obtain⟨A',c0,he,h3,h4,h5⟩:=h;injection he with e1 e2 _;subst e1;subst e2;exact⟨A,c',rfl,h1,h2,h5⟩
abbrev Ck(bv:Value)(bl:List UInt8):Type:={x:Value×List UInt8 //(∀X,RB X bv bl→RB X x.1 x.2)∧x.2.length≤49}
def DC(bv:Value)(bl:List UInt8)(B:Nat)(X:World):Prop:=RB X bv bl∧Boxed X B 46 bv∧Boxed X (B+1) 3 (.int .i64 49)
def KeepsC(bv:Value)(bl:List UInt8)(B:Nat)(X Y:World):Prop:=DC bv bl B X→DC bv bl B Y
def chunkL(bl:List UInt8):List (List UInt8):=(List.range (ofL bl)).map (pcL bl)
theorem chunk_in(n:Nat)(bv:Value)(w:World)(h1:bv.oneCell'=true):
  CallsIn Fence.wide n Tryz.prog 77 #[bv,.int .i64 49] w fun e w'=>e= .returned (.func (.func 117) #[] #[.pointer (some ⟨w.heap.size,0,none⟩),.pointer (some ⟨w.heap.size+1,0,none⟩)])∧w'=(w.alloc (.cells #[bv] 46)).alloc (.cells #[.int .i64 49] 3):=by
 refine callsIn_of_wp Tryz.func77 rfl trivial ?_ rfl;simp only[Tryz.ntmps77,List.size_toArray,List.length_cons,List.length_nil,Nat.reduceAdd,Nat.reduceSub,Array.replicate_succ,Array.replicate_zero,List.push_toArray,List.append_toArray,List.nil_append,List.cons_append];gi_wp2;go_ret;exact⟨rfl,rfl⟩
theorem chunk_stops(n:Nat)(b off c L B:Nat)(bl:List UInt8)(W0:World)(hL:L=bl.length)(hD:DC (.slice (some ⟨b,off,none⟩) L c) bl B W0)(hl:L≤1000000000):
  SeqStopsK Fence.wide n Tryz.prog 117 #[.pointer (some ⟨B,0,none⟩),.pointer (some ⟨B+1,0,none⟩)] (fun x:Ck (.slice (some ⟨b,off,none⟩) L c) bl=>#[x.1.1]) (KeepsC (.slice (some ⟨b,off,none⟩) L c) bl B)
   (fun ys=>ys.map (·.1.2)=chunkL bl) (fun pre=>pre.map (·.1.2)<+:chunkL bl) (ofL bl+1) W0:=
 fun l J Jx W hW hJ hJx hY h0=>by
 have qO:DC (.slice (some ⟨b,off,none⟩) L c) bl B W:=⟨hD.1.below hW,(hW.block _ hD.2.1.lt).trans hD.2.1,(hW.block _ hD.2.2.lt).trans hD.2.2⟩
 have fw:L≤c∧(c:Int)≤9223372036854775807:=by
  obtain⟨A',c',he,h1,h2,_⟩:=hD.1;injection he with _ _ e3;unfold maxLen at h2;omega
 refine callsIn_of_wp Tryz.func117 rfl trivial ?_ rfl;simp only[Tryz.ntmps117,List.size_toArray,List.length_cons,List.length_nil,Nat.reduceAdd,Nat.reduceSub,Array.replicate_succ,Array.replicate_zero,List.push_toArray,List.append_toArray,List.nil_append,List.cons_append];have HY:=qH hY;have HJ:=qH hJ;have oI:=qH qO;obtain⟨of,hof⟩:∃of,of=ofL bl:=⟨_,rfl⟩
 have xa:of=(L+48)/49:=by rw[hof,hL];rfl
 rw[←hof] at HY;have cm:=qH hof;have HL:=qH hL;obtain⟨hc1,hc2⟩:=fw;clear hJ hJx hY hD qO hof hL;gi_wp2
 gi_loopw [4] (fun iv wr=>∃(pre:List (Ck (.slice (some ⟨b,off,none⟩) L c) bl)) (k:Nat),iv= .int .i64 ((49*k:Nat):Int)∧k≤of∧DC (.slice (some ⟨b,off,none⟩) L c) bl B wr∧J pre wr∧pre.map (·.1.2)=(List.range k).map (pcL bl))
  (fun iv _=>of*49-(intOf iv).toNat)
 case atStart=>exact⟨[],0,rfl,Nat.zero_le _,oI.out,h0,rfl⟩
 case round=>
  obtain⟨pre,k,rfl,hk,hd,hj,hm⟩:=hrel;have rm:=hd.2.1.cell;have qx:=hd.2.2.cell;by_cases hlt:k<of
  ·have hpl:pre.length=k:=by have h:=congrArg List.length hm;rw[List.length_map,List.length_map,List.length_range] at h;exact h
   obtain⟨q,hq⟩:∃q,q=49*k:=⟨_,rfl⟩
   rw[←hq];have FV:q<L:=by omega
   obtain⟨E,hE⟩:∃E,E=min 49 (L-q):=⟨_,rfl⟩
   have oJ:0<E:=by omega
   have yL:=fun j=>(show(wr.drewN j).cell? ⟨B,0,none⟩=_ from rm)
   have hB2':=fun j=>(show(wr.drewN j).cell? ⟨B+1,0,none⟩=_ from qx)
   have hpc:(pcL bl k).length=E:=by rw[pcL_length,←HL.out,←hq,hE]
   have hx1:∀Y,RB Y (.slice (some ⟨b,off,none⟩) L c) bl→RB Y (.slice (some ⟨b,off+q,none⟩) E E) (pcL bl k):=fun Y hY=>by
    rw[HL.out] at hY;have:=hY.cut (q:=q) (n:=E) (by rw[←HL.out];omega);have hp:(bl.drop q).take E=pcL bl k:=by
     unfold pcL;rw[←hq,hE,←List.take_take,List.take_of_length_le (l:=bl.drop q) (by rw[List.length_drop,←HL.out];omega)]
    rw[hp] at this;exact rb_cap this (Nat.le_refl _) (by unfold maxLen;omega)
   have hx2:(pcL bl k).length≤49:=by rw[hpc];omega
   let X0:Ck (.slice (some ⟨b,off,none⟩) L c) bl:=⟨(.slice (some ⟨b,off+q,none⟩) E E,pcL bl k),hx1,hx2⟩
   obtain⟨X,hX⟩:∃X:Ck (.slice (some ⟨b,off,none⟩) L c) bl,X=X0:=⟨X0,rfl⟩
   have hv1:X.1.1= .slice (some ⟨b,off+q,none⟩) E E:=by rw[hX]
   have hv2:X.1.2=pcL bl k:=by rw[hX]
   have qN:∀m,YieldAt Fence.wide (n-1) Tryz.prog l #[.slice (some ⟨b,off+q,none⟩) E E] (wr.drewN m) (fun e W'=>(e= .returned (.bool true)∧J (pre++ [X]) W'∧KeepsC (.slice (some ⟨b,off,none⟩) L c) bl B (wr.drewN m) W')∨(e= .returned (.bool false)∧Jx (pre++ [X]) W')):=fun m=>by
    have h:=HY.out pre X (wr.drewN m) (HJ.out pre wr (wr.drewN m) none hj (grown_none (bel_drewN wr m)) (fun r h=>by cases h)) (by omega);rw[hv1] at h;exact h
   have hdd:∀m,DC (.slice (some ⟨b,off,none⟩) L c) bl B (wr.drewN m):=fun m=>⟨hd.1,hd.2.1,hd.2.2⟩
   have dB:=qH qN;have HD:=qH hdd;have HM:=qH hm;have ln:=qH hv2;have HQ:=qH hq;have HE:=qH hE;have hmin:min 49 (L-q)=E:=hE.symm;have e1:(q:Int)<L:=by omega
   have e2:(0:Int)≤(q:Int):=by omega
   have e3:¬c=q:=by omega
   have e4:q+E≤c:=by omega
   have e5:q≤c:=by omega
   have e6:q+E≤L:=by omega
   clear qN hdd hd hm hj hX hv1 hv2 hpc hq hE hmin hx1 X0 hx2;gi_wp2;refine wpIn_wide.2 ?_;rcases Nat.lt_or_ge (L-q) 49 with hlt49|hge49
   ·have ny:E=L-q:=by have:=HE.out;omega
    go_quiet (fail)
    subst ny;gi_wp2_with (refine yield_at (dB.out _) ?_;intro fn tmps assign body fp)
    refine⟨fun h=>(by simp[Fence.wide] at h),fp.mono ?_⟩;rintro e W3 (⟨rfl,hJ3,hk3⟩|⟨rfl,hJx3⟩)
    ·have iC:=qH hJ3
     have l8:=qH (hk3 (HD.out _));have hb2:=(hk3 (HD.out _)).2.2.cell;clear hJ3 hk3;gi_wp2;go_roundw
     case rel=>exact⟨_,k+1,by have:=HQ.out;rw[show 49*(k+1)=q+49 by omega];go_num,by omega,l8.out,iC.out,by rw[List.map_append,HM.out,List.map_cons,List.map_nil,ln.out,List.range_succ,List.map_append];rfl⟩
     case measure=>have:=HQ.out;simp[intOf];omega
    ·have iD:=qH hJx3
     clear hJx3;gi_wp2;refine bodyPost_ret (results_none rfl _ _ _) rfl ?_;exact⟨⟨_,rfl⟩,.inr ⟨_,by
      rw[List.map_append,HM.out,List.map_cons,List.map_nil,ln.out];refine⟨((List.range (of-(k+1))).map fun j=>pcL bl (k+1+j)),?_⟩;unfold chunkL;rw[←cm.out]
      conv=>rhs;rw[show of=(k+1)+(of-(k+1)) by omega,List.range_add,List.map_append,List.range_succ,List.map_append,List.map_map]
      rfl,iD.out⟩⟩
   ·have ny:E=49:=by have:=HE.out;omega
    have hmm:min 49 (L-q)=49:=by omega
    go_quiet (fail)
    subst ny;gi_wp2_with (refine yield_at (dB.out _) ?_;intro fn tmps assign body fp)
    refine⟨fun h=>(by simp[Fence.wide] at h),fp.mono ?_⟩;rintro e W3 (⟨rfl,hJ3,hk3⟩|⟨rfl,hJx3⟩)
    ·have iC:=qH hJ3
     have l8:=qH (hk3 (HD.out _));have hb2:=(hk3 (HD.out _)).2.2.cell;clear hJ3 hk3;gi_wp2;go_roundw
     case rel=>exact⟨_,k+1,by have:=HQ.out;rw[show 49*(k+1)=q+49 by omega];go_num,by omega,l8.out,iC.out,by rw[List.map_append,HM.out,List.map_cons,List.map_nil,ln.out,List.range_succ,List.map_append];rfl⟩
     case measure=>have:=HQ.out;simp[intOf];omega
    ·have iD:=qH hJx3
     clear hJx3;gi_wp2;refine bodyPost_ret (results_none rfl _ _ _) rfl ?_;exact⟨⟨_,rfl⟩,.inr ⟨_,by
      rw[List.map_append,HM.out,List.map_cons,List.map_nil,ln.out];refine⟨((List.range (of-(k+1))).map fun j=>pcL bl (k+1+j)),?_⟩;unfold chunkL;rw[←cm.out]
      conv=>rhs;rw[show of=(k+1)+(of-(k+1)) by omega,List.range_add,List.map_append,List.range_succ,List.map_append,List.map_map]
      rfl,iD.out⟩⟩
  ·obtain rfl:k=of:=by omega
   have HM:=qH hm;have nC:=qH hj;have e1:¬((49*k:Nat):Int)<(L:Int):=by omega
   clear hm hj hd;gi_wp2
   go_end0
   exact⟨⟨_,rfl⟩,.inl ⟨_,by have h:=HM.out;rw[cm.out] at h;exact h,nC.out⟩⟩
theorem step_own3{P:Program}{w:World}{ops:Array Oper}{o:Oper}{a:Act}{K:Act→World→Prop}{Q:Exit→Act→World→Prop}{E:Prop}(hgd:o.guard=none)(s x:Operand)(t tx:TypeId)
  (ho:o.op= .call {callee:= .builtin .append,args:=#[s,x],argTypes:=#[t,tx]})
  (base:Nat) (e:TypeId) (z:Value) (size bytes:Nat) (ht:P.underlying t=some (.slice e)) (hinfo:(P.info? e).map (fun i=>(i.zero,i.size,i.bytes))=some (some z,size,bytes))
  (hzs:z.cells.size=size)
  {v:Value} {n:Nat} {xs:List Value} (hs:a.eval s=v) (hown:w.ownsRow base e size v n xs)
  {xv:Value} {m:Nat} {news:List Value} (hx:a.eval x=xv) (hsrc:Src P size tx xv m news w)
  (h63:n+m≤maxLen) (hbytes:(n+m)*bytes≤140737488355328) (hbase:base≤w.heap.size)
  (h:∀v' w',w'.ownsRow base e size v' (n+m) (xs++news)→w.grownBy w' v.ownBlock→(v'.ownBlock=v.ownBlock∨v'.ownBlock=some w.heap.size)→K (a.put o.dst v') w'):
  if Region.wanted o (yielded ops a.tmps)=true then Oper.wp P o a w K Q else E:=by
 have hw:Region.wanted o (yielded ops a.tmps)=true:=by simp[Region.wanted,hgd]
 rw[if_pos hw];obtain⟨i,hi,hz,hsz,hb⟩:=info_parts hinfo;exact wp_append_src s x t tx ho base e i z size bytes ht hi hz hsz hb hzs hs hown hx hsrc h63 hbytes hbase fun v' w' h1 h2 h3=>h v' w' h1 h2 h3
structure PK (w:World) (ep n of:Nat) (bv:Value) (bl:List UInt8) (B:Nat) (X:World):Prop where
 ow:X.ownsRow w.heap.size 5 1 bv bl.length (bvs bl)
 be:Boxed X w.heap.size 3 (.int .i64 ep)
 bn:Boxed X (w.heap.size+1) 3 (.int .i64 n)
 bc:Boxed X B 3 (.int .i64 of)
 b1:Boxed X (B+1+1) 46 bv
 b2:Boxed X (B+1+1+1) 3 (.int .i64 49)
 bl:Below w.heap.size w X
structure QS (w:World) (ep n of:Nat) (bv:Value) (bl:List UInt8) (B:Nat) (ss:List (List UInt8)) (sv:Value) (X:World):Prop where
 bs:Boxed X (B+1) 26 sv
 op:OP 5 46 X w.heap.size sv ss
 pk:PK w ep n of bv bl B X
 hB:w.heap.size≤B
 hne:∀g,sv.ownBlock=some g→g≠B+1+1
section
variable {w:World} {ep n of:Nat} {bv:Value} {bl:List UInt8} {B:Nat} {ss:List (List UInt8)} {sv:Value} {X Y:World}
theorem PK.kept{p:Nat→TypeId→Prop}(h:PK w ep n of bv bl B X)(hk:KX p X Y)(h5:∀g,p g 5)(h3:∀g,p g 3)(h23:p (B+1+1) 46)(hb:Below w.heap.size w Y):PK w ep n of bv bl B Y:=
 ⟨hk.own h.ow (fun _ _=>h5 _),hk.boxed (h3 _) h.be,hk.boxed (h3 _) h.bn,hk.boxed (h3 _) h.bc,hk.boxed h23 h.b1,hk.boxed (h3 _) h.b2,hb⟩
theorem PK.below(h:PK w ep n of bv bl B X)(hb:Below X.heap.size X Y):PK w ep n of bv bl B Y:=h.kept (KX.below (p:=fun _ _=>True) hb) (fun _=>trivial) (fun _=>trivial) trivial (h.bl.trans (hb.mono h.bl.size))
theorem PK.grown{row:Option Nat}(h:PK w ep n of bv bl B X)(hg:X.grownBy Y row)(hr:∀r,row=some r→w.heap.size≤r∧∃o:Obj,X.heap[r]? =some o∧o.isCells=false):PK w ep n of bv bl B Y:=
 h.kept (KX.of_grown (p:=fun _ _=>True) hg (fun r e=>(hr r e).2)) (fun _=>trivial) (fun _=>trivial) trivial (h.bl.trans ((Below.refl _ _).grown hg h.bl.size (fun r e=>(hr r e).1)))
theorem PK.dc{b c L:Nat}(h:PK w ep n of (.slice (some ⟨b,0,none⟩) L c) bl B X):DC (.slice (some ⟨b,0,none⟩) L c) bl (B+1+1) X:=⟨RB.own h.ow,h.b1,h.b2⟩
theorem QS.below(h:QS w ep n of bv bl B ss sv X)(hb:Below X.heap.size X Y):QS w ep n of bv bl B ss sv Y:=⟨(hb.block _ h.bs.lt).trans h.bs,h.op.below hb,h.pk.below hb,h.hB,h.hne⟩
theorem QS.grown{row:Option Nat}(h:QS w ep n of bv bl B ss sv X)(hg:X.grownBy Y row)(hr:∀r,row=some r→w.heap.size≤r∧∃o:Obj,X.heap[r]? =some o∧o.isCells=false):QS w ep n of bv bl B ss sv Y:=by
 have hk:KX (fun _ _=>True) X Y:=KX.of_grown hg (fun r e=>(hr r e).2);exact⟨hk.boxed trivial h.bs,hk.op (fun _=>trivial) (fun _=>trivial) h.op,h.pk.grown hg hr,h.hB,h.hne⟩
theorem QS.push(h:QS w ep n of bv bl B ss sv X){us:List (List UInt8×Value)}(ah:us.map (·.1)=ss)(ho:X.ownsRow w.heap.size 46 1 sv us.length (us.map (·.2)))(hf:∀x∈us,FB 5 X w.heap.size x.2 x.1)
  {tmp:Obj} {w1:World} {v' u:Value} {l:List UInt8} (hu:FB 5 X w.heap.size u l) (ho':w1.ownsRow w.heap.size 46 1 v' (us.length+1) (us.map (·.2)++ [u])) (hg:(X.alloc tmp).grownBy w1 sv.ownBlock) (hv':v'.ownBlock=sv.ownBlock∨v'.ownBlock=some (X.alloc tmp).heap.size):
  Boxed w1 (B+1) 26 sv∧PK w ep n of bv bl B w1∧QS w ep n of bv bl B (ss++ [l]) v' (w1.setCell ⟨B+1,0,none⟩ v')∧KeepsOthers X (w1.setCell ⟨B+1,0,none⟩ v'):=by
 have rm:w.heap.size≤B+1:=Nat.le_trans h.hB (Nat.le_succ _);obtain⟨hb1,hb2,hr,hko,ad⟩:=h.bs.appended (by decide) ho h.pk.bl.size rm ho' hg;have dC:=appended_kx h.bs (by decide) ho h.pk.bl.size rm ho' hg;have hk1:=appended_kx1 ho hg;have aj:Below w.heap.size X w1:=((Below.refl _ X).alloc h.pk.bl.size tmp).grown hg (Nat.le_trans h.pk.bl.size (by simp)) (fun k hk=>by
  rcases ho.2 with ⟨rfl,_⟩|⟨g,cap,cur,rfl,hbg,_⟩
  ·simp[Value.ownBlock] at hk
  ·obtain rfl:g=k:=by simpa [Value.ownBlock] using hk
   exact hbg)
 have J2:(some (B+1+1):Option Nat)≠sv.ownBlock:=fun e=>h.hne _ e.symm rfl
 have qx:Boxed w1 (B+1+1) 46 bv:=(h.pk.b1.alloc tmp).kept hg J2;have hlt:=h.pk.b1.lt;have IS:PK w ep n of bv bl B w1:=by
  have q5:∀g:Nat,((5:TypeId)≠46)∨g<w.heap.size:=fun _=> .inl (by decide)
  have q3:∀g:Nat,((3:TypeId)≠46)∨g<w.heap.size:=fun _=> .inl (by decide)
  exact⟨hk1.own h.pk.ow (fun _ _=>q5 _),hk1.boxed (q3 _) h.pk.be,hk1.boxed (q3 _) h.pk.bn,hk1.boxed (q3 _) h.pk.bc,qx,hk1.boxed (q3 _) h.pk.b2,h.pk.bl.trans aj⟩
 have h5:∀g:Nat,((5:TypeId)≠46∧(5:TypeId)≠26)∨g<w.heap.size:=fun _=> .inl (by decide)
 have h3:∀g:Nat,((3:TypeId)≠46∧(3:TypeId)≠26)∨g<w.heap.size:=fun _=> .inl (by decide)
 have Hb:PK w ep n of bv bl B (w1.setCell ⟨B+1,0,none⟩ v'):=
  ⟨dC.own h.pk.ow (fun _ _=>h5 _),dC.boxed (h3 _) h.pk.be,dC.boxed (h3 _) h.pk.bn,dC.boxed (h3 _) h.pk.bc,qx.other (by omega) v',dC.boxed (h3 _) h.pk.b2,h.pk.bl.trans ad⟩
 refine⟨hb1,IS,⟨hb2,⟨us++ [(l,u)],by rw[List.map_append,ah];rfl,?_,fun x hx=>?_⟩,Hb,h.hB,fun g hg'=>?_⟩,hko⟩
 ·rw[List.map_append,List.length_append]
  exact hr
 ·rcases List.mem_append.1 hx with hx|hx
  ·exact dC.fb h5 (hf x hx)
  ·simp at hx
   subst hx;exact dC.fb h5 hu
 ·rcases hv' with h'|h'
  ·exact h.hne g (h'.symm.trans hg')
  ·rw[h'] at hg'
   injection hg' with hg';rw[World.size_alloc] at hg';omega
end
attribute [local go_sem] Oper.semAt_some
def of64(b:List UInt8):Nat:=(b.length+63)/64
def pc64(b:List UInt8)(i:Nat):List UInt8:=(b.drop (64*i)).take 64
theorem pc64_length(b:List UInt8)(i:Nat):(pc64 b i).length=min 64 (b.length-64*i):=by unfold pc64;rw[List.length_take,List.length_drop]
abbrev Ck64(bv:Value)(bl:List UInt8):Type:={x:Value×List UInt8 //(∀X,RB X bv bl→RB X x.1 x.2)∧x.2.length≤64∧x.1.ownBlock=bv.ownBlock}
def DC64(bv:Value)(bl:List UInt8)(B:Nat)(X:World):Prop:=RB X bv bl∧Boxed X B 46 bv∧Boxed X (B+1) 3 (.int .i64 64)
def KeepsC64(bv:Value)(bl:List UInt8)(B:Nat)(X Y:World):Prop:=DC64 bv bl B X→DC64 bv bl B Y
def chunkL64(bl:List UInt8):List (List UInt8):=(List.range (of64 bl)).map (pc64 bl)
theorem chunk_in64(n:Nat)(bv:Value)(w:World)(h1:bv.oneCell'=true):
  CallsIn Fence.wide n Tryz.prog 77 #[bv,.int .i64 64] w fun e w'=>e= .returned (.func (.func 117) #[] #[.pointer (some ⟨w.heap.size,0,none⟩),.pointer (some ⟨w.heap.size+1,0,none⟩)])∧w'=(w.alloc (.cells #[bv] 46)).alloc (.cells #[.int .i64 64] 3):=by
 refine callsIn_of_wp Tryz.func77 rfl trivial ?_ rfl;simp only[Tryz.ntmps77,List.size_toArray,List.length_cons,List.length_nil,Nat.reduceAdd,Nat.reduceSub,Array.replicate_succ,Array.replicate_zero,List.push_toArray,List.append_toArray,List.nil_append,List.cons_append];gi_wp2;go_ret;exact⟨rfl,rfl⟩
theorem chunk_stops64(n:Nat)(b off c L B:Nat)(bl:List UInt8)(W0:World)(hL:L=bl.length)(hD:DC64 (.slice (some ⟨b,off,none⟩) L c) bl B W0)(hl:L≤1000000000):
  SeqStopsK Fence.wide n Tryz.prog 117 #[.pointer (some ⟨B,0,none⟩),.pointer (some ⟨B+1,0,none⟩)] (fun x:Ck64 (.slice (some ⟨b,off,none⟩) L c) bl=>#[x.1.1]) (KeepsC64 (.slice (some ⟨b,off,none⟩) L c) bl B)
   (fun ys=>ys.map (·.1.2)=chunkL64 bl) (fun pre=>pre.map (·.1.2)<+:chunkL64 bl) (of64 bl+1) W0:=
 fun l J Jx W hW hJ hJx hY h0=>by
 have qO:DC64 (.slice (some ⟨b,off,none⟩) L c) bl B W:=⟨hD.1.below hW,(hW.block _ hD.2.1.lt).trans hD.2.1,(hW.block _ hD.2.2.lt).trans hD.2.2⟩
 have fw:L≤c∧(c:Int)≤9223372036854775807:=by
  obtain⟨A',c',he,h1,h2,_⟩:=hD.1;injection he with _ _ e3;unfold maxLen at h2;omega
 refine callsIn_of_wp Tryz.func117 rfl trivial ?_ rfl;simp only[Tryz.ntmps117,List.size_toArray,List.length_cons,List.length_nil,Nat.reduceAdd,Nat.reduceSub,Array.replicate_succ,Array.replicate_zero,List.push_toArray,List.append_toArray,List.nil_append,List.cons_append];have HY:=qH hY;have HJ:=qH hJ;have oI:=qH qO;obtain⟨of,hof⟩:∃of,of=of64 bl:=⟨_,rfl⟩
 have xa:of=(L+63)/64:=by rw[hof,hL];rfl
 rw[←hof] at HY;have cm:=qH hof;have HL:=qH hL;obtain⟨hc1,hc2⟩:=fw;clear hJ hJx hY hD qO hof hL;gi_wp2
 gi_loopw [4] (fun iv wr=>∃(pre:List (Ck64 (.slice (some ⟨b,off,none⟩) L c) bl)) (k:Nat),iv= .int .i64 ((64*k:Nat):Int)∧k≤of∧DC64 (.slice (some ⟨b,off,none⟩) L c) bl B wr∧J pre wr∧pre.map (·.1.2)=(List.range k).map (pc64 bl))
  (fun iv _=>of*64-(intOf iv).toNat)
 case atStart=>exact⟨[],0,rfl,Nat.zero_le _,oI.out,h0,rfl⟩
 case round=>
  obtain⟨pre,k,rfl,hk,hd,hj,hm⟩:=hrel;have rm:=hd.2.1.cell;have qx:=hd.2.2.cell;by_cases hlt:k<of
  ·have hpl:pre.length=k:=by have h:=congrArg List.length hm;rw[List.length_map,List.length_map,List.length_range] at h;exact h
   obtain⟨q,hq⟩:∃q,q=64*k:=⟨_,rfl⟩
   rw[←hq];have FV:q<L:=by omega
   obtain⟨E,hE⟩:∃E,E=min 64 (L-q):=⟨_,rfl⟩
   have oJ:0<E:=by omega
   have yL:=fun j=>(show(wr.drewN j).cell? ⟨B,0,none⟩=_ from rm)
   have hB2':=fun j=>(show(wr.drewN j).cell? ⟨B+1,0,none⟩=_ from qx)
   have hpc:(pc64 bl k).length=E:=by rw[pc64_length,←HL.out,←hq,hE]
   have hx1:∀Y,RB Y (.slice (some ⟨b,off,none⟩) L c) bl→RB Y (.slice (some ⟨b,off+q,none⟩) E E) (pc64 bl k):=fun Y hY=>by
    rw[HL.out] at hY;have:=hY.cut (q:=q) (n:=E) (by rw[←HL.out];omega);have hp:(bl.drop q).take E=pc64 bl k:=by
     unfold pc64;rw[←hq,hE,←List.take_take,List.take_of_length_le (l:=bl.drop q) (by rw[List.length_drop,←HL.out];omega)]
    rw[hp] at this;exact rb_cap this (Nat.le_refl _) (by unfold maxLen;omega)
   have hx2:(pc64 bl k).length≤64:=by rw[hpc];omega
   let X0:Ck64 (.slice (some ⟨b,off,none⟩) L c) bl:=⟨(.slice (some ⟨b,off+q,none⟩) E E,pc64 bl k),hx1,hx2,rfl⟩
   obtain⟨X,hX⟩:∃X:Ck64 (.slice (some ⟨b,off,none⟩) L c) bl,X=X0:=⟨X0,rfl⟩
   have hv1:X.1.1= .slice (some ⟨b,off+q,none⟩) E E:=by rw[hX]
   have hv2:X.1.2=pc64 bl k:=by rw[hX]
   have qN:∀m,YieldAt Fence.wide (n-1) Tryz.prog l #[.slice (some ⟨b,off+q,none⟩) E E] (wr.drewN m) (fun e W'=>(e= .returned (.bool true)∧J (pre++ [X]) W'∧KeepsC64 (.slice (some ⟨b,off,none⟩) L c) bl B (wr.drewN m) W')∨(e= .returned (.bool false)∧Jx (pre++ [X]) W')):=fun m=>by
    have h:=HY.out pre X (wr.drewN m) (HJ.out pre wr (wr.drewN m) none hj (grown_none (bel_drewN wr m)) (fun r h=>by cases h)) (by omega);rw[hv1] at h;exact h
   have hdd:∀m,DC64 (.slice (some ⟨b,off,none⟩) L c) bl B (wr.drewN m):=fun m=>⟨hd.1,hd.2.1,hd.2.2⟩
   have dB:=qH qN;have HD:=qH hdd;have HM:=qH hm;have ln:=qH hv2;have HQ:=qH hq;have HE:=qH hE;have hmin:min 64 (L-q)=E:=hE.symm;have e1:(q:Int)<L:=by omega
   have e2:(0:Int)≤(q:Int):=by omega
   have e3:¬c=q:=by omega
   have e4:q+E≤c:=by omega
   have e5:q≤c:=by omega
   have e6:q+E≤L:=by omega
   clear qN hdd hd hm hj hX hv1 hv2 hpc hq hE hmin hx1 X0 hx2;gi_wp2;refine wpIn_wide.2 ?_;rcases Nat.lt_or_ge (L-q) 64 with hltm|hgem
   ·have ny:E=L-q:=by have:=HE.out;omega
    go_quiet (fail)
    subst ny;gi_wp2_with (refine yield_at (dB.out _) ?_;intro fn tmps assign body fp)
    refine⟨fun h=>(by simp[Fence.wide] at h),fp.mono ?_⟩;rintro e W3 (⟨rfl,hJ3,hk3⟩|⟨rfl,hJx3⟩)
    ·have iC:=qH hJ3
     have l8:=qH (hk3 (HD.out _));have hb2:=(hk3 (HD.out _)).2.2.cell;clear hJ3 hk3;gi_wp2;go_roundw
     case rel=>exact⟨_,k+1,by have:=HQ.out;rw[show 64*(k+1)=q+64 by omega];go_num,by omega,l8.out,iC.out,by rw[List.map_append,HM.out,List.map_cons,List.map_nil,ln.out,List.range_succ,List.map_append];rfl⟩
     case measure=>have:=HQ.out;simp[intOf];omega
    ·have iD:=qH hJx3
     clear hJx3;gi_wp2;refine bodyPost_ret (results_none rfl _ _ _) rfl ?_;exact⟨⟨_,rfl⟩,.inr ⟨_,by
      rw[List.map_append,HM.out,List.map_cons,List.map_nil,ln.out];refine⟨((List.range (of-(k+1))).map fun j=>pc64 bl (k+1+j)),?_⟩;unfold chunkL64;rw[←cm.out]
      conv=>rhs;rw[show of=(k+1)+(of-(k+1)) by omega,List.range_add,List.map_append,List.range_succ,List.map_append,List.map_map]
      rfl,iD.out⟩⟩
   ·have ny:E=64:=by have:=HE.out;omega
    have hmm:min 64 (L-q)=64:=by omega
    go_quiet (fail)
    subst ny;gi_wp2_with (refine yield_at (dB.out _) ?_;intro fn tmps assign body fp)
    refine⟨fun h=>(by simp[Fence.wide] at h),fp.mono ?_⟩;rintro e W3 (⟨rfl,hJ3,hk3⟩|⟨rfl,hJx3⟩)
    ·have iC:=qH hJ3
     have l8:=qH (hk3 (HD.out _));have hb2:=(hk3 (HD.out _)).2.2.cell;clear hJ3 hk3;gi_wp2;go_roundw
     case rel=>exact⟨_,k+1,by have:=HQ.out;rw[show 64*(k+1)=q+64 by omega];go_num,by omega,l8.out,iC.out,by rw[List.map_append,HM.out,List.map_cons,List.map_nil,ln.out,List.range_succ,List.map_append];rfl⟩
     case measure=>have:=HQ.out;simp[intOf];omega
    ·have iD:=qH hJx3
     clear hJx3;gi_wp2;refine bodyPost_ret (results_none rfl _ _ _) rfl ?_;exact⟨⟨_,rfl⟩,.inr ⟨_,by
      rw[List.map_append,HM.out,List.map_cons,List.map_nil,ln.out];refine⟨((List.range (of-(k+1))).map fun j=>pc64 bl (k+1+j)),?_⟩;unfold chunkL64;rw[←cm.out]
      conv=>rhs;rw[show of=(k+1)+(of-(k+1)) by omega,List.range_add,List.map_append,List.range_succ,List.map_append,List.map_map]
      rfl,iD.out⟩⟩
  ·obtain rfl:k=of:=by omega
   have HM:=qH hm;have nC:=qH hj;have e1:¬((64*k:Nat):Int)<(L:Int):=by omega
   clear hm hj hd;gi_wp2
   go_end0
   exact⟨⟨_,rfl⟩,.inl ⟨_,by have h:=HM.out;rw[cm.out] at h;exact h,nC.out⟩⟩
attribute [local go_sem] Oper.semAt_some
def of256(b:List UInt8):Nat:=(b.length+255)/256
def pc256(b:List UInt8)(i:Nat):List UInt8:=(b.drop (256*i)).take 256
theorem pc256_length(b:List UInt8)(i:Nat):(pc256 b i).length=min 256 (b.length-256*i):=by unfold pc256;rw[List.length_take,List.length_drop]
abbrev Ck256(bv:Value)(bl:List UInt8):Type:={x:Value×List UInt8 //(∀X,RB X bv bl→RB X x.1 x.2)∧x.2.length≤256∧x.1.ownBlock=bv.ownBlock}
def DC256(bv:Value)(bl:List UInt8)(B:Nat)(X:World):Prop:=RB X bv bl∧Boxed X B 46 bv∧Boxed X (B+1) 3 (.int .i64 256)
def KeepsC256(bv:Value)(bl:List UInt8)(B:Nat)(X Y:World):Prop:=DC256 bv bl B X→DC256 bv bl B Y
def chunkL256(bl:List UInt8):List (List UInt8):=(List.range (of256 bl)).map (pc256 bl)
theorem chunk_in256(n:Nat)(bv:Value)(w:World)(h1:bv.oneCell'=true):
  CallsIn Fence.wide n Tryz.prog 77 #[bv,.int .i64 256] w fun e w'=>e= .returned (.func (.func 117) #[] #[.pointer (some ⟨w.heap.size,0,none⟩),.pointer (some ⟨w.heap.size+1,0,none⟩)])∧w'=(w.alloc (.cells #[bv] 46)).alloc (.cells #[.int .i64 256] 3):=by
 refine callsIn_of_wp Tryz.func77 rfl trivial ?_ rfl;simp only[Tryz.ntmps77,List.size_toArray,List.length_cons,List.length_nil,Nat.reduceAdd,Nat.reduceSub,Array.replicate_succ,Array.replicate_zero,List.push_toArray,List.append_toArray,List.nil_append,List.cons_append];gi_wp2;go_ret;exact⟨rfl,rfl⟩
theorem chunk_stops256(n:Nat)(b off c L B:Nat)(bl:List UInt8)(W0:World)(hL:L=bl.length)(hD:DC256 (.slice (some ⟨b,off,none⟩) L c) bl B W0)(hl:L≤1000000000):
  SeqStopsK Fence.wide n Tryz.prog 117 #[.pointer (some ⟨B,0,none⟩),.pointer (some ⟨B+1,0,none⟩)] (fun x:Ck256 (.slice (some ⟨b,off,none⟩) L c) bl=>#[x.1.1]) (KeepsC256 (.slice (some ⟨b,off,none⟩) L c) bl B)
   (fun ys=>ys.map (·.1.2)=chunkL256 bl) (fun pre=>pre.map (·.1.2)<+:chunkL256 bl) (of256 bl+1) W0:=
 fun l J Jx W hW hJ hJx hY h0=>by
 have qO:DC256 (.slice (some ⟨b,off,none⟩) L c) bl B W:=⟨hD.1.below hW,(hW.block _ hD.2.1.lt).trans hD.2.1,(hW.block _ hD.2.2.lt).trans hD.2.2⟩
 have fw:L≤c∧(c:Int)≤9223372036854775807:=by
  obtain⟨A',c',he,h1,h2,_⟩:=hD.1;injection he with _ _ e3;unfold maxLen at h2;omega
 refine callsIn_of_wp Tryz.func117 rfl trivial ?_ rfl;simp only[Tryz.ntmps117,List.size_toArray,List.length_cons,List.length_nil,Nat.reduceAdd,Nat.reduceSub,Array.replicate_succ,Array.replicate_zero,List.push_toArray,List.append_toArray,List.nil_append,List.cons_append];have HY:=qH hY;have HJ:=qH hJ;have oI:=qH qO;obtain⟨of,hof⟩:∃of,of=of256 bl:=⟨_,rfl⟩
 have xa:of=(L+255)/256:=by rw[hof,hL];rfl
 rw[←hof] at HY;have cm:=qH hof;have HL:=qH hL;obtain⟨hc1,hc2⟩:=fw;clear hJ hJx hY hD qO hof hL;gi_wp2
 gi_loopw [4] (fun iv wr=>∃(pre:List (Ck256 (.slice (some ⟨b,off,none⟩) L c) bl)) (k:Nat),iv= .int .i64 ((256*k:Nat):Int)∧k≤of∧DC256 (.slice (some ⟨b,off,none⟩) L c) bl B wr∧J pre wr∧pre.map (·.1.2)=(List.range k).map (pc256 bl))
  (fun iv _=>of*256-(intOf iv).toNat)
 case atStart=>exact⟨[],0,rfl,Nat.zero_le _,oI.out,h0,rfl⟩
 case round=>
  obtain⟨pre,k,rfl,hk,hd,hj,hm⟩:=hrel;have rm:=hd.2.1.cell;have qx:=hd.2.2.cell;by_cases hlt:k<of
  ·have hpl:pre.length=k:=by have h:=congrArg List.length hm;rw[List.length_map,List.length_map,List.length_range] at h;exact h
   obtain⟨q,hq⟩:∃q,q=256*k:=⟨_,rfl⟩
   rw[←hq];have FV:q<L:=by omega
   obtain⟨E,hE⟩:∃E,E=min 256 (L-q):=⟨_,rfl⟩
   have oJ:0<E:=by omega
   have yL:=fun j=>(show(wr.drewN j).cell? ⟨B,0,none⟩=_ from rm)
   have hB2':=fun j=>(show(wr.drewN j).cell? ⟨B+1,0,none⟩=_ from qx)
   have hpc:(pc256 bl k).length=E:=by rw[pc256_length,←HL.out,←hq,hE]
   have hx1:∀Y,RB Y (.slice (some ⟨b,off,none⟩) L c) bl→RB Y (.slice (some ⟨b,off+q,none⟩) E E) (pc256 bl k):=fun Y hY=>by
    rw[HL.out] at hY;have:=hY.cut (q:=q) (n:=E) (by rw[←HL.out];omega);have hp:(bl.drop q).take E=pc256 bl k:=by
     unfold pc256;rw[←hq,hE,←List.take_take,List.take_of_length_le (l:=bl.drop q) (by rw[List.length_drop,←HL.out];omega)]
    rw[hp] at this;exact rb_cap this (Nat.le_refl _) (by unfold maxLen;omega)
   have hx2:(pc256 bl k).length≤256:=by rw[hpc];omega
   let X0:Ck256 (.slice (some ⟨b,off,none⟩) L c) bl:=⟨(.slice (some ⟨b,off+q,none⟩) E E,pc256 bl k),hx1,hx2,rfl⟩
   obtain⟨X,hX⟩:∃X:Ck256 (.slice (some ⟨b,off,none⟩) L c) bl,X=X0:=⟨X0,rfl⟩
   have hv1:X.1.1= .slice (some ⟨b,off+q,none⟩) E E:=by rw[hX]
   have hv2:X.1.2=pc256 bl k:=by rw[hX]
   have qN:∀m,YieldAt Fence.wide (n-1) Tryz.prog l #[.slice (some ⟨b,off+q,none⟩) E E] (wr.drewN m) (fun e W'=>(e= .returned (.bool true)∧J (pre++ [X]) W'∧KeepsC256 (.slice (some ⟨b,off,none⟩) L c) bl B (wr.drewN m) W')∨(e= .returned (.bool false)∧Jx (pre++ [X]) W')):=fun m=>by
    have h:=HY.out pre X (wr.drewN m) (HJ.out pre wr (wr.drewN m) none hj (grown_none (bel_drewN wr m)) (fun r h=>by cases h)) (by omega);rw[hv1] at h;exact h
   have hdd:∀m,DC256 (.slice (some ⟨b,off,none⟩) L c) bl B (wr.drewN m):=fun m=>⟨hd.1,hd.2.1,hd.2.2⟩
   have dB:=qH qN;have HD:=qH hdd;have HM:=qH hm;have ln:=qH hv2;have HQ:=qH hq;have HE:=qH hE;have hmin:min 256 (L-q)=E:=hE.symm;have e1:(q:Int)<L:=by omega
   have e2:(0:Int)≤(q:Int):=by omega
   have e3:¬c=q:=by omega
   have e4:q+E≤c:=by omega
   have e5:q≤c:=by omega
   have e6:q+E≤L:=by omega
   clear qN hdd hd hm hj hX hv1 hv2 hpc hq hE hmin hx1 X0 hx2;gi_wp2;refine wpIn_wide.2 ?_;rcases Nat.lt_or_ge (L-q) 256 with hltm|hgem
   ·have ny:E=L-q:=by have:=HE.out;omega
    go_quiet (fail)
    subst ny;gi_wp2_with (refine yield_at (dB.out _) ?_;intro fn tmps assign body fp)
    refine⟨fun h=>(by simp[Fence.wide] at h),fp.mono ?_⟩;rintro e W3 (⟨rfl,hJ3,hk3⟩|⟨rfl,hJx3⟩)
    ·have iC:=qH hJ3
     have l8:=qH (hk3 (HD.out _));have hb2:=(hk3 (HD.out _)).2.2.cell;clear hJ3 hk3;gi_wp2;go_roundw
     case rel=>exact⟨_,k+1,by have:=HQ.out;rw[show 256*(k+1)=q+256 by omega];go_num,by omega,l8.out,iC.out,by rw[List.map_append,HM.out,List.map_cons,List.map_nil,ln.out,List.range_succ,List.map_append];rfl⟩
     case measure=>have:=HQ.out;simp[intOf];omega
    ·have iD:=qH hJx3
     clear hJx3;gi_wp2;refine bodyPost_ret (results_none rfl _ _ _) rfl ?_;exact⟨⟨_,rfl⟩,.inr ⟨_,by
      rw[List.map_append,HM.out,List.map_cons,List.map_nil,ln.out];refine⟨((List.range (of-(k+1))).map fun j=>pc256 bl (k+1+j)),?_⟩;unfold chunkL256;rw[←cm.out]
      conv=>rhs;rw[show of=(k+1)+(of-(k+1)) by omega,List.range_add,List.map_append,List.range_succ,List.map_append,List.map_map]
      rfl,iD.out⟩⟩
   ·have ny:E=256:=by have:=HE.out;omega
    have hmm:min 256 (L-q)=256:=by omega
    go_quiet (fail)
    subst ny;gi_wp2_with (refine yield_at (dB.out _) ?_;intro fn tmps assign body fp)
    refine⟨fun h=>(by simp[Fence.wide] at h),fp.mono ?_⟩;rintro e W3 (⟨rfl,hJ3,hk3⟩|⟨rfl,hJx3⟩)
    ·have iC:=qH hJ3
     have l8:=qH (hk3 (HD.out _));have hb2:=(hk3 (HD.out _)).2.2.cell;clear hJ3 hk3;gi_wp2;go_roundw
     case rel=>exact⟨_,k+1,by have:=HQ.out;rw[show 256*(k+1)=q+256 by omega];go_num,by omega,l8.out,iC.out,by rw[List.map_append,HM.out,List.map_cons,List.map_nil,ln.out,List.range_succ,List.map_append];rfl⟩
     case measure=>have:=HQ.out;simp[intOf];omega
    ·have iD:=qH hJx3
     clear hJx3;gi_wp2;refine bodyPost_ret (results_none rfl _ _ _) rfl ?_;exact⟨⟨_,rfl⟩,.inr ⟨_,by
      rw[List.map_append,HM.out,List.map_cons,List.map_nil,ln.out];refine⟨((List.range (of-(k+1))).map fun j=>pc256 bl (k+1+j)),?_⟩;unfold chunkL256;rw[←cm.out]
      conv=>rhs;rw[show of=(k+1)+(of-(k+1)) by omega,List.range_add,List.map_append,List.range_succ,List.map_append,List.map_map]
      rfl,iD.out⟩⟩
  ·obtain rfl:k=of:=by omega
   have HM:=qH hm;have nC:=qH hj;have e1:¬((256*k:Nat):Int)<(L:Int):=by omega
   clear hm hj hd;gi_wp2
   go_end0
   exact⟨⟨_,rfl⟩,.inl ⟨_,by have h:=HM.out;rw[cm.out] at h;exact h,nC.out⟩⟩
open Go.RowKit Go.Rst Go.Pg Go.Crc Go.Shelf
attribute [local go_sem] Oper.semAt_some
abbrev Grp(lv:Value)(rest:List Rw):Type:={x:Value×List Rw // ∀W,RR W lv rest→RR W x.1 x.2}
def KeepsR(lv:Value)(rest:List Rw)(A B:World):Prop:=RR A lv rest→RR B lv rest
theorem rr_cut{X:World}{A:Option Addr}{c:Nat}{rs:List Rw}(h:RR X (.slice A rs.length c) rs){K:Nat}(hK:K≤rs.length):
  RR X (.slice (if c=K then A else Option.map (fun x=>x.add (K*2)) A) (rs.length-K) (c-K)) (rs.drop K):=by
 have hh:=h;obtain⟨A',c',he,h1,h2,h3⟩:=h;injection he with e1 _ e3;subst e1;subst e3;by_cases hd:rs.length≤K
 ·rw[List.drop_eq_nil_of_le hd,show rs.length-K=0 from by omega]
  exact rr_empty _ _ (by omega)
 ·have cj:¬c=K:=by omega
  rw[if_neg cj];rcases h3 with rfl|⟨b,off,rfl,hb,hc⟩
  ·simp at hd
  ·have:=rr_drop hh hK
   simp only[Option.map_some,Addr.add_lit];exact this
theorem groups_in(n:Nat)(A:Option Addr)(m c:Nat)(w:World):
  CallsIn Fence.wide n Tryz.prog 113 #[.slice A m c] w fun e w'=>e= .returned (.func (.func 146) #[] #[.pointer (some ⟨w.heap.size,0,none⟩)])∧w'=w.alloc (.cells #[.slice A m c] 40):=by
 refine callsIn_of_wp Tryz.func113 rfl trivial ?_ rfl;simp only[Tryz.ntmps113,List.size_toArray,List.length_cons,List.length_nil,Nat.reduceAdd,Nat.reduceSub,Array.replicate_succ,Array.replicate_zero,List.push_toArray,List.append_toArray,List.nil_append,List.cons_append];gi_wp2;go_ret;exact⟨rfl,rfl⟩
theorem groups_stops(n Bs:Nat)(lv:Value)(rest:List Rw)(w:World)(hBs:Bs<w.heap.size)(hc:w.cell? ⟨Bs,0,none⟩=some lv)(hR:RR w lv rest):
  SeqStopsK Fence.wide n Tryz.prog 146 #[.pointer (some ⟨Bs,0,none⟩)] (fun x:Grp lv rest=>#[x.1.1]) (KeepsR lv rest) (fun ys=>ys.map (·.1.2)=groupsL rest) (fun pre=>pre.map (·.1.2)<+:groupsL rest) (rest.length+1) w:=
 fun l J Jx W hW hJ hJx hY h0=>by
 have hc':=(hW.cell (p:=⟨Bs,0,none⟩) hBs).trans hc;have B3:=rr_below hR hW (Nat.le_refl _);obtain⟨A0,c0,hlv,hc0,GU⟩:=rr_shape B3;rw[hlv] at hc';refine callsIn_of_wp Tryz.func146 rfl trivial ?_ rfl;simp only[Tryz.ntmps146,List.size_toArray,List.length_cons,List.length_nil,Nat.reduceAdd,Nat.reduceSub,Array.replicate_succ,Array.replicate_zero,List.push_toArray,List.append_toArray,List.nil_append,List.cons_append];have HJ:=qH hJ;have HY:=qH hY;have rh:=qH B3;have EN:=qH hlv;clear hJ hJx hY B3 hlv hc hR hBs;gi_wp2
 gi_loopw [3] (fun lw wr=>∃(pre:List (Grp lv rest)) (rs:List Rw),(∀X,RR X lv rest→RR X lw rs)∧RR wr lv rest∧J pre wr∧pre.map (·.1.2)++groupsL rs=groupsL rest∧pre.length+rs.length≤rest.length) (fun lw _=>vlen lw)
 case atStart=>exact⟨[],rest,fun X h=>by rw[←EN.out];exact h,rh.out,h0,rfl,by simp⟩
 case round=>
  obtain⟨pre,rs,hsub,pR,hJs,qY,hlen⟩:=hrel;obtain⟨A1,c1,rfl,hlc,fw⟩:=rr_shape (hsub wr pR);have hfit:=fit_any _ rs wr (hsub wr pR);have hfl:=fitN_le rs;have hgl:=gsize_le rs;have hg:gsize rs=min (max (fitN rs) 1) rs.length:=rfl;obtain⟨F,hF⟩:∃F,F=fitN rs:=⟨_,rfl⟩
  rw[←hF] at hfit hfl hg;obtain⟨K,hK⟩:∃K,K=gsize rs:=⟨_,rfl⟩
  rw[←hK] at hgl hg;have HS:=qH hsub;have HK:=qH hK;have HP:=qH qY;have eE:=qH hfit;have HR:=qH pR;have nC:=qH hJs;clear hsub hK qY hfit pR hJs hF;by_cases fl:1≤F
  ·obtain rfl:K=F:=by omega
   clear hg;by_cases hend:rs.length≤K
   ·have HG:=qH (show groupsL rs= [rs.take K] by rw[HK.out];exact groupsL_end (by rw[←HK.out];exact hend))
    have hz:rs.length-K=0:=by omega
    clear HK;gi_wp2_with (refine⟨trivial,fun h=>(by simp[Fence.wide] at h),?_⟩;gi_at_call 147;refine(callsIn_wide.2 eE.out).mono ?_;rintro e w1 ⟨rfl,hb1⟩;have lk:=HJ.out pre wr w1 none nC.out (grown_none hb1) (fun r h=>by cases h);have lq:=rr_below HR.out hb1 (Nat.le_refl _);obtain⟨fn,tmps,assign,body,hy,fp⟩:=HY.out pre ⟨(.slice A1 K c1,rs.take K),fun X h=>rr_take (HS.out X h) (by omega)⟩ w1 lk (by omega);dsimp only at hy;have dB:=qH fp;have kj:=qH lq;clear fp lq lk hb1)
    refine⟨fun h=>(by simp[Fence.wide] at h),dB.out.mono ?_⟩;rintro e W3 (⟨rfl,hJ3,hk3⟩|⟨rfl,hJx3⟩)
    ·have iC:=qH hJ3
     have bO:=qH (hk3 kj.out);clear hJ3 hk3;gi_wp2
     all_goals
      refine bodyPost_ret (results_none rfl _ _ _) rfl ?_;exact⟨⟨_,rfl⟩,.inl ⟨_,by rw[List.map_append,←HP.out,HG.out];rfl,iC.out⟩⟩
    ·have iD:=qH hJx3
     clear hJx3;gi_wp2;refine bodyPost_ret (results_none rfl _ _ _) rfl ?_;exact⟨⟨_,rfl⟩,.inr ⟨_,by rw[List.map_append,←HP.out,HG.out];exact List.prefix_rfl,iD.out⟩⟩
   ·have HG:=qH (show groupsL rs=rs.take K::groupsL (rs.drop K) by rw[HK.out];exact groupsL_more (by rw[←HK.out];exact hend))
    have hz:((rs.length-K:Nat)==0)=false:=by rw[beq_eq_false_iff_ne];omega
    have hz':(((rs.length-K:Nat):Int)==0)=false:=by rw[beq_eq_false_iff_ne];omega
    clear HK;gi_wp2_with (refine⟨trivial,fun h=>(by simp[Fence.wide] at h),?_⟩;gi_at_call 147;refine(callsIn_wide.2 eE.out).mono ?_;rintro e w1 ⟨rfl,hb1⟩;have lk:=HJ.out pre wr w1 none nC.out (grown_none hb1) (fun r h=>by cases h);have lq:=rr_below HR.out hb1 (Nat.le_refl _);obtain⟨fn,tmps,assign,body,hy,fp⟩:=HY.out pre ⟨(.slice A1 K c1,rs.take K),fun X h=>rr_take (HS.out X h) (by omega)⟩ w1 lk (by omega);dsimp only at hy;have dB:=qH fp;have kj:=qH lq;clear fp lq lk hb1)
    refine⟨fun h=>(by simp[Fence.wide] at h),dB.out.mono ?_⟩;rintro e W3 (⟨rfl,hJ3,hk3⟩|⟨rfl,hJx3⟩)
    ·have iC:=qH hJ3
     have bO:=qH (hk3 kj.out);clear hJ3 hk3;gi_wp2;go_roundw
     case rel=>exact⟨_,rs.drop K,fun X h=>by
      have h5:=rr_cut (HS.out X h) (K:=K) (by omega);rw[if_neg (show ¬c1=K by omega)] at h5;first|exact h5|(rw[if_neg (show ¬c1=K by omega)];exact h5),bO.out,iC.out,by rw[List.map_append,←HP.out,HG.out,List.append_assoc];rfl,by rw[List.length_append,List.length_drop];simp;omega⟩
     case measure=>simp[vlen];omega
    ·have iD:=qH hJx3
     clear hJx3;gi_wp2;refine bodyPost_ret (results_none rfl _ _ _) rfl ?_;exact⟨⟨_,rfl⟩,.inr ⟨_,by rw[List.map_append,←HP.out,HG.out];exact List.prefix_append_right_inj _|>.2 ⟨_,rfl⟩,iD.out⟩⟩
  ·obtain rfl:F=0:=by omega
   by_cases hl0:rs.length=0
   ·obtain rfl:K=0:=by omega
    have HG:=qH (show groupsL rs= [rs.take 0] by rw[HK.out];exact groupsL_end (by rw[←HK.out];omega));clear HK hg;obtain rfl:rs= []:=List.eq_nil_of_length_eq_zero hl0;have vI:=qH (show Calls Tryz.prog 147 #[.slice A1 0 c1] wr fun e w'=>e= .returned (.int .i64 0)∧Below wr.heap.size wr w' from eE.out);clear eE hl0 hfl hgl;rw[List.length_nil] at hlen hlc⊢;gi_wp2_with (refine⟨trivial,fun h=>(by simp[Fence.wide] at h),?_⟩;gi_at_call 147;refine(callsIn_wide.2 vI.out).mono ?_;rintro e w1 ⟨rfl,hb1⟩;have lk:=HJ.out pre wr w1 none nC.out (grown_none hb1) (fun r h=>by cases h);have lq:=rr_below HR.out hb1 (Nat.le_refl _);obtain⟨fn,tmps,assign,body,hy,fp⟩:=HY.out pre ⟨(.slice A1 0 c1,([]:List Rw).take 0),fun X h=>rr_take (HS.out X h) (Nat.le_refl _)⟩ w1 lk (by omega);dsimp only at hy;have dB:=qH fp;have kj:=qH lq;clear fp lq lk hb1)
    refine⟨fun h=>(by simp[Fence.wide] at h),dB.out.mono ?_⟩;rintro e W3 (⟨rfl,hJ3,hk3⟩|⟨rfl,hJx3⟩)
    ·have iC:=qH hJ3
     have bO:=qH (hk3 kj.out);clear hJ3 hk3;gi_wp2
     all_goals
      refine bodyPost_ret (results_none rfl _ _ _) rfl ?_;exact⟨⟨_,rfl⟩,.inl ⟨_,by rw[List.map_append,←HP.out,HG.out];rfl,iC.out⟩⟩
    ·have iD:=qH hJx3
     clear hJx3;gi_wp2;refine bodyPost_ret (results_none rfl _ _ _) rfl ?_;exact⟨⟨_,rfl⟩,.inr ⟨_,by rw[List.map_append,←HP.out,HG.out];exact List.prefix_rfl,iD.out⟩⟩
   ·obtain rfl:K=1:=by omega
    have Bd:1≤rs.length:=by omega
    have hc1:1≤c1:=by omega
    clear hg;by_cases hend:rs.length≤1
    ·have HG:=qH (show groupsL rs= [rs.take 1] by rw[HK.out];exact groupsL_end (by rw[←HK.out];exact hend))
     have hz:rs.length-1=0:=by omega
     clear HK;gi_wp2_with (refine⟨trivial,fun h=>(by simp[Fence.wide] at h),?_⟩;gi_at_call 147;refine(callsIn_wide.2 eE.out).mono ?_;rintro e w1 ⟨rfl,hb1⟩;have lk:=HJ.out pre wr w1 none nC.out (grown_none hb1) (fun r h=>by cases h);have lq:=rr_below HR.out hb1 (Nat.le_refl _);obtain⟨fn,tmps,assign,body,hy,fp⟩:=HY.out pre ⟨(.slice A1 1 c1,rs.take 1),fun X h=>rr_take (HS.out X h) (by omega)⟩ w1 lk (by omega);dsimp only at hy;have dB:=qH fp;have kj:=qH lq;clear fp lq lk hb1)
     refine⟨fun h=>(by simp[Fence.wide] at h),dB.out.mono ?_⟩;rintro e W3 (⟨rfl,hJ3,hk3⟩|⟨rfl,hJx3⟩)
     ·have iC:=qH hJ3
      have bO:=qH (hk3 kj.out);clear hJ3 hk3;gi_wp2
      all_goals
       refine bodyPost_ret (results_none rfl _ _ _) rfl ?_;exact⟨⟨_,rfl⟩,.inl ⟨_,by rw[List.map_append,←HP.out,HG.out];rfl,iC.out⟩⟩
     ·have iD:=qH hJx3
      clear hJx3;gi_wp2;refine bodyPost_ret (results_none rfl _ _ _) rfl ?_;exact⟨⟨_,rfl⟩,.inr ⟨_,by rw[List.map_append,←HP.out,HG.out];exact List.prefix_rfl,iD.out⟩⟩
    ·have HG:=qH (show groupsL rs=rs.take 1::groupsL (rs.drop 1) by rw[HK.out];exact groupsL_more (by rw[←HK.out];exact hend))
     have hz':(((rs.length-1:Nat):Int)==0)=false:=by rw[beq_eq_false_iff_ne];omega
     clear HK;gi_wp2_with (refine⟨trivial,fun h=>(by simp[Fence.wide] at h),?_⟩;gi_at_call 147;refine(callsIn_wide.2 eE.out).mono ?_;rintro e w1 ⟨rfl,hb1⟩;have lk:=HJ.out pre wr w1 none nC.out (grown_none hb1) (fun r h=>by cases h);have lq:=rr_below HR.out hb1 (Nat.le_refl _);obtain⟨fn,tmps,assign,body,hy,fp⟩:=HY.out pre ⟨(.slice A1 1 c1,rs.take 1),fun X h=>rr_take (HS.out X h) (by omega)⟩ w1 lk (by omega);dsimp only at hy;have dB:=qH fp;have kj:=qH lq;clear fp lq lk hb1)
     refine⟨fun h=>(by simp[Fence.wide] at h),dB.out.mono ?_⟩;rintro e W3 (⟨rfl,hJ3,hk3⟩|⟨rfl,hJx3⟩)
     ·have iC:=qH hJ3
      have bO:=qH (hk3 kj.out);clear hJ3 hk3;gi_wp2;go_roundw
      case rel=>exact⟨_,rs.drop 1,fun X h=>by
      have h5:=rr_cut (HS.out X h) (K:=1) (by omega);rw[if_neg (show ¬c1=1 by omega)] at h5;first|exact h5|(rw[if_neg (show ¬c1=1 by omega)];exact h5),bO.out,iC.out,by rw[List.map_append,←HP.out,HG.out,List.append_assoc];rfl,by rw[List.length_append,List.length_drop];simp;omega⟩
      case measure=>simp[vlen];omega
     ·have iD:=qH hJx3
      clear hJx3;gi_wp2;refine bodyPost_ret (results_none rfl _ _ _) rfl ?_;exact⟨⟨_,rfl⟩,.inr ⟨_,by rw[List.map_append,←HP.out,HG.out];exact List.prefix_append_right_inj _|>.2 ⟨_,rfl⟩,iD.out⟩⟩
end Go.Proofs.YtmbkaedhllfoeaaGreat
