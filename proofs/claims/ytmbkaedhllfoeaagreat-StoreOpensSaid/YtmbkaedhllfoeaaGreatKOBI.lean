/-
  Texts of the proof, put together.
-/
import Derived.OrdersHeld
import Derived.Test.YtmbkaedhllfoeaaGreatKOBD
import Derived.Test.YtmbkaedhllfoeaaGreatKOBG
import Derived.Test.YtmbkaedhllfoeaaGreatKOBH
import Derived.Test.YtmbkaedhllfoeaaGreatKOWr
set_option maxRecDepth 100000
set_option maxHeartbeats 4000000
set_option linter.unusedVariables false
namespace Go.Proofs.YtmbkaedhllfoeaaGreat
open Go.RowKit Go.Rst Go.Crc Go.Shelf
attribute [local go_sem] Oper.semAt_some
def secX(ep n of:Nat)(ps:List (List UInt8)):List (List UInt8):=ps.zipIdx.map fun x=>partL ep n x.2 of x.1
theorem secX_snoc(ep n of:Nat)(ps:List (List UInt8))(p:List UInt8):secX ep n of (ps++ [p])=secX ep n of ps++ [partL ep n ps.length of p]:=by
 unfold secX;rw[List.zipIdx_append,List.map_append];simp
theorem secX_len(ep n of:Nat)(ps:List (List UInt8)):(secX ep n of ps).length=ps.length:=by simp[secX]
theorem secX_chunks(ep n:Nat)(bl:List UInt8):secX ep n (ofL bl) (chunkL bl)=secL ep n bl (ofL bl):=by
 unfold chunkL;have:∀k,secX ep n (ofL bl) ((List.range k).map (pcL bl))=secL ep n bl k:=by
  intro k
  induction k with
  |zero=>rfl
  |succ k ih=>rw[List.range_succ,List.map_append,List.map_cons,List.map_nil,secX_snoc,ih,secL_succ,List.length_map,List.length_range]
 exact this _
theorem leaveP{W:World}{tmps:Array Value}{a b:Value}(h2:tmps.getD 6 undef=a)(h3:tmps.getD 7 undef=b):(results Tryz.f66 tmps).run Tryz.prog W= .ok (.tuple #[a,b]) W:=by
 subst h2;subst h3;exact results_tmp2 rfl _ _ _
theorem rb_kept{A B:World}{row:Option Nat}{v:Value}{l:List UInt8}(h:RB A v l)(hg:A.grownBy B row)(hr:∀r,row=some r→∃o:Obj,A.heap[r]? =some o∧o.isCells=false):RB B v l:=by
 obtain⟨A',c,rfl,h1,h2,h3⟩:=h;refine⟨A',c,rfl,h1,h2,h3.imp id fun h=>?_⟩;obtain⟨b,off,rfl,hb,hc⟩:=h;exact⟨b,off,rfl,Nat.lt_of_lt_of_le hb hg.size,fun j hj=>cell_kept (hc j hj) hg hr⟩
theorem rc_below{w w':World}{B:Nat}{v:Value}{rs:List Chg}(h:RC w v rs)(hb:Below B w w')(hB:w.heap.size≤B):RC w' v rs:=by
 obtain⟨A,c,rfl,h1,h2,h3⟩:=h;refine⟨A,c,rfl,h1,h2,h3.imp id fun h=>?_⟩;obtain⟨b,off,rfl,hb0,hc⟩:=h;refine⟨b,off,rfl,Nat.lt_of_lt_of_le hb0 hb.size,fun j hj=>?_⟩;obtain⟨a1,⟨u,a2,a3⟩,a4⟩:=hc j hj;exact⟨(hb.cell (p:=⟨b,off+j*3,none⟩) (by show b<B;omega)).trans a1,⟨u,(hb.cell (p:=⟨b,off+j*3+1,none⟩) (by show b<B;omega)).trans a2,a3.below (hb.mono hB)⟩,(hb.cell (p:=⟨b,off+j*3+2,none⟩) (by show b<B;omega)).trans a4⟩
theorem parts_any(epoch num:Int)(v:Value)(cs:List Chg)(w:World)(hv:RC w v cs)(hbig:(chgsB cs).length≤100000000)(hn:cs.length≤100000000)(hvb:∀r∈cs,r.2.1.length≤1000000000):
  Calls Tryz.prog 66 #[.int .i64 epoch,.int .i64 num,v] w (GivesPt w (partsL epoch num cs)):=by
 have HC:=qH (fun X (h:RC X v cs)=>changes_any v cs (by omega) (by omega) hvb X h);have HV:=qH hv;obtain⟨Av,cv,rfl,J7,tU,_⟩:=hv;unfold maxLen at tU;have hP:partsL epoch num cs=if epoch<0∨1073741824<epoch∨num<0∨1073741824<num then ([],false)
  else if 200<ofL (chgsL cs) then ([],false) else (secL epoch.toNat num.toNat (chgsL cs) (ofL (chgsL cs)),true):=rfl
 have hbl:(chgsL cs).length≤100000010:=by
  have:=numL_len8 (n:=cs.length) (by omega);unfold chgsL;rw[List.length_append];omega
 have mz:=chgsL_pos cs;generalize chgsL cs=bl at *;generalize partsL epoch num cs=R at *;clear hvb hbig;refine(callsIn_wide (n:=3)).1 ?_;refine callsIn_of_wp_marks Tryz.func66 rfl trivial ?_ rfl;simp only[Tryz.ntmps66,List.size_toArray,List.length_cons,List.length_nil,Nat.reduceAdd,Nat.reduceSub,Array.replicate_succ,Array.replicate_zero,List.push_toArray,List.append_toArray,List.nil_append,List.cons_append];have hb2:Below w.heap.size w ((w.alloc (.cells #[.int .i64 epoch] 3)).alloc (.cells #[.int .i64 num] 3)):=((Below.refl _ _).alloc (Nat.le_refl _) _).alloc (by simp) _;have ae:=qH hb2;clear hb2;by_cases h1:0≤epoch∧epoch≤1073741824
 ·by_cases h2:0≤num∧num≤1073741824
  ·have d1:decide (0≤epoch∧epoch≤1073741824)=true:=by simp[h1]
   have d2:decide (0≤num∧num≤1073741824)=true:=by simp[h2]
   rw[if_neg (by omega)] at hP;obtain⟨ep,rfl⟩:=Int.eq_ofNat_of_zero_le h1.1;obtain⟨n,rfl⟩:=Int.eq_ofNat_of_zero_le h2.1;simp only[Int.toNat_natCast] at hP;obtain⟨L,hL⟩:∃L,L=bl.length:=⟨_,rfl⟩
   obtain⟨of,hof⟩:∃of,of=ofL bl:=⟨_,rfl⟩
   rw[←hof] at hP;have ml:((L:Int)+48)/49=of:=by rw[hof,hL];unfold ofL;omega
   have oy:((L:Int)+48).tdiv 49=of:=by rw[Int.tdiv_eq_ediv_of_nonneg (by omega)];exact ml
   have IH:((L:Int)+49-1)/49=of:=by rw[show(L:Int)+49-1=(L:Int)+48 by omega];exact ml
   have MQ:L≤100000010:=by omega
   have HL:=qH hL;have b8:=qH hof;have HP:=qH hP;have mq:=qH mz;clear hP hL hof mz hbl;by_cases hbig:200<of
   ·have j5:=qH (show R=([],false) by rw[HP.out,if_pos hbig])
    have cI:(200:Int)<(of:Int):=by omega
    clear HP;gi_wp2_with (first|(gi_at_call 108;refine(callsIn_wide.2 (counts_any _ _)).mono ?_;rintro e w2 ⟨rfl,rfl⟩)|(gi_at_call 109;refine(callsIn_wide.2 (HC.out _ (rc_below HV.out ae.out (Nat.le_refl _)))).mono ?_;rintro e w2 ⟨v2,rfl,aP,hb2⟩;obtain⟨b,c,rfl⟩:=ownsRow_succ (k:=bl.length-1) (by rw[Nat.sub_add_cancel mq.out];exact aP);rw[Nat.sub_add_cancel mq.out] at aP⊢;have fR:=qH aP;have bX:=qH hb2;clear aP hb2;rw[←HL.out] at fR⊢)|(gi_at_call 77;refine(chunk_in _ _ _ rfl).mono ?_;rintro e w3 ⟨rfl,rfl⟩)|(refine⟨(show Fence.wide.fn _ from trivial),?_⟩))
    have bk:((w.alloc (.cells #[.int .i64 ep] 3)).alloc (.cells #[.int .i64 n] 3)).heap.size=w.heap.size+2:=by simp
    have ai:=ae.out.trans (bX.out.mono (by rw[bk];omega));exact⟨_,leaveP rfl rfl,GivesPt.none j5.out (ai.alloc ai.size _)⟩
   ·have j5:=qH (show R=(secL ep n bl of,true) by rw[HP.out,if_neg hbig])
    have cI:¬(200:Int)<(of:Int):=by omega
    clear HP;gi_wp2_with (first|(gi_at_call 108;refine(callsIn_wide.2 (counts_any _ _)).mono ?_;rintro e w2 ⟨rfl,rfl⟩)|(gi_at_call 109;refine(callsIn_wide.2 (HC.out _ (rc_below HV.out ae.out (Nat.le_refl _)))).mono ?_;rintro e w2 ⟨v2,rfl,aP,hb2⟩;obtain⟨b,c,rfl⟩:=ownsRow_succ (k:=bl.length-1) (by rw[Nat.sub_add_cancel mq.out];exact aP);rw[Nat.sub_add_cancel mq.out] at aP⊢;have fR:=qH aP;have bX:=qH hb2;clear aP hb2;rw[←HL.out] at fR⊢)|(gi_at_call 77;refine(chunk_in _ _ _ rfl).mono ?_;rintro e w3 ⟨rfl,rfl⟩)|(refine⟨(show Fence.wide.fn _ from trivial),?_⟩))
    have vW:=fR.out;have bk:((w.alloc (.cells #[.int .i64 ep] 3)).alloc (.cells #[.int .i64 n] 3)).heap.size=w.heap.size+2:=by simp
    have ai:=ae.out.trans (bX.out.mono (by rw[bk];omega));obtain⟨B,qb⟩:∃B,B=w2.heap.size:=⟨_,rfl⟩
    have jc:w.heap.size+2≤B:=by rw[qb,←bk];exact bX.out.size
    have b4:Below w2.heap.size w2 ((((w2.alloc (.cells #[.int .i64 of] 3)).alloc (.cells #[.slice none 0 0] 26)).alloc (.cells #[.slice (some ⟨b,0,none⟩) L c] 46)).alloc (.cells #[.int .i64 49] 3)):=((((Below.refl _ _).alloc (Nat.le_refl _) _).alloc (by simp) _).alloc (by simp;omega) _).alloc (by simp;omega) _;have x0:Boxed ((w.alloc (.cells #[.int .i64 ep] 3)).alloc (.cells #[.int .i64 n] 3)) w.heap.size 3 (.int .i64 ep):=(Boxed.new w _ _).alloc _;have x1:Boxed ((w.alloc (.cells #[.int .i64 ep] 3)).alloc (.cells #[.int .i64 n] 3)) (w.heap.size+1) 3 (.int .i64 n):=by
     have:=Boxed.new (w.alloc (.cells #[.int .i64 ep] 3)) 3 (.int .i64 n);rw[World.size_alloc] at this;exact this
    have x2:=Boxed.new w2 3 (.int .i64 of);have x3:=Boxed.new (w2.alloc (.cells #[.int .i64 of] 3)) 26 (.slice none 0 0);have x4:=Boxed.new ((w2.alloc (.cells #[.int .i64 of] 3)).alloc (.cells #[.slice none 0 0] 26)) 46 (.slice (some ⟨b,0,none⟩) L c);have x5:=Boxed.new (((w2.alloc (.cells #[.int .i64 of] 3)).alloc (.cells #[.slice none 0 0] 26)).alloc (.cells #[.slice (some ⟨b,0,none⟩) L c] 46)) 3 (.int .i64 49);simp only[World.size_alloc] at x3 x4 x5;have hq0:QS w ep n of (.slice (some ⟨b,0,none⟩) L c) bl B [] (.slice none 0 0) ((((w2.alloc (.cells #[.int .i64 of] 3)).alloc (.cells #[.slice none 0 0] 26)).alloc (.cells #[.slice (some ⟨b,0,none⟩) L c] 46)).alloc (.cells #[.int .i64 49] 3)):=by
     rw[qb];refine⟨(x3.alloc _).alloc _,OP.nil_ _ _ _ _,⟨?_,?_,?_,((x2.alloc _).alloc _).alloc _,x4.alloc _,x5,ai.trans (b4.mono ai.size)⟩,ai.size,fun g hg=>by simp[Value.ownBlock] at hg⟩
     ·have h:=own_below (own_base vW (base':=w.heap.size) (by rw[bk];omega)) b4
      rw[←HL.out];exact h
     ·exact(b4.block _ (by omega)).trans ((bX.out.block _ (by rw[bk];omega)).trans x0)
     ·exact(b4.block _ (by omega)).trans ((bX.out.block _ (by rw[bk];omega)).trans x1)
    have iy:((((w2.alloc (.cells #[.int .i64 of] 3)).alloc (.cells #[.slice none 0 0] 26)).alloc (.cells #[.slice (some ⟨b,0,none⟩) L c] 46)).alloc (.cells #[.int .i64 49] 3)).heap.size=B+4:=by rw[qb];simp
    rw[←qb];obtain⟨W0,hW0⟩:∃W0,W0=((((w2.alloc (.cells #[.int .i64 of] 3)).alloc (.cells #[.slice none 0 0] 26)).alloc (.cells #[.slice (some ⟨b,0,none⟩) L c] 46)).alloc (.cells #[.int .i64 49] 3)):=⟨_,rfl⟩
    rw[←hW0] at hq0 iy⊢;clear x0 x1 x2 x3 x4 x5 b4 hW0 vW ai fR bX qb;refine wpIn_rangeFunc_ownG rfl (by decide) (gf:=117) (lb:=#[.pointer (some ⟨B+1+1,0,none⟩),.pointer (some ⟨B+1+1+1,0,none⟩)]) rfl trivial (enters_of Tryz.func117 (by kernel_rfl) rfl)
     (chunk_stops 2 b 0 c L (B+1+1) bl W0 HL.out hq0.pk.dc (by omega)) (fun h k x=>k (h x)) (fun X l o o' hl hlo hc _ hx=>?kb) (Below.refl _ _) (fun _=>rfl)
     (fun pre X=>∃sv,QS w ep n of (.slice (some ⟨b,0,none⟩) L c) bl B (secX ep n of (pre.map (·.1.2))) sv X)
     (fun _ _ _=>False)
     ?oi (fun _ _ _ _ _ h _ _=>h) ⟨_,by simpa [secX] using hq0⟩
     (fun x=>{tmps:=#[.int .i64 ep,.int .i64 n,.slice Av cs.length cv,.pointer (some ⟨w.heap.size,0,none⟩),.pointer (some ⟨w.heap.size+1,0,none⟩),undef,.slice none 0 0,.bool false,.slice (some ⟨b,0,none⟩) L c,.pointer (some ⟨B,0,none⟩),.pointer (some ⟨B+1,0,none⟩),x.1.1,.int .i64 ep,.bool true,.bool false,.bool false,.int .i64 n,.bool true,.bool false,.bool false,.slice Av cs.length cv,.slice (some ⟨b,0,none⟩) L c,.slice (some ⟨b,0,none⟩) L c,.int .i64 L,.int .i64 ((L:Int)+49),.int .i64 ((L:Int)+49-1),.int .i64 of,.int .i64 of,.bool (decide ((200:Int)<of)),.slice (some ⟨b,0,none⟩) L c,.func (.func 117) #[] #[.pointer (some ⟨B+1+1,0,none⟩),.pointer (some ⟨B+1+1+1,0,none⟩)],x.1.1,undef,undef,undef,undef,undef,undef,undef,undef,undef,undef,undef],defers:= []}) ?assign ?body ?done ?stop
    case kb=>
     have hg:=grownBy_putObj' X l o';have hk:KX (fun _ _=>True) X (X.putObj l o'):=KX.of_grown hg (fun r e=>by cases e;exact⟨o,hlo,hc⟩);exact⟨rb_kept hx.1 hg (fun r e=>by cases e;exact⟨o,hlo,hc⟩),hk.boxed trivial hx.2.1,hk.boxed trivial hx.2.2⟩
    case oi=>
     rintro pre X Y row⟨sv,h⟩ hg hr;exact⟨sv,h.grown hg (fun r e=>⟨by have:=(hr r e).1;omega,(hr r e).2⟩)⟩
    case assign=>
     intro l x X K hK;gi_wp2;exact hK
    case stop=>
     intro D c pre X hD hS h;exact h.elim
    case done=>
     rintro D xs X hD hS⟨sv,hq⟩ hK;rw[hS,b8.out,secX_chunks,←b8.out] at hq;have eh:Marks w.heap.size X.heap.size X [{target:= .collected D,args:=#[]}]:=⟨⟨D,rfl,by omega,(Array.getElem?_eq_some_iff.1 hK).1,hK,fun d hd=>by cases hd⟩,trivial⟩
     obtain⟨Ac,cc,rfl,_⟩:=hq.op.shape;have hcb:=hq.bs.cell;rw[secL_length] at hcb hq;have HQ:=qH hq;have iu:=qH eh;clear hq eh hS;gi_wp2;exact leaves_marks iu.out (fun W' dh hb=>⟨_,leaveP rfl rfl,by rw[j5.out];exact⟨_,rfl,dh.op (fun _=>trivial) (fun _=>trivial) HQ.out.op,HQ.out.pk.bl.trans hb⟩⟩)
    case body=>
     rintro l pre⟨⟨xv,p⟩,EF,hxl⟩ X⟨sv,hq⟩ hlt
     dsimp only at EF hxl hlt⊢
     obtain⟨Ax,cx,hxv⟩:∃A c,xv= .slice A p.length c:=by obtain⟨A,c,h,_⟩:=EF X (RB.own hq.pk.ow);exact⟨A,c,h⟩
     subst hxv;have hK:(pre.map (·.1.2)).length=pre.length:=by rw[List.length_map]
     have hsl:=secX_len ep n of (pre.map (·.1.2));obtain⟨kN,GF⟩:∃kN,kN=pre.length:=⟨_,rfl⟩
     rw[←GF] at hK hlt;rw[hK] at hsl;have vI:=qH hK;have fS:=qH hsl;have jP:=qH (fun Y (hY:RB Y (.slice Ax p.length cx) p)=>sector_any ep n kN of _ p (by omega) (by omega) Y hY hxl);have uC:=qH (@partL_length ep n kN of p hxl);have HST:=qH hq;have hA:=hq.bs.cell;obtain⟨As,c0,pq,_,_⟩:=hq.op.shape;rw[hsl] at pq;subst pq;have sU:=qH EF;have GE:kN≤201:=by have:=b8.out;omega
     clear hq hK hsl GF;gi_wp2;have cQ:=qH (HST.out.below (Below.refl _ _).drew);have hA:=cQ.out.bs.cell;have qy:=qH (KeepsOthers.drew X);refine wpIn_region_round (S:=PK w ep n of (.slice (some ⟨b,0,none⟩) L c) bl B) (by kernel_rfl) (by kernel_rfl) (fun a w h=>h) cQ.out.pk (fun hHeld=>?_);generalize X.drew=wd at *;refine wpAnyH_take (i:=1) (oi:=⟨some 33,.load 3 (.tmp 3),3,"log.go:32",#[],none⟩) (v:=?_) rfl (by kernel_rfl) (by kernel_rfl) (by kernel_rfl) (fun _ _ _ h=>h.elim) (Or.inl ⟨by rfl,?_⟩) (by assumption) ?_;rotate_left
     ·intro X hSw;have hq:=hSw.be.cell;go_simp;try (with_reducible rfl)
     try simp only[Act.put,zA,zB,zC]
     refine wpAnyH_take (i:=2) (oi:=⟨some 34,.load 3 (.tmp 4),3,"log.go:32",#[],none⟩) (v:=?_) rfl (by kernel_rfl) (by kernel_rfl) (by kernel_rfl) (fun _ _ _ h=>h.elim) (Or.inl ⟨by rfl,?_⟩) (by assumption) ?_;rotate_left
     ·intro X hSw;have hq:=hSw.bn.cell;go_simp;try (with_reducible rfl)
     try simp only[Act.put,zA,zB,zC]
     refine wpAnyH_take (i:=5) (oi:=⟨some 37,.load 3 (.tmp 9),3,"log.go:32",#[],none⟩) (v:=?_) rfl (by kernel_rfl) (by kernel_rfl) (by kernel_rfl) (fun _ _ _ h=>h.elim) (Or.inl ⟨by rfl,?_⟩) (by assumption) ?_;rotate_left
     ·intro X hSw;have hq:=hSw.bc.cell;go_simp;try (with_reducible rfl)
     try simp only[Act.put,zA,zB,zC]
     refine wpAnyH_take (i:=6) (oi:=⟨some 38,.move (.tmp 11),46,"log.go:32",#[],none⟩) (v:=?_) rfl (by kernel_rfl) (by kernel_rfl) (by kernel_rfl) (fun _ _ _ h=>h.elim) (Or.inl ⟨by rfl,?_⟩) (by assumption) ?_;rotate_left
     ·intro X hSw;go_simp;try (with_reducible rfl)
     try simp only[Act.put,zA,zB,zC]
     refine rdA (rs:= [0,3]) ?_;refine AllReadyH.cons (o:=⟨some 32,.load 26 (.tmp 10),26,"log.go:32",#[],none⟩) rfl (fun K hK=>?_) (AllReadyH.cons (o:=⟨some 35,.load 26 (.tmp 10),26,"log.go:32",#[],none⟩) rfl (fun K hK=>?_) AllReadyH.nil)
     ·go_simp
      try (go_wp2_with fail)
      refine hK.out _ _ ?_ (fun _=>?_)
      ·exact hHeld
      clear hK K;try simp only[Act.put,zA,zB,zC]
      refine rdA (rs:= [3]) ?_;refine arC (fun K hK=>?_);go_simp;try (go_wp2_with fail)
      refine hK.out _ _ ?_ (fun _=>?_)
      ·exact hHeld
      clear hK K;try simp only[Act.put,zA,zB,zC]
      refine wpAnyH_take (i:=4) (oi:=⟨some 36,.call ⟨.builtin .len,#[.tmp 35],#[26]⟩,3,"log.go:32",#[⟨3,.data⟩],none⟩) (v:=?_) rfl (by kernel_rfl) (by kernel_rfl) (by kernel_rfl) (fun _ _ _ h=>h.elim) (Or.inl ⟨by rfl,?_⟩) (by assumption) ?_;rotate_left
      ·intro X hSw;go_simp;try (with_reducible rfl)
      try simp only[Act.put,zA,zB,zC]
      refine rdA (rs:= [7]) ?_;refine arC (fun K hK=>?_);go_simp;refine(jP.out _ (sU.out _ (RB.own hHeld.ow))).mono ?_;rintro e w4⟨v4,rfl,bD,hb4⟩;have cO:=FB.own bD;rw[uC.out] at bD;obtain⟨A4,c4,rfl,_⟩:=own_shape bD;have aE:=qH (cQ.out.below hb4);have hA:=aE.out.bs.cell;have ro:=qH (cO.base_ (base':=w.heap.size) cQ.out.pk.bl.size);have gZ:=qH (KeepsOthers.of_grownBy (grown_none hb4) (fun _ _ h=>(by cases h)));try (go_wp2_with fail)
      have ac:=hHeld.below hb4;refine hK.out _ _ ?_ (fun _=>?_)
      ·exact ac
      clear hK K hHeld;have hHeld:=ac;clear ac;try simp only[Act.put,zA,zB,zC]
      refine rdA (rs:= [8]) ?_;refine arC (fun K hK=>?_);go_simp;have au:=(Below.refl w4.heap.size w4).alloc (Nat.le_refl _) (Obj.cells #[.slice A4 64 c4] 46);have hA:=(aE.out.below au).bs.cell;try (go_wp2_with fail)
      have ac:=hHeld.below au;refine hK.out _ _ ?_ (fun _=>?_)
      ·exact ac
      clear hK K hHeld;have hHeld:=ac;clear ac;try simp only[Act.put,zA,zB,zC]
      refine rdA (rs:= [9]) ?_;refine arC (fun K hK=>?_);obtain⟨us,ag,ho,hf⟩:=aE.out.op;have bt:=qH (show us.length=kN by have h:=congrArg List.length ag;rw[List.length_map] at h;rw[h];exact fS.out);have jH:=own_below ho au;have lV:=aE.out.pk.bl.size;refine step_own3 rfl (.tmp 32) (.tmp 40) 26 26 rfl w.heap.size 46 (.slice none 0 0) 1 24 Tryz.underlying26 info46 rfl rfl jH rfl (src_one _ Tryz.underlying26 46 _ rfl) ?_ ?_ ?_ ?_
      ·have:=bt.out;unfold maxLen;omega
      ·have:=bt.out;omega
      ·simp;omega
      intro v5 w5 aJ hg5 hv5;obtain⟨g5,c5,rfl⟩:=ownsRow_succ aJ;obtain⟨bz,ks,bw,cz⟩:=aE.out.push ag ho hf ro.out aJ hg5 hv5;have lX:=bz.cell;have iT:=bz.frozen;have bj:=qH bw;have fc:=qH cz;clear bw cz ag ho hf jH aJ hg5 hv5;have ac:=ks;refine hK.out _ _ ?_ (fun _=>?_)
      ·exact ac
      clear hK K hHeld;have hHeld:=ac;clear ac;try simp only[Act.put,zA,zB,zC]
      refine rdA (rs:= [10]) ?_;refine arC (fun K hK=>?_);go_simp;try (go_wp2_with fail)
      have ac:=bj.out.pk;refine hK.out _ _ ?_ (fun _=>?_)
      ·exact ac
      clear hK K hHeld;have hHeld:=ac;clear ac;try simp only[Act.put,zA,zB,zC]
      refine wpAnyH_done (by kernel_rfl) ?_ _;try simp only[Exit.then]
      exact⟨(qy.out.trans (gZ.out.trans fc.out)).from _,fun _=>bj.out.pk.dc,⟨_,by rw[List.map_append,List.map_cons,List.map_nil,secX_snoc,vI.out];exact bj.out⟩⟩
     ·go_simp
      try (go_wp2_with fail)
      refine hK.out _ _ ?_ (fun _=>?_)
      ·exact hHeld
      clear hK K;try simp only[Act.put,zA,zB,zC]
      refine wpAnyH_take (i:=4) (oi:=⟨some 36,.call ⟨.builtin .len,#[.tmp 35],#[26]⟩,3,"log.go:32",#[⟨3,.data⟩],none⟩) (v:=?_) rfl (by kernel_rfl) (by kernel_rfl) (by kernel_rfl) (fun _ _ _ h=>h.elim) (Or.inl ⟨by rfl,?_⟩) (by assumption) ?_;rotate_left
      ·intro X hSw;go_simp;try (with_reducible rfl)
      try simp only[Act.put,zA,zB,zC]
      refine rdA (rs:= [0,7]) ?_;refine AllReadyH.cons (o:=⟨some 32,.load 26 (.tmp 10),26,"log.go:32",#[],none⟩) rfl (fun K hK=>?_) (AllReadyH.cons (o:=⟨some 39,.call ⟨.value (.func 110),#[.tmp 33,.tmp 34,.tmp 36,.tmp 37,.tmp 38],#[3,3,3,3,46]⟩,46,"log.go:32",#[⟨1,.data⟩,⟨2,.data⟩,⟨4,.data⟩,⟨5,.data⟩,⟨6,.data⟩],none⟩) rfl (fun K hK=>?_) AllReadyH.nil)
      ·go_simp
       try (go_wp2_with fail)
       refine hK.out _ _ ?_ (fun _=>?_)
       ·exact hHeld
       clear hK K;try simp only[Act.put,zA,zB,zC]
       refine rdA (rs:= [7]) ?_;refine arC (fun K hK=>?_);go_simp;refine(jP.out _ (sU.out _ (RB.own hHeld.ow))).mono ?_;rintro e w4⟨v4,rfl,bD,hb4⟩;have cO:=FB.own bD;rw[uC.out] at bD;obtain⟨A4,c4,rfl,_⟩:=own_shape bD;have aE:=qH (cQ.out.below hb4);have hA:=aE.out.bs.cell;have ro:=qH (cO.base_ (base':=w.heap.size) cQ.out.pk.bl.size);have gZ:=qH (KeepsOthers.of_grownBy (grown_none hb4) (fun _ _ h=>(by cases h)));try (go_wp2_with fail)
       have ac:=hHeld.below hb4;refine hK.out _ _ ?_ (fun _=>?_)
       ·exact ac
       clear hK K hHeld;have hHeld:=ac;clear ac;try simp only[Act.put,zA,zB,zC]
       refine rdA (rs:= [8]) ?_;refine arC (fun K hK=>?_);go_simp;have au:=(Below.refl w4.heap.size w4).alloc (Nat.le_refl _) (Obj.cells #[.slice A4 64 c4] 46);have hA:=(aE.out.below au).bs.cell;try (go_wp2_with fail)
       have ac:=hHeld.below au;refine hK.out _ _ ?_ (fun _=>?_)
       ·exact ac
       clear hK K hHeld;have hHeld:=ac;clear ac;try simp only[Act.put,zA,zB,zC]
       refine rdA (rs:= [9]) ?_;refine arC (fun K hK=>?_);obtain⟨us,ag,ho,hf⟩:=aE.out.op;have bt:=qH (show us.length=kN by have h:=congrArg List.length ag;rw[List.length_map] at h;rw[h];exact fS.out);have jH:=own_below ho au;have lV:=aE.out.pk.bl.size;refine step_own3 rfl (.tmp 32) (.tmp 40) 26 26 rfl w.heap.size 46 (.slice none 0 0) 1 24 Tryz.underlying26 info46 rfl rfl jH rfl (src_one _ Tryz.underlying26 46 _ rfl) ?_ ?_ ?_ ?_
       ·have:=bt.out;unfold maxLen;omega
       ·have:=bt.out;omega
       ·simp;omega
       intro v5 w5 aJ hg5 hv5;obtain⟨g5,c5,rfl⟩:=ownsRow_succ aJ;obtain⟨bz,ks,bw,cz⟩:=aE.out.push ag ho hf ro.out aJ hg5 hv5;have lX:=bz.cell;have iT:=bz.frozen;have bj:=qH bw;have fc:=qH cz;clear bw cz ag ho hf jH aJ hg5 hv5;have ac:=ks;refine hK.out _ _ ?_ (fun _=>?_)
       ·exact ac
       clear hK K hHeld;have hHeld:=ac;clear ac;try simp only[Act.put,zA,zB,zC]
       refine rdA (rs:= [10]) ?_;refine arC (fun K hK=>?_);go_simp;try (go_wp2_with fail)
       have ac:=bj.out.pk;refine hK.out _ _ ?_ (fun _=>?_)
       ·exact ac
       clear hK K hHeld;have hHeld:=ac;clear ac;try simp only[Act.put,zA,zB,zC]
       refine wpAnyH_done (by kernel_rfl) ?_ _;try simp only[Exit.then]
       exact⟨(qy.out.trans (gZ.out.trans fc.out)).from _,fun _=>bj.out.pk.dc,⟨_,by rw[List.map_append,List.map_cons,List.map_nil,secX_snoc,vI.out];exact bj.out⟩⟩
      ·go_simp
       refine(jP.out _ (sU.out _ (RB.own hHeld.ow))).mono ?_;rintro e w4⟨v4,rfl,bD,hb4⟩;have cO:=FB.own bD;rw[uC.out] at bD;obtain⟨A4,c4,rfl,_⟩:=own_shape bD;have aE:=qH (cQ.out.below hb4);have hA:=aE.out.bs.cell;have ro:=qH (cO.base_ (base':=w.heap.size) cQ.out.pk.bl.size);have gZ:=qH (KeepsOthers.of_grownBy (grown_none hb4) (fun _ _ h=>(by cases h)));try (go_wp2_with fail)
       have ac:=hHeld.below hb4;refine hK.out _ _ ?_ (fun _=>?_)
       ·exact ac
       clear hK K hHeld;have hHeld:=ac;clear ac;try simp only[Act.put,zA,zB,zC]
       refine rdA (rs:= [0,8]) ?_;refine AllReadyH.cons (o:=⟨some 32,.load 26 (.tmp 10),26,"log.go:32",#[],none⟩) rfl (fun K hK=>?_) (AllReadyH.cons (o:=⟨some 40,.buildSlice 26 1 #[(0,.tmp 39)],26,"log.go:32",#[⟨7,.data⟩],none⟩) rfl (fun K hK=>?_) AllReadyH.nil)
       ·go_simp
        try (go_wp2_with fail)
        refine hK.out _ _ ?_ (fun _=>?_)
        ·exact hHeld
        clear hK K;try simp only[Act.put,zA,zB,zC]
        refine rdA (rs:= [8]) ?_;refine arC (fun K hK=>?_);go_simp;have au:=(Below.refl w4.heap.size w4).alloc (Nat.le_refl _) (Obj.cells #[.slice A4 64 c4] 46);have hA:=(aE.out.below au).bs.cell;try (go_wp2_with fail)
        have ac:=hHeld.below au;refine hK.out _ _ ?_ (fun _=>?_)
        ·exact ac
        clear hK K hHeld;have hHeld:=ac;clear ac;try simp only[Act.put,zA,zB,zC]
        refine rdA (rs:= [9]) ?_;refine arC (fun K hK=>?_);obtain⟨us,ag,ho,hf⟩:=aE.out.op;have bt:=qH (show us.length=kN by have h:=congrArg List.length ag;rw[List.length_map] at h;rw[h];exact fS.out);have jH:=own_below ho au;have lV:=aE.out.pk.bl.size;refine step_own3 rfl (.tmp 32) (.tmp 40) 26 26 rfl w.heap.size 46 (.slice none 0 0) 1 24 Tryz.underlying26 info46 rfl rfl jH rfl (src_one _ Tryz.underlying26 46 _ rfl) ?_ ?_ ?_ ?_
        ·have:=bt.out;unfold maxLen;omega
        ·have:=bt.out;omega
        ·simp;omega
        intro v5 w5 aJ hg5 hv5;obtain⟨g5,c5,rfl⟩:=ownsRow_succ aJ;obtain⟨bz,ks,bw,cz⟩:=aE.out.push ag ho hf ro.out aJ hg5 hv5;have lX:=bz.cell;have iT:=bz.frozen;have bj:=qH bw;have fc:=qH cz;clear bw cz ag ho hf jH aJ hg5 hv5;have ac:=ks;refine hK.out _ _ ?_ (fun _=>?_)
        ·exact ac
        clear hK K hHeld;have hHeld:=ac;clear ac;try simp only[Act.put,zA,zB,zC]
        refine rdA (rs:= [10]) ?_;refine arC (fun K hK=>?_);go_simp;try (go_wp2_with fail)
        have ac:=bj.out.pk;refine hK.out _ _ ?_ (fun _=>?_)
        ·exact ac
        clear hK K hHeld;have hHeld:=ac;clear ac;try simp only[Act.put,zA,zB,zC]
        refine wpAnyH_done (by kernel_rfl) ?_ _;try simp only[Exit.then]
        exact⟨(qy.out.trans (gZ.out.trans fc.out)).from _,fun _=>bj.out.pk.dc,⟨_,by rw[List.map_append,List.map_cons,List.map_nil,secX_snoc,vI.out];exact bj.out⟩⟩
       ·go_simp
        have au:=(Below.refl w4.heap.size w4).alloc (Nat.le_refl _) (Obj.cells #[.slice A4 64 c4] 46);have hA:=(aE.out.below au).bs.cell;try (go_wp2_with fail)
        have ac:=hHeld.below au;refine hK.out _ _ ?_ (fun _=>?_)
        ·exact ac
        clear hK K hHeld;have hHeld:=ac;clear ac;try simp only[Act.put,zA,zB,zC]
        refine rdA (rs:= [0]) ?_;refine arC (fun K hK=>?_);go_simp;try (go_wp2_with fail)
        refine hK.out _ _ ?_ (fun _=>?_)
        ·exact hHeld
        clear hK K;try simp only[Act.put,zA,zB,zC]
        refine rdA (rs:= [9]) ?_;refine arC (fun K hK=>?_);obtain⟨us,ag,ho,hf⟩:=aE.out.op;have bt:=qH (show us.length=kN by have h:=congrArg List.length ag;rw[List.length_map] at h;rw[h];exact fS.out);have jH:=own_below ho au;have lV:=aE.out.pk.bl.size;refine step_own3 rfl (.tmp 32) (.tmp 40) 26 26 rfl w.heap.size 46 (.slice none 0 0) 1 24 Tryz.underlying26 info46 rfl rfl jH rfl (src_one _ Tryz.underlying26 46 _ rfl) ?_ ?_ ?_ ?_
        ·have:=bt.out;unfold maxLen;omega
        ·have:=bt.out;omega
        ·simp;omega
        intro v5 w5 aJ hg5 hv5;obtain⟨g5,c5,rfl⟩:=ownsRow_succ aJ;obtain⟨bz,ks,bw,cz⟩:=aE.out.push ag ho hf ro.out aJ hg5 hv5;have lX:=bz.cell;have iT:=bz.frozen;have bj:=qH bw;have fc:=qH cz;clear bw cz ag ho hf jH aJ hg5 hv5;have ac:=ks;refine hK.out _ _ ?_ (fun _=>?_)
        ·exact ac
        clear hK K hHeld;have hHeld:=ac;clear ac;try simp only[Act.put,zA,zB,zC]
        refine rdA (rs:= [10]) ?_;refine arC (fun K hK=>?_);go_simp;try (go_wp2_with fail)
        have ac:=bj.out.pk;refine hK.out _ _ ?_ (fun _=>?_)
        ·exact ac
        clear hK K hHeld;have hHeld:=ac;clear ac;try simp only[Act.put,zA,zB,zC]
        refine wpAnyH_done (by kernel_rfl) ?_ _;try simp only[Exit.then]
        exact⟨(qy.out.trans (gZ.out.trans fc.out)).from _,fun _=>bj.out.pk.dc,⟨_,by rw[List.map_append,List.map_cons,List.map_nil,secX_snoc,vI.out];exact bj.out⟩⟩
  ·have d1:decide (0≤epoch∧epoch≤1073741824)=true:=by simp[h1]
   have d2:decide (0≤num∧num≤1073741824)=false:=by rw[decide_eq_false_iff_not];exact h2
   have j5:=qH (show R=([],false) by rw[hP,if_pos (by omega)]);clear hP;gi_wp2_with (first|(gi_at_call 108;refine(callsIn_wide.2 (counts_any _ _)).mono ?_;rintro e w2 ⟨rfl,rfl⟩)|(refine⟨(show Fence.wide.fn _ from trivial),?_⟩))
   exact⟨_,leaveP rfl rfl,GivesPt.none j5.out ae.out⟩
 ·have d1:decide (0≤epoch∧epoch≤1073741824)=false:=by rw[decide_eq_false_iff_not];exact h1
  have j5:=qH (show R=([],false) by rw[hP,if_pos (by omega)]);clear hP;gi_wp2_with (first|(gi_at_call 108;refine(callsIn_wide.2 (counts_any _ _)).mono ?_;rintro e w2 ⟨rfl,rfl⟩)|(refine⟨(show Fence.wide.fn _ from trivial),?_⟩))
  exact⟨_,leaveP rfl rfl,GivesPt.none j5.out ae.out⟩
open Go.RowKit Go.Rst Go.Pg Go.Crc
theorem chCells_len:∀us:List (Chg×Value),(chCells us).length=us.length*3
 | []=>rfl
 |x::us=>by
  have ih:=chCells_len us;have e:chCells (x::us)= .string x.1.1::x.2:: .bool x.1.2.2::chCells us:=by simp[chCells]
  rw[e];simp only[List.length_cons];omega
section
variable {w:World} {base base':Nat} {A:Option Addr} {n c:Nat} {us:List (Chg×Value)}
theorem chCells_one(hf:∀x∈us,FB 5 w base' x.2 x.1.2.1):∀u∈chCells us,u.oneCell'=true:=by
 intro u hu;unfold chCells at hu;obtain⟨y,hy,hx⟩:=List.mem_flatMap.1 hu;simp only[List.mem_cons,List.not_mem_nil,or_false] at hx;rcases hx with rfl|rfl|rfl
 ·rfl
 ·exact fb_one (hf y hy)
 ·rfl
theorem chCells_take:∀(us:List (Chg×Value)) (i:Nat),chCells (us.take i)=(chCells us).take (i*3)
 | [],i=>by simp[chCells]
 |x::us,0=>by simp[chCells]
 |x::us,i+1=>by
  have ih:=chCells_take us i;have e:∀l,chCells (x::l)= .string x.1.1::x.2:: .bool x.1.2.2::chCells l:=fun l=>by simp[chCells]
  rw[List.take_succ_cons,e,e,show(i+1)*3=i*3+1+1+1 by omega,List.take_succ_cons,List.take_succ_cons,List.take_succ_cons,ih]
theorem oc_take(ho:w.ownsRow base 76 3 (.slice A n c) us.length (chCells us))(hf:∀x∈us,FB 5 w base' x.2 x.1.2.1){i:Nat}(hi:i≤us.length):
  Src Tryz.prog 3 56 (.slice A i c) i (chCells (us.take i)) w:=by
 have hl:(chCells (us.take i)).length=i*3:=by rw[chCells_len,List.length_take];congr 1;omega
 have h1:∀u∈chCells (us.take i),u.oneCell'=true:=fun u hu=>chCells_one hf u (by rw[chCells_take] at hu;exact List.mem_of_mem_take hu)
 rcases ho.2 with ⟨he,h0⟩|⟨g,cap,cur,he,hb,hg,hnc,hcm,hcs,ht⟩
 ·injection he with e1 e2 e3
  subst e1;have:i=0:=by omega
  subst this;rw[List.take_zero];exact Src.ofNil _ Tryz.underlying56 c
 ·have hcell:=ho.cells (g:=g) (by rw[he];rfl)
  injection he with e1 e2 e3;subst e1;refine Src.ofSlice _ Tryz.underlying56 ⟨g,0,none⟩ _ _ _ hl (fun j x hj=>hcell j x ?_) h1;rw[chCells_take,List.getElem?_take] at hj;split at hj
  ·exact hj
  ·cases hj
end
open Go.RowKit Go.Rst Go.Crc
theorem growC_zero(w:World):Calls Tryz.prog 96 #[.slice none 0 0,.int .i64 0] w fun e w'=>e= .returned (.slice none 0 0)∧w=w':=by
 go_enter Tryz.func96,Tryz.ntmps96;go_wp2;go_ret;exact⟨rfl,rfl⟩
def RoomC(w:World)(e:Ending)(w':World):Prop:=∃v,e= .returned v∧w'.ownsRow w.heap.size 76 3 v 0 []∧Below w.heap.size w w'
theorem roomC_new{w:World}{c:Nat}{cs:Array Value}(hm:c≤maxLen)(hs:cs.size=c*3):
  RoomC w (.returned (.slice (some ⟨w.heap.size,0,none⟩) 0 c)) (w.drew.alloc (.cells cs 76)):=
 ⟨_,rfl,⟨by simp,.inr ⟨w.heap.size,c,cs,rfl,Nat.le_refl _,heap_alloc_new w.drew _,Nat.zero_le _,hm,hs,by simp⟩⟩,(Below.refl _ _).drew.alloc (Nat.le_refl _) _⟩
theorem growC_pos(n:Nat)(h0:0<n)(hn:n≤2000000)(w:World):Calls Tryz.prog 96 #[.slice none 0 0,.int .i64 n] w (RoomC w):=by
 obtain⟨i,hi,hz,hsz,hb⟩:=info_parts info76;obtain⟨t,ht⟩:∃t:TypeId,t=76:=⟨_,rfl⟩
 have hcap:n≤grownCap w n 0 76:=grownCap_ge w n 0 _;have hcm:grownCap w n 0 76≤maxLen:=grownCap_le_maxLen w n 0 _ (by unfold maxLen;omega);have hrun:∀ty,(Builtin.append_ #[56,3] ty #[.slice none 0 0,.int .i64 n]).run Tryz.prog w=
   .ok (.slice (some ⟨w.heap.size,0,none⟩) n (grownCap w n 0 76)) (w.drew.alloc (.cells ((#[]:Array Value)++Builtin.zeroCells (Value.cells (.agg #[.string ⟨#[]⟩,.slice none 0 0,.bool false])) n++Builtin.zeroCells (Value.cells (.agg #[.string ⟨#[]⟩,.slice none 0 0,.bool false])) (grownCap w n 0 76-n)) 76)):=fun ty=>by
  have h:=Lib.run_append_grow_zeros (P:=Tryz.prog) w 56 3 ty 76 i (.agg #[.string ⟨#[]⟩,.slice none 0 0,.bool false]) .i64 .i64 Tryz.underlying56 Tryz.underlying3 hi hz none 0 0 [] (by rw[hsz];exact run_firstCells_none w.drew 3 0 0 0) n h0 (by rw[hsz];decide) (by omega) (by omega) (by rw[hb];omega)
   (growslice_fits (by omega) (by rw[hb];omega))
  simpa using h
 have hsize:((#[]:Array Value)++Builtin.zeroCells (Value.cells (.agg #[.string ⟨#[]⟩,.slice none 0 0,.bool false])) n++Builtin.zeroCells (Value.cells (.agg #[.string ⟨#[]⟩,.slice none 0 0,.bool false])) (grownCap w n 0 76-n)).size=grownCap w n 0 76*3:=by
  simp only[Array.size_append,size_zeroCells];simp[Value.cells];omega
 generalize ((#[]:Array Value)++Builtin.zeroCells (Value.cells (.agg #[.string ⟨#[]⟩,.slice none 0 0,.bool false])) n++Builtin.zeroCells (Value.cells (.agg #[.string ⟨#[]⟩,.slice none 0 0,.bool false])) (grownCap w n 0 76-n))=cs at *;generalize grownCap w n 0 76=c at *;have hend:=roomC_new (w:=w) hcm hsize;have HE:=qH hend;have fK:c≤9223372036854775807:=by unfold maxLen at hcm;omega
 have HR:=qH hrun;clear hend hcm hsize hrun hi hz hsz hb ht;go_enter Tryz.func96,Tryz.ntmps96;go_wp2_with (at_builtin;refine Lib.wpList_append_run _ rfl _ _ _ _ rfl _ _ rfl rfl _ _ (HR.out _) ?_)
 go_ret;exact HE.out
theorem growC_any(n:Nat)(hn:n≤2000000)(w:World):Calls Tryz.prog 96 #[.slice none 0 0,.int .i64 n] w (RoomC w):=by
 rcases Nat.eq_zero_or_pos n with h|h
 ·subst h
  refine(growC_zero w).mono ?_;rintro e w'⟨rfl,rfl⟩;exact⟨_,rfl,World.ownsRow_nil _ _ _ _,Below.refl _ _⟩
 ·exact growC_pos n h hn w
def OC2(w:World)(base b0:Nat)(v:Value)(cs:List Chg):Prop:=
 ∃us:List (Chg×Value),us.map (·.1)=cs∧w.ownsRow base 76 3 v us.length (chCells us)∧∀x∈us,FB 5 w b0 x.2 x.1.2.1
def catC(fs:List (List Chg)):List Chg:=fs.flatten
theorem catC_take{fs:List (List Chg)}{k:Nat}(h:k<fs.length):catC (fs.take (k+1))=catC (fs.take k)++fs[k]:=by
 unfold catC;rw[List.take_succ_eq_append_getElem h,List.flatten_append];simp
theorem catC_le(fs:List (List Chg))(k:Nat):(catC (fs.take k)).length≤(catC fs).length:=by
 unfold catC
 conv=>rhs;rw[←List.take_append_drop k fs]
 rw[List.flatten_append,List.length_append];omega
theorem of_at{w:World}{base:Nat}{v:Value}{fs:List (List Chg)}(h:OF w base v fs){k:Nat}(hk:k<fs.length):
  ∃g u,v.ownBlock=some g∧g<w.heap.size∧(∃c,v= .slice (some ⟨g,0,none⟩) fs.length c)∧w.cell? ⟨g,0+k,none⟩=some u∧OC 5 76 w base u fs[k]:=by
 obtain⟨us,rfl,ho,hf⟩:=h;rw[List.length_map] at hk;rcases ho.2 with ⟨_,h0⟩|⟨g,cap,cur,rfl,hb,hg,_⟩
 ·omega
 ·have hc:=ho.cells (g:=g) rfl k us[k].2 (by simp[hk])
  rw[Addr.add_lit] at hc;exact⟨g,us[k].2,rfl,(Array.getElem?_eq_some_iff.1 hg).1,⟨cap,by rw[List.length_map]⟩,hc,by simpa using hf us[k] (List.getElem_mem hk)⟩
theorem concatC_any(v:Value)(fs:List (List Chg))(w:World)(b0:Nat)(hb0:b0≤w.heap.size)(hv:OF w b0 v fs)(hl:(catC fs).length≤1000000)(hfl:fs.length≤1000000):
  Calls Tryz.prog 51 #[v] w fun e w'=>∃v',e= .returned v'∧OC2 w' w.heap.size b0 v' (catC fs)∧Below w.heap.size w w':=by
 have HV:=qH hv;obtain⟨A,c,rfl,hlc,hcm,_⟩:=hv.rf;have fK:(c:Int)≤9223372036854775807:=by unfold maxLen at hcm;omega
 clear hv;go_enter Tryz.func51,Tryz.ntmps51;go_wp2
 go_loop [3,11] (fun n i=>∃k:Nat,k≤fs.length∧i= .int .i64 k∧n= .int .i64 ((catC (fs.take k)).length:Nat)) (fun _ i=>fs.length-(intOf i).toNat)
 case atStart=>exact⟨0,Nat.zero_le _,rfl,rfl⟩
 case round=>
  obtain⟨k,hk,rfl,rfl⟩:=hrel;by_cases hlt:k<fs.length
  ·obtain⟨g,u,_,hg,⟨c',uJ⟩,hc,dz⟩:=of_at HV.out hlt
   injection uJ with uJ _ hce;subst uJ;subst hce;have ht:=congrArg List.length (catC_take hlt);rw[List.length_append] at ht;have hle:=catC_le fs (k+1);rw[ht] at hle;obtain⟨Au,cu,vO,_⟩:=dz.rc;subst vO;obtain⟨n,hn⟩:∃n,n=(catC (fs.take k)).length:=⟨_,rfl⟩
   obtain⟨m,hm⟩:∃m,m=fs[k].length:=⟨_,rfl⟩
   rw[←hn] at ht hle;rw[←hm] at ht hle hc;rw[←hn];have HT:=qH ht;clear hn hm;simp only[Nat.zero_add] at hc;clear ht dz;go_wp2;go_round
   case rel=>exact⟨k+1,by omega,by go_num,by rw[HT.out];go_num⟩
   case measure=>simp[intOf];omega
  ·have e:k=fs.length:=by omega
   rw[e,List.take_length];have hn:(catC fs).length≤2000000:=by omega
   have HE:=qH e;clear e;go_wp2_with fail
   refine(growC_any _ hn _).mono ?_;rintro e w1⟨v1,rfl,hown,ad⟩;have HO:=qH hown;have HB:=qH ad;clear hown ad;go_wp2
   go_loopw [6,27] (fun b i wr=>∃k:Nat,k≤fs.length∧i= .int .i64 k∧OC2 wr w.heap.size b0 b (catC (fs.take k))∧Below w.heap.size w wr) (fun _ i _=>fs.length-(intOf i).toNat)
   case atStart=>exact⟨0,Nat.zero_le _,rfl,⟨[],rfl,HO.out,fun _ h=>by cases h⟩,HB.out⟩
   case round=>
    clear HO HB;obtain⟨k,hk,rfl,qD,ad⟩:=hrel;by_cases hlt:k<fs.length
    ·obtain⟨g,u,_,hg,⟨c',uJ⟩,hc,dz⟩:=of_at HV.out hlt
     injection uJ with uJ _ hce;subst uJ;subst hce;have hc':=(ad.cell (p:=⟨g,0+k,none⟩) hg).trans hc;have CX:=dz.below ad;obtain⟨ws,hws,how,hwf⟩:=CX;obtain⟨us,ag,ho,hf⟩:=qD;have ht:=catC_take hlt;have hle:=catC_le fs (k+1);rw[ht,List.length_append] at hle;have eY:us.length=(catC (fs.take k)).length:=by rw[←ag,List.length_map]
     have AY:ws.length=fs[k].length:=by rw[←hws,List.length_map]
     obtain⟨Au,cu,vO,_⟩:=own_shape how;subst vO;have hsrc:=oc_take how hwf (i:=ws.length) (Nat.le_refl _);rw[List.take_length] at hsrc;have HT:=qH (show catC (fs.take (k+1))=us.map (·.1)++ws.map (·.1) by rw[ht,ag,hws]);have HO:=qH ho;have HF:=qH hf;have LH:=qH hwf;have cH:=qH hsrc;have HB:=qH ad;have M4:us.length+ws.length≤1000000:=by omega
     simp only[Nat.zero_add] at hc';clear ht hle eY AY ad hc dz how hwf ho hf hsrc HE ag hws;go_wp2_with (at_builtin;refine wpList_own rfl (.tmp 31) (.tmp 32) 56 56 rfl w.heap.size 76 (.agg #[.string ⟨#[]⟩,.slice none 0 0,.bool false]) 3 48 Tryz.underlying56 info76 rfl rfl HO.out rfl cH.out HB.out (Nat.le_refl _) ?_ ?_ ?_ ?_)
     ·unfold maxLen;omega
     ·omega
     ·exact HB.out.size
     ·intro v2 w2 hown2 af hg2
      have cA:=qH (show OC2 w2 w.heap.size b0 v2 (catC (fs.take (k+1))) from⟨us++ws,by rw[HT.out,List.map_append],by rw[chCells_append,List.length_append];exact hown2,fun x hx=>by
       rcases List.mem_append.1 hx with hx|hx
       ·exact(HF.out x hx).grown HO.out (by decide) hg2
       ·exact(LH.out x hx).grown HO.out (by decide) hg2⟩)
      have ae:=qH af;clear hown2 af hg2;go_wp2;go_roundw
      case rel=>exact⟨k+1,by omega,by go_num,cA.out,ae.out⟩
      case measure=>simp[intOf];omega
    ·have e:k=fs.length:=by omega
     rw[e,List.take_length] at qD;have HO:=qH qD;have HB:=qH ad;clear qD ad e HE;go_wp2;go_ret;exact⟨_,rfl,HO.out,HB.out⟩
open Go.RowKit Go.Rst Go.Crc Go.Shelf
attribute [local go_sem] Oper.semAt_some
structure CQ (w:World) (us:List (Value×List UInt8)) (sv:Value) (X:World):Prop where
 bs:Boxed X w.heap.size 26 sv
 ow:X.ownsRow w.heap.size 46 1 sv us.length (us.map (·.1))
 be:Below w.heap.size w X
theorem CQ.grown{w X Y:World}{us:List (Value×List UInt8)}{sv:Value}{row:Option Nat}(h:CQ w us sv X)(hg:X.grownBy Y row)(hr:∀r,row=some r→w.heap.size≤r∧∃o:Obj,X.heap[r]? =some o∧o.isCells=false):CQ w us sv Y:=by
 have hk:KX (fun _ _=>True) X Y:=KX.of_grown hg (fun r e=>(hr r e).2);exact⟨hk.boxed trivial h.bs,hk.own h.ow (fun _ _=>trivial),h.be.trans ((Below.refl _ _).grown hg h.be.size (fun r e=>(hr r e).1))⟩
def GivesCk(w:World)(bv:Value)(bl:List UInt8)(ps:List (List UInt8))(e:Ending)(w':World):Prop:=
 ∃(sv:Value) (us:List (Value×List UInt8)),e= .returned sv∧us.map (·.2)=ps∧w'.ownsRow w.heap.size 46 1 sv us.length (us.map (·.1))∧(∀x∈us,(∀X,RB X bv bl→RB X x.1 x.2)∧x.1.ownBlock=bv.ownBlock)∧Below w.heap.size w w'
theorem leaveC{W:World}{tmps:Array Value}{v:Value}(h:tmps.getD 4 undef=v):(results Tryz.f116 tmps).run Tryz.prog W= .ok v W:=by
 subst h;exact results_tmp rfl _ _ _
theorem appseq_64(b off c L B:Nat)(bl:List UInt8)(w:World)(hL:L=bl.length)(hD:DC64 (.slice (some ⟨b,off,none⟩) L c) bl B w)(hl:L≤1000000):
  Calls Tryz.prog 116 #[.slice none 0 0,.func (.func 117) #[] #[.pointer (some ⟨B,0,none⟩),.pointer (some ⟨B+1,0,none⟩)]] w (GivesCk w (.slice (some ⟨b,off,none⟩) L c) bl (chunkL64 bl)):=by
 obtain⟨iU,hi,hz0,hz1,hz2⟩:=info_parts info46;refine(callsIn_wide (n:=3)).1 ?_;refine callsIn_of_wp_marks Tryz.func116 rfl trivial ?_ rfl;simp only[Tryz.ntmps116,List.size_toArray,List.length_cons,List.length_nil,Nat.reduceAdd,Nat.reduceSub,Array.replicate_succ,Array.replicate_zero,List.push_toArray,List.append_toArray,List.nil_append,List.cons_append];have HL:=qH hL;have HD:=qH hD;have hof:of64 bl≤1000000:=by unfold of64;omega
 have b8:=qH hof;clear hL hD hof;gi_wp2;have dV:Below w.heap.size w (w.alloc (.cells #[.slice none 0 0] 26)):=(Below.refl _ _).alloc (Nat.le_refl _) _;have hq0:CQ w [] (.slice none 0 0) (w.alloc (.cells #[.slice none 0 0] 26)):=⟨Boxed.new w _ _,World.ownsRow_nil _ _ _ _,dV⟩
 have iy:(w.alloc (.cells #[.slice none 0 0] 26)).heap.size=w.heap.size+1:=by simp
 obtain⟨W0,hW0⟩:∃W0,W0=w.alloc (.cells #[.slice none 0 0] 26):=⟨_,rfl⟩
 rw[←hW0] at hq0 iy dV⊢;have lS:DC64 (.slice (some ⟨b,off,none⟩) L c) bl B W0:=⟨HD.out.1.below dV,(dV.block _ HD.out.2.1.lt).trans HD.out.2.1,(dV.block _ HD.out.2.2.lt).trans HD.out.2.2⟩
 clear hW0;refine wpIn_rangeFunc_ownG rfl (by decide) (gf:=117) (lb:=#[.pointer (some ⟨B,0,none⟩),.pointer (some ⟨B+1,0,none⟩)]) rfl trivial (enters_of Tryz.func117 (by kernel_rfl) rfl)
  (chunk_stops64 2 b off c L B bl W0 HL.out lS (by omega)) (fun h k x=>k (h x)) (fun X l o o' hl hlo hc _ hx=>?kb) (Below.refl _ _) (fun _=>rfl)
  (fun pre X=>∃sv,CQ w (pre.map (·.1)) sv X)
  (fun _ _ _=>False)
  ?oi (fun _ _ _ _ _ h _ _=>h) ⟨_,by simpa using hq0⟩
  (fun x=>{tmps:=#[.slice none 0 0,.func (.func 117) #[] #[.pointer (some ⟨B,0,none⟩),.pointer (some ⟨B+1,0,none⟩)],.pointer (some ⟨w.heap.size,0,none⟩),undef,.slice none 0 0,x.1.1,.func (.func 117) #[] #[.pointer (some ⟨B,0,none⟩),.pointer (some ⟨B+1,0,none⟩)],x.1.1,undef,undef,undef,undef,undef],defers:= []}) ?assign ?body ?done ?stop
 case kb=>
  have hg:=grownBy_putObj' X l o';have hk:KX (fun _ _=>True) X (X.putObj l o'):=KX.of_grown hg (fun r e=>by cases e;exact⟨o,hlo,hc⟩);exact⟨rb_kept hx.1 hg (fun r e=>by cases e;exact⟨o,hlo,hc⟩),hk.boxed trivial hx.2.1,hk.boxed trivial hx.2.2⟩
 case oi=>
  rintro pre X Y row⟨sv,h⟩ hg hr;exact⟨sv,h.grown hg (fun r e=>⟨by have:=(hr r e).1;omega,(hr r e).2⟩)⟩
 case assign=>
  intro l x X K hK;obtain⟨Ax,cx,hxv⟩:∃A c,x.1.1= .slice A x.1.2.length c:=by obtain⟨A,c,h,_⟩:=x.2.1 W0 lS.1;exact⟨A,c,h⟩
  rw[hxv] at hK⊢;gi_wp2;exact hK
 case stop=>
  intro D c pre X hD hS h;exact h.elim
 case done=>
  rintro D xs X Lt hS⟨sv,hq⟩ hK;have eh:Marks w.heap.size X.heap.size X [{target:= .collected D,args:=#[]}]:=⟨⟨D,rfl,by omega,(Array.getElem?_eq_some_iff.1 hK).1,hK,fun d hd=>by cases hd⟩,trivial⟩
  have hcb:=hq.bs.cell;obtain⟨Ac,cc,rfl,_⟩:=own_shape hq.ow;have pt:(xs.map (·.1)).length=xs.length:=List.length_map _;have how:=hq.ow;have vB:=hq.be;rw[pt] at hcb how;have HOW:=qH how;have El:=qH vB;have xq:=qH pt;clear how vB pt;have iu:=qH eh;have HS:=qH hS;clear hq eh hS lS;gi_wp2;exact leaves_marks iu.out (fun W' dh hb=>⟨_,leaveC rfl,_,xs.map (·.1),rfl,by rw[List.map_map];exact HS.out,dh.own (by have h:=HOW.out;rw[←xq.out] at h;rw[xq.out] at h⊢;exact h) (fun _ _=>trivial),fun y hy=>by
   obtain⟨x,_,rfl⟩:=List.mem_map.1 hy;exact⟨x.2.1,x.2.2.2⟩,El.out.trans hb⟩)
 case body=>
  rintro l pre x X⟨sv,hq⟩ hlt;obtain⟨Ax,cx,hxv⟩:∃A c,x.1.1= .slice A x.1.2.length c:=by obtain⟨A,c,h,_⟩:=x.2.1 W0 lS.1;exact⟨A,c,h⟩
  have hcb:=hq.bs.cell;have hfz:=hq.bs.frozen;obtain⟨As,cs,rfl,_⟩:=own_shape hq.ow;have hlen:(pre.map (·.1)).length=pre.length:=by rw[List.length_map]
  have fS:=qH hlen;have how:=hq.ow;have hbs:=hq.bs;have ad:=hq.be;rw[hlen] at how hcb hbs;have HOW:=qH how;have uO:=qH hbs;have es:=qH ad;have Fa:=qH hxv;have HI:=qH hi;have tc:=qH hz0;have l9:=qH hz1;have j4:=qH hz2;have ke:=qH (show pre.length≤1000000 by have:=b8.out;omega);have hsz:=hq.be.size;clear how hbs ad hq hlen hi hz0 hz1 hz2 hlt lS;rw[hxv];clear hxv;gi_wp2_with (gi_at_builtin;refine wpListIn_append_own _ rfl _ _ 26 rfl w.heap.size 46 iU (.slice none 0 0) 1 24 Tryz.underlying26 HI.out tc.out l9.out j4.out rfl (by decide) _ _ _ rfl (HOW.out.alloc _) ⟨X.heap.size,0,none⟩ 1 1 [.slice Ax x.1.2.length cx] rfl rfl (cell_one_new _ _ _) (by simp[Value.oneCell']) (by have:=ke.out;have:=fS.out;unfold maxLen;omega) (by have:=ke.out;have:=fS.out;omega) (by simp;omega) ?_;intro v8 w8 dZ hg8 _;obtain⟨hb1,hb2,hr,hko,ad⟩:=uO.out.appended (by decide) HOW.out hsz (Nat.le_refl _) dZ hg8;have hc1:=hb1.cell;have cJ:=hb1.frozen;obtain⟨g8,c8,rfl⟩:=ownsRow_succ dZ;have ae:=qH hb2;have HR:=qH hr;have FE:=qH hko;have jg:=qH (es.out.trans ad);clear hb1 hb2 hr hko ad dZ hg8)
  exact⟨FE.out.from _,fun _=>⟨HD.out.1.below jg.out,(jg.out.block _ HD.out.2.1.lt).trans HD.out.2.1,(jg.out.block _ HD.out.2.2.lt).trans HD.out.2.2⟩,⟨_,ae.out,by
   have h:=HR.out;rw[List.map_append,List.length_append,List.map_append];simp only[List.map_cons,List.map_nil,List.length_singleton];rw[fS.out,Fa.out];exact h,jg.out⟩⟩
theorem appseq_256(b off c L B:Nat)(bl:List UInt8)(w:World)(hL:L=bl.length)(hD:DC256 (.slice (some ⟨b,off,none⟩) L c) bl B w)(hl:L≤1000000):
  Calls Tryz.prog 116 #[.slice none 0 0,.func (.func 117) #[] #[.pointer (some ⟨B,0,none⟩),.pointer (some ⟨B+1,0,none⟩)]] w (GivesCk w (.slice (some ⟨b,off,none⟩) L c) bl (chunkL256 bl)):=by
 obtain⟨iU,hi,hz0,hz1,hz2⟩:=info_parts info46;refine(callsIn_wide (n:=3)).1 ?_;refine callsIn_of_wp_marks Tryz.func116 rfl trivial ?_ rfl;simp only[Tryz.ntmps116,List.size_toArray,List.length_cons,List.length_nil,Nat.reduceAdd,Nat.reduceSub,Array.replicate_succ,Array.replicate_zero,List.push_toArray,List.append_toArray,List.nil_append,List.cons_append];have HL:=qH hL;have HD:=qH hD;have hof:of256 bl≤1000000:=by unfold of256;omega
 have b8:=qH hof;clear hL hD hof;gi_wp2;have dV:Below w.heap.size w (w.alloc (.cells #[.slice none 0 0] 26)):=(Below.refl _ _).alloc (Nat.le_refl _) _;have hq0:CQ w [] (.slice none 0 0) (w.alloc (.cells #[.slice none 0 0] 26)):=⟨Boxed.new w _ _,World.ownsRow_nil _ _ _ _,dV⟩
 have iy:(w.alloc (.cells #[.slice none 0 0] 26)).heap.size=w.heap.size+1:=by simp
 obtain⟨W0,hW0⟩:∃W0,W0=w.alloc (.cells #[.slice none 0 0] 26):=⟨_,rfl⟩
 rw[←hW0] at hq0 iy dV⊢;have lS:DC256 (.slice (some ⟨b,off,none⟩) L c) bl B W0:=⟨HD.out.1.below dV,(dV.block _ HD.out.2.1.lt).trans HD.out.2.1,(dV.block _ HD.out.2.2.lt).trans HD.out.2.2⟩
 clear hW0;refine wpIn_rangeFunc_ownG rfl (by decide) (gf:=117) (lb:=#[.pointer (some ⟨B,0,none⟩),.pointer (some ⟨B+1,0,none⟩)]) rfl trivial (enters_of Tryz.func117 (by kernel_rfl) rfl)
  (chunk_stops256 2 b off c L B bl W0 HL.out lS (by omega)) (fun h k x=>k (h x)) (fun X l o o' hl hlo hc _ hx=>?kb) (Below.refl _ _) (fun _=>rfl)
  (fun pre X=>∃sv,CQ w (pre.map (·.1)) sv X)
  (fun _ _ _=>False)
  ?oi (fun _ _ _ _ _ h _ _=>h) ⟨_,by simpa using hq0⟩
  (fun x=>{tmps:=#[.slice none 0 0,.func (.func 117) #[] #[.pointer (some ⟨B,0,none⟩),.pointer (some ⟨B+1,0,none⟩)],.pointer (some ⟨w.heap.size,0,none⟩),undef,.slice none 0 0,x.1.1,.func (.func 117) #[] #[.pointer (some ⟨B,0,none⟩),.pointer (some ⟨B+1,0,none⟩)],x.1.1,undef,undef,undef,undef,undef],defers:= []}) ?assign ?body ?done ?stop
 case kb=>
  have hg:=grownBy_putObj' X l o';have hk:KX (fun _ _=>True) X (X.putObj l o'):=KX.of_grown hg (fun r e=>by cases e;exact⟨o,hlo,hc⟩);exact⟨rb_kept hx.1 hg (fun r e=>by cases e;exact⟨o,hlo,hc⟩),hk.boxed trivial hx.2.1,hk.boxed trivial hx.2.2⟩
 case oi=>
  rintro pre X Y row⟨sv,h⟩ hg hr;exact⟨sv,h.grown hg (fun r e=>⟨by have:=(hr r e).1;omega,(hr r e).2⟩)⟩
 case assign=>
  intro l x X K hK;obtain⟨Ax,cx,hxv⟩:∃A c,x.1.1= .slice A x.1.2.length c:=by obtain⟨A,c,h,_⟩:=x.2.1 W0 lS.1;exact⟨A,c,h⟩
  rw[hxv] at hK⊢;gi_wp2;exact hK
 case stop=>
  intro D c pre X hD hS h;exact h.elim
 case done=>
  rintro D xs X Lt hS⟨sv,hq⟩ hK;have eh:Marks w.heap.size X.heap.size X [{target:= .collected D,args:=#[]}]:=⟨⟨D,rfl,by omega,(Array.getElem?_eq_some_iff.1 hK).1,hK,fun d hd=>by cases hd⟩,trivial⟩
  have hcb:=hq.bs.cell;obtain⟨Ac,cc,rfl,_⟩:=own_shape hq.ow;have pt:(xs.map (·.1)).length=xs.length:=List.length_map _;have how:=hq.ow;have vB:=hq.be;rw[pt] at hcb how;have HOW:=qH how;have El:=qH vB;have xq:=qH pt;clear how vB pt;have iu:=qH eh;have HS:=qH hS;clear hq eh hS lS;gi_wp2;exact leaves_marks iu.out (fun W' dh hb=>⟨_,leaveC rfl,_,xs.map (·.1),rfl,by rw[List.map_map];exact HS.out,dh.own (by have h:=HOW.out;rw[←xq.out] at h;rw[xq.out] at h⊢;exact h) (fun _ _=>trivial),fun y hy=>by
   obtain⟨x,_,rfl⟩:=List.mem_map.1 hy;exact⟨x.2.1,x.2.2.2⟩,El.out.trans hb⟩)
 case body=>
  rintro l pre x X⟨sv,hq⟩ hlt;obtain⟨Ax,cx,hxv⟩:∃A c,x.1.1= .slice A x.1.2.length c:=by obtain⟨A,c,h,_⟩:=x.2.1 W0 lS.1;exact⟨A,c,h⟩
  have hcb:=hq.bs.cell;have hfz:=hq.bs.frozen;obtain⟨As,cs,rfl,_⟩:=own_shape hq.ow;have hlen:(pre.map (·.1)).length=pre.length:=by rw[List.length_map]
  have fS:=qH hlen;have how:=hq.ow;have hbs:=hq.bs;have ad:=hq.be;rw[hlen] at how hcb hbs;have HOW:=qH how;have uO:=qH hbs;have es:=qH ad;have Fa:=qH hxv;have HI:=qH hi;have tc:=qH hz0;have l9:=qH hz1;have j4:=qH hz2;have ke:=qH (show pre.length≤1000000 by have:=b8.out;omega);have hsz:=hq.be.size;clear how hbs ad hq hlen hi hz0 hz1 hz2 hlt lS;rw[hxv];clear hxv;gi_wp2_with (gi_at_builtin;refine wpListIn_append_own _ rfl _ _ 26 rfl w.heap.size 46 iU (.slice none 0 0) 1 24 Tryz.underlying26 HI.out tc.out l9.out j4.out rfl (by decide) _ _ _ rfl (HOW.out.alloc _) ⟨X.heap.size,0,none⟩ 1 1 [.slice Ax x.1.2.length cx] rfl rfl (cell_one_new _ _ _) (by simp[Value.oneCell']) (by have:=ke.out;have:=fS.out;unfold maxLen;omega) (by have:=ke.out;have:=fS.out;omega) (by simp;omega) ?_;intro v8 w8 dZ hg8 _;obtain⟨hb1,hb2,hr,hko,ad⟩:=uO.out.appended (by decide) HOW.out hsz (Nat.le_refl _) dZ hg8;have hc1:=hb1.cell;have cJ:=hb1.frozen;obtain⟨g8,c8,rfl⟩:=ownsRow_succ dZ;have ae:=qH hb2;have HR:=qH hr;have FE:=qH hko;have jg:=qH (es.out.trans ad);clear hb1 hb2 hr hko ad dZ hg8)
  exact⟨FE.out.from _,fun _=>⟨HD.out.1.below jg.out,(jg.out.block _ HD.out.2.1.lt).trans HD.out.2.1,(jg.out.block _ HD.out.2.2.lt).trans HD.out.2.2⟩,⟨_,ae.out,by
   have h:=HR.out;rw[List.map_append,List.length_append,List.map_append];simp only[List.map_cons,List.map_nil,List.length_singleton];rw[fS.out,Fa.out];exact h,jg.out⟩⟩
open Go.RowKit Go.Rst Go.Crc
theorem told_any(v:Value)(ss:List (List UInt8))(w:World)(hv:RP w v ss):Calls Tryz.prog 123 #[v] w fun e w'=>e= .returned (.int .i64 (toldL ss:Nat))∧w=w':=by
 have HV:=qH hv;obtain⟨A,c,rfl,_,hc,_⟩:=hv;unfold maxLen at hc
 cases ss with
 |nil=>
  rw[List.length_nil];go_enter Tryz.func123,Tryz.ntmps123;go_wp2;go_ret;exact⟨rfl,rfl⟩
 |cons s ss=>
  obtain⟨b,off,u,rfl,_,hx,hr⟩:=rp_at HV.out (k:=0) (by simp);simp only[List.getElem_cons_zero,Nat.add_zero] at hx hr;have HR:=qH hr;obtain⟨A3,c3,rfl,_,hc3,_⟩:=hr;unfold maxLen at hc3;obtain⟨L,hL⟩:∃L,L=s.length:=⟨_,rfl⟩
  rw[←hL] at hx;obtain⟨M,hM⟩:∃M,M=(s::ss).length:=⟨_,rfl⟩
  rw[←hM];have Mz:0<M:=by rw[hM];simp
  have pb:((M:Int)==0)=false:=by rw[beq_eq_false_iff_ne];omega
  have hm2:(0:Int)<(M:Int):=by omega
  have fS:=qH hL;clear hM;by_cases h64:L=64
  ·subst h64
   have hcell:∃b2 o2,A3=some ⟨b2,o2,none⟩∧b2<w.heap.size∧w.cell? ⟨b2,o2+9,none⟩=some (bv s[9]):=by
    have:=HR.out;exact rb_cell this (k:=9) (by rw[←fS.out];decide)
   obtain⟨b2,o2,rfl,_,h9⟩:=hcell;have e:(toldL (s::ss))=(s[9]'(by rw[←fS.out];decide)).toNat:=by
    show(if s.length=64 then b9 s else 0)=_;unfold b9;rw[if_pos fS.out.symm,List.getD_eq_getElem?_getD,List.getElem?_eq_getElem (by rw[←fS.out];decide)];rfl
   rw[e];obtain⟨x,GS⟩:∃x,x=s[9]'(by rw[←fS.out];decide):=⟨_,rfl⟩
   rw[←GS] at h9⊢;unfold bv at h9;have yK:=x.toNat_lt;clear e GS;go_enter Tryz.func123,Tryz.ntmps123;go_wp2;go_ret;exact⟨rfl,rfl⟩
  ·have e:toldL (s::ss)=0:=by show(if s.length=64 then b9 s else 0)=0;rw[if_neg (by rw[←fS.out];exact h64)]
   rw[e];have CA:((L:Int) !=64)=true:=by simp;omega
   clear e;go_enter Tryz.func123,Tryz.ntmps123;go_wp2;go_ret;exact⟨rfl,rfl⟩
theorem pieceP_any(v:Value)(s:List UInt8)(w:World)(hv:RB w v s)(hl:s.length=64):Calls Tryz.prog 124 #[v] w fun e w'=>(∃u,e= .returned u∧RB w u (pieceP s))∧w=w':=by
 have HV:=qH hv;obtain⟨A,c,rfl,hlc,hc,_⟩:=hv;unfold maxLen at hc;have hcell:=rb_cell HV.out (k:=10) (by omega);obtain⟨b,off,rfl,_,hx⟩:=hcell;have h10:b10 s=(s[10]'(by omega)).toNat:=by
  unfold b10;rw[List.getD_eq_getElem?_getD,List.getElem?_eq_getElem (by omega)];rfl
 obtain⟨x,ir⟩:∃x,x=s[10]'(by omega):=⟨_,rfl⟩
 rw[←ir] at hx h10;obtain⟨M,hM⟩:∃M,M=min x.toNat 49:=⟨_,rfl⟩
 have hcut:=HV.out.cut (q:=11) (n:=M) (by omega);have hp:(s.drop 11).take M=pieceP s:=by unfold pieceP;rw[h10,hM]
 rw[hp] at hcut;have HC:=qH hcut;have yK:=x.toNat_lt;unfold bv at hx;rw[hl] at hlc;rw[hl];clear hp hcut ir h10;rcases Nat.lt_or_ge 49 x.toNat with h|h
 ·obtain rfl:M=49:=by omega
  have q2:(49:Int)<(x.toNat:Int):=by omega
  clear hM;go_enter Tryz.func124,Tryz.ntmps124;go_wp2;go_ret;exact⟨⟨_,rfl,HC.out⟩,rfl⟩
 ·obtain rfl:M=x.toNat:=by omega
  have q1:11+x.toNat-11=x.toNat:=by omega
  clear hM;go_enter Tryz.func124,Tryz.ntmps124;go_wp2;go_ret;refine⟨⟨_,rfl,?_⟩,rfl⟩;show RB w (.slice (some ⟨b,off+11,none⟩) (11+x.toNat-11) (c-11)) (pieceP s);rw[q1];exact HC.out
def GivesFr(w:World)(r:List Chg×Nat)(e:Ending)(w':World):Prop:=
 ∃u,e= .returned (.tuple #[u,.int .i64 (r.2:Nat)])∧OC 5 76 w' w.heap.size u r.1∧Below w.heap.size w w'
theorem GivesFr.none_{w w':World}{r:List Chg×Nat}(h:r=([],0))(hb:Below w.heap.size w w'):GivesFr w r (.returned (.tuple #[.slice none 0 0,.int .i64 0])) w':=by
 subst h;exact⟨_,rfl,OC.nil_ _ _ _ _,hb⟩
theorem told_le(ss:List (List UInt8)):toldL ss≤255:=by
 cases ss with
 |nil=>simp[toldL]
 |cons s ss=>
  show(if s.length=64 then b9 s else 0)≤255;unfold b9;have:=(s.getD 9 0).toNat_lt;split <;>omega
theorem rp_take{w:World}{A:Option Addr}{m c:Nat}{ps:List (List UInt8)}(h:RP w (.slice A m c) ps){n:Nat}(hn:n≤ps.length):RP w (.slice A n c) (ps.take n):=by
 obtain⟨A',c',he,h1,h2,h3⟩:=h;injection he with e1 _ e3;subst e1;subst e3;have hl:(ps.take n).length=n:=by rw[List.length_take];omega
 refine⟨A,c,by rw[hl],by omega,h2,?_⟩;rcases h3 with rfl|⟨b,off,rfl,hb,hc⟩
 ·exact .inl (by simp)
 ·refine .inr ⟨b,off,rfl,hb,fun j hj=>?_⟩
  have:=hc j (by omega);rw[List.getElem_take];exact this
theorem frameP_any(ep num:Int)(v:Value)(ss:List (List UInt8))(w:World)(hv:RP w v ss):
  Calls Tryz.prog 88 #[.int .i64 ep,.int .i64 num,v] w (GivesFr w (frameS ep num ss)):=by
 have htold:=told_any v ss w hv;have hle:=told_le ss;have hF:frameS ep num ss=if ss.length<toldL ss then ([],0)
  else if (ss.take (toldL ss)).all (fun s=>s.length==64)=false then ([],0)
  else if (readChgs (allP (ss.take (toldL ss)))).2≠0 then ([],0)
  else if (partsL ep num (readChgs (allP (ss.take (toldL ss)))).1).1=ss.take (toldL ss) then ((readChgs (allP (ss.take (toldL ss)))).1,toldL ss)
  else ([],0):=rfl
 obtain⟨C,hC⟩:∃C,C=toldL ss:=⟨_,rfl⟩
 rw[←hC] at htold hle hF;generalize frameS ep num ss=R at *;have HT:=qH htold;have HV:=qH hv;obtain⟨A,c,rfl,hlc,hc,_⟩:=hv;unfold maxLen at hc;clear htold hC;by_cases hbig:ss.length<C
 ·rw[if_pos hbig] at hF
  have HF:=qH hF;have cI:(ss.length:Int)<(C:Int):=by omega
  clear hF;go_enter Tryz.func88,Tryz.ntmps88;go_wp2;refine wp_scope_fwd 0 rfl ?_;go_wp2_with fail
  refine HT.out.mono ?_;rintro e w1⟨rfl,rfl⟩;go_wp2;go_step3;refine⟨rfl,?_⟩;unfold Behind;go_wp2;rw[Exit.noGoto_ret]
  go_ret2
  exact GivesFr.none_ HF.out (Below.refl _ _)
 ·rw[if_neg hbig] at hF
  have HF:=qH hF;have Cm:C≤ss.length:=by omega
  have cI:(C:Int)≤(ss.length:Int):=by omega
  have hd1:decide (ss.length<C)=false:=by rw[decide_eq_false_iff_not];omega
  have hd2:decide ((ss.length:Int)<(C:Int))=false:=by rw[decide_eq_false_iff_not];omega
  clear hF hbig;go_enter Tryz.func88,Tryz.ntmps88;go_wp2;refine wp_scope_fwd 0 rfl ?_;go_wp2_with fail
  refine HT.out.mono ?_;rintro e w1⟨rfl,rfl⟩;go_wp2
  go_loopw [8,25] (fun bv i wr=>∃k:Nat,k≤C∧i= .int .i64 k∧(ss.take k).all (fun s=>s.length==64)=true∧wr.ownsRow w.heap.size 5 1 bv (allP (ss.take k)).length (bvs (allP (ss.take k)))∧Below w.heap.size w wr) (fun _ i _=>C-(intOf i).toNat)
  case atStart=>exact⟨0,Nat.zero_le _,rfl,by simp,World.ownsRow_nil _ _ _ _,Below.refl _ _⟩
  case round=>
   obtain⟨k,hk,rfl,hall,hown,ad⟩:=hrel;obtain⟨Ab,cb,rfl,_⟩:=own_shape hown;by_cases hlt:k<C
   ·have hkl:k<ss.length:=by omega
    obtain⟨b,off,u,rfl,ai,hx,hr⟩:=rp_at HV.out hkl;have hx':=(ad.cell (p:=⟨b,off+k,none⟩) ai).trans hx;have hr':=hr.below ad;obtain⟨A3,c3,ag,_,hc3,_⟩:=hr;obtain⟨L,hL⟩:∃L,L=ss[k].length:=⟨_,rfl⟩
    rw[←hL] at ag;subst ag;have htk:=List.take_succ_eq_append_getElem hkl;by_cases h64:L=64
    ·subst h64
     have qW:(ss.take (k+1)).all (fun s=>s.length==64)=true:=by rw[htk,List.all_append,hall];simp[←hL]
     have hpc:=pieceP_any _ _ wr hr' hL.symm;have hpl:(pieceP ss[k]).length≤49:=by unfold pieceP;rw[List.length_take];omega
     have hap:=allP_take hkl;have hal:=allP_len (ss.take k);rw[List.length_take] at hal;generalize pieceP ss[k]=p at *;generalize allP (ss.take k)=acc at *;have m4:=qH hpc;have HO:=qH hown;have HB:=qH ad;have eB:=qH hap;have D5:=qH qW;have hsz:=ad.size;clear hpc hown ad hap hall qW htk hr' hL hx;go_wp2_with fail
     refine m4.out.mono ?_;rintro e w2⟨⟨u2,rfl,hr2⟩,rfl⟩;have dq:=qH hr2;obtain⟨A4,c4,rfl,_⟩:=hr2;go_wp2_with (at_builtin;refine wpList_own rfl (.tmp 32) (.tmp 34) 46 46 rfl w.heap.size 5 (.int .u8 0) 1 1 Tryz.underlying46 info5 rfl rfl HO.out rfl (dq.out.src Tryz.underlying46) HB.out (Nat.le_refl _) ?_ ?_ ?_ ?_)
     ·unfold maxLen;omega
     ·omega
     ·exact hsz
     intro v5 w5 aJ aq _;have dJ:=qH aJ;have ay:=qH aq;clear aJ aq;go_wp2;go_roundw
     case rel=>exact⟨k+1,by omega,by go_num,D5.out,by rw[eB.out];exact own_cat dJ.out,ay.out⟩
     case measure=>simp[intOf];omega
    ·have hF2:=HF.out
     rw[if_pos (by
      rw[List.all_eq_false];exact⟨ss[k],by rw[List.mem_take_iff_getElem];exact⟨k,by omega,rfl⟩,by rw[←hL];simp[h64]⟩)] at hF2
     have cZ:=qH hF2;have HB:=qH ad;have CA:((L:Int) !=64)=true:=by simp;omega
     clear hF2 hown ad hall htk hr' hL hx;go_wp2;go_step3;refine⟨rfl,?_⟩;unfold Behind;go_wp2;rw[Exit.noGoto_ret]
     go_ret2
     exact GivesFr.none_ cZ.out HB.out
   ·obtain rfl:k=C:=by omega
    have hF2:=HF.out;rw[if_neg (by rw[hall];decide)] at hF2;have hread:=readChgs_any _ _ wr (RB.own hown);have hval:=readChgs_val (allP (ss.take k));have mh:= @readChgs_few (allP (ss.take k));have hal:=allP_len (ss.take k);rw[List.length_take] at hal;obtain⟨cs,er,fe⟩:∃cs er,readChgs (allP (ss.take k))=(cs,er):=⟨_,_,rfl⟩
    rw[fe] at hF2 hread hval;have oY:er=0→(chgsB cs).length≤49*255∧cs.length≤49*255:=fun h=>by
     have:=mh (cs:=cs) (by rw[fe,h]);omega
    simp only at hF2 hread hval;have qc:=ad.size;have HB:=qH ad;have dC:=qH hread;have cZ:=qH hF2;have Eh:=qH hval;clear hF2 hread hval mh fe hown ad hall;go_wp2_with fail
    refine dC.out.mono ?_;rintro e w2⟨v2,rfl,dz,hb2⟩;have dz:OC 5 76 w2 wr.heap.size v2 cs:=dz;have ae:=qH (HB.out.trans (hb2.mono qc));obtain⟨A2,c2,hv2,_⟩:=dz.rc;subst hv2;have rK:=qH (dz.base_ (base':=w.heap.size) qc);clear dz hb2 dC;by_cases he:er=0
    ·subst he
     obtain⟨cJ,hf2⟩:=oY rfl;have oR:=parts_any ep num _ cs w2 rK.out.rc (by omega) (by omega) (fun r hr=>by have:=Eh.out r hr;omega);have oQ:=cZ.out;rw[if_neg (by simp)] at oQ;generalize o9:partsL ep num cs=P at *;have ki:=qH oR;have iO:=qH oQ;have gc:=qH (rp_take HV.out Cm);clear oR oQ o9 cZ oY;go_wp2_with fail
     refine ki.out.mono ?_;rintro e w3⟨v3,rfl,hop,hb3⟩;obtain⟨A3,c3,rfl,hc3,Ga⟩:=hop.shape;have eu:=hop.rp;have aj:=qH (ae.out.trans (hb3.mono ae.out.size));have D2:=qH (rK.out.below hb3);have hcall:=eqF_any _ _ _ _ w3 eu (rp_below gc.out aj.out (Nat.le_refl _));obtain⟨M,hM⟩:∃M,M=P.1.length:=⟨_,rfl⟩
     rw[←hM] at hcall Ga⊢;by_cases heq:P.1=ss.take k
     ·have hd:decide (P.1=ss.take k)=true:=decide_eq_true heq
      rw[hd] at hcall;have mA:=qH hcall;have HE:=qH heq;clear hcall hd heq hop hb3 eu ki rK hM;go_wp2_with fail
      refine mA.out.mono ?_;rintro e w4⟨rfl,rfl⟩;go_wp2;simp only[Exit.jump]
      go_ret2
      have h:=iO.out;rw[if_pos HE.out] at h;rw[h];exact⟨_,rfl,D2.out,aj.out⟩
     ·have hd:decide (P.1=ss.take k)=false:=decide_eq_false heq
      rw[hd] at hcall;have mA:=qH hcall;have HE:=qH heq;clear hcall hd heq hop hb3 eu ki rK hM;go_wp2_with fail
      refine mA.out.mono ?_;rintro e w4⟨rfl,rfl⟩;go_wp2;go_step3;refine⟨rfl,?_⟩;unfold Behind;go_wp2;rw[Exit.noGoto_ret]
      go_ret2
      have h:=iO.out;rw[if_neg HE.out] at h;exact GivesFr.none_ h aj.out
    ·have oQ:=cZ.out
     rw[if_pos he] at oQ;have iO:=qH oQ;have hne:(er !=0)=true:=by simp[he]
     have uK:(er==0)=false:=by rw[beq_eq_false_iff_ne];exact he
     clear oQ cZ oY;go_wp2;go_step3;refine⟨rfl,?_⟩;unfold Behind;go_wp2;rw[Exit.noGoto_ret]
     go_ret2
     exact GivesFr.none_ iO.out ae.out
def GivesRd(w:World)(r:List (List Chg)×Nat)(e:Ending)(w':World):Prop:=
 ∃u,e= .returned (.tuple #[u,.int .i64 (r.2:Nat)])∧OF w' w.heap.size u r.1∧Below w.heap.size w w'
def AtNext(ep:Int)(v:Value)(ss:List (List UInt8))(w:World)(a:Act)(W:World):Prop:=
 ∃(fs:List (List Chg)) (at_:Nat) (fv u2 u3 u4 u5 u8 u9 qE pA qf qK qB pu u16 pO yy rN qU rV su u23 u24 px u26 pR u28 qt pB:Value),
  a={tmps:=#[.int .i64 ep,v,u2,u3,u4,u5,fv,.int .i64 at_,u8,u9,qE,pA,qf,qK,qB,pu,u16,pO,yy,rN,qU,rV,su,u23,u24,px,u26,pR,u28,qt,pB],defers:= []}∧
  OF W w.heap.size fv fs∧Below w.heap.size w W∧Left ep ss (readS ep ss) fs at_∧fs.length≤at_
theorem from_next{ep:Int}{v:Value}{ss:List (List UInt8)}{w:World}{P:Act→World→Prop}{a0:Act}{W0:World}(h:AtNext ep v ss w a0 W0)(hP:∀a W,AtNext ep v ss w a W→P a W):P a0 W0:=hP _ _ h
def left7(n:Nat)(a:Act)(_:World):Nat:=n-(intOf (a.tmps.getD 7 undef)).toNat
theorem readP_any(ep:Int)(v:Value)(ss:List (List UInt8))(w:World)(hv:RP w v ss)(hl:ss.length≤1000000):
  Calls Tryz.prog 48 #[.int .i64 ep,v] w (GivesRd w (readS ep ss)):=by
 have HV:=qH hv;obtain⟨A,c,rfl,hlc,hc,_⟩:=hv;unfold maxLen at hc;go_enter Tryz.func48,Tryz.ntmps48;go_wp2;refine wp_scope_jumps 0 (AtNext ep (.slice A ss.length c) ss w) (left7 ss.length) rfl ?_ ?_
 ·go_wp2_with fail
  refine wp_label ?_
  rename_i K hK
  refine hK _ _ ?_;refine from_next (ep:=ep) (v:= .slice A ss.length c) (ss:=ss) (w:=w) (P:=Code.wp Tryz.prog _ _) ⟨[],0,.slice none 0 0,_,_,_,_,_,_,_,_,_,_,_,_,_,_,_,_,_,_,_,_,_,_,_,_,_,_,_,rfl,OF.nil_ w w.heap.size,Below.refl w.heap.size w,Left.start ep ss,Nat.zero_le _⟩ ?_;rintro _ W⟨fs,at_,fv,u2,u3,u4,u5,u8,u9,qE,pA,qf,qK,qB,pu,u16,pO,yy,rN,qU,rV,su,u23,u24,px,u26,pR,u28,qt,pB,rfl,hof,ad,ce,hfl⟩;have hat:=ce.1;have hat':((at_:Nat):Int)≤(ss.length:Int):=by omega
  have ug:(ss.length:Int)≤(c:Int):=by omega
  obtain⟨A1,c1,rfl,zG,Ak⟩:=hof.shape;have ax:=frameP_any ep fs.length (.slice (if c=at_ then A else Option.map (fun x=>x.add at_) A) (ss.length-at_) (c-at_)) (ss.drop at_) W (rp_cut (rp_below HV.out ad (Nat.le_refl _)) hat);have jO:=frame_le (epoch:=ep) (num:=fs.length) (ss:=ss.drop at_);rw[List.length_drop] at jO;have bT:=ce.stop;have bB:=ce.next;generalize frameS ep fs.length (ss.drop at_)=r at *;obtain⟨l,C⟩:=r;simp only at bT bB jO;have dw:=qH ax;have b8:=qH hof;have HB:=qH ad;have hsz:=ad.size;have HST:=qH bT;have i8:=qH bB;clear ax hof ad ce bT bB;by_cases cP:at_=c
  ·subst cP
   have ax:=dw.out;rw[if_pos rfl,Nat.sub_self,show ss.length-at_=0 by omega] at ax;have gV:=qH ax;clear ax dw;go_wp2_with fail
   refine gV.out.mono ?_;rintro e W2⟨u,rfl,iq,hb2⟩;obtain⟨Au,cu,rfl,_⟩:=iq.rc;have ez:=qH (b8.out.below hb2);have jc:=HB.out.trans (hb2.mono hsz);have bk:=jc.size;have bX:=qH jc;have HU:=qH (iq.base_ hsz);clear iq jc;by_cases hC:C=0
   ·subst hC
    have hR:=qH (HST.out rfl);go_wp2;try go_ret2
    exact⟨_,by rw[hR.out];rfl,by rw[hR.out];exact ez.out,bX.out⟩
   ·exfalso
    omega
  ·have mO:¬c=at_:=fun h=>cP h.symm
   have ax:=dw.out;rw[if_neg mO] at ax;have gV:=qH ax;clear ax dw;go_wp2_with fail
   refine gV.out.mono ?_;rintro e W2⟨u,rfl,iq,hb2⟩;obtain⟨Au,cu,rfl,_⟩:=iq.rc;have ez:=qH (b8.out.below hb2);have jc:=HB.out.trans (hb2.mono hsz);have bk:=jc.size;have bX:=qH jc;have HU:=qH (iq.base_ hsz);clear iq jc;by_cases hC:C=0
   ·subst hC
    have hR:=qH (HST.out rfl);go_wp2;try go_ret2
    exact⟨_,by rw[hR.out];rfl,by rw[hR.out];exact ez.out,bX.out⟩
   ·have rX:(0:Int)<(C:Int):=by omega
    have Ge:=qH (i8.out hC);have au:=(Below.refl W2.heap.size W2).alloc (Nat.le_refl _) (Obj.cells #[.slice Au l.length cu] 56);have dn:=qH (bX.out.trans (au.mono bk));have m6:=dn.out.size;have Aw:=qH (HU.out.below (au.mono (Nat.le_refl _)));obtain⟨us,ag,ho,hf⟩:=ez.out.below au;have bt:=qH (show us.length=fs.length by rw[←ag,List.length_map]);have HO:=qH ho;have HF:=qH hf;have bZ:=qH ag;clear ho hf ag;have jo:=qH (src_one W2 Tryz.underlying97 56 (.slice Au l.length cu) rfl);go_wp2_with (at_builtin;refine wpList_own rfl (.tmp 22) (.tmp 24) 97 97 rfl w.heap.size 56 (.slice none 0 0) 1 24 Tryz.underlying97 info56 rfl rfl HO.out rfl jo.out dn.out (Nat.le_refl _) ?_ ?_ ?_ ?_)
    ·have:=bt.out
     unfold maxLen;omega
    ·have:=bt.out
     omega
    ·exact m6
    intro v5 w5 aJ aq hg5;have hrf:=OF.push HO.out HF.out Aw.out aJ hg5;rw[bZ.out] at hrf;have iR:=qH hrf;have ay:=qH aq;clear aJ hg5 hrf aq;go_wp2_with fail
    go_step3;refine⟨rfl,?_⟩;have eD:((at_:Nat):Int)+(C:Int)=((at_+C:Nat):Int):=by omega
    rw[eD];exact⟨fs++ [l],at_+C,v5,_,_,_,_,_,_,_,_,_,_,_,_,_,_,_,_,_,_,_,_,_,_,_,_,_,_,_,rfl,iR.out,ay.out,i8.out hC,by rw[List.length_append,List.length_singleton];omega⟩
 ·rintro _ W ⟨fs,at_,fv,u2,u3,u4,u5,u8,u9,qE,pA,qf,qK,qB,pu,u16,pO,yy,rN,qU,rV,su,u23,u24,px,u26,pR,u28,qt,pB,rfl,hof,ad,ce,hfl⟩
  have hat:=ce.1;have hat':((at_:Nat):Int)≤(ss.length:Int):=by omega
  have ug:(ss.length:Int)≤(c:Int):=by omega
  obtain⟨A1,c1,rfl,zG,Ak⟩:=hof.shape;have ax:=frameP_any ep fs.length (.slice (if c=at_ then A else Option.map (fun x=>x.add at_) A) (ss.length-at_) (c-at_)) (ss.drop at_) W (rp_cut (rp_below HV.out ad (Nat.le_refl _)) hat);have jO:=frame_le (epoch:=ep) (num:=fs.length) (ss:=ss.drop at_);rw[List.length_drop] at jO;have bT:=ce.stop;have bB:=ce.next;generalize frameS ep fs.length (ss.drop at_)=r at *;obtain⟨l,C⟩:=r;simp only at bT bB jO;have dw:=qH ax;have b8:=qH hof;have HB:=qH ad;have hsz:=ad.size;have HST:=qH bT;have i8:=qH bB;clear ax hof ad ce bT bB;by_cases cP:at_=c
  ·subst cP
   have ax:=dw.out;rw[if_pos rfl,Nat.sub_self,show ss.length-at_=0 by omega] at ax;have gV:=qH ax;clear ax dw;go_wp2_with fail
   refine gV.out.mono ?_;rintro e W2⟨u,rfl,iq,hb2⟩;obtain⟨Au,cu,rfl,_⟩:=iq.rc;have ez:=qH (b8.out.below hb2);have jc:=HB.out.trans (hb2.mono hsz);have bk:=jc.size;have bX:=qH jc;have HU:=qH (iq.base_ hsz);clear iq jc;by_cases hC:C=0
   ·subst hC
    have hR:=qH (HST.out rfl);go_wp2;try go_ret2
    exact⟨_,by rw[hR.out];rfl,by rw[hR.out];exact ez.out,bX.out⟩
   ·exfalso
    omega
  ·have mO:¬c=at_:=fun h=>cP h.symm
   have ax:=dw.out;rw[if_neg mO] at ax;have gV:=qH ax;clear ax dw;go_wp2_with fail
   refine gV.out.mono ?_;rintro e W2⟨u,rfl,iq,hb2⟩;obtain⟨Au,cu,rfl,_⟩:=iq.rc;have ez:=qH (b8.out.below hb2);have jc:=HB.out.trans (hb2.mono hsz);have bk:=jc.size;have bX:=qH jc;have HU:=qH (iq.base_ hsz);clear iq jc;by_cases hC:C=0
   ·subst hC
    have hR:=qH (HST.out rfl);go_wp2;try go_ret2
    exact⟨_,by rw[hR.out];rfl,by rw[hR.out];exact ez.out,bX.out⟩
   ·have rX:(0:Int)<(C:Int):=by omega
    have Ge:=qH (i8.out hC);have au:=(Below.refl W2.heap.size W2).alloc (Nat.le_refl _) (Obj.cells #[.slice Au l.length cu] 56);have dn:=qH (bX.out.trans (au.mono bk));have m6:=dn.out.size;have Aw:=qH (HU.out.below (au.mono (Nat.le_refl _)));obtain⟨us,ag,ho,hf⟩:=ez.out.below au;have bt:=qH (show us.length=fs.length by rw[←ag,List.length_map]);have HO:=qH ho;have HF:=qH hf;have bZ:=qH ag;clear ho hf ag;have jo:=qH (src_one W2 Tryz.underlying97 56 (.slice Au l.length cu) rfl);go_wp2_with (at_builtin;refine wpList_own rfl (.tmp 22) (.tmp 24) 97 97 rfl w.heap.size 56 (.slice none 0 0) 1 24 Tryz.underlying97 info56 rfl rfl HO.out rfl jo.out dn.out (Nat.le_refl _) ?_ ?_ ?_ ?_)
    ·have:=bt.out
     unfold maxLen;omega
    ·have:=bt.out
     omega
    ·exact m6
    intro v5 w5 aJ aq hg5;have hrf:=OF.push HO.out HF.out Aw.out aJ hg5;rw[bZ.out] at hrf;have iR:=qH hrf;have ay:=qH aq;clear aJ hg5 hrf aq;go_wp2_with fail
    go_step3;refine⟨rfl,?_⟩;have eD:((at_:Nat):Int)+(C:Int)=((at_+C:Nat):Int):=by omega
    rw[eD];refine⟨⟨fs++ [l],at_+C,v5,_,_,_,_,_,_,_,_,_,_,_,_,_,_,_,_,_,_,_,_,_,_,_,_,_,_,_,rfl,iR.out,ay.out,i8.out hC,by rw[List.length_append,List.length_singleton];omega⟩,?_⟩;simp[left7,intOf];omega
open Go.RowKit Go.Rst Go.Pg Go.Crc
theorem refFrame_any(ep n:Nat)(v:Value)(ss:List (List UInt8))(he:ep≤1073741824)(hn:n≤1073741824)(w:World)(hv:RP w v ss):
  Calls Tryz.prog 99 #[.int .i64 ep,.int .i64 n,v] w (GivesFr w (frameS ep n ss)):=by
 have HV:=qH hv;obtain⟨A,c,rfl,hlc,hc,_⟩:=hv;unfold maxLen at hc;go_enter Tryz.func99,Tryz.ntmps99;go_wp2
 go_loopw [8,9,10,11,12,13] (fun av ov iv _ _ _ wr=>∃i of L:Nat,PF ep n ss i of∧iv= .int .i64 i∧ov= .int .i64 of∧L=(allP (ss.take i)).length∧wr.ownsRow w.heap.size 5 1 av L (bvs (allP (ss.take i)))∧Below w.heap.size w wr)
  (fun _ _ iv _ _ _ _=>1000-(intOf iv).toNat)
 case atStart=>exact⟨0,0,0,PF.start ep n ss,rfl,rfl,by simp[allP],World.ownsRow_nil _ _ _ _,Below.refl _ _⟩
 case round=>
  obtain⟨i,of,L,dO,rfl,rfl,hL,hown,ad⟩:=hrel;have GW:i≤200:=by
   by_cases h:i=0
   ·omega
   ·obtain⟨_,_,h3,h4⟩:=dO.told (by omega)
    omega
  have FI:of≤200:=by
   by_cases h:i=0
   ·have:=dO.head h;omega
   ·obtain⟨_,_,h3,h4⟩:=dO.told (by omega)
    omega
  have ng:L≤9800:=by
   have:=allP_len (ss.take i);rw[List.length_take] at this;omega
  have hle:=dO.le;obtain⟨Ao,co,rfl,_⟩:=own_shape hown;have mo:=qH dO;have HO:=qH hown;have HB:=qH ad;have FT:=qH hL;have hsz:=ad.size;clear dO hown ad hL;by_cases hcond:i=0∨i<of
  ·have Hw:=qH (mo.out.short hcond)
   have i8:=qH (mo.out.next hcond);have kn:=qH (mo.out.none hcond);rcases(show(i=0)∨(¬i=0∧i<of) by omega) with hz|⟨hz,hlt⟩
   ·have hz':((i:Int)==0)=true:=by rw[beq_iff_eq];omega
    clear hz hcond;by_cases hil:i<ss.length
    ·have hne:((i:Int)==(ss.length:Int))=false:=by rw[beq_eq_false_iff_ne];omega
     have q0:(0:Int)≤i:=by omega
     have q1:(i:Int)<ss.length:=by omega
     obtain⟨b,off,u,rfl,hb,hu,hr⟩:=rp_at HV.out hil;have hu':=(HB.out.cell (p:=⟨b,off+i,none⟩) hb).trans hu;have hpc:=refPiece_any u ss[i] ep n i of he hn (by omega) (by omega) wr (hr.below HB.out);have hnx:=i8.out hil;have hno:=kn.out hil;have eB:=qH (allP_take hil);obtain⟨Au,cu,rfl⟩:=rb_shape hr;obtain⟨s,hs⟩:∃s,s=ss[i]:=⟨_,rfl⟩
     rw[←hs] at hpc hnx hno eB hu' hr;obtain⟨ls,hls⟩:∃ls,ls=s.length:=⟨_,rfl⟩
     rw[←hls] at hpc hu';have m4:=qH hpc;have kw:=qH hnx;have oF:=qH hno;have Cj:b9 s≤255:=by unfold b9;have:=(s.getD 9 0).toNat_lt;omega
     obtain⟨k9,ex⟩:∃k,k=b9 s:=⟨_,rfl⟩
     rw[←ex] at Cj kw;have lM:=qH ex;clear hpc hnx hno hs hls hu hr ex;go_wp2_with fail
     refine m4.out.mono ?_;rintro e w2⟨hres,hb2⟩;have ae:=qH (HB.out.trans (hb2.mono hsz));have fR:=qH (own_below HO.out hb2);clear m4;rcases hres with ⟨hok,up,rfl,eu⟩|⟨hok,rfl⟩
     ·rw[←lM.out]
      have HN:=qH (kw.out hok);have wh:(pieceP s).length≤49:=by unfold pieceP;rw[List.length_take];omega
      have cH:=qH ((eu.below hb2).src (P:=Tryz.prog) Tryz.underlying46);obtain⟨Ap,cp,rfl⟩:=rb_shape eu;clear hok eu hb2 kw oF;generalize pieceP s=P at *;go_wp2_with (at_builtin;refine wpList_own rfl (.tmp 45) (.tmp 46) 46 46 rfl w.heap.size 5 (.int .u8 0) 1 1 Tryz.underlying46 info5 rfl rfl fR.out rfl cH.out ae.out (Nat.le_refl _) ?_ ?_ ?_ ?_)
      ·unfold maxLen;omega
      ·omega
      ·exact ae.out.size
      intro v6 w6 dE au _;rw[←bvs_append,←eB.out] at dE;have j9:=qH dE;have aG:=qH au;clear dE au;go_wp2;go_roundw
      case rel=>exact⟨i+1,k9,L+P.length,HN.out,by go_num,rfl,by rw[eB.out,List.length_append,←FT.out],j9.out,aG.out⟩
      case measure=>simp[intOf];omega
     ·have HN:=qH (frame_no (oF.out hok))
      clear hok hb2;go_wp2
      go_ret2
      exact GivesFr.none_ HN.out ae.out
    ·have hne:((i:Int)==(ss.length:Int))=true:=by rw[beq_iff_eq];omega
     have HN:=qH (frame_no (Hw.out (by omega)));go_wp2
     go_ret2
     exact GivesFr.none_ HN.out HB.out
   ·have hz':((i:Int)==0)=false:=by rw[beq_eq_false_iff_ne];omega
    have hlt':(i:Int)<(of:Int):=by omega
    clear hz hcond hlt;by_cases hil:i<ss.length
    ·have hne:((i:Int)==(ss.length:Int))=false:=by rw[beq_eq_false_iff_ne];omega
     have q0:(0:Int)≤i:=by omega
     have q1:(i:Int)<ss.length:=by omega
     obtain⟨b,off,u,rfl,hb,hu,hr⟩:=rp_at HV.out hil;have hu':=(HB.out.cell (p:=⟨b,off+i,none⟩) hb).trans hu;have hpc:=refPiece_any u ss[i] ep n i of he hn (by omega) (by omega) wr (hr.below HB.out);have hnx:=i8.out hil;have hno:=kn.out hil;have eB:=qH (allP_take hil);obtain⟨Au,cu,rfl⟩:=rb_shape hr;obtain⟨s,hs⟩:∃s,s=ss[i]:=⟨_,rfl⟩
     rw[←hs] at hpc hnx hno eB hu' hr;obtain⟨ls,hls⟩:∃ls,ls=s.length:=⟨_,rfl⟩
     rw[←hls] at hpc hu';have m4:=qH hpc;have kw:=qH hnx;have oF:=qH hno;have Cj:b9 s≤255:=by unfold b9;have:=(s.getD 9 0).toNat_lt;omega
     obtain⟨k9,ex⟩:∃k,k=b9 s:=⟨_,rfl⟩
     rw[←ex] at Cj kw;have lM:=qH ex;clear hpc hnx hno hs hls hu hr ex;go_wp2_with fail
     refine m4.out.mono ?_;rintro e w2⟨hres,hb2⟩;have ae:=qH (HB.out.trans (hb2.mono hsz));have fR:=qH (own_below HO.out hb2);clear m4;rcases hres with ⟨hok,up,rfl,eu⟩|⟨hok,rfl⟩
     ·rw[←lM.out]
      have HN:=qH (kw.out hok);have wh:(pieceP s).length≤49:=by unfold pieceP;rw[List.length_take];omega
      have cH:=qH ((eu.below hb2).src (P:=Tryz.prog) Tryz.underlying46);obtain⟨Ap,cp,rfl⟩:=rb_shape eu;clear hok eu hb2 kw oF;generalize pieceP s=P at *;go_wp2_with (at_builtin;refine wpList_own rfl (.tmp 45) (.tmp 46) 46 46 rfl w.heap.size 5 (.int .u8 0) 1 1 Tryz.underlying46 info5 rfl rfl fR.out rfl cH.out ae.out (Nat.le_refl _) ?_ ?_ ?_ ?_)
      ·unfold maxLen;omega
      ·omega
      ·exact ae.out.size
      intro v6 w6 dE au _;rw[←bvs_append,←eB.out] at dE;have j9:=qH dE;have aG:=qH au;clear dE au;go_wp2;go_roundw
      case rel=>exact⟨i+1,k9,L+P.length,HN.out,by go_num,rfl,by rw[eB.out,List.length_append,←FT.out],j9.out,aG.out⟩
      case measure=>simp[intOf];omega
     ·have HN:=qH (frame_no (oF.out hok))
      clear hok hb2;go_wp2
      go_ret2
      exact GivesFr.none_ HN.out ae.out
    ·have hne:((i:Int)==(ss.length:Int))=true:=by rw[beq_iff_eq];omega
     have HN:=qH (frame_no (Hw.out (by omega)));go_wp2
     go_ret2
     exact GivesFr.none_ HN.out HB.out
  ·obtain⟨FA,hg⟩:=mo.out.done hcond
   have hz':((i:Int)==0)=false:=by rw[beq_eq_false_iff_ne];omega
   have hlt':¬(i:Int)<(of:Int):=by omega
   have bY:=RB.own (by rw[←FT.out];exact HO.out:wr.ownsRow w.heap.size 5 1 (.slice Ao L co) (allP (ss.take i)).length (bvs (allP (ss.take i))));have fq:=qH (refReadChgs_any _ _ wr bY);have bm:=qH (fun(h:(readChgs (allP (ss.take i))).2=0)=>by rw[FA] at h⊢;exact good_frame hg he hn h:(readChgs (allP (ss.take i))).2=0→frameS ep n ss=((readChgs (allP (ss.take i))).1,of));have Gv:=qH (fun(h:(readChgs (allP (ss.take i))).2≠0)=>by rw[FA] at h;exact frame_err hg h:(readChgs (allP (ss.take i))).2≠0→frameS ep n ss=([],0));clear hcond FA hg bY;generalize readChgs (allP (ss.take i))=r at *;obtain⟨cs,er⟩:=r;simp only at bm Gv;go_wp2_with fail
   refine fq.out.mono ?_;rintro e w2⟨v2,rfl,dz,hb2⟩;have dz:OC 5 76 w2 wr.heap.size v2 cs:=dz;have rK:=qH (dz.base_ hsz);have ae:=qH (HB.out.trans (hb2.mono hsz));obtain⟨A2,c2,rfl,_,_,_⟩:=dz.rc;clear dz hb2 fq;by_cases her:er=0
   ·have H:=qH (bm.out her)
    have Cr:(er !=0)=false:=by rw[bne_eq_false_iff_eq];exact her
    subst her;go_wp2
    go_ret2
    rw[H.out];exact⟨_,rfl,rK.out,ae.out⟩
   ·have H:=qH (Gv.out her)
    have Cr:(er !=0)=true:=by rw[bne_iff_ne];exact her
    clear her;go_wp2
    go_ret2
    exact GivesFr.none_ H.out ae.out
theorem refRead_any(ep:Int)(v:Value)(ss:List (List UInt8))(w:World)(hv:RP w v ss)(hl:ss.length≤1000000):
  Calls Tryz.prog 55 #[.int .i64 ep,v] w (GivesRd w (readS ep ss)):=by
 have HV:=qH hv;obtain⟨A,c,rfl,hlc,hc,_⟩:=hv;unfold maxLen at hc;have hout:(ep<0∨1073741824<ep)→readS ep ss=([],0):=fun h=>by
  unfold readS;exact readF_stop (by rw[frame_out (by omega)])
 by_cases hlo:0≤ep
 ·by_cases hhi:ep≤1073741824
  ·obtain⟨E,rfl⟩:=Int.eq_ofNat_of_zero_le hlo
   have hE:E≤1073741824:=by omega
   have ug:(ss.length:Int)≤(c:Int):=by omega
   clear hout;go_enter Tryz.func55,Tryz.ntmps55;go_wp2
   go_loopw [6,7,8,9] (fun ov av _ _ wr=>∃(fs:List (List Chg)) (at_:Nat),Left E ss (readS E ss) fs at_∧av= .int .i64 at_∧OF wr w.heap.size ov fs∧fs.length≤at_∧Below w.heap.size w wr)
    (fun _ av _ _ _=>ss.length-(intOf av).toNat)
   case atStart=>exact⟨[],0,Left.start E ss,rfl,OF.nil_ _ _,Nat.le_refl _,Below.refl _ _⟩
   case round=>
    obtain⟨fs,at_,ce,rfl,hof,hfl,ad⟩:=hrel;obtain⟨Wo,iB⟩:∃x,x=wr:=⟨_,rfl⟩
    subst iB;have hat:=ce.1;have I8:(0:Int)≤(at_:Int):=by omega
    have hat':((at_:Nat):Int)≤(ss.length:Int):=by omega
    obtain⟨A1,c1,rfl,zG,Ak⟩:=hof.shape;have ax:=refFrame_any E fs.length (.slice (if c=at_ then A else Option.map (fun x=>x.add at_) A) (ss.length-at_) (c-at_)) (ss.drop at_) hE (by omega) Wo (rp_cut (rp_below HV.out ad (Nat.le_refl _)) hat);have jO:=frame_le (epoch:=E) (num:=fs.length) (ss:=ss.drop at_);rw[List.length_drop] at jO;have bT:=ce.stop;have bB:=ce.next;generalize frameS (E:Int) fs.length (ss.drop at_)=r at *;obtain⟨l,C⟩:=r;simp only at bT bB jO;have dw:=qH ax;have b8:=qH hof;have HB:=qH ad;have hsz:=ad.size;have HST:=qH bT;have i8:=qH bB;clear ax hof ad ce bT bB;by_cases cP:at_=c
    ·subst cP
     have ax:=dw.out;rw[if_pos rfl,Nat.sub_self,show ss.length-at_=0 by omega] at ax;have gV:=qH ax;clear ax dw;go_wp2_with fail
     refine gV.out.mono ?_;rintro e W2⟨u,rfl,iq,hb2⟩;obtain⟨Au,cu,rfl,_⟩:=iq.rc;have ez:=qH (b8.out.below hb2);have bX:=qH (HB.out.trans (hb2.mono hsz));have hC:C=0:=by omega
     subst hC;have hR:=qH (HST.out rfl);clear iq hb2;go_wp2
     go_ret2
     exact⟨_,by rw[hR.out];rfl,by rw[hR.out];exact ez.out,bX.out⟩
    ·have mO:¬c=at_:=fun h=>cP h.symm
     have ax:=dw.out;rw[if_neg mO] at ax;have gV:=qH ax;clear ax dw;go_wp2_with fail
     refine gV.out.mono ?_;rintro e W2⟨u,rfl,iq,hb2⟩;obtain⟨Au,cu,rfl,_⟩:=iq.rc;have ez:=qH (b8.out.below hb2);have jc:=HB.out.trans (hb2.mono hsz);have bk:=jc.size;have bX:=qH jc;have HU:=qH (iq.base_ hsz);clear iq jc;by_cases hC:C=0
     ·subst hC
      have hR:=qH (HST.out rfl);go_wp2
      go_ret2
      exact⟨_,by rw[hR.out];rfl,by rw[hR.out];exact ez.out,bX.out⟩
     ·have rX:(0:Int)<(C:Int):=by omega
      have MD:((C:Int)==0)=false:=by rw[beq_eq_false_iff_ne];omega
      have Ge:=qH (i8.out hC);have au:=(Below.refl W2.heap.size W2).alloc (Nat.le_refl _) (Obj.cells #[.slice Au l.length cu] 56);have dn:=qH (bX.out.trans (au.mono bk));have m6:=dn.out.size;have Aw:=qH (HU.out.below (au.mono (Nat.le_refl _)));obtain⟨us,ag,ho,hf⟩:=ez.out.below au;have bt:=qH (show us.length=fs.length by rw[←ag,List.length_map]);have HO:=qH ho;have HF:=qH hf;have bZ:=qH ag;clear ho hf ag hb2;have jo:=qH (src_one W2 Tryz.underlying97 56 (.slice Au l.length cu) rfl);go_wp2_with (at_builtin;refine wpList_own rfl (.tmp 30) (.tmp 32) 97 97 rfl w.heap.size 56 (.slice none 0 0) 1 24 Tryz.underlying97 info56 rfl rfl HO.out rfl jo.out dn.out (Nat.le_refl _) ?_ ?_ ?_ ?_)
      ·have:=bt.out
       unfold maxLen;omega
      ·have:=bt.out
       omega
      ·exact m6
      intro v5 w5 aJ aq hg5;have hrf:=OF.push HO.out HF.out Aw.out aJ hg5;rw[bZ.out] at hrf;have iR:=qH hrf;have ay:=qH aq;clear aJ hg5 hrf aq;go_wp2;go_roundw
      case rel=>exact⟨fs++ [l],at_+C,Ge.out,by go_num,iR.out,by rw[List.length_append,List.length_singleton];omega,ay.out⟩
      case measure=>simp[intOf];omega
  ·have hR:=qH (hout (.inr (by omega)))
   clear hout;go_enter Tryz.func55,Tryz.ntmps55;go_wp2
   go_loopw [6,7,8,9] (fun ov av _ _ wr=>ov= .slice none 0 0∧av= .int .i64 0∧wr=w) (fun _ _ _ _ _=>0)
   case atStart=>exact⟨rfl,rfl,rfl⟩
   case round=>
    obtain⟨rfl,rfl,rfl⟩:=hrel;go_wp2
    go_ret2
    exact⟨_,by rw[hR.out];rfl,by rw[hR.out];exact OF.nil_ _ _,Below.refl _ _⟩
 ·have hR:=qH (hout (.inl (by omega)))
  clear hout;go_enter Tryz.func55,Tryz.ntmps55;go_wp2
  go_loopw [6,7,8,9] (fun ov av _ _ wr=>ov= .slice none 0 0∧av= .int .i64 0∧wr=w) (fun _ _ _ _ _=>0)
  case atStart=>exact⟨rfl,rfl,rfl⟩
  case round=>
   obtain⟨rfl,rfl,rfl⟩:=hrel;go_wp2
   go_ret2
   exact⟨_,by rw[hR.out];rfl,by rw[hR.out];exact OF.nil_ _ _,Below.refl _ _⟩
end Go.Proofs.YtmbkaedhllfoeaaGreat
