/-
  Texts of the proof, put together.
-/
import Derived.OrdersHeld
import Derived.Test.YtmbkaedhllfoeaaGreatKPBD
import Derived.Test.YtmbkaedhllfoeaaGreatKPBG
import Derived.Test.YtmbkaedhllfoeaaGreatKPBH
import Derived.Test.YtmbkaedhllfoeaaGreatKPWr
set_option maxRecDepth 100000
set_option maxHeartbeats 4000000
set_option linter.unusedVariables false
namespace Go.Proofs.YtmbkaedhllfoeaaGreat
open Go.RowKit Go.Rst Go.Crc Go.Shelf
attribute [local go_sem] Oper.semAt_some
def secX(ep n of:Nat)(ps:List (List UInt8)):List (List UInt8):=ps.zipIdx.map fun x=>partL ep n x.2 of x.1
theorem secX_snoc(ep n of:Nat)(ps:List (List UInt8))(p:List UInt8):secX ep n of (ps++ [p])=secX ep n of ps++ [partL ep n ps.length of p]:=by
 unfold secX;rw[List.zipIdx_append,List.map_append];simp
theorem secX_len(ep n of:Nat)(ps:List (List UInt8)):(secX ep n of ps).length=ps.length:=by simp[secX]
theorem secX_chunks(ep n:Nat)(bl:List UInt8):secX ep n (ofL bl) (chunkL bl)=secL ep n bl (ofL bl):=by
 unfold chunkL;have:∀k,secX ep n (ofL bl) ((List.range k).map (pcL bl))=secL ep n bl k:=by
  intro k
  induction k with
  |zero=>rfl
  |succ k ih=>rw[List.range_succ,List.map_append,List.map_cons,List.map_nil,secX_snoc,ih,secL_succ,List.length_map,List.length_range]
 exact this _
theorem leaveP{W:World}{tmps:Array Value}{a b:Value}(h2:tmps.getD 6 undef=a)(h3:tmps.getD 7 undef=b):(results Tryz.f66 tmps).run Tryz.prog W= .ok (.tuple #[a,b]) W:=by
 subst h2;subst h3;exact results_tmp2 rfl _ _ _
theorem rb_kept{A B:World}{row:Option Nat}{v:Value}{l:List UInt8}(h:RB A v l)(hg:A.grownBy B row)(hr:∀r,row=some r→∃o:Obj,A.heap[r]? =some o∧o.isCells=false):RB B v l:=by
 obtain⟨A',c,rfl,h1,h2,h3⟩:=h;refine⟨A',c,rfl,h1,h2,h3.imp id fun h=>?_⟩;obtain⟨b,off,rfl,hb,hc⟩:=h;exact⟨b,off,rfl,Nat.lt_of_lt_of_le hb hg.size,fun j hj=>cell_kept (hc j hj) hg hr⟩
theorem rc_below{w w':World}{B:Nat}{v:Value}{rs:List Chg}(h:RC w v rs)(hb:Below B w w')(hB:w.heap.size≤B):RC w' v rs:=by
 obtain⟨A,c,rfl,h1,h2,h3⟩:=h;refine⟨A,c,rfl,h1,h2,h3.imp id fun h=>?_⟩;obtain⟨b,off,rfl,hb0,hc⟩:=h;refine⟨b,off,rfl,Nat.lt_of_lt_of_le hb0 hb.size,fun j hj=>?_⟩;obtain⟨a1,⟨u,a2,a3⟩,a4⟩:=hc j hj;exact⟨(hb.cell (p:=⟨b,off+j*3,none⟩) (by show b<B;omega)).trans a1,⟨u,(hb.cell (p:=⟨b,off+j*3+1,none⟩) (by show b<B;omega)).trans a2,a3.below (hb.mono hB)⟩,(hb.cell (p:=⟨b,off+j*3+2,none⟩) (by show b<B;omega)).trans a4⟩
theorem parts_any(epoch num:Int)(v:Value)(cs:List Chg)(w:World)(hv:RC w v cs)(hbig:(chgsB cs).length≤100000000)(hn:cs.length≤100000000)(hvb:∀r∈cs,r.2.1.length≤1000000000):
  Calls Tryz.prog 66 #[.int .i64 epoch,.int .i64 num,v] w (GivesPt w (partsL epoch num cs)):=by
 have HC:=qH (fun X (h:RC X v cs)=>changes_any v cs (by omega) (by omega) hvb X h);have HV:=qH hv;obtain⟨Av,cv,rfl,Kn,sD,_⟩:=hv;unfold maxLen at sD;have hP:partsL epoch num cs=if epoch<0∨1073741824<epoch∨num<0∨1073741824<num then ([],false)
  else if 200<ofL (chgsL cs) then ([],false) else (secL epoch.toNat num.toNat (chgsL cs) (ofL (chgsL cs)),true):=rfl
 have hbl:(chgsL cs).length≤100000010:=by
  have:=numL_len8 (n:=cs.length) (by omega);unfold chgsL;rw[List.length_append];omega
 have uU:=chgsL_pos cs;generalize chgsL cs=bl at *;generalize partsL epoch num cs=R at *;clear hvb hbig;refine(callsIn_wide (n:=3)).1 ?_;refine callsIn_of_wp_marks Tryz.func66 rfl trivial ?_ rfl;simp only[Tryz.ntmps66,List.size_toArray,List.length_cons,List.length_nil,Nat.reduceAdd,Nat.reduceSub,Array.replicate_succ,Array.replicate_zero,List.push_toArray,List.append_toArray,List.nil_append,List.cons_append];have hb2:Below w.heap.size w ((w.alloc (.cells #[.int .i64 epoch] 3)).alloc (.cells #[.int .i64 num] 3)):=((Below.refl _ _).alloc (Nat.le_refl _) _).alloc (by simp) _;have ae:=qH hb2;clear hb2;by_cases h1:0≤epoch∧epoch≤1073741824
 ·by_cases h2:0≤num∧num≤1073741824
  ·have d1:decide (0≤epoch∧epoch≤1073741824)=true:=by simp[h1]
   have d2:decide (0≤num∧num≤1073741824)=true:=by simp[h2]
   rw[if_neg (by omega)] at hP;obtain⟨ep,rfl⟩:=Int.eq_ofNat_of_zero_le h1.1;obtain⟨n,rfl⟩:=Int.eq_ofNat_of_zero_le h2.1;simp only[Int.toNat_natCast] at hP;obtain⟨L,hL⟩:∃L,L=bl.length:=⟨_,rfl⟩
   obtain⟨of,hof⟩:∃of,of=ofL bl:=⟨_,rfl⟩
   rw[←hof] at hP;have lQ:((L:Int)+48)/49=of:=by rw[hof,hL];unfold ofL;omega
   have mQ:((L:Int)+48).tdiv 49=of:=by rw[Int.tdiv_eq_ediv_of_nonneg (by omega)];exact lQ
   have FC:((L:Int)+49-1)/49=of:=by rw[show(L:Int)+49-1=(L:Int)+48 by omega];exact lQ
   have KQ:L≤100000010:=by omega
   have HL:=qH hL;have cm:=qH hof;have HP:=qH hP;have uO:=qH uU;clear hP hL hof uU hbl;by_cases hbig:200<of
   ·have jY:=qH (show R=([],false) by rw[HP.out,if_pos hbig])
    have cA:(200:Int)<(of:Int):=by omega
    clear HP;gi_wp2_with (first|(gi_at_call 108;refine(callsIn_wide.2 (counts_any _ _)).mono ?_;rintro e w2 ⟨rfl,rfl⟩)|(gi_at_call 109;refine(callsIn_wide.2 (HC.out _ (rc_below HV.out ae.out (Nat.le_refl _)))).mono ?_;rintro e w2 ⟨v2,rfl,aQ,hb2⟩;obtain⟨b,c,rfl⟩:=ownsRow_succ (k:=bl.length-1) (by rw[Nat.sub_add_cancel uO.out];exact aQ);rw[Nat.sub_add_cancel uO.out] at aQ⊢;have fQ:=qH aQ;have b7:=qH hb2;clear aQ hb2;rw[←HL.out] at fQ⊢)|(gi_at_call 77;refine(chunk_in _ _ _ rfl).mono ?_;rintro e w3 ⟨rfl,rfl⟩)|(refine⟨(show Fence.wide.fn _ from trivial),?_⟩))
    have bm:((w.alloc (.cells #[.int .i64 ep] 3)).alloc (.cells #[.int .i64 n] 3)).heap.size=w.heap.size+2:=by simp
    have aj:=ae.out.trans (b7.out.mono (by rw[bm];omega));exact⟨_,leaveP rfl rfl,GivesPt.none jY.out (aj.alloc aj.size _)⟩
   ·have jY:=qH (show R=(secL ep n bl of,true) by rw[HP.out,if_neg hbig])
    have cA:¬(200:Int)<(of:Int):=by omega
    clear HP;gi_wp2_with (first|(gi_at_call 108;refine(callsIn_wide.2 (counts_any _ _)).mono ?_;rintro e w2 ⟨rfl,rfl⟩)|(gi_at_call 109;refine(callsIn_wide.2 (HC.out _ (rc_below HV.out ae.out (Nat.le_refl _)))).mono ?_;rintro e w2 ⟨v2,rfl,aQ,hb2⟩;obtain⟨b,c,rfl⟩:=ownsRow_succ (k:=bl.length-1) (by rw[Nat.sub_add_cancel uO.out];exact aQ);rw[Nat.sub_add_cancel uO.out] at aQ⊢;have fQ:=qH aQ;have b7:=qH hb2;clear aQ hb2;rw[←HL.out] at fQ⊢)|(gi_at_call 77;refine(chunk_in _ _ _ rfl).mono ?_;rintro e w3 ⟨rfl,rfl⟩)|(refine⟨(show Fence.wide.fn _ from trivial),?_⟩))
    have xg:=fQ.out;have bm:((w.alloc (.cells #[.int .i64 ep] 3)).alloc (.cells #[.int .i64 n] 3)).heap.size=w.heap.size+2:=by simp
    have aj:=ae.out.trans (b7.out.mono (by rw[bm];omega));obtain⟨B,pL⟩:∃B,B=w2.heap.size:=⟨_,rfl⟩
    have iI:w.heap.size+2≤B:=by rw[pL,←bm];exact b7.out.size
    have b4:Below w2.heap.size w2 ((((w2.alloc (.cells #[.int .i64 of] 3)).alloc (.cells #[.slice none 0 0] 26)).alloc (.cells #[.slice (some ⟨b,0,none⟩) L c] 46)).alloc (.cells #[.int .i64 49] 3)):=((((Below.refl _ _).alloc (Nat.le_refl _) _).alloc (by simp) _).alloc (by simp;omega) _).alloc (by simp;omega) _;have x0:Boxed ((w.alloc (.cells #[.int .i64 ep] 3)).alloc (.cells #[.int .i64 n] 3)) w.heap.size 3 (.int .i64 ep):=(Boxed.new w _ _).alloc _;have x1:Boxed ((w.alloc (.cells #[.int .i64 ep] 3)).alloc (.cells #[.int .i64 n] 3)) (w.heap.size+1) 3 (.int .i64 n):=by
     have:=Boxed.new (w.alloc (.cells #[.int .i64 ep] 3)) 3 (.int .i64 n);rw[World.size_alloc] at this;exact this
    have x2:=Boxed.new w2 3 (.int .i64 of);have x3:=Boxed.new (w2.alloc (.cells #[.int .i64 of] 3)) 26 (.slice none 0 0);have x4:=Boxed.new ((w2.alloc (.cells #[.int .i64 of] 3)).alloc (.cells #[.slice none 0 0] 26)) 46 (.slice (some ⟨b,0,none⟩) L c);have x5:=Boxed.new (((w2.alloc (.cells #[.int .i64 of] 3)).alloc (.cells #[.slice none 0 0] 26)).alloc (.cells #[.slice (some ⟨b,0,none⟩) L c] 46)) 3 (.int .i64 49);simp only[World.size_alloc] at x3 x4 x5;have hq0:QS w ep n of (.slice (some ⟨b,0,none⟩) L c) bl B [] (.slice none 0 0) ((((w2.alloc (.cells #[.int .i64 of] 3)).alloc (.cells #[.slice none 0 0] 26)).alloc (.cells #[.slice (some ⟨b,0,none⟩) L c] 46)).alloc (.cells #[.int .i64 49] 3)):=by
     rw[pL];refine⟨(x3.alloc _).alloc _,OP.nil_ _ _ _ _,⟨?_,?_,?_,((x2.alloc _).alloc _).alloc _,x4.alloc _,x5,aj.trans (b4.mono aj.size)⟩,aj.size,fun g hg=>by simp[Value.ownBlock] at hg⟩
     ·have h:=own_below (own_base xg (base':=w.heap.size) (by rw[bm];omega)) b4
      rw[←HL.out];exact h
     ·exact(b4.block _ (by omega)).trans ((b7.out.block _ (by rw[bm];omega)).trans x0)
     ·exact(b4.block _ (by omega)).trans ((b7.out.block _ (by rw[bm];omega)).trans x1)
    have kA:((((w2.alloc (.cells #[.int .i64 of] 3)).alloc (.cells #[.slice none 0 0] 26)).alloc (.cells #[.slice (some ⟨b,0,none⟩) L c] 46)).alloc (.cells #[.int .i64 49] 3)).heap.size=B+4:=by rw[pL];simp
    rw[←pL];obtain⟨W0,hW0⟩:∃W0,W0=((((w2.alloc (.cells #[.int .i64 of] 3)).alloc (.cells #[.slice none 0 0] 26)).alloc (.cells #[.slice (some ⟨b,0,none⟩) L c] 46)).alloc (.cells #[.int .i64 49] 3)):=⟨_,rfl⟩
    rw[←hW0] at hq0 kA⊢;clear x0 x1 x2 x3 x4 x5 b4 hW0 xg aj fQ b7 pL;refine wpIn_rangeFunc_ownG rfl (by decide) (gf:=117) (lb:=#[.pointer (some ⟨B+1+1,0,none⟩),.pointer (some ⟨B+1+1+1,0,none⟩)]) rfl trivial (enters_of Tryz.func117 (by kernel_rfl) rfl)
     (chunk_stops 2 b 0 c L (B+1+1) bl W0 HL.out hq0.pk.dc (by omega)) (fun h k x=>k (h x)) (fun X l o o' hl hlo hc _ hx=>?kb) (Below.refl _ _) (fun _=>rfl)
     (fun pre X=>∃sv,QS w ep n of (.slice (some ⟨b,0,none⟩) L c) bl B (secX ep n of (pre.map (·.1.2))) sv X)
     (fun _ _ _=>False)
     ?oi (fun _ _ _ _ _ h _ _=>h) ⟨_,by simpa [secX] using hq0⟩
     (fun x=>{tmps:=#[.int .i64 ep,.int .i64 n,.slice Av cs.length cv,.pointer (some ⟨w.heap.size,0,none⟩),.pointer (some ⟨w.heap.size+1,0,none⟩),undef,.slice none 0 0,.bool false,.slice (some ⟨b,0,none⟩) L c,.pointer (some ⟨B,0,none⟩),.pointer (some ⟨B+1,0,none⟩),x.1.1,.int .i64 ep,.bool true,.bool false,.bool false,.int .i64 n,.bool true,.bool false,.bool false,.slice Av cs.length cv,.slice (some ⟨b,0,none⟩) L c,.slice (some ⟨b,0,none⟩) L c,.int .i64 L,.int .i64 ((L:Int)+49),.int .i64 ((L:Int)+49-1),.int .i64 of,.int .i64 of,.bool (decide ((200:Int)<of)),.slice (some ⟨b,0,none⟩) L c,.func (.func 117) #[] #[.pointer (some ⟨B+1+1,0,none⟩),.pointer (some ⟨B+1+1+1,0,none⟩)],x.1.1,undef,undef,undef,undef,undef,undef,undef,undef,undef,undef,undef],defers:= []}) ?assign ?body ?done ?stop
    case kb=>
     have hg:=grownBy_putObj' X l o';have hk:KX (fun _ _=>True) X (X.putObj l o'):=KX.of_grown hg (fun r e=>by cases e;exact⟨o,hlo,hc⟩);exact⟨rb_kept hx.1 hg (fun r e=>by cases e;exact⟨o,hlo,hc⟩),hk.boxed trivial hx.2.1,hk.boxed trivial hx.2.2⟩
    case oi=>
     rintro pre X Y row⟨sv,h⟩ hg hr;exact⟨sv,h.grown hg (fun r e=>⟨by have:=(hr r e).1;omega,(hr r e).2⟩)⟩
    case assign=>
     intro l x X K hK;gi_wp2;exact hK
    case stop=>
     intro D c pre X hD hS h;exact h.elim
    case done=>
     rintro D xs X hD hS⟨sv,hq⟩ hK;rw[hS,cm.out,secX_chunks,←cm.out] at hq;have dZ:Marks w.heap.size X.heap.size X [{target:= .collected D,args:=#[]}]:=⟨⟨D,rfl,by omega,(Array.getElem?_eq_some_iff.1 hK).1,hK,fun d hd=>by cases hd⟩,trivial⟩
     obtain⟨Ac,cc,rfl,_⟩:=hq.op.shape;have hcb:=hq.bs.cell;rw[secL_length] at hcb hq;have HQ:=qH hq;have iu:=qH dZ;clear hq dZ hS;gi_wp2;exact leaves_marks iu.out (fun W' dC hb=>⟨_,leaveP rfl rfl,by rw[jY.out];exact⟨_,rfl,dC.op (fun _=>trivial) (fun _=>trivial) HQ.out.op,HQ.out.pk.bl.trans hb⟩⟩)
    case body=>
     rintro l pre⟨⟨xv,p⟩,EZ,hxl⟩ X⟨sv,hq⟩ hlt
     dsimp only at EZ hxl hlt⊢
     obtain⟨Ax,cx,hxv⟩:∃A c,xv= .slice A p.length c:=by obtain⟨A,c,h,_⟩:=EZ X (RB.own hq.pk.ow);exact⟨A,c,h⟩
     subst hxv;have hK:(pre.map (·.1.2)).length=pre.length:=by rw[List.length_map]
     have hsl:=secX_len ep n of (pre.map (·.1.2));obtain⟨kN,Gl⟩:∃kN,kN=pre.length:=⟨_,rfl⟩
     rw[←Gl] at hK hlt;rw[hK] at hsl;have vf:=qH hK;have f8:=qH hsl;have jw:=qH (fun Y (hY:RB Y (.slice Ax p.length cx) p)=>sector_any ep n kN of _ p (by omega) (by omega) Y hY hxl);have sI:=qH (@partL_length ep n kN of p hxl);have HST:=qH hq;have hA:=hq.bs.cell;obtain⟨As,c0,oT,_,_⟩:=hq.op.shape;rw[hsl] at oT;subst oT;have un:=qH EZ;have FT:kN≤201:=by have:=cm.out;omega
     clear hq hK hsl Gl;gi_wp2;have cO:=qH (HST.out.below (Below.refl _ _).drew);have hA:=cO.out.bs.cell;have pA:=qH (KeepsOthers.drew X);refine wpIn_region_round (S:=PK w ep n of (.slice (some ⟨b,0,none⟩) L c) bl B) (by kernel_rfl) (by kernel_rfl) (fun a w h=>h) cO.out.pk (fun hHeld=>?_);generalize X.drew=wd at *;refine wpAnyH_take (i:=1) (oi:=⟨some 33,.load 3 (.tmp 3),3,"log.go:32",#[],none⟩) (v:=?_) rfl (by kernel_rfl) (by kernel_rfl) (by kernel_rfl) (fun _ _ _ h=>h.elim) (Or.inl ⟨by rfl,?_⟩) (by assumption) ?_;rotate_left
     ·intro X hSw;have hq:=hSw.be.cell;go_simp;try (with_reducible rfl)
     try simp only[Act.put,zA,zB,zC]
     refine wpAnyH_take (i:=2) (oi:=⟨some 34,.load 3 (.tmp 4),3,"log.go:32",#[],none⟩) (v:=?_) rfl (by kernel_rfl) (by kernel_rfl) (by kernel_rfl) (fun _ _ _ h=>h.elim) (Or.inl ⟨by rfl,?_⟩) (by assumption) ?_;rotate_left
     ·intro X hSw;have hq:=hSw.bn.cell;go_simp;try (with_reducible rfl)
     try simp only[Act.put,zA,zB,zC]
     refine wpAnyH_take (i:=5) (oi:=⟨some 37,.load 3 (.tmp 9),3,"log.go:32",#[],none⟩) (v:=?_) rfl (by kernel_rfl) (by kernel_rfl) (by kernel_rfl) (fun _ _ _ h=>h.elim) (Or.inl ⟨by rfl,?_⟩) (by assumption) ?_;rotate_left
     ·intro X hSw;have hq:=hSw.bc.cell;go_simp;try (with_reducible rfl)
     try simp only[Act.put,zA,zB,zC]
     refine wpAnyH_take (i:=6) (oi:=⟨some 38,.move (.tmp 11),46,"log.go:32",#[],none⟩) (v:=?_) rfl (by kernel_rfl) (by kernel_rfl) (by kernel_rfl) (fun _ _ _ h=>h.elim) (Or.inl ⟨by rfl,?_⟩) (by assumption) ?_;rotate_left
     ·intro X hSw;go_simp;try (with_reducible rfl)
     try simp only[Act.put,zA,zB,zC]
     refine rdA (rs:= [0,3]) ?_;refine AllReadyH.cons (o:=⟨some 32,.load 26 (.tmp 10),26,"log.go:32",#[],none⟩) rfl (fun K hK=>?_) (AllReadyH.cons (o:=⟨some 35,.load 26 (.tmp 10),26,"log.go:32",#[],none⟩) rfl (fun K hK=>?_) AllReadyH.nil)
     ·go_simp
      try (go_wp2_with fail)
      refine hK.out _ _ ?_ (fun _=>?_)
      ·exact hHeld
      clear hK K;try simp only[Act.put,zA,zB,zC]
      refine rdA (rs:= [3]) ?_;refine arC (fun K hK=>?_);go_simp;try (go_wp2_with fail)
      refine hK.out _ _ ?_ (fun _=>?_)
      ·exact hHeld
      clear hK K;try simp only[Act.put,zA,zB,zC]
      refine wpAnyH_take (i:=4) (oi:=⟨some 36,.call ⟨.builtin .len,#[.tmp 35],#[26]⟩,3,"log.go:32",#[⟨3,.data⟩],none⟩) (v:=?_) rfl (by kernel_rfl) (by kernel_rfl) (by kernel_rfl) (fun _ _ _ h=>h.elim) (Or.inl ⟨by rfl,?_⟩) (by assumption) ?_;rotate_left
      ·intro X hSw;go_simp;try (with_reducible rfl)
      try simp only[Act.put,zA,zB,zC]
      refine rdA (rs:= [7]) ?_;refine arC (fun K hK=>?_);go_simp;refine(jw.out _ (un.out _ (RB.own hHeld.ow))).mono ?_;rintro e w4⟨v4,rfl,bH,hb4⟩;have cP:=FB.own bH;rw[sI.out] at bH;obtain⟨A4,c4,rfl,_⟩:=own_shape bH;have aF:=qH (cO.out.below hb4);have hA:=aF.out.bs.cell;have rE:=qH (cP.base_ (base':=w.heap.size) cO.out.pk.bl.size);have gJ:=qH (KeepsOthers.of_grownBy (grown_none hb4) (fun _ _ h=>(by cases h)));try (go_wp2_with fail)
      have ac:=hHeld.below hb4;refine hK.out _ _ ?_ (fun _=>?_)
      ·exact ac
      clear hK K hHeld;have hHeld:=ac;clear ac;try simp only[Act.put,zA,zB,zC]
      refine rdA (rs:= [8]) ?_;refine arC (fun K hK=>?_);go_simp;have ap:=(Below.refl w4.heap.size w4).alloc (Nat.le_refl _) (Obj.cells #[.slice A4 64 c4] 46);have hA:=(aF.out.below ap).bs.cell;try (go_wp2_with fail)
      have ac:=hHeld.below ap;refine hK.out _ _ ?_ (fun _=>?_)
      ·exact ac
      clear hK K hHeld;have hHeld:=ac;clear ac;try simp only[Act.put,zA,zB,zC]
      refine rdA (rs:= [9]) ?_;refine arC (fun K hK=>?_);obtain⟨us,ah,ho,hf⟩:=aF.out.op;have bt:=qH (show us.length=kN by have h:=congrArg List.length ah;rw[List.length_map] at h;rw[h];exact f8.out);have jD:=own_below ho ap;have lG:=aF.out.pk.bl.size;refine step_own3 rfl (.tmp 32) (.tmp 40) 26 26 rfl w.heap.size 46 (.slice none 0 0) 1 24 Tryz.underlying26 info46 rfl rfl jD rfl (src_one _ Tryz.underlying26 46 _ rfl) ?_ ?_ ?_ ?_
      ·have:=bt.out;unfold maxLen;omega
      ·have:=bt.out;omega
      ·simp;omega
      intro v5 w5 aI hg5 hv5;obtain⟨g5,c5,rfl⟩:=ownsRow_succ aI;obtain⟨bA,kF,aP,cH⟩:=aF.out.push ah ho hf rE.out aI hg5 hv5;have lW:=bA.cell;have iA:=bA.frozen;have bk:=qH aP;have eS:=qH cH;clear aP cH ah ho hf jD aI hg5 hv5;have ac:=kF;refine hK.out _ _ ?_ (fun _=>?_)
      ·exact ac
      clear hK K hHeld;have hHeld:=ac;clear ac;try simp only[Act.put,zA,zB,zC]
      refine rdA (rs:= [10]) ?_;refine arC (fun K hK=>?_);go_simp;try (go_wp2_with fail)
      have ac:=bk.out.pk;refine hK.out _ _ ?_ (fun _=>?_)
      ·exact ac
      clear hK K hHeld;have hHeld:=ac;clear ac;try simp only[Act.put,zA,zB,zC]
      refine wpAnyH_done (by kernel_rfl) ?_ _;try simp only[Exit.then]
      exact⟨(pA.out.trans (gJ.out.trans eS.out)).from _,fun _=>bk.out.pk.dc,⟨_,by rw[List.map_append,List.map_cons,List.map_nil,secX_snoc,vf.out];exact bk.out⟩⟩
     ·go_simp
      try (go_wp2_with fail)
      refine hK.out _ _ ?_ (fun _=>?_)
      ·exact hHeld
      clear hK K;try simp only[Act.put,zA,zB,zC]
      refine wpAnyH_take (i:=4) (oi:=⟨some 36,.call ⟨.builtin .len,#[.tmp 35],#[26]⟩,3,"log.go:32",#[⟨3,.data⟩],none⟩) (v:=?_) rfl (by kernel_rfl) (by kernel_rfl) (by kernel_rfl) (fun _ _ _ h=>h.elim) (Or.inl ⟨by rfl,?_⟩) (by assumption) ?_;rotate_left
      ·intro X hSw;go_simp;try (with_reducible rfl)
      try simp only[Act.put,zA,zB,zC]
      refine rdA (rs:= [0,7]) ?_;refine AllReadyH.cons (o:=⟨some 32,.load 26 (.tmp 10),26,"log.go:32",#[],none⟩) rfl (fun K hK=>?_) (AllReadyH.cons (o:=⟨some 39,.call ⟨.value (.func 110),#[.tmp 33,.tmp 34,.tmp 36,.tmp 37,.tmp 38],#[3,3,3,3,46]⟩,46,"log.go:32",#[⟨1,.data⟩,⟨2,.data⟩,⟨4,.data⟩,⟨5,.data⟩,⟨6,.data⟩],none⟩) rfl (fun K hK=>?_) AllReadyH.nil)
      ·go_simp
       try (go_wp2_with fail)
       refine hK.out _ _ ?_ (fun _=>?_)
       ·exact hHeld
       clear hK K;try simp only[Act.put,zA,zB,zC]
       refine rdA (rs:= [7]) ?_;refine arC (fun K hK=>?_);go_simp;refine(jw.out _ (un.out _ (RB.own hHeld.ow))).mono ?_;rintro e w4⟨v4,rfl,bH,hb4⟩;have cP:=FB.own bH;rw[sI.out] at bH;obtain⟨A4,c4,rfl,_⟩:=own_shape bH;have aF:=qH (cO.out.below hb4);have hA:=aF.out.bs.cell;have rE:=qH (cP.base_ (base':=w.heap.size) cO.out.pk.bl.size);have gJ:=qH (KeepsOthers.of_grownBy (grown_none hb4) (fun _ _ h=>(by cases h)));try (go_wp2_with fail)
       have ac:=hHeld.below hb4;refine hK.out _ _ ?_ (fun _=>?_)
       ·exact ac
       clear hK K hHeld;have hHeld:=ac;clear ac;try simp only[Act.put,zA,zB,zC]
       refine rdA (rs:= [8]) ?_;refine arC (fun K hK=>?_);go_simp;have ap:=(Below.refl w4.heap.size w4).alloc (Nat.le_refl _) (Obj.cells #[.slice A4 64 c4] 46);have hA:=(aF.out.below ap).bs.cell;try (go_wp2_with fail)
       have ac:=hHeld.below ap;refine hK.out _ _ ?_ (fun _=>?_)
       ·exact ac
       clear hK K hHeld;have hHeld:=ac;clear ac;try simp only[Act.put,zA,zB,zC]
       refine rdA (rs:= [9]) ?_;refine arC (fun K hK=>?_);obtain⟨us,ah,ho,hf⟩:=aF.out.op;have bt:=qH (show us.length=kN by have h:=congrArg List.length ah;rw[List.length_map] at h;rw[h];exact f8.out);have jD:=own_below ho ap;have lG:=aF.out.pk.bl.size;refine step_own3 rfl (.tmp 32) (.tmp 40) 26 26 rfl w.heap.size 46 (.slice none 0 0) 1 24 Tryz.underlying26 info46 rfl rfl jD rfl (src_one _ Tryz.underlying26 46 _ rfl) ?_ ?_ ?_ ?_
       ·have:=bt.out;unfold maxLen;omega
       ·have:=bt.out;omega
       ·simp;omega
       intro v5 w5 aI hg5 hv5;obtain⟨g5,c5,rfl⟩:=ownsRow_succ aI;obtain⟨bA,kF,aP,cH⟩:=aF.out.push ah ho hf rE.out aI hg5 hv5;have lW:=bA.cell;have iA:=bA.frozen;have bk:=qH aP;have eS:=qH cH;clear aP cH ah ho hf jD aI hg5 hv5;have ac:=kF;refine hK.out _ _ ?_ (fun _=>?_)
       ·exact ac
       clear hK K hHeld;have hHeld:=ac;clear ac;try simp only[Act.put,zA,zB,zC]
       refine rdA (rs:= [10]) ?_;refine arC (fun K hK=>?_);go_simp;try (go_wp2_with fail)
       have ac:=bk.out.pk;refine hK.out _ _ ?_ (fun _=>?_)
       ·exact ac
       clear hK K hHeld;have hHeld:=ac;clear ac;try simp only[Act.put,zA,zB,zC]
       refine wpAnyH_done (by kernel_rfl) ?_ _;try simp only[Exit.then]
       exact⟨(pA.out.trans (gJ.out.trans eS.out)).from _,fun _=>bk.out.pk.dc,⟨_,by rw[List.map_append,List.map_cons,List.map_nil,secX_snoc,vf.out];exact bk.out⟩⟩
      ·go_simp
       refine(jw.out _ (un.out _ (RB.own hHeld.ow))).mono ?_;rintro e w4⟨v4,rfl,bH,hb4⟩;have cP:=FB.own bH;rw[sI.out] at bH;obtain⟨A4,c4,rfl,_⟩:=own_shape bH;have aF:=qH (cO.out.below hb4);have hA:=aF.out.bs.cell;have rE:=qH (cP.base_ (base':=w.heap.size) cO.out.pk.bl.size);have gJ:=qH (KeepsOthers.of_grownBy (grown_none hb4) (fun _ _ h=>(by cases h)));try (go_wp2_with fail)
       have ac:=hHeld.below hb4;refine hK.out _ _ ?_ (fun _=>?_)
       ·exact ac
       clear hK K hHeld;have hHeld:=ac;clear ac;try simp only[Act.put,zA,zB,zC]
       refine rdA (rs:= [0,8]) ?_;refine AllReadyH.cons (o:=⟨some 32,.load 26 (.tmp 10),26,"log.go:32",#[],none⟩) rfl (fun K hK=>?_) (AllReadyH.cons (o:=⟨some 40,.buildSlice 26 1 #[(0,.tmp 39)],26,"log.go:32",#[⟨7,.data⟩],none⟩) rfl (fun K hK=>?_) AllReadyH.nil)
       ·go_simp
        try (go_wp2_with fail)
        refine hK.out _ _ ?_ (fun _=>?_)
        ·exact hHeld
        clear hK K;try simp only[Act.put,zA,zB,zC]
        refine rdA (rs:= [8]) ?_;refine arC (fun K hK=>?_);go_simp;have ap:=(Below.refl w4.heap.size w4).alloc (Nat.le_refl _) (Obj.cells #[.slice A4 64 c4] 46);have hA:=(aF.out.below ap).bs.cell;try (go_wp2_with fail)
        have ac:=hHeld.below ap;refine hK.out _ _ ?_ (fun _=>?_)
        ·exact ac
        clear hK K hHeld;have hHeld:=ac;clear ac;try simp only[Act.put,zA,zB,zC]
        refine rdA (rs:= [9]) ?_;refine arC (fun K hK=>?_);obtain⟨us,ah,ho,hf⟩:=aF.out.op;have bt:=qH (show us.length=kN by have h:=congrArg List.length ah;rw[List.length_map] at h;rw[h];exact f8.out);have jD:=own_below ho ap;have lG:=aF.out.pk.bl.size;refine step_own3 rfl (.tmp 32) (.tmp 40) 26 26 rfl w.heap.size 46 (.slice none 0 0) 1 24 Tryz.underlying26 info46 rfl rfl jD rfl (src_one _ Tryz.underlying26 46 _ rfl) ?_ ?_ ?_ ?_
        ·have:=bt.out;unfold maxLen;omega
        ·have:=bt.out;omega
        ·simp;omega
        intro v5 w5 aI hg5 hv5;obtain⟨g5,c5,rfl⟩:=ownsRow_succ aI;obtain⟨bA,kF,aP,cH⟩:=aF.out.push ah ho hf rE.out aI hg5 hv5;have lW:=bA.cell;have iA:=bA.frozen;have bk:=qH aP;have eS:=qH cH;clear aP cH ah ho hf jD aI hg5 hv5;have ac:=kF;refine hK.out _ _ ?_ (fun _=>?_)
        ·exact ac
        clear hK K hHeld;have hHeld:=ac;clear ac;try simp only[Act.put,zA,zB,zC]
        refine rdA (rs:= [10]) ?_;refine arC (fun K hK=>?_);go_simp;try (go_wp2_with fail)
        have ac:=bk.out.pk;refine hK.out _ _ ?_ (fun _=>?_)
        ·exact ac
        clear hK K hHeld;have hHeld:=ac;clear ac;try simp only[Act.put,zA,zB,zC]
        refine wpAnyH_done (by kernel_rfl) ?_ _;try simp only[Exit.then]
        exact⟨(pA.out.trans (gJ.out.trans eS.out)).from _,fun _=>bk.out.pk.dc,⟨_,by rw[List.map_append,List.map_cons,List.map_nil,secX_snoc,vf.out];exact bk.out⟩⟩
       ·go_simp
        have ap:=(Below.refl w4.heap.size w4).alloc (Nat.le_refl _) (Obj.cells #[.slice A4 64 c4] 46);have hA:=(aF.out.below ap).bs.cell;try (go_wp2_with fail)
        have ac:=hHeld.below ap;refine hK.out _ _ ?_ (fun _=>?_)
        ·exact ac
        clear hK K hHeld;have hHeld:=ac;clear ac;try simp only[Act.put,zA,zB,zC]
        refine rdA (rs:= [0]) ?_;refine arC (fun K hK=>?_);go_simp;try (go_wp2_with fail)
        refine hK.out _ _ ?_ (fun _=>?_)
        ·exact hHeld
        clear hK K;try simp only[Act.put,zA,zB,zC]
        refine rdA (rs:= [9]) ?_;refine arC (fun K hK=>?_);obtain⟨us,ah,ho,hf⟩:=aF.out.op;have bt:=qH (show us.length=kN by have h:=congrArg List.length ah;rw[List.length_map] at h;rw[h];exact f8.out);have jD:=own_below ho ap;have lG:=aF.out.pk.bl.size;refine step_own3 rfl (.tmp 32) (.tmp 40) 26 26 rfl w.heap.size 46 (.slice none 0 0) 1 24 Tryz.underlying26 info46 rfl rfl jD rfl (src_one _ Tryz.underlying26 46 _ rfl) ?_ ?_ ?_ ?_
        ·have:=bt.out;unfold maxLen;omega
        ·have:=bt.out;omega
        ·simp;omega
        intro v5 w5 aI hg5 hv5;obtain⟨g5,c5,rfl⟩:=ownsRow_succ aI;obtain⟨bA,kF,aP,cH⟩:=aF.out.push ah ho hf rE.out aI hg5 hv5;have lW:=bA.cell;have iA:=bA.frozen;have bk:=qH aP;have eS:=qH cH;clear aP cH ah ho hf jD aI hg5 hv5;have ac:=kF;refine hK.out _ _ ?_ (fun _=>?_)
        ·exact ac
        clear hK K hHeld;have hHeld:=ac;clear ac;try simp only[Act.put,zA,zB,zC]
        refine rdA (rs:= [10]) ?_;refine arC (fun K hK=>?_);go_simp;try (go_wp2_with fail)
        have ac:=bk.out.pk;refine hK.out _ _ ?_ (fun _=>?_)
        ·exact ac
        clear hK K hHeld;have hHeld:=ac;clear ac;try simp only[Act.put,zA,zB,zC]
        refine wpAnyH_done (by kernel_rfl) ?_ _;try simp only[Exit.then]
        exact⟨(pA.out.trans (gJ.out.trans eS.out)).from _,fun _=>bk.out.pk.dc,⟨_,by rw[List.map_append,List.map_cons,List.map_nil,secX_snoc,vf.out];exact bk.out⟩⟩
  ·have d1:decide (0≤epoch∧epoch≤1073741824)=true:=by simp[h1]
   have d2:decide (0≤num∧num≤1073741824)=false:=by rw[decide_eq_false_iff_not];exact h2
   have jY:=qH (show R=([],false) by rw[hP,if_pos (by omega)]);clear hP;gi_wp2_with (first|(gi_at_call 108;refine(callsIn_wide.2 (counts_any _ _)).mono ?_;rintro e w2 ⟨rfl,rfl⟩)|(refine⟨(show Fence.wide.fn _ from trivial),?_⟩))
   exact⟨_,leaveP rfl rfl,GivesPt.none jY.out ae.out⟩
 ·have d1:decide (0≤epoch∧epoch≤1073741824)=false:=by rw[decide_eq_false_iff_not];exact h1
  have jY:=qH (show R=([],false) by rw[hP,if_pos (by omega)]);clear hP;gi_wp2_with (first|(gi_at_call 108;refine(callsIn_wide.2 (counts_any _ _)).mono ?_;rintro e w2 ⟨rfl,rfl⟩)|(refine⟨(show Fence.wide.fn _ from trivial),?_⟩))
  exact⟨_,leaveP rfl rfl,GivesPt.none jY.out ae.out⟩
open Go.RowKit Go.Rst Go.Pg Go.Crc
theorem chCells_len:∀us:List (Chg×Value),(chCells us).length=us.length*3
 | []=>rfl
 |x::us=>by
  have ih:=chCells_len us;have e:chCells (x::us)= .string x.1.1::x.2:: .bool x.1.2.2::chCells us:=by simp[chCells]
  rw[e];simp only[List.length_cons];omega
section
variable {w:World} {base base':Nat} {A:Option Addr} {n c:Nat} {us:List (Chg×Value)}
theorem chCells_one(hf:∀x∈us,FB 5 w base' x.2 x.1.2.1):∀u∈chCells us,u.oneCell'=true:=by
 intro u hu;unfold chCells at hu;obtain⟨y,hy,hx⟩:=List.mem_flatMap.1 hu;simp only[List.mem_cons,List.not_mem_nil,or_false] at hx;rcases hx with rfl|rfl|rfl
 ·rfl
 ·exact fb_one (hf y hy)
 ·rfl
theorem chCells_take:∀(us:List (Chg×Value)) (i:Nat),chCells (us.take i)=(chCells us).take (i*3)
 | [],i=>by simp[chCells]
 |x::us,0=>by simp[chCells]
 |x::us,i+1=>by
  have ih:=chCells_take us i;have e:∀l,chCells (x::l)= .string x.1.1::x.2:: .bool x.1.2.2::chCells l:=fun l=>by simp[chCells]
  rw[List.take_succ_cons,e,e,show(i+1)*3=i*3+1+1+1 by omega,List.take_succ_cons,List.take_succ_cons,List.take_succ_cons,ih]
theorem oc_take(ho:w.ownsRow base 76 3 (.slice A n c) us.length (chCells us))(hf:∀x∈us,FB 5 w base' x.2 x.1.2.1){i:Nat}(hi:i≤us.length):
  Src Tryz.prog 3 56 (.slice A i c) i (chCells (us.take i)) w:=by
 have hl:(chCells (us.take i)).length=i*3:=by rw[chCells_len,List.length_take];congr 1;omega
 have h1:∀u∈chCells (us.take i),u.oneCell'=true:=fun u hu=>chCells_one hf u (by rw[chCells_take] at hu;exact List.mem_of_mem_take hu)
 rcases ho.2 with ⟨he,h0⟩|⟨g,cap,cur,he,hb,hg,hnc,hcm,hcs,ht⟩
 ·injection he with e1 e2 e3
  subst e1;have:i=0:=by omega
  subst this;rw[List.take_zero];exact Src.ofNil _ Tryz.underlying56 c
 ·have hcell:=ho.cells (g:=g) (by rw[he];rfl)
  injection he with e1 e2 e3;subst e1;refine Src.ofSlice _ Tryz.underlying56 ⟨g,0,none⟩ _ _ _ hl (fun j x hj=>hcell j x ?_) h1;rw[chCells_take,List.getElem?_take] at hj;split at hj
  ·exact hj
  ·cases hj
end
open Go.RowKit Go.Rst Go.Crc
theorem growC_zero(w:World):Calls Tryz.prog 96 #[.slice none 0 0,.int .i64 0] w fun e w'=>e= .returned (.slice none 0 0)∧w=w':=by
 go_enter Tryz.func96,Tryz.ntmps96;go_wp2;go_ret;exact⟨rfl,rfl⟩
def RoomC(w:World)(e:Ending)(w':World):Prop:=∃v,e= .returned v∧w'.ownsRow w.heap.size 76 3 v 0 []∧Below w.heap.size w w'
theorem roomC_new{w:World}{c:Nat}{cs:Array Value}(hm:c≤maxLen)(hs:cs.size=c*3):
  RoomC w (.returned (.slice (some ⟨w.heap.size,0,none⟩) 0 c)) (w.drew.alloc (.cells cs 76)):=
 ⟨_,rfl,⟨by simp,.inr ⟨w.heap.size,c,cs,rfl,Nat.le_refl _,heap_alloc_new w.drew _,Nat.zero_le _,hm,hs,by simp⟩⟩,(Below.refl _ _).drew.alloc (Nat.le_refl _) _⟩
theorem growC_pos(n:Nat)(h0:0<n)(hn:n≤2000000)(w:World):Calls Tryz.prog 96 #[.slice none 0 0,.int .i64 n] w (RoomC w):=by
 obtain⟨i,hi,hz,hsz,hb⟩:=info_parts info76;obtain⟨t,ht⟩:∃t:TypeId,t=76:=⟨_,rfl⟩
 have hcap:n≤grownCap w n 0 76:=grownCap_ge w n 0 _;have hcm:grownCap w n 0 76≤maxLen:=grownCap_le_maxLen w n 0 _ (by unfold maxLen;omega);have hrun:∀ty,(Builtin.append_ #[56,3] ty #[.slice none 0 0,.int .i64 n]).run Tryz.prog w=
   .ok (.slice (some ⟨w.heap.size,0,none⟩) n (grownCap w n 0 76)) (w.drew.alloc (.cells ((#[]:Array Value)++Builtin.zeroCells (Value.cells (.agg #[.string ⟨#[]⟩,.slice none 0 0,.bool false])) n++Builtin.zeroCells (Value.cells (.agg #[.string ⟨#[]⟩,.slice none 0 0,.bool false])) (grownCap w n 0 76-n)) 76)):=fun ty=>by
  have h:=Lib.run_append_grow_zeros (P:=Tryz.prog) w 56 3 ty 76 i (.agg #[.string ⟨#[]⟩,.slice none 0 0,.bool false]) .i64 .i64 Tryz.underlying56 Tryz.underlying3 hi hz none 0 0 [] (by rw[hsz];exact run_firstCells_none w.drew 3 0 0 0) n h0 (by rw[hsz];decide) (by omega) (by omega) (by rw[hb];omega)
   (growslice_fits (by omega) (by rw[hb];omega))
  simpa using h
 have hsize:((#[]:Array Value)++Builtin.zeroCells (Value.cells (.agg #[.string ⟨#[]⟩,.slice none 0 0,.bool false])) n++Builtin.zeroCells (Value.cells (.agg #[.string ⟨#[]⟩,.slice none 0 0,.bool false])) (grownCap w n 0 76-n)).size=grownCap w n 0 76*3:=by
  simp only[Array.size_append,size_zeroCells];simp[Value.cells];omega
 generalize ((#[]:Array Value)++Builtin.zeroCells (Value.cells (.agg #[.string ⟨#[]⟩,.slice none 0 0,.bool false])) n++Builtin.zeroCells (Value.cells (.agg #[.string ⟨#[]⟩,.slice none 0 0,.bool false])) (grownCap w n 0 76-n))=cs at *;generalize grownCap w n 0 76=c at *;have hend:=roomC_new (w:=w) hcm hsize;have HE:=qH hend;have fw:c≤9223372036854775807:=by unfold maxLen at hcm;omega
 have HR:=qH hrun;clear hend hcm hsize hrun hi hz hsz hb ht;go_enter Tryz.func96,Tryz.ntmps96;go_wp2_with (at_builtin;refine Lib.wpList_append_run _ rfl _ _ _ _ rfl _ _ rfl rfl _ _ (HR.out _) ?_)
 go_ret;exact HE.out
theorem growC_any(n:Nat)(hn:n≤2000000)(w:World):Calls Tryz.prog 96 #[.slice none 0 0,.int .i64 n] w (RoomC w):=by
 rcases Nat.eq_zero_or_pos n with h|h
 ·subst h
  refine(growC_zero w).mono ?_;rintro e w'⟨rfl,rfl⟩;exact⟨_,rfl,World.ownsRow_nil _ _ _ _,Below.refl _ _⟩
 ·exact growC_pos n h hn w
def OC2(w:World)(base b0:Nat)(v:Value)(cs:List Chg):Prop:=
 ∃us:List (Chg×Value),us.map (·.1)=cs∧w.ownsRow base 76 3 v us.length (chCells us)∧∀x∈us,FB 5 w b0 x.2 x.1.2.1
def catC(fs:List (List Chg)):List Chg:=fs.flatten
theorem catC_take{fs:List (List Chg)}{k:Nat}(h:k<fs.length):catC (fs.take (k+1))=catC (fs.take k)++fs[k]:=by
 unfold catC;rw[List.take_succ_eq_append_getElem h,List.flatten_append];simp
theorem catC_le(fs:List (List Chg))(k:Nat):(catC (fs.take k)).length≤(catC fs).length:=by
 unfold catC
 conv=>rhs;rw[←List.take_append_drop k fs]
 rw[List.flatten_append,List.length_append];omega
theorem of_at{w:World}{base:Nat}{v:Value}{fs:List (List Chg)}(h:OF w base v fs){k:Nat}(hk:k<fs.length):
  ∃g u,v.ownBlock=some g∧g<w.heap.size∧(∃c,v= .slice (some ⟨g,0,none⟩) fs.length c)∧w.cell? ⟨g,0+k,none⟩=some u∧OC 5 76 w base u fs[k]:=by
 obtain⟨us,rfl,ho,hf⟩:=h;rw[List.length_map] at hk;rcases ho.2 with ⟨_,h0⟩|⟨g,cap,cur,rfl,hb,hg,_⟩
 ·omega
 ·have hc:=ho.cells (g:=g) rfl k us[k].2 (by simp[hk])
  rw[Addr.add_lit] at hc;exact⟨g,us[k].2,rfl,(Array.getElem?_eq_some_iff.1 hg).1,⟨cap,by rw[List.length_map]⟩,hc,by simpa using hf us[k] (List.getElem_mem hk)⟩
theorem concatC_any(v:Value)(fs:List (List Chg))(w:World)(b0:Nat)(hb0:b0≤w.heap.size)(hv:OF w b0 v fs)(hl:(catC fs).length≤1000000)(hfl:fs.length≤1000000):
  Calls Tryz.prog 51 #[v] w fun e w'=>∃v',e= .returned v'∧OC2 w' w.heap.size b0 v' (catC fs)∧Below w.heap.size w w':=by
 have HV:=qH hv;obtain⟨A,c,rfl,hlc,hcm,_⟩:=hv.rf;have fw:(c:Int)≤9223372036854775807:=by unfold maxLen at hcm;omega
 clear hv;go_enter Tryz.func51,Tryz.ntmps51;go_wp2
 go_loop [3,11] (fun n i=>∃k:Nat,k≤fs.length∧i= .int .i64 k∧n= .int .i64 ((catC (fs.take k)).length:Nat)) (fun _ i=>fs.length-(intOf i).toNat)
 case atStart=>exact⟨0,Nat.zero_le _,rfl,rfl⟩
 case round=>
  obtain⟨k,hk,rfl,rfl⟩:=hrel;by_cases hlt:k<fs.length
  ·obtain⟨g,u,_,hg,⟨c',tj⟩,hc,dD⟩:=of_at HV.out hlt
   injection tj with tj _ hce;subst tj;subst hce;have ht:=congrArg List.length (catC_take hlt);rw[List.length_append] at ht;have hle:=catC_le fs (k+1);rw[ht] at hle;obtain⟨Au,cu,ve,_⟩:=dD.rc;subst ve;obtain⟨n,hn⟩:∃n,n=(catC (fs.take k)).length:=⟨_,rfl⟩
   obtain⟨m,hm⟩:∃m,m=fs[k].length:=⟨_,rfl⟩
   rw[←hn] at ht hle;rw[←hm] at ht hle hc;rw[←hn];have HT:=qH ht;clear hn hm;simp only[Nat.zero_add] at hc;clear ht dD;go_wp2;go_round
   case rel=>exact⟨k+1,by omega,by go_num,by rw[HT.out];go_num⟩
   case measure=>simp[intOf];omega
  ·have e:k=fs.length:=by omega
   rw[e,List.take_length];have hn:(catC fs).length≤2000000:=by omega
   have HE:=qH e;clear e;go_wp2_with fail
   refine(growC_any _ hn _).mono ?_;rintro e w1⟨v1,rfl,hown,ad⟩;have HO:=qH hown;have HB:=qH ad;clear hown ad;go_wp2
   go_loopw [6,27] (fun b i wr=>∃k:Nat,k≤fs.length∧i= .int .i64 k∧OC2 wr w.heap.size b0 b (catC (fs.take k))∧Below w.heap.size w wr) (fun _ i _=>fs.length-(intOf i).toNat)
   case atStart=>exact⟨0,Nat.zero_le _,rfl,⟨[],rfl,HO.out,fun _ h=>by cases h⟩,HB.out⟩
   case round=>
    clear HO HB;obtain⟨k,hk,rfl,qf,ad⟩:=hrel;by_cases hlt:k<fs.length
    ·obtain⟨g,u,_,hg,⟨c',tj⟩,hc,dD⟩:=of_at HV.out hlt
     injection tj with tj _ hce;subst tj;subst hce;have hc':=(ad.cell (p:=⟨g,0+k,none⟩) hg).trans hc;have CK:=dD.below ad;obtain⟨ws,hws,how,hwf⟩:=CK;obtain⟨us,ah,ho,hf⟩:=qf;have ht:=catC_take hlt;have hle:=catC_le fs (k+1);rw[ht,List.length_append] at hle;have eY:us.length=(catC (fs.take k)).length:=by rw[←ah,List.length_map]
     have wI:ws.length=fs[k].length:=by rw[←hws,List.length_map]
     obtain⟨Au,cu,ve,_⟩:=own_shape how;subst ve;have hsrc:=oc_take how hwf (i:=ws.length) (Nat.le_refl _);rw[List.take_length] at hsrc;have HT:=qH (show catC (fs.take (k+1))=us.map (·.1)++ws.map (·.1) by rw[ht,ah,hws]);have HO:=qH ho;have HF:=qH hf;have Hi:=qH hwf;have cD:=qH hsrc;have HB:=qH ad;have Lh:us.length+ws.length≤1000000:=by omega
     simp only[Nat.zero_add] at hc';clear ht hle eY wI ad hc dD how hwf ho hf hsrc HE ah hws;go_wp2_with (at_builtin;refine wpList_own rfl (.tmp 31) (.tmp 32) 56 56 rfl w.heap.size 76 (.agg #[.string ⟨#[]⟩,.slice none 0 0,.bool false]) 3 48 Tryz.underlying56 info76 rfl rfl HO.out rfl cD.out HB.out (Nat.le_refl _) ?_ ?_ ?_ ?_)
     ·unfold maxLen;omega
     ·omega
     ·exact HB.out.size
     ·intro v2 w2 hown2 ag hg2
      have eF:=qH (show OC2 w2 w.heap.size b0 v2 (catC (fs.take (k+1))) from⟨us++ws,by rw[HT.out,List.map_append],by rw[chCells_append,List.length_append];exact hown2,fun x hx=>by
       rcases List.mem_append.1 hx with hx|hx
       ·exact(HF.out x hx).grown HO.out (by decide) hg2
       ·exact(Hi.out x hx).grown HO.out (by decide) hg2⟩)
      have ae:=qH ag;clear hown2 ag hg2;go_wp2;go_roundw
      case rel=>exact⟨k+1,by omega,by go_num,eF.out,ae.out⟩
      case measure=>simp[intOf];omega
    ·have e:k=fs.length:=by omega
     rw[e,List.take_length] at qf;have HO:=qH qf;have HB:=qH ad;clear qf ad e HE;go_wp2;go_ret;exact⟨_,rfl,HO.out,HB.out⟩
open Go.RowKit Go.Rst Go.Crc Go.Shelf
attribute [local go_sem] Oper.semAt_some
structure CQ (w:World) (us:List (Value×List UInt8)) (sv:Value) (X:World):Prop where
 bs:Boxed X w.heap.size 26 sv
 ow:X.ownsRow w.heap.size 46 1 sv us.length (us.map (·.1))
 be:Below w.heap.size w X
theorem CQ.grown{w X Y:World}{us:List (Value×List UInt8)}{sv:Value}{row:Option Nat}(h:CQ w us sv X)(hg:X.grownBy Y row)(hr:∀r,row=some r→w.heap.size≤r∧∃o:Obj,X.heap[r]? =some o∧o.isCells=false):CQ w us sv Y:=by
 have hk:KX (fun _ _=>True) X Y:=KX.of_grown hg (fun r e=>(hr r e).2);exact⟨hk.boxed trivial h.bs,hk.own h.ow (fun _ _=>trivial),h.be.trans ((Below.refl _ _).grown hg h.be.size (fun r e=>(hr r e).1))⟩
def GivesCk(w:World)(bv:Value)(bl:List UInt8)(ps:List (List UInt8))(e:Ending)(w':World):Prop:=
 ∃(sv:Value) (us:List (Value×List UInt8)),e= .returned sv∧us.map (·.2)=ps∧w'.ownsRow w.heap.size 46 1 sv us.length (us.map (·.1))∧(∀x∈us,(∀X,RB X bv bl→RB X x.1 x.2)∧x.1.ownBlock=bv.ownBlock)∧Below w.heap.size w w'
theorem leaveC{W:World}{tmps:Array Value}{v:Value}(h:tmps.getD 4 undef=v):(results Tryz.f116 tmps).run Tryz.prog W= .ok v W:=by
 subst h;exact results_tmp rfl _ _ _
theorem appseq_64(b off c L B:Nat)(bl:List UInt8)(w:World)(hL:L=bl.length)(hD:DC64 (.slice (some ⟨b,off,none⟩) L c) bl B w)(hl:L≤1000000):
  Calls Tryz.prog 116 #[.slice none 0 0,.func (.func 117) #[] #[.pointer (some ⟨B,0,none⟩),.pointer (some ⟨B+1,0,none⟩)]] w (GivesCk w (.slice (some ⟨b,off,none⟩) L c) bl (chunkL64 bl)):=by
 obtain⟨iU,hi,hz0,hz1,hz2⟩:=info_parts info46;refine(callsIn_wide (n:=3)).1 ?_;refine callsIn_of_wp_marks Tryz.func116 rfl trivial ?_ rfl;simp only[Tryz.ntmps116,List.size_toArray,List.length_cons,List.length_nil,Nat.reduceAdd,Nat.reduceSub,Array.replicate_succ,Array.replicate_zero,List.push_toArray,List.append_toArray,List.nil_append,List.cons_append];have HL:=qH hL;have HD:=qH hD;have hof:of64 bl≤1000000:=by unfold of64;omega
 have cm:=qH hof;clear hL hD hof;gi_wp2;have ef:Below w.heap.size w (w.alloc (.cells #[.slice none 0 0] 26)):=(Below.refl _ _).alloc (Nat.le_refl _) _;have hq0:CQ w [] (.slice none 0 0) (w.alloc (.cells #[.slice none 0 0] 26)):=⟨Boxed.new w _ _,World.ownsRow_nil _ _ _ _,ef⟩
 have kA:(w.alloc (.cells #[.slice none 0 0] 26)).heap.size=w.heap.size+1:=by simp
 obtain⟨W0,hW0⟩:∃W0,W0=w.alloc (.cells #[.slice none 0 0] 26):=⟨_,rfl⟩
 rw[←hW0] at hq0 kA ef⊢;have nj:DC64 (.slice (some ⟨b,off,none⟩) L c) bl B W0:=⟨HD.out.1.below ef,(ef.block _ HD.out.2.1.lt).trans HD.out.2.1,(ef.block _ HD.out.2.2.lt).trans HD.out.2.2⟩
 clear hW0;refine wpIn_rangeFunc_ownG rfl (by decide) (gf:=117) (lb:=#[.pointer (some ⟨B,0,none⟩),.pointer (some ⟨B+1,0,none⟩)]) rfl trivial (enters_of Tryz.func117 (by kernel_rfl) rfl)
  (chunk_stops64 2 b off c L B bl W0 HL.out nj (by omega)) (fun h k x=>k (h x)) (fun X l o o' hl hlo hc _ hx=>?kb) (Below.refl _ _) (fun _=>rfl)
  (fun pre X=>∃sv,CQ w (pre.map (·.1)) sv X)
  (fun _ _ _=>False)
  ?oi (fun _ _ _ _ _ h _ _=>h) ⟨_,by simpa using hq0⟩
  (fun x=>{tmps:=#[.slice none 0 0,.func (.func 117) #[] #[.pointer (some ⟨B,0,none⟩),.pointer (some ⟨B+1,0,none⟩)],.pointer (some ⟨w.heap.size,0,none⟩),undef,.slice none 0 0,x.1.1,.func (.func 117) #[] #[.pointer (some ⟨B,0,none⟩),.pointer (some ⟨B+1,0,none⟩)],x.1.1,undef,undef,undef,undef,undef],defers:= []}) ?assign ?body ?done ?stop
 case kb=>
  have hg:=grownBy_putObj' X l o';have hk:KX (fun _ _=>True) X (X.putObj l o'):=KX.of_grown hg (fun r e=>by cases e;exact⟨o,hlo,hc⟩);exact⟨rb_kept hx.1 hg (fun r e=>by cases e;exact⟨o,hlo,hc⟩),hk.boxed trivial hx.2.1,hk.boxed trivial hx.2.2⟩
 case oi=>
  rintro pre X Y row⟨sv,h⟩ hg hr;exact⟨sv,h.grown hg (fun r e=>⟨by have:=(hr r e).1;omega,(hr r e).2⟩)⟩
 case assign=>
  intro l x X K hK;obtain⟨Ax,cx,hxv⟩:∃A c,x.1.1= .slice A x.1.2.length c:=by obtain⟨A,c,h,_⟩:=x.2.1 W0 nj.1;exact⟨A,c,h⟩
  rw[hxv] at hK⊢;gi_wp2;exact hK
 case stop=>
  intro D c pre X hD hS h;exact h.elim
 case done=>
  rintro D xs X Ij hS⟨sv,hq⟩ hK;have dZ:Marks w.heap.size X.heap.size X [{target:= .collected D,args:=#[]}]:=⟨⟨D,rfl,by omega,(Array.getElem?_eq_some_iff.1 hK).1,hK,fun d hd=>by cases hd⟩,trivial⟩
  have hcb:=hq.bs.cell;obtain⟨Ac,cc,rfl,_⟩:=own_shape hq.ow;have oO:(xs.map (·.1)).length=xs.length:=List.length_map _;have how:=hq.ow;have uB:=hq.be;rw[oO] at hcb how;have HOW:=qH how;have C7:=qH uB;have yT:=qH oO;clear how uB oO;have iu:=qH dZ;have HS:=qH hS;clear hq dZ hS nj;gi_wp2;exact leaves_marks iu.out (fun W' dC hb=>⟨_,leaveC rfl,_,xs.map (·.1),rfl,by rw[List.map_map];exact HS.out,dC.own (by have h:=HOW.out;rw[←yT.out] at h;rw[yT.out] at h⊢;exact h) (fun _ _=>trivial),fun y hy=>by
   obtain⟨x,_,rfl⟩:=List.mem_map.1 hy;exact⟨x.2.1,x.2.2.2⟩,C7.out.trans hb⟩)
 case body=>
  rintro l pre x X⟨sv,hq⟩ hlt;obtain⟨Ax,cx,hxv⟩:∃A c,x.1.1= .slice A x.1.2.length c:=by obtain⟨A,c,h,_⟩:=x.2.1 W0 nj.1;exact⟨A,c,h⟩
  have hcb:=hq.bs.cell;have hfz:=hq.bs.frozen;obtain⟨As,cs,rfl,_⟩:=own_shape hq.ow;have hlen:(pre.map (·.1)).length=pre.length:=by rw[List.length_map]
  have f8:=qH hlen;have how:=hq.ow;have hbs:=hq.bs;have ad:=hq.be;rw[hlen] at how hcb hbs;have HOW:=qH how;have tn:=qH hbs;have dd:=qH ad;have DX:=qH hxv;have HI:=qH hi;have sS:=qH hz0;have lF:=qH hz1;have jz:=qH hz2;have jO:=qH (show pre.length≤1000000 by have:=cm.out;omega);have hsz:=hq.be.size;clear how hbs ad hq hlen hi hz0 hz1 hz2 hlt nj;rw[hxv];clear hxv;gi_wp2_with (gi_at_builtin;refine wpListIn_append_own _ rfl _ _ 26 rfl w.heap.size 46 iU (.slice none 0 0) 1 24 Tryz.underlying26 HI.out sS.out lF.out jz.out rfl (by decide) _ _ _ rfl (HOW.out.alloc _) ⟨X.heap.size,0,none⟩ 1 1 [.slice Ax x.1.2.length cx] rfl rfl (cell_one_new _ _ _) (by simp[Value.oneCell']) (by have:=jO.out;have:=f8.out;unfold maxLen;omega) (by have:=jO.out;have:=f8.out;omega) (by simp;omega) ?_;intro v8 w8 ho8 hg8 _;obtain⟨hb1,hb2,hr,hko,ad⟩:=tn.out.appended (by decide) HOW.out hsz (Nat.le_refl _) ho8 hg8;have hc1:=hb1.cell;have eo:=hb1.frozen;obtain⟨g8,c8,rfl⟩:=ownsRow_succ ho8;have ae:=qH hb2;have HR:=qH hr;have Et:=qH hko;have ja:=qH (dd.out.trans ad);clear hb1 hb2 hr hko ad ho8 hg8)
  exact⟨Et.out.from _,fun _=>⟨HD.out.1.below ja.out,(ja.out.block _ HD.out.2.1.lt).trans HD.out.2.1,(ja.out.block _ HD.out.2.2.lt).trans HD.out.2.2⟩,⟨_,ae.out,by
   have h:=HR.out;rw[List.map_append,List.length_append,List.map_append];simp only[List.map_cons,List.map_nil,List.length_singleton];rw[f8.out,DX.out];exact h,ja.out⟩⟩
theorem appseq_256(b off c L B:Nat)(bl:List UInt8)(w:World)(hL:L=bl.length)(hD:DC256 (.slice (some ⟨b,off,none⟩) L c) bl B w)(hl:L≤1000000):
  Calls Tryz.prog 116 #[.slice none 0 0,.func (.func 117) #[] #[.pointer (some ⟨B,0,none⟩),.pointer (some ⟨B+1,0,none⟩)]] w (GivesCk w (.slice (some ⟨b,off,none⟩) L c) bl (chunkL256 bl)):=by
 obtain⟨iU,hi,hz0,hz1,hz2⟩:=info_parts info46;refine(callsIn_wide (n:=3)).1 ?_;refine callsIn_of_wp_marks Tryz.func116 rfl trivial ?_ rfl;simp only[Tryz.ntmps116,List.size_toArray,List.length_cons,List.length_nil,Nat.reduceAdd,Nat.reduceSub,Array.replicate_succ,Array.replicate_zero,List.push_toArray,List.append_toArray,List.nil_append,List.cons_append];have HL:=qH hL;have HD:=qH hD;have hof:of256 bl≤1000000:=by unfold of256;omega
 have cm:=qH hof;clear hL hD hof;gi_wp2;have ef:Below w.heap.size w (w.alloc (.cells #[.slice none 0 0] 26)):=(Below.refl _ _).alloc (Nat.le_refl _) _;have hq0:CQ w [] (.slice none 0 0) (w.alloc (.cells #[.slice none 0 0] 26)):=⟨Boxed.new w _ _,World.ownsRow_nil _ _ _ _,ef⟩
 have kA:(w.alloc (.cells #[.slice none 0 0] 26)).heap.size=w.heap.size+1:=by simp
 obtain⟨W0,hW0⟩:∃W0,W0=w.alloc (.cells #[.slice none 0 0] 26):=⟨_,rfl⟩
 rw[←hW0] at hq0 kA ef⊢;have nj:DC256 (.slice (some ⟨b,off,none⟩) L c) bl B W0:=⟨HD.out.1.below ef,(ef.block _ HD.out.2.1.lt).trans HD.out.2.1,(ef.block _ HD.out.2.2.lt).trans HD.out.2.2⟩
 clear hW0;refine wpIn_rangeFunc_ownG rfl (by decide) (gf:=117) (lb:=#[.pointer (some ⟨B,0,none⟩),.pointer (some ⟨B+1,0,none⟩)]) rfl trivial (enters_of Tryz.func117 (by kernel_rfl) rfl)
  (chunk_stops256 2 b off c L B bl W0 HL.out nj (by omega)) (fun h k x=>k (h x)) (fun X l o o' hl hlo hc _ hx=>?kb) (Below.refl _ _) (fun _=>rfl)
  (fun pre X=>∃sv,CQ w (pre.map (·.1)) sv X)
  (fun _ _ _=>False)
  ?oi (fun _ _ _ _ _ h _ _=>h) ⟨_,by simpa using hq0⟩
  (fun x=>{tmps:=#[.slice none 0 0,.func (.func 117) #[] #[.pointer (some ⟨B,0,none⟩),.pointer (some ⟨B+1,0,none⟩)],.pointer (some ⟨w.heap.size,0,none⟩),undef,.slice none 0 0,x.1.1,.func (.func 117) #[] #[.pointer (some ⟨B,0,none⟩),.pointer (some ⟨B+1,0,none⟩)],x.1.1,undef,undef,undef,undef,undef],defers:= []}) ?assign ?body ?done ?stop
 case kb=>
  have hg:=grownBy_putObj' X l o';have hk:KX (fun _ _=>True) X (X.putObj l o'):=KX.of_grown hg (fun r e=>by cases e;exact⟨o,hlo,hc⟩);exact⟨rb_kept hx.1 hg (fun r e=>by cases e;exact⟨o,hlo,hc⟩),hk.boxed trivial hx.2.1,hk.boxed trivial hx.2.2⟩
 case oi=>
  rintro pre X Y row⟨sv,h⟩ hg hr;exact⟨sv,h.grown hg (fun r e=>⟨by have:=(hr r e).1;omega,(hr r e).2⟩)⟩
 case assign=>
  intro l x X K hK;obtain⟨Ax,cx,hxv⟩:∃A c,x.1.1= .slice A x.1.2.length c:=by obtain⟨A,c,h,_⟩:=x.2.1 W0 nj.1;exact⟨A,c,h⟩
  rw[hxv] at hK⊢;gi_wp2;exact hK
 case stop=>
  intro D c pre X hD hS h;exact h.elim
 case done=>
  rintro D xs X Ij hS⟨sv,hq⟩ hK;have dZ:Marks w.heap.size X.heap.size X [{target:= .collected D,args:=#[]}]:=⟨⟨D,rfl,by omega,(Array.getElem?_eq_some_iff.1 hK).1,hK,fun d hd=>by cases hd⟩,trivial⟩
  have hcb:=hq.bs.cell;obtain⟨Ac,cc,rfl,_⟩:=own_shape hq.ow;have oO:(xs.map (·.1)).length=xs.length:=List.length_map _;have how:=hq.ow;have uB:=hq.be;rw[oO] at hcb how;have HOW:=qH how;have C7:=qH uB;have yT:=qH oO;clear how uB oO;have iu:=qH dZ;have HS:=qH hS;clear hq dZ hS nj;gi_wp2;exact leaves_marks iu.out (fun W' dC hb=>⟨_,leaveC rfl,_,xs.map (·.1),rfl,by rw[List.map_map];exact HS.out,dC.own (by have h:=HOW.out;rw[←yT.out] at h;rw[yT.out] at h⊢;exact h) (fun _ _=>trivial),fun y hy=>by
   obtain⟨x,_,rfl⟩:=List.mem_map.1 hy;exact⟨x.2.1,x.2.2.2⟩,C7.out.trans hb⟩)
 case body=>
  rintro l pre x X⟨sv,hq⟩ hlt;obtain⟨Ax,cx,hxv⟩:∃A c,x.1.1= .slice A x.1.2.length c:=by obtain⟨A,c,h,_⟩:=x.2.1 W0 nj.1;exact⟨A,c,h⟩
  have hcb:=hq.bs.cell;have hfz:=hq.bs.frozen;obtain⟨As,cs,rfl,_⟩:=own_shape hq.ow;have hlen:(pre.map (·.1)).length=pre.length:=by rw[List.length_map]
  have f8:=qH hlen;have how:=hq.ow;have hbs:=hq.bs;have ad:=hq.be;rw[hlen] at how hcb hbs;have HOW:=qH how;have tn:=qH hbs;have dd:=qH ad;have DX:=qH hxv;have HI:=qH hi;have sS:=qH hz0;have lF:=qH hz1;have jz:=qH hz2;have jO:=qH (show pre.length≤1000000 by have:=cm.out;omega);have hsz:=hq.be.size;clear how hbs ad hq hlen hi hz0 hz1 hz2 hlt nj;rw[hxv];clear hxv;gi_wp2_with (gi_at_builtin;refine wpListIn_append_own _ rfl _ _ 26 rfl w.heap.size 46 iU (.slice none 0 0) 1 24 Tryz.underlying26 HI.out sS.out lF.out jz.out rfl (by decide) _ _ _ rfl (HOW.out.alloc _) ⟨X.heap.size,0,none⟩ 1 1 [.slice Ax x.1.2.length cx] rfl rfl (cell_one_new _ _ _) (by simp[Value.oneCell']) (by have:=jO.out;have:=f8.out;unfold maxLen;omega) (by have:=jO.out;have:=f8.out;omega) (by simp;omega) ?_;intro v8 w8 ho8 hg8 _;obtain⟨hb1,hb2,hr,hko,ad⟩:=tn.out.appended (by decide) HOW.out hsz (Nat.le_refl _) ho8 hg8;have hc1:=hb1.cell;have eo:=hb1.frozen;obtain⟨g8,c8,rfl⟩:=ownsRow_succ ho8;have ae:=qH hb2;have HR:=qH hr;have Et:=qH hko;have ja:=qH (dd.out.trans ad);clear hb1 hb2 hr hko ad ho8 hg8)
  exact⟨Et.out.from _,fun _=>⟨HD.out.1.below ja.out,(ja.out.block _ HD.out.2.1.lt).trans HD.out.2.1,(ja.out.block _ HD.out.2.2.lt).trans HD.out.2.2⟩,⟨_,ae.out,by
   have h:=HR.out;rw[List.map_append,List.length_append,List.map_append];simp only[List.map_cons,List.map_nil,List.length_singleton];rw[f8.out,DX.out];exact h,ja.out⟩⟩
open Go.RowKit Go.Rst Go.Crc
theorem told_any(v:Value)(ss:List (List UInt8))(w:World)(hv:RP w v ss):Calls Tryz.prog 123 #[v] w fun e w'=>e= .returned (.int .i64 (toldL ss:Nat))∧w=w':=by
 have HV:=qH hv;obtain⟨A,c,rfl,_,hc,_⟩:=hv;unfold maxLen at hc
 cases ss with
 |nil=>
  rw[List.length_nil];go_enter Tryz.func123,Tryz.ntmps123;go_wp2;go_ret;exact⟨rfl,rfl⟩
 |cons s ss=>
  obtain⟨b,off,u,rfl,_,hx,hr⟩:=rp_at HV.out (k:=0) (by simp);simp only[List.getElem_cons_zero,Nat.add_zero] at hx hr;have HR:=qH hr;obtain⟨A3,c3,rfl,_,hc3,_⟩:=hr;unfold maxLen at hc3;obtain⟨L,hL⟩:∃L,L=s.length:=⟨_,rfl⟩
  rw[←hL] at hx;obtain⟨M,hM⟩:∃M,M=(s::ss).length:=⟨_,rfl⟩
  rw[←hM];have KM:0<M:=by rw[hM];simp
  have oD:((M:Int)==0)=false:=by rw[beq_eq_false_iff_ne];omega
  have hm2:(0:Int)<(M:Int):=by omega
  have f8:=qH hL;clear hM;by_cases h64:L=64
  ·subst h64
   have hcell:∃b2 o2,A3=some ⟨b2,o2,none⟩∧b2<w.heap.size∧w.cell? ⟨b2,o2+9,none⟩=some (bv s[9]):=by
    have:=HR.out;exact rb_cell this (k:=9) (by rw[←f8.out];decide)
   obtain⟨b2,o2,rfl,_,h9⟩:=hcell;have e:(toldL (s::ss))=(s[9]'(by rw[←f8.out];decide)).toNat:=by
    show(if s.length=64 then b9 s else 0)=_;unfold b9;rw[if_pos f8.out.symm,List.getD_eq_getElem?_getD,List.getElem?_eq_getElem (by rw[←f8.out];decide)];rfl
   rw[e];obtain⟨x,Gb⟩:∃x,x=s[9]'(by rw[←f8.out];decide):=⟨_,rfl⟩
   rw[←Gb] at h9⊢;unfold bv at h9;have vW:=x.toNat_lt;clear e Gb;go_enter Tryz.func123,Tryz.ntmps123;go_wp2;go_ret;exact⟨rfl,rfl⟩
  ·have e:toldL (s::ss)=0:=by show(if s.length=64 then b9 s else 0)=0;rw[if_neg (by rw[←f8.out];exact h64)]
   rw[e];have DT:((L:Int) !=64)=true:=by simp;omega
   clear e;go_enter Tryz.func123,Tryz.ntmps123;go_wp2;go_ret;exact⟨rfl,rfl⟩
theorem pieceP_any(v:Value)(s:List UInt8)(w:World)(hv:RB w v s)(hl:s.length=64):Calls Tryz.prog 124 #[v] w fun e w'=>(∃u,e= .returned u∧RB w u (pieceP s))∧w=w':=by
 have HV:=qH hv;obtain⟨A,c,rfl,hlc,hc,_⟩:=hv;unfold maxLen at hc;have hcell:=rb_cell HV.out (k:=10) (by omega);obtain⟨b,off,rfl,_,hx⟩:=hcell;have h10:b10 s=(s[10]'(by omega)).toNat:=by
  unfold b10;rw[List.getD_eq_getElem?_getD,List.getElem?_eq_getElem (by omega)];rfl
 obtain⟨x,fe⟩:∃x,x=s[10]'(by omega):=⟨_,rfl⟩
 rw[←fe] at hx h10;obtain⟨M,hM⟩:∃M,M=min x.toNat 49:=⟨_,rfl⟩
 have hcut:=HV.out.cut (q:=11) (n:=M) (by omega);have hp:(s.drop 11).take M=pieceP s:=by unfold pieceP;rw[h10,hM]
 rw[hp] at hcut;have HC:=qH hcut;have vW:=x.toNat_lt;unfold bv at hx;rw[hl] at hlc;rw[hl];clear hp hcut fe h10;rcases Nat.lt_or_ge 49 x.toNat with h|h
 ·obtain rfl:M=49:=by omega
  have q2:(49:Int)<(x.toNat:Int):=by omega
  clear hM;go_enter Tryz.func124,Tryz.ntmps124;go_wp2;go_ret;exact⟨⟨_,rfl,HC.out⟩,rfl⟩
 ·obtain rfl:M=x.toNat:=by omega
  have q1:11+x.toNat-11=x.toNat:=by omega
  clear hM;go_enter Tryz.func124,Tryz.ntmps124;go_wp2;go_ret;refine⟨⟨_,rfl,?_⟩,rfl⟩;show RB w (.slice (some ⟨b,off+11,none⟩) (11+x.toNat-11) (c-11)) (pieceP s);rw[q1];exact HC.out
def GivesFr(w:World)(r:List Chg×Nat)(e:Ending)(w':World):Prop:=
 ∃u,e= .returned (.tuple #[u,.int .i64 (r.2:Nat)])∧OC 5 76 w' w.heap.size u r.1∧Below w.heap.size w w'
theorem GivesFr.none_{w w':World}{r:List Chg×Nat}(h:r=([],0))(hb:Below w.heap.size w w'):GivesFr w r (.returned (.tuple #[.slice none 0 0,.int .i64 0])) w':=by
 subst h;exact⟨_,rfl,OC.nil_ _ _ _ _,hb⟩
theorem told_le(ss:List (List UInt8)):toldL ss≤255:=by
 cases ss with
 |nil=>simp[toldL]
 |cons s ss=>
  show(if s.length=64 then b9 s else 0)≤255;unfold b9;have:=(s.getD 9 0).toNat_lt;split <;>omega
theorem rp_take{w:World}{A:Option Addr}{m c:Nat}{ps:List (List UInt8)}(h:RP w (.slice A m c) ps){n:Nat}(hn:n≤ps.length):RP w (.slice A n c) (ps.take n):=by
 obtain⟨A',c',he,h1,h2,h3⟩:=h;injection he with e1 _ e3;subst e1;subst e3;have hl:(ps.take n).length=n:=by rw[List.length_take];omega
 refine⟨A,c,by rw[hl],by omega,h2,?_⟩;rcases h3 with rfl|⟨b,off,rfl,hb,hc⟩
 ·exact .inl (by simp)
 ·refine .inr ⟨b,off,rfl,hb,fun j hj=>?_⟩
  have:=hc j (by omega);rw[List.getElem_take];exact this
theorem frameP_any(ep num:Int)(v:Value)(ss:List (List UInt8))(w:World)(hv:RP w v ss):
  Calls Tryz.prog 88 #[.int .i64 ep,.int .i64 num,v] w (GivesFr w (frameS ep num ss)):=by
 have htold:=told_any v ss w hv;have hle:=told_le ss;have hF:frameS ep num ss=if ss.length<toldL ss then ([],0)
  else if (ss.take (toldL ss)).all (fun s=>s.length==64)=false then ([],0)
  else if (readChgs (allP (ss.take (toldL ss)))).2≠0 then ([],0)
  else if (partsL ep num (readChgs (allP (ss.take (toldL ss)))).1).1=ss.take (toldL ss) then ((readChgs (allP (ss.take (toldL ss)))).1,toldL ss)
  else ([],0):=rfl
 obtain⟨C,hC⟩:∃C,C=toldL ss:=⟨_,rfl⟩
 rw[←hC] at htold hle hF;generalize frameS ep num ss=R at *;have HT:=qH htold;have HV:=qH hv;obtain⟨A,c,rfl,hlc,hc,_⟩:=hv;unfold maxLen at hc;clear htold hC;by_cases hbig:ss.length<C
 ·rw[if_pos hbig] at hF
  have HF:=qH hF;have cA:(ss.length:Int)<(C:Int):=by omega
  clear hF;go_enter Tryz.func88,Tryz.ntmps88;go_wp2;refine wp_scope_fwd 0 rfl ?_;go_wp2_with fail
  refine HT.out.mono ?_;rintro e w1⟨rfl,rfl⟩;go_wp2;go_step3;refine⟨rfl,?_⟩;unfold Behind;go_wp2;rw[Exit.noGoto_ret]
  go_ret2
  exact GivesFr.none_ HF.out (Below.refl _ _)
 ·rw[if_neg hbig] at hF
  have HF:=qH hF;have AX:C≤ss.length:=by omega
  have cA:(C:Int)≤(ss.length:Int):=by omega
  have hd1:decide (ss.length<C)=false:=by rw[decide_eq_false_iff_not];omega
  have hd2:decide ((ss.length:Int)<(C:Int))=false:=by rw[decide_eq_false_iff_not];omega
  clear hF hbig;go_enter Tryz.func88,Tryz.ntmps88;go_wp2;refine wp_scope_fwd 0 rfl ?_;go_wp2_with fail
  refine HT.out.mono ?_;rintro e w1⟨rfl,rfl⟩;go_wp2
  go_loopw [8,25] (fun bv i wr=>∃k:Nat,k≤C∧i= .int .i64 k∧(ss.take k).all (fun s=>s.length==64)=true∧wr.ownsRow w.heap.size 5 1 bv (allP (ss.take k)).length (bvs (allP (ss.take k)))∧Below w.heap.size w wr) (fun _ i _=>C-(intOf i).toNat)
  case atStart=>exact⟨0,Nat.zero_le _,rfl,by simp,World.ownsRow_nil _ _ _ _,Below.refl _ _⟩
  case round=>
   obtain⟨k,hk,rfl,hall,hown,ad⟩:=hrel;obtain⟨Ab,cb,rfl,_⟩:=own_shape hown;by_cases hlt:k<C
   ·have hkl:k<ss.length:=by omega
    obtain⟨b,off,u,rfl,aj,hx,hr⟩:=rp_at HV.out hkl;have hx':=(ad.cell (p:=⟨b,off+k,none⟩) aj).trans hx;have hr':=hr.below ad;obtain⟨A3,c3,ah,_,hc3,_⟩:=hr;obtain⟨L,hL⟩:∃L,L=ss[k].length:=⟨_,rfl⟩
    rw[←hL] at ah;subst ah;have htk:=List.take_succ_eq_append_getElem hkl;by_cases h64:L=64
    ·subst h64
     have rD:(ss.take (k+1)).all (fun s=>s.length==64)=true:=by rw[htk,List.all_append,hall];simp[←hL]
     have hpc:=pieceP_any _ _ wr hr' hL.symm;have hpl:(pieceP ss[k]).length≤49:=by unfold pieceP;rw[List.length_take];omega
     have hap:=allP_take hkl;have hal:=allP_len (ss.take k);rw[List.length_take] at hal;generalize pieceP ss[k]=p at *;generalize allP (ss.take k)=acc at *;have kg:=qH hpc;have HO:=qH hown;have HB:=qH ad;have eA:=qH hap;have Fc:=qH rD;have hsz:=ad.size;clear hpc hown ad hap hall rD htk hr' hL hx;go_wp2_with fail
     refine kg.out.mono ?_;rintro e w2⟨⟨u2,rfl,hr2⟩,rfl⟩;have cM:=qH hr2;obtain⟨A4,c4,rfl,_⟩:=hr2;go_wp2_with (at_builtin;refine wpList_own rfl (.tmp 32) (.tmp 34) 46 46 rfl w.heap.size 5 (.int .u8 0) 1 1 Tryz.underlying46 info5 rfl rfl HO.out rfl (cM.out.src Tryz.underlying46) HB.out (Nat.le_refl _) ?_ ?_ ?_ ?_)
     ·unfold maxLen;omega
     ·omega
     ·exact hsz
     intro v5 w5 aI au _;have dK:=qH aI;have ax:=qH au;clear aI au;go_wp2;go_roundw
     case rel=>exact⟨k+1,by omega,by go_num,Fc.out,by rw[eA.out];exact own_cat dK.out,ax.out⟩
     case measure=>simp[intOf];omega
    ·have hF2:=HF.out
     rw[if_pos (by
      rw[List.all_eq_false];exact⟨ss[k],by rw[List.mem_take_iff_getElem];exact⟨k,by omega,rfl⟩,by rw[←hL];simp[h64]⟩)] at hF2
     have cJ:=qH hF2;have HB:=qH ad;have DT:((L:Int) !=64)=true:=by simp;omega
     clear hF2 hown ad hall htk hr' hL hx;go_wp2;go_step3;refine⟨rfl,?_⟩;unfold Behind;go_wp2;rw[Exit.noGoto_ret]
     go_ret2
     exact GivesFr.none_ cJ.out HB.out
   ·obtain rfl:k=C:=by omega
    have hF2:=HF.out;rw[if_neg (by rw[hall];decide)] at hF2;have hread:=readChgs_any _ _ wr (RB.own hown);have hval:=readChgs_val (allP (ss.take k));have lS:= @readChgs_few (allP (ss.take k));have hal:=allP_len (ss.take k);rw[List.length_take] at hal;obtain⟨cs,er,fk⟩:∃cs er,readChgs (allP (ss.take k))=(cs,er):=⟨_,_,rfl⟩
    rw[fk] at hF2 hread hval;have nA:er=0→(chgsB cs).length≤49*255∧cs.length≤49*255:=fun h=>by
     have:=lS (cs:=cs) (by rw[fk,h]);omega
    simp only at hF2 hread hval;have qk:=ad.size;have HB:=qH ad;have dB:=qH hread;have cJ:=qH hF2;have Eo:=qH hval;clear hF2 hread hval lS fk hown ad hall;go_wp2_with fail
    refine dB.out.mono ?_;rintro e w2⟨v2,rfl,dD,hb2⟩;have dD:OC 5 76 w2 wr.heap.size v2 cs:=dD;have ae:=qH (HB.out.trans (hb2.mono qk));obtain⟨A2,c2,hv2,_⟩:=dD.rc;subst hv2;have qG:=qH (dD.base_ (base':=w.heap.size) qk);clear dD hb2 dB;by_cases he:er=0
    ·subst he
     obtain⟨eo,hf2⟩:=nA rfl;have nZ:=parts_any ep num _ cs w2 qG.out.rc (by omega) (by omega) (fun r hr=>by have:=Eo.out r hr;omega);have mJ:=cJ.out;rw[if_neg (by simp)] at mJ;generalize oR:partsL ep num cs=P at *;have j6:=qH nZ;have ip:=qH mJ;have fX:=qH (rp_take HV.out AX);clear nZ mJ oR cJ nA;go_wp2_with fail
     refine j6.out.mono ?_;rintro e w3⟨v3,rfl,hop,hb3⟩;obtain⟨A3,c3,rfl,hc3,Cu⟩:=hop.shape;have eu:=hop.rp;have ak:=qH (ae.out.trans (hb3.mono ae.out.size));have Bz:=qH (qG.out.below hb3);have hcall:=eqF_any _ _ _ _ w3 eu (rp_below fX.out ak.out (Nat.le_refl _));obtain⟨M,hM⟩:∃M,M=P.1.length:=⟨_,rfl⟩
     rw[←hM] at hcall Cu⊢;by_cases heq:P.1=ss.take k
     ·have hd:decide (P.1=ss.take k)=true:=decide_eq_true heq
      rw[hd] at hcall;have l9:=qH hcall;have HE:=qH heq;clear hcall hd heq hop hb3 eu j6 qG hM;go_wp2_with fail
      refine l9.out.mono ?_;rintro e w4⟨rfl,rfl⟩;go_wp2;simp only[Exit.jump]
      go_ret2
      have h:=ip.out;rw[if_pos HE.out] at h;rw[h];exact⟨_,rfl,Bz.out,ak.out⟩
     ·have hd:decide (P.1=ss.take k)=false:=decide_eq_false heq
      rw[hd] at hcall;have l9:=qH hcall;have HE:=qH heq;clear hcall hd heq hop hb3 eu j6 qG hM;go_wp2_with fail
      refine l9.out.mono ?_;rintro e w4⟨rfl,rfl⟩;go_wp2;go_step3;refine⟨rfl,?_⟩;unfold Behind;go_wp2;rw[Exit.noGoto_ret]
      go_ret2
      have h:=ip.out;rw[if_neg HE.out] at h;exact GivesFr.none_ h ak.out
    ·have mJ:=cJ.out
     rw[if_pos he] at mJ;have ip:=qH mJ;have hne:(er !=0)=true:=by simp[he]
     have sh:(er==0)=false:=by rw[beq_eq_false_iff_ne];exact he
     clear mJ cJ nA;go_wp2;go_step3;refine⟨rfl,?_⟩;unfold Behind;go_wp2;rw[Exit.noGoto_ret]
     go_ret2
     exact GivesFr.none_ ip.out ae.out
def GivesRd(w:World)(r:List (List Chg)×Nat)(e:Ending)(w':World):Prop:=
 ∃u,e= .returned (.tuple #[u,.int .i64 (r.2:Nat)])∧OF w' w.heap.size u r.1∧Below w.heap.size w w'
def AtNext(ep:Int)(v:Value)(ss:List (List UInt8))(w:World)(a:Act)(W:World):Prop:=
 ∃(fs:List (List Chg)) (at_:Nat) (fv u2 u3 u4 u5 u8 u9 pF pW pw pr pu pz u16 qr zr rt rF rH rJ u23 u24 pV u26 pe u28 qg o0:Value),
  a={tmps:=#[.int .i64 ep,v,u2,u3,u4,u5,fv,.int .i64 at_,u8,u9,pF,pW,pw,pr,pu,pz,u16,qr,zr,rt,rF,rH,rJ,u23,u24,pV,u26,pe,u28,qg,o0],defers:= []}∧
  OF W w.heap.size fv fs∧Below w.heap.size w W∧Left ep ss (readS ep ss) fs at_∧fs.length≤at_
theorem from_next{ep:Int}{v:Value}{ss:List (List UInt8)}{w:World}{P:Act→World→Prop}{a0:Act}{W0:World}(h:AtNext ep v ss w a0 W0)(hP:∀a W,AtNext ep v ss w a W→P a W):P a0 W0:=hP _ _ h
def left7(n:Nat)(a:Act)(_:World):Nat:=n-(intOf (a.tmps.getD 7 undef)).toNat
theorem readP_any(ep:Int)(v:Value)(ss:List (List UInt8))(w:World)(hv:RP w v ss)(hl:ss.length≤1000000):
  Calls Tryz.prog 48 #[.int .i64 ep,v] w (GivesRd w (readS ep ss)):=by
 have HV:=qH hv;obtain⟨A,c,rfl,hlc,hc,_⟩:=hv;unfold maxLen at hc;go_enter Tryz.func48,Tryz.ntmps48;go_wp2;refine wp_scope_jumps 0 (AtNext ep (.slice A ss.length c) ss w) (left7 ss.length) rfl ?_ ?_
 ·go_wp2_with fail
  refine wp_label ?_
  rename_i K hK
  refine hK _ _ ?_;refine from_next (ep:=ep) (v:= .slice A ss.length c) (ss:=ss) (w:=w) (P:=Code.wp Tryz.prog _ _) ⟨[],0,.slice none 0 0,_,_,_,_,_,_,_,_,_,_,_,_,_,_,_,_,_,_,_,_,_,_,_,_,_,_,_,rfl,OF.nil_ w w.heap.size,Below.refl w.heap.size w,Left.start ep ss,Nat.zero_le _⟩ ?_;rintro _ W⟨fs,at_,fv,u2,u3,u4,u5,u8,u9,pF,pW,pw,pr,pu,pz,u16,qr,zr,rt,rF,rH,rJ,u23,u24,pV,u26,pe,u28,qg,o0,rfl,hof,ad,bV,hfl⟩;have hat:=bV.1;have hat':((at_:Nat):Int)≤(ss.length:Int):=by omega
  have ue:(ss.length:Int)≤(c:Int):=by omega
  obtain⟨A1,c1,rfl,wL,xo⟩:=hof.shape;have ay:=frameP_any ep fs.length (.slice (if c=at_ then A else Option.map (fun x=>x.add at_) A) (ss.length-at_) (c-at_)) (ss.drop at_) W (rp_cut (rp_below HV.out ad (Nat.le_refl _)) hat);have jJ:=frame_le (epoch:=ep) (num:=fs.length) (ss:=ss.drop at_);rw[List.length_drop] at jJ;have bU:=bV.stop;have bE:=bV.next;generalize frameS ep fs.length (ss.drop at_)=r at *;obtain⟨l,C⟩:=r;simp only at bU bE jJ;have dr:=qH ay;have cm:=qH hof;have HB:=qH ad;have hsz:=ad.size;have HST:=qH bU;have iM:=qH bE;clear ay hof ad bV bU bE;by_cases cj:at_=c
  ·subst cj
   have ay:=dr.out;rw[if_pos rfl,Nat.sub_self,show ss.length-at_=0 by omega] at ay;have gM:=qH ay;clear ay dr;go_wp2_with fail
   refine gM.out.mono ?_;rintro e W2⟨u,rfl,ij,hb2⟩;obtain⟨Au,cu,rfl,_⟩:=ij.rc;have eG:=qH (cm.out.below hb2);have iI:=HB.out.trans (hb2.mono hsz);have bm:=iI.size;have b7:=qH iI;have HU:=qH (ij.base_ hsz);clear ij iI;by_cases hC:C=0
   ·subst hC
    have hR:=qH (HST.out rfl);go_wp2;try go_ret2
    exact⟨_,by rw[hR.out];rfl,by rw[hR.out];exact eG.out,b7.out⟩
   ·exfalso
    omega
  ·have oq:¬c=at_:=fun h=>cj h.symm
   have ay:=dr.out;rw[if_neg oq] at ay;have gM:=qH ay;clear ay dr;go_wp2_with fail
   refine gM.out.mono ?_;rintro e W2⟨u,rfl,ij,hb2⟩;obtain⟨Au,cu,rfl,_⟩:=ij.rc;have eG:=qH (cm.out.below hb2);have iI:=HB.out.trans (hb2.mono hsz);have bm:=iI.size;have b7:=qH iI;have HU:=qH (ij.base_ hsz);clear ij iI;by_cases hC:C=0
   ·subst hC
    have hR:=qH (HST.out rfl);go_wp2;try go_ret2
    exact⟨_,by rw[hR.out];rfl,by rw[hR.out];exact eG.out,b7.out⟩
   ·have rO:(0:Int)<(C:Int):=by omega
    have Cf:=qH (iM.out hC);have ap:=(Below.refl W2.heap.size W2).alloc (Nat.le_refl _) (Obj.cells #[.slice Au l.length cu] 56);have dh:=qH (b7.out.trans (ap.mono bm));have nM:=dh.out.size;have yY:=qH (HU.out.below (ap.mono (Nat.le_refl _)));obtain⟨us,ah,ho,hf⟩:=eG.out.below ap;have bt:=qH (show us.length=fs.length by rw[←ah,List.length_map]);have HO:=qH ho;have HF:=qH hf;have ce:=qH ah;clear ho hf ah;have i7:=qH (src_one W2 Tryz.underlying97 56 (.slice Au l.length cu) rfl);go_wp2_with (at_builtin;refine wpList_own rfl (.tmp 22) (.tmp 24) 97 97 rfl w.heap.size 56 (.slice none 0 0) 1 24 Tryz.underlying97 info56 rfl rfl HO.out rfl i7.out dh.out (Nat.le_refl _) ?_ ?_ ?_ ?_)
    ·have:=bt.out
     unfold maxLen;omega
    ·have:=bt.out
     omega
    ·exact nM
    intro v5 w5 aI au hg5;have hrf:=OF.push HO.out HF.out yY.out aI hg5;rw[ce.out] at hrf;have gi:=qH hrf;have ax:=qH au;clear aI hg5 hrf au;go_wp2_with fail
    go_step3;refine⟨rfl,?_⟩;have eB:((at_:Nat):Int)+(C:Int)=((at_+C:Nat):Int):=by omega
    rw[eB];exact⟨fs++ [l],at_+C,v5,_,_,_,_,_,_,_,_,_,_,_,_,_,_,_,_,_,_,_,_,_,_,_,_,_,_,_,rfl,gi.out,ax.out,iM.out hC,by rw[List.length_append,List.length_singleton];omega⟩
 ·rintro _ W ⟨fs,at_,fv,u2,u3,u4,u5,u8,u9,pF,pW,pw,pr,pu,pz,u16,qr,zr,rt,rF,rH,rJ,u23,u24,pV,u26,pe,u28,qg,o0,rfl,hof,ad,bV,hfl⟩
  have hat:=bV.1;have hat':((at_:Nat):Int)≤(ss.length:Int):=by omega
  have ue:(ss.length:Int)≤(c:Int):=by omega
  obtain⟨A1,c1,rfl,wL,xo⟩:=hof.shape;have ay:=frameP_any ep fs.length (.slice (if c=at_ then A else Option.map (fun x=>x.add at_) A) (ss.length-at_) (c-at_)) (ss.drop at_) W (rp_cut (rp_below HV.out ad (Nat.le_refl _)) hat);have jJ:=frame_le (epoch:=ep) (num:=fs.length) (ss:=ss.drop at_);rw[List.length_drop] at jJ;have bU:=bV.stop;have bE:=bV.next;generalize frameS ep fs.length (ss.drop at_)=r at *;obtain⟨l,C⟩:=r;simp only at bU bE jJ;have dr:=qH ay;have cm:=qH hof;have HB:=qH ad;have hsz:=ad.size;have HST:=qH bU;have iM:=qH bE;clear ay hof ad bV bU bE;by_cases cj:at_=c
  ·subst cj
   have ay:=dr.out;rw[if_pos rfl,Nat.sub_self,show ss.length-at_=0 by omega] at ay;have gM:=qH ay;clear ay dr;go_wp2_with fail
   refine gM.out.mono ?_;rintro e W2⟨u,rfl,ij,hb2⟩;obtain⟨Au,cu,rfl,_⟩:=ij.rc;have eG:=qH (cm.out.below hb2);have iI:=HB.out.trans (hb2.mono hsz);have bm:=iI.size;have b7:=qH iI;have HU:=qH (ij.base_ hsz);clear ij iI;by_cases hC:C=0
   ·subst hC
    have hR:=qH (HST.out rfl);go_wp2;try go_ret2
    exact⟨_,by rw[hR.out];rfl,by rw[hR.out];exact eG.out,b7.out⟩
   ·exfalso
    omega
  ·have oq:¬c=at_:=fun h=>cj h.symm
   have ay:=dr.out;rw[if_neg oq] at ay;have gM:=qH ay;clear ay dr;go_wp2_with fail
   refine gM.out.mono ?_;rintro e W2⟨u,rfl,ij,hb2⟩;obtain⟨Au,cu,rfl,_⟩:=ij.rc;have eG:=qH (cm.out.below hb2);have iI:=HB.out.trans (hb2.mono hsz);have bm:=iI.size;have b7:=qH iI;have HU:=qH (ij.base_ hsz);clear ij iI;by_cases hC:C=0
   ·subst hC
    have hR:=qH (HST.out rfl);go_wp2;try go_ret2
    exact⟨_,by rw[hR.out];rfl,by rw[hR.out];exact eG.out,b7.out⟩
   ·have rO:(0:Int)<(C:Int):=by omega
    have Cf:=qH (iM.out hC);have ap:=(Below.refl W2.heap.size W2).alloc (Nat.le_refl _) (Obj.cells #[.slice Au l.length cu] 56);have dh:=qH (b7.out.trans (ap.mono bm));have nM:=dh.out.size;have yY:=qH (HU.out.below (ap.mono (Nat.le_refl _)));obtain⟨us,ah,ho,hf⟩:=eG.out.below ap;have bt:=qH (show us.length=fs.length by rw[←ah,List.length_map]);have HO:=qH ho;have HF:=qH hf;have ce:=qH ah;clear ho hf ah;have i7:=qH (src_one W2 Tryz.underlying97 56 (.slice Au l.length cu) rfl);go_wp2_with (at_builtin;refine wpList_own rfl (.tmp 22) (.tmp 24) 97 97 rfl w.heap.size 56 (.slice none 0 0) 1 24 Tryz.underlying97 info56 rfl rfl HO.out rfl i7.out dh.out (Nat.le_refl _) ?_ ?_ ?_ ?_)
    ·have:=bt.out
     unfold maxLen;omega
    ·have:=bt.out
     omega
    ·exact nM
    intro v5 w5 aI au hg5;have hrf:=OF.push HO.out HF.out yY.out aI hg5;rw[ce.out] at hrf;have gi:=qH hrf;have ax:=qH au;clear aI hg5 hrf au;go_wp2_with fail
    go_step3;refine⟨rfl,?_⟩;have eB:((at_:Nat):Int)+(C:Int)=((at_+C:Nat):Int):=by omega
    rw[eB];refine⟨⟨fs++ [l],at_+C,v5,_,_,_,_,_,_,_,_,_,_,_,_,_,_,_,_,_,_,_,_,_,_,_,_,_,_,_,rfl,gi.out,ax.out,iM.out hC,by rw[List.length_append,List.length_singleton];omega⟩,?_⟩;simp[left7,intOf];omega
open Go.RowKit Go.Rst Go.Pg Go.Crc
theorem refFrame_any(ep n:Nat)(v:Value)(ss:List (List UInt8))(he:ep≤1073741824)(hn:n≤1073741824)(w:World)(hv:RP w v ss):
  Calls Tryz.prog 99 #[.int .i64 ep,.int .i64 n,v] w (GivesFr w (frameS ep n ss)):=by
 have HV:=qH hv;obtain⟨A,c,rfl,hlc,hc,_⟩:=hv;unfold maxLen at hc;go_enter Tryz.func99,Tryz.ntmps99;go_wp2
 go_loopw [8,9,10,11,12,13] (fun av ov iv _ _ _ wr=>∃i of L:Nat,PF ep n ss i of∧iv= .int .i64 i∧ov= .int .i64 of∧L=(allP (ss.take i)).length∧wr.ownsRow w.heap.size 5 1 av L (bvs (allP (ss.take i)))∧Below w.heap.size w wr)
  (fun _ _ iv _ _ _ _=>1000-(intOf iv).toNat)
 case atStart=>exact⟨0,0,0,PF.start ep n ss,rfl,rfl,by simp[allP],World.ownsRow_nil _ _ _ _,Below.refl _ _⟩
 case round=>
  obtain⟨i,of,L,dW,rfl,rfl,hL,hown,ad⟩:=hrel;have G6:i≤200:=by
   by_cases h:i=0
   ·omega
   ·obtain⟨_,_,h3,h4⟩:=dW.told (by omega)
    omega
  have C4:of≤200:=by
   by_cases h:i=0
   ·have:=dW.head h;omega
   ·obtain⟨_,_,h3,h4⟩:=dW.told (by omega)
    omega
  have lH:L≤9800:=by
   have:=allP_len (ss.take i);rw[List.length_take] at this;omega
  have hle:=dW.le;obtain⟨Ao,co,rfl,_⟩:=own_shape hown;have lj:=qH dW;have HO:=qH hown;have HB:=qH ad;have CB:=qH hL;have hsz:=ad.size;clear dW hown ad hL;by_cases hcond:i=0∨i<of
  ·have FL:=qH (lj.out.short hcond)
   have iM:=qH (lj.out.next hcond);have j2:=qH (lj.out.none hcond);rcases(show(i=0)∨(¬i=0∧i<of) by omega) with hz|⟨hz,hlt⟩
   ·have hz':((i:Int)==0)=true:=by rw[beq_iff_eq];omega
    clear hz hcond;by_cases hil:i<ss.length
    ·have hne:((i:Int)==(ss.length:Int))=false:=by rw[beq_eq_false_iff_ne];omega
     have q0:(0:Int)≤i:=by omega
     have q1:(i:Int)<ss.length:=by omega
     obtain⟨b,off,u,rfl,hb,hu,hr⟩:=rp_at HV.out hil;have hu':=(HB.out.cell (p:=⟨b,off+i,none⟩) hb).trans hu;have hpc:=refPiece_any u ss[i] ep n i of he hn (by omega) (by omega) wr (hr.below HB.out);have hnx:=iM.out hil;have hno:=j2.out hil;have eA:=qH (allP_take hil);obtain⟨Au,cu,rfl⟩:=rb_shape hr;obtain⟨s,hs⟩:∃s,s=ss[i]:=⟨_,rfl⟩
     rw[←hs] at hpc hnx hno eA hu' hr;obtain⟨ls,hls⟩:∃ls,ls=s.length:=⟨_,rfl⟩
     rw[←hls] at hpc hu';have kg:=qH hpc;have kT:=qH hnx;have oe:=qH hno;have zQ:b9 s≤255:=by unfold b9;have:=(s.getD 9 0).toNat_lt;omega
     obtain⟨k9,ez⟩:∃k,k=b9 s:=⟨_,rfl⟩
     rw[←ez] at zQ kT;have lh:=qH ez;clear hpc hnx hno hs hls hu hr ez;go_wp2_with fail
     refine kg.out.mono ?_;rintro e w2⟨hres,hb2⟩;have ae:=qH (HB.out.trans (hb2.mono hsz));have fQ:=qH (own_below HO.out hb2);clear kg;rcases hres with ⟨hok,up,rfl,eu⟩|⟨hok,rfl⟩
     ·rw[←lh.out]
      have HN:=qH (kT.out hok);have yS:(pieceP s).length≤49:=by unfold pieceP;rw[List.length_take];omega
      have cD:=qH ((eu.below hb2).src (P:=Tryz.prog) Tryz.underlying46);obtain⟨Ap,cp,rfl⟩:=rb_shape eu;clear hok eu hb2 kT oe;generalize pieceP s=P at *;go_wp2_with (at_builtin;refine wpList_own rfl (.tmp 45) (.tmp 46) 46 46 rfl w.heap.size 5 (.int .u8 0) 1 1 Tryz.underlying46 info5 rfl rfl fQ.out rfl cD.out ae.out (Nat.le_refl _) ?_ ?_ ?_ ?_)
      ·unfold maxLen;omega
      ·omega
      ·exact ae.out.size
      intro v6 w6 dG ap _;rw[←bvs_append,←eA.out] at dG;have jZ:=qH dG;have aE:=qH ap;clear dG ap;go_wp2;go_roundw
      case rel=>exact⟨i+1,k9,L+P.length,HN.out,by go_num,rfl,by rw[eA.out,List.length_append,←CB.out],jZ.out,aE.out⟩
      case measure=>simp[intOf];omega
     ·have HN:=qH (frame_no (oe.out hok))
      clear hok hb2;go_wp2
      go_ret2
      exact GivesFr.none_ HN.out ae.out
    ·have hne:((i:Int)==(ss.length:Int))=true:=by rw[beq_iff_eq];omega
     have HN:=qH (frame_no (FL.out (by omega)));go_wp2
     go_ret2
     exact GivesFr.none_ HN.out HB.out
   ·have hz':((i:Int)==0)=false:=by rw[beq_eq_false_iff_ne];omega
    have hlt':(i:Int)<(of:Int):=by omega
    clear hz hcond hlt;by_cases hil:i<ss.length
    ·have hne:((i:Int)==(ss.length:Int))=false:=by rw[beq_eq_false_iff_ne];omega
     have q0:(0:Int)≤i:=by omega
     have q1:(i:Int)<ss.length:=by omega
     obtain⟨b,off,u,rfl,hb,hu,hr⟩:=rp_at HV.out hil;have hu':=(HB.out.cell (p:=⟨b,off+i,none⟩) hb).trans hu;have hpc:=refPiece_any u ss[i] ep n i of he hn (by omega) (by omega) wr (hr.below HB.out);have hnx:=iM.out hil;have hno:=j2.out hil;have eA:=qH (allP_take hil);obtain⟨Au,cu,rfl⟩:=rb_shape hr;obtain⟨s,hs⟩:∃s,s=ss[i]:=⟨_,rfl⟩
     rw[←hs] at hpc hnx hno eA hu' hr;obtain⟨ls,hls⟩:∃ls,ls=s.length:=⟨_,rfl⟩
     rw[←hls] at hpc hu';have kg:=qH hpc;have kT:=qH hnx;have oe:=qH hno;have zQ:b9 s≤255:=by unfold b9;have:=(s.getD 9 0).toNat_lt;omega
     obtain⟨k9,ez⟩:∃k,k=b9 s:=⟨_,rfl⟩
     rw[←ez] at zQ kT;have lh:=qH ez;clear hpc hnx hno hs hls hu hr ez;go_wp2_with fail
     refine kg.out.mono ?_;rintro e w2⟨hres,hb2⟩;have ae:=qH (HB.out.trans (hb2.mono hsz));have fQ:=qH (own_below HO.out hb2);clear kg;rcases hres with ⟨hok,up,rfl,eu⟩|⟨hok,rfl⟩
     ·rw[←lh.out]
      have HN:=qH (kT.out hok);have yS:(pieceP s).length≤49:=by unfold pieceP;rw[List.length_take];omega
      have cD:=qH ((eu.below hb2).src (P:=Tryz.prog) Tryz.underlying46);obtain⟨Ap,cp,rfl⟩:=rb_shape eu;clear hok eu hb2 kT oe;generalize pieceP s=P at *;go_wp2_with (at_builtin;refine wpList_own rfl (.tmp 45) (.tmp 46) 46 46 rfl w.heap.size 5 (.int .u8 0) 1 1 Tryz.underlying46 info5 rfl rfl fQ.out rfl cD.out ae.out (Nat.le_refl _) ?_ ?_ ?_ ?_)
      ·unfold maxLen;omega
      ·omega
      ·exact ae.out.size
      intro v6 w6 dG ap _;rw[←bvs_append,←eA.out] at dG;have jZ:=qH dG;have aE:=qH ap;clear dG ap;go_wp2;go_roundw
      case rel=>exact⟨i+1,k9,L+P.length,HN.out,by go_num,rfl,by rw[eA.out,List.length_append,←CB.out],jZ.out,aE.out⟩
      case measure=>simp[intOf];omega
     ·have HN:=qH (frame_no (oe.out hok))
      clear hok hb2;go_wp2
      go_ret2
      exact GivesFr.none_ HN.out ae.out
    ·have hne:((i:Int)==(ss.length:Int))=true:=by rw[beq_iff_eq];omega
     have HN:=qH (frame_no (FL.out (by omega)));go_wp2
     go_ret2
     exact GivesFr.none_ HN.out HB.out
  ·obtain⟨Ff,hg⟩:=lj.out.done hcond
   have hz':((i:Int)==0)=false:=by rw[beq_eq_false_iff_ne];omega
   have hlt':¬(i:Int)<(of:Int):=by omega
   have bZ:=RB.own (by rw[←CB.out];exact HO.out:wr.ownsRow w.heap.size 5 1 (.slice Ao L co) (allP (ss.take i)).length (bvs (allP (ss.take i))));have fm:=qH (refReadChgs_any _ _ wr bZ);have bq:=qH (fun(h:(readChgs (allP (ss.take i))).2=0)=>by rw[Ff] at h⊢;exact good_frame hg he hn h:(readChgs (allP (ss.take i))).2=0→frameS ep n ss=((readChgs (allP (ss.take i))).1,of));have FA:=qH (fun(h:(readChgs (allP (ss.take i))).2≠0)=>by rw[Ff] at h;exact frame_err hg h:(readChgs (allP (ss.take i))).2≠0→frameS ep n ss=([],0));clear hcond Ff hg bZ;generalize readChgs (allP (ss.take i))=r at *;obtain⟨cs,er⟩:=r;simp only at bq FA;go_wp2_with fail
   refine fm.out.mono ?_;rintro e w2⟨v2,rfl,dD,hb2⟩;have dD:OC 5 76 w2 wr.heap.size v2 cs:=dD;have qG:=qH (dD.base_ hsz);have ae:=qH (HB.out.trans (hb2.mono hsz));obtain⟨A2,c2,rfl,_,_,_⟩:=dD.rc;clear dD hb2 fm;by_cases her:er=0
   ·have H:=qH (bq.out her)
    have Eu:(er !=0)=false:=by rw[bne_eq_false_iff_eq];exact her
    subst her;go_wp2
    go_ret2
    rw[H.out];exact⟨_,rfl,qG.out,ae.out⟩
   ·have H:=qH (FA.out her)
    have Eu:(er !=0)=true:=by rw[bne_iff_ne];exact her
    clear her;go_wp2
    go_ret2
    exact GivesFr.none_ H.out ae.out
theorem refRead_any(ep:Int)(v:Value)(ss:List (List UInt8))(w:World)(hv:RP w v ss)(hl:ss.length≤1000000):
  Calls Tryz.prog 55 #[.int .i64 ep,v] w (GivesRd w (readS ep ss)):=by
 have HV:=qH hv;obtain⟨A,c,rfl,hlc,hc,_⟩:=hv;unfold maxLen at hc;have hout:(ep<0∨1073741824<ep)→readS ep ss=([],0):=fun h=>by
  unfold readS;exact readF_stop (by rw[frame_out (by omega)])
 by_cases hlo:0≤ep
 ·by_cases hhi:ep≤1073741824
  ·obtain⟨E,rfl⟩:=Int.eq_ofNat_of_zero_le hlo
   have hE:E≤1073741824:=by omega
   have ue:(ss.length:Int)≤(c:Int):=by omega
   clear hout;go_enter Tryz.func55,Tryz.ntmps55;go_wp2
   go_loopw [6,7,8,9] (fun ov av _ _ wr=>∃(fs:List (List Chg)) (at_:Nat),Left E ss (readS E ss) fs at_∧av= .int .i64 at_∧OF wr w.heap.size ov fs∧fs.length≤at_∧Below w.heap.size w wr)
    (fun _ av _ _ _=>ss.length-(intOf av).toNat)
   case atStart=>exact⟨[],0,Left.start E ss,rfl,OF.nil_ _ _,Nat.le_refl _,Below.refl _ _⟩
   case round=>
    obtain⟨fs,at_,bV,rfl,hof,hfl,ad⟩:=hrel;obtain⟨Wo,iq⟩:∃x,x=wr:=⟨_,rfl⟩
    subst iq;have hat:=bV.1;have Ko:(0:Int)≤(at_:Int):=by omega
    have hat':((at_:Nat):Int)≤(ss.length:Int):=by omega
    obtain⟨A1,c1,rfl,wL,xo⟩:=hof.shape;have ay:=refFrame_any E fs.length (.slice (if c=at_ then A else Option.map (fun x=>x.add at_) A) (ss.length-at_) (c-at_)) (ss.drop at_) hE (by omega) Wo (rp_cut (rp_below HV.out ad (Nat.le_refl _)) hat);have jJ:=frame_le (epoch:=E) (num:=fs.length) (ss:=ss.drop at_);rw[List.length_drop] at jJ;have bU:=bV.stop;have bE:=bV.next;generalize frameS (E:Int) fs.length (ss.drop at_)=r at *;obtain⟨l,C⟩:=r;simp only at bU bE jJ;have dr:=qH ay;have cm:=qH hof;have HB:=qH ad;have hsz:=ad.size;have HST:=qH bU;have iM:=qH bE;clear ay hof ad bV bU bE;by_cases cj:at_=c
    ·subst cj
     have ay:=dr.out;rw[if_pos rfl,Nat.sub_self,show ss.length-at_=0 by omega] at ay;have gM:=qH ay;clear ay dr;go_wp2_with fail
     refine gM.out.mono ?_;rintro e W2⟨u,rfl,ij,hb2⟩;obtain⟨Au,cu,rfl,_⟩:=ij.rc;have eG:=qH (cm.out.below hb2);have b7:=qH (HB.out.trans (hb2.mono hsz));have hC:C=0:=by omega
     subst hC;have hR:=qH (HST.out rfl);clear ij hb2;go_wp2
     go_ret2
     exact⟨_,by rw[hR.out];rfl,by rw[hR.out];exact eG.out,b7.out⟩
    ·have oq:¬c=at_:=fun h=>cj h.symm
     have ay:=dr.out;rw[if_neg oq] at ay;have gM:=qH ay;clear ay dr;go_wp2_with fail
     refine gM.out.mono ?_;rintro e W2⟨u,rfl,ij,hb2⟩;obtain⟨Au,cu,rfl,_⟩:=ij.rc;have eG:=qH (cm.out.below hb2);have iI:=HB.out.trans (hb2.mono hsz);have bm:=iI.size;have b7:=qH iI;have HU:=qH (ij.base_ hsz);clear ij iI;by_cases hC:C=0
     ·subst hC
      have hR:=qH (HST.out rfl);go_wp2
      go_ret2
      exact⟨_,by rw[hR.out];rfl,by rw[hR.out];exact eG.out,b7.out⟩
     ·have rO:(0:Int)<(C:Int):=by omega
      have K8:((C:Int)==0)=false:=by rw[beq_eq_false_iff_ne];omega
      have Cf:=qH (iM.out hC);have ap:=(Below.refl W2.heap.size W2).alloc (Nat.le_refl _) (Obj.cells #[.slice Au l.length cu] 56);have dh:=qH (b7.out.trans (ap.mono bm));have nM:=dh.out.size;have yY:=qH (HU.out.below (ap.mono (Nat.le_refl _)));obtain⟨us,ah,ho,hf⟩:=eG.out.below ap;have bt:=qH (show us.length=fs.length by rw[←ah,List.length_map]);have HO:=qH ho;have HF:=qH hf;have ce:=qH ah;clear ho hf ah hb2;have i7:=qH (src_one W2 Tryz.underlying97 56 (.slice Au l.length cu) rfl);go_wp2_with (at_builtin;refine wpList_own rfl (.tmp 30) (.tmp 32) 97 97 rfl w.heap.size 56 (.slice none 0 0) 1 24 Tryz.underlying97 info56 rfl rfl HO.out rfl i7.out dh.out (Nat.le_refl _) ?_ ?_ ?_ ?_)
      ·have:=bt.out
       unfold maxLen;omega
      ·have:=bt.out
       omega
      ·exact nM
      intro v5 w5 aI au hg5;have hrf:=OF.push HO.out HF.out yY.out aI hg5;rw[ce.out] at hrf;have gi:=qH hrf;have ax:=qH au;clear aI hg5 hrf au;go_wp2;go_roundw
      case rel=>exact⟨fs++ [l],at_+C,Cf.out,by go_num,gi.out,by rw[List.length_append,List.length_singleton];omega,ax.out⟩
      case measure=>simp[intOf];omega
  ·have hR:=qH (hout (.inr (by omega)))
   clear hout;go_enter Tryz.func55,Tryz.ntmps55;go_wp2
   go_loopw [6,7,8,9] (fun ov av _ _ wr=>ov= .slice none 0 0∧av= .int .i64 0∧wr=w) (fun _ _ _ _ _=>0)
   case atStart=>exact⟨rfl,rfl,rfl⟩
   case round=>
    obtain⟨rfl,rfl,rfl⟩:=hrel;go_wp2
    go_ret2
    exact⟨_,by rw[hR.out];rfl,by rw[hR.out];exact OF.nil_ _ _,Below.refl _ _⟩
 ·have hR:=qH (hout (.inl (by omega)))
  clear hout;go_enter Tryz.func55,Tryz.ntmps55;go_wp2
  go_loopw [6,7,8,9] (fun ov av _ _ wr=>ov= .slice none 0 0∧av= .int .i64 0∧wr=w) (fun _ _ _ _ _=>0)
  case atStart=>exact⟨rfl,rfl,rfl⟩
  case round=>
   obtain⟨rfl,rfl,rfl⟩:=hrel;go_wp2
   go_ret2
   exact⟨_,by rw[hR.out];rfl,by rw[hR.out];exact OF.nil_ _ _,Below.refl _ _⟩
end Go.Proofs.YtmbkaedhllfoeaaGreat
