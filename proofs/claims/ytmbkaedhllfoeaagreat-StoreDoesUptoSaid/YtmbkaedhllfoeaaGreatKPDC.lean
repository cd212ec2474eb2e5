/-
  Texts of the proof, put together.
-/
import Derived.OrdersHeld
import Derived.Test.YtmbkaedhllfoeaaGreatKPDB
import Derived.Test.YtmbkaedhllfoeaaGreatKPWr
set_option maxRecDepth 100000
set_option maxHeartbeats 4000000
set_option linter.unusedVariables false
namespace Go.Proofs.YtmbkaedhllfoeaaGreat
open Go.RowKit Go.Rst Go.Pg Go.Crc Go.Shelf
attribute [local go_sem] Oper.semAt_some
def lvBody:Code:=(Code.block 3 ((Code.region 10 #[⟨some 25,.load 3 (.tmp 5),3,"tree.go:22",#[],none⟩,⟨some 26,.move (.tmp 7),40,"tree.go:22",#[],none⟩,⟨some 27,.call ⟨.value (.func 114),#[.tmp 25,.tmp 26],#[3,40]⟩,80,"tree.go:22",#[⟨0,.data⟩,⟨1,.data⟩],none⟩,⟨some 24,.move (.tmp 27),80,"tree.go:22",#[⟨2,.data⟩],none⟩,⟨some 28,.extract (.tmp 24) 0,46,"tree.go:22",#[⟨3,.data⟩],none⟩,⟨some 29,.extract (.tmp 24) 1,4,"tree.go:22",#[⟨3,.data⟩,⟨6,.gcOnly .lateStores⟩],none⟩,⟨some 8,.assign (.tmp 28),46,"tree.go:22",#[⟨4,.data⟩,⟨2,.chain⟩,⟨0,.phase⟩,⟨1,.phase⟩,⟨2,.phase⟩,⟨3,.phase⟩,⟨4,.phase⟩,⟨5,.textOnly .lateStores⟩],none⟩,⟨some 9,.assign (.tmp 29),4,"tree.go:22",#[⟨5,.data⟩,⟨6,.chain⟩,⟨0,.phase⟩,⟨1,.phase⟩,⟨2,.phase⟩,⟨3,.phase⟩,⟨4,.phase⟩,⟨5,.phase⟩,⟨6,.phase⟩],none⟩] false).seq (((Code.region 11 #[⟨some 30,.move (.tmp 9),4,"tree.go:23",#[],none⟩,⟨some 31,.unOp .not 4 (.tmp 30),4,"tree.go:23",#[⟨0,.data⟩],none⟩] false).seq (Code.cond (Operand.tmp 31) (Code.exit 0) Code.skip)).seq (((Code.region 12 #[⟨some 32,.move (.tmp 7),40,"tree.go:26",#[],none⟩,⟨some 33,.call ⟨.builtin .len,#[.tmp 32],#[40]⟩,3,"tree.go:26",#[⟨0,.data⟩],none⟩,⟨some 34,.binOp .gtr 3 (.tmp 33) (.const (.int .i64 0)) 3,4,"tree.go:26",#[⟨1,.data⟩],none⟩] false).seq (Code.cond (Operand.tmp 34) (Code.region 13 #[⟨some 35,.load 40 (.tmp 6),40,"tree.go:27",#[],none⟩,⟨some 36,.move (.tmp 7),40,"tree.go:27",#[],none⟩,⟨some 37,.indexAddr 40 (.tmp 36) (.const (.int .i64 0)),0,"tree.go:27",#[⟨1,.data⟩],none⟩,⟨some 38,.fieldAddr 78 (.tmp 37) 0,0,"tree.go:27",#[⟨2,.data⟩],none⟩,⟨some 39,.load 9 (.tmp 38),9,"tree.go:27",#[⟨3,.data⟩],none⟩,⟨some 40,.load 26 (.tmp 4),26,"tree.go:27",#[],none⟩,⟨some 41,.call ⟨.builtin .len,#[.tmp 40],#[26]⟩,3,"tree.go:27",#[⟨5,.data⟩],none⟩,⟨some 42,.call ⟨.value (.func 115),#[.tmp 41],#[3]⟩,46,"tree.go:27",#[⟨6,.data⟩],none⟩,⟨some 43,.build 78 #[(0,.tmp 39),(1,.tmp 42)],78,"tree.go:27",#[⟨4,.data⟩,⟨7,.data⟩],none⟩,⟨some 44,.buildSlice 40 1 #[(0,.tmp 43)],40,"tree.go:27",#[⟨8,.data⟩],none⟩,⟨some 45,.call ⟨.builtin .append,#[.tmp 35,.tmp 44],#[40,40]⟩,40,"tree.go:27",#[⟨0,.data⟩,⟨9,.data⟩,⟨7,.chain⟩],none⟩,⟨none,.store 40 (.tmp 6) (.tmp 45),0,"tree.go:27",#[⟨10,.data⟩,⟨10,.chain⟩,⟨0,.phase⟩,⟨1,.phase⟩,⟨2,.phase⟩,⟨3,.phase⟩,⟨4,.phase⟩,⟨5,.phase⟩,⟨6,.phase⟩,⟨7,.phase⟩,⟨8,.phase⟩,⟨9,.phase⟩,⟨10,.phase⟩],none⟩] true) Code.skip)).seq (Code.region 14 #[⟨some 46,.load 26 (.tmp 4),26,"tree.go:29",#[],none⟩,⟨some 47,.move (.tmp 8),46,"tree.go:29",#[],none⟩,⟨some 48,.buildSlice 26 1 #[(0,.tmp 47)],26,"tree.go:29",#[⟨1,.data⟩],none⟩,⟨some 49,.call ⟨.builtin .append,#[.tmp 46,.tmp 48],#[26,26]⟩,26,"tree.go:29",#[⟨0,.data⟩,⟨2,.data⟩],none⟩,⟨none,.store 26 (.tmp 4) (.tmp 49),0,"tree.go:29",#[⟨3,.data⟩,⟨3,.chain⟩,⟨0,.phase⟩,⟨1,.phase⟩,⟨2,.phase⟩,⟨3,.phase⟩],none⟩] false)))))
theorem round_body{l n:Nat}{w0:World}{B Bl Ba k base:Nat}{lv:Value}{rest:List Rw}{all0:List (List UInt8)}{cs:List (List Rw)}{Ax:Option Addr}{cx:Nat}{xr:List Rw}{pv av:Value}{W:World}{u0 u1 u2 u3 u8 u9 pF pW pw pr pu pz u16 qr zr rt rF rH rJ u23 u24 pV u26 pe u28 qg o0 zi u32 u33 xy wt x9 ym zM vr xI zk yv xX u44 yw vi zL yE yB ze xq vD xp xu xA:Value}
  (_hk:k≤4) (hst:St w0 B Bl Ba k base lv rest (all0++pagesF k cs) (abovP all0.length cs) pv av W) (hx:∀X,RR X lv rest→RR X (.slice Ax xr.length cx) xr) (hlen:all0.length+cs.length≤1000000)
  {Q:Exit→Act→World→Prop} (hQo:∀a w,¬Q .outgrown a w) (hQp:∀c a w,¬Q (.panic c) a w)
  (hgo:pageOk k xr=true→∀W' pv' wX a,St w0 B Bl Ba k base lv rest (all0++pagesF k (cs++ [xr])) (abovP all0.length (cs++ [xr])) pv' wX W'→KeepsOthers W W'→Below w0.heap.size W W'→Q .normal a W')
  (bU:pageOk k xr=false→∀W' a,St w0 B Bl Ba k base lv rest (all0++pagesF k cs) (abovP all0.length cs) pv av W'→KeepsOthers W W'→Below w0.heap.size W W'→Q (.exit 0) a W'):
  lvBody.wpIn (Fence.wide.inRound l) n Tryz.prog Q {tmps:=#[u0,u1,u2,u3,.pointer (some ⟨B,0,none⟩),.pointer (some ⟨Bl,0,none⟩),.pointer (some ⟨Ba,0,none⟩),.slice Ax xr.length cx,u8,u9,pF,pW,pw,pr,pu,pz,u16,qr,zr,rt,rF,rH,rJ,u23,u24,pV,u26,pe,u28,qg,o0,zi,u32,u33,xy,wt,x9,ym,zM,vr,xI,zk,yv,xX,u44,yw,vi,zL,yE,yB,ze,xq,vD,xp,xu,xA],defers:= []} W:=by
 have HST:=qH hst;have HX:=qH hx;have rV:=qH hgo;have wm:=qH bU;have henc:=enc_any (k:Int) _ xr W (hx W hst.rr);have hcl:=hst.bl.cell;clear hst hx hgo bU;unfold GivesEnc at henc;unfold lvBody
 cases hok:pageOk (k:Int) xr with
 |false=>
  rw[hok] at henc;have pY:=qH henc;have bq:=qH hok;clear henc hok;gi_wp2_with (first|(gi_at_call 114;refine(CallsIn.inRound l (callsIn_wide.2 pY.out)).mono ?_;rintro e w1 ⟨v1,rfl,ma,hb1⟩;obtain⟨A1,c1,rfl,_⟩:=own_shape ma;have an:=qH hb1;clear ma hb1)|(refine⟨fun h=>(by simp[Fence.wide] at h),?_⟩)|(refine⟨(show Fence.wide.fn _ from trivial),?_⟩))
  exact wm.out bq.out _ _ (HST.out.below an.out) (KeepsOthers.of_grownBy (grown_none an.out) (fun _ _ h=>by cases h)) (an.out.mono HST.out.be.size)
 |true=>
  rw[hok] at henc;have hpl:=encL_length hok;rw[hpl] at henc;obtain⟨pg,gB⟩:∃pg,pg=encL (k:Int) xr:=⟨_,rfl⟩
  have hnew:=pages_snoc (k:Int) cs xr;have jE:=abovP_snoc all0.length cs xr;rw[←gB] at henc hnew hpl;have pY:=qH henc;have bq:=qH hok;have cW:=qH hpl;have eF:=qH hnew;have de:=qH jE;clear henc hok hpl hnew jE gB;obtain⟨Ap,cp,hpv,vO,hpc⟩:=HST.out.op.shape;rw[List.length_append,pages_len] at hpv hpc;obtain⟨n0,hn0⟩:∃n0,n0=all0.length+cs.length:=⟨_,rfl⟩
  rw[←hn0] at hpv hpc hlen de;subst hpv;have zt:=qH hn0;clear hn0;obtain⟨AM,hi,hz0,hz1,hz2⟩:=info_parts info46;by_cases hx0:xr= []
  ·subst hx0
   rw[if_pos rfl,List.append_nil] at de;have wD:=qH (show Calls Tryz.prog 114 #[.int .i64 (k:Int),.slice Ax 0 cx] W _ from pY.out);rw[List.length_nil];gi_wp2_with (first|(gi_at_call 114;refine(CallsIn.inRound l (callsIn_wide.2 wD.out)).mono ?_;rintro e w1 ⟨v1,rfl,ma,hb1⟩;have sZ:=qH (FB.own (show w1.ownsRow W.heap.size 5 1 v1 pg.length (bvs pg) by rw[cW.out];exact ma));obtain⟨A1,c1,rfl,_⟩:=own_shape ma;have an:=qH hb1;have lV:=qH (HST.out.below hb1);obtain⟨up,hup,hpo,dW⟩:=lV.out.op;have bt:=qH (show up.length=n0 by have h:=congrArg List.length hup;rw[List.length_map,List.length_append,pages_len] at h;rw[zt.out];exact h);have kn:=qH hup;have np:=qH hpo;have lj:=qH dW;have hP:=lV.out.bp.cell;clear hup hpo dW;clear ma hb1)|(gi_at_builtin;refine wpListIn_append_own _ rfl _ _ 26 rfl w0.heap.size 46 AM (.slice none 0 0) 1 24 Tryz.underlying26 hi hz0 hz1 hz2 rfl (by decide) _ _ _ rfl (np.out.alloc _) ⟨(w1).heap.size,0,none⟩ 1 1 [.slice A1 256 c1] rfl rfl (cell_one_new _ _ _) (by simp[Value.oneCell']) (by have:=bt.out;unfold maxLen;omega) (by have:=bt.out;omega) (by have:=lV.out.be.size;simp;omega) ?_;intro v8 w8 ho8 hg8 _;obtain⟨ec,cQ,gc,gY⟩:=lV.out.pushP kn.out np.out lj.out ((sZ.out).base_ (base':=w0.heap.size) HST.out.be.size) ho8 hg8;obtain⟨g8,c8,rfl⟩:=ownsRow_succ ho8;have ra:=ec.cell;have BH:=ec.frozen;have kw:=qH cQ;have kq:=qH gc;have kH:=qH gY;clear cQ gc gY ho8 hg8 ec)|(refine⟨fun h=>(by simp[Fence.wide] at h),?_⟩)|(refine⟨(show Fence.wide.fn _ from trivial),?_⟩))
   exact rV.out bq.out _ _ _ _ (by rw[eF.out,de.out,←List.append_assoc];exact kw.out) ((KeepsOthers.of_grownBy (grown_none an.out) (fun _ _ h=>by cases h)).trans kq.out) ((an.out.mono HST.out.be.size).trans kH.out)
  ·rw[if_neg hx0] at de
   have hxl:0<xr.length:=List.length_pos_iff.2 hx0;obtain⟨b,off,u,rfl,_,_,_⟩:=rr_at (HX.out W HST.out.rr) hxl;obtain⟨ky,mt⟩:∃ky,ky=(xr[0]'hxl).1:=⟨_,rfl⟩
   have HKEY:=qH (show headKey xr=ky by
    rw[mt]
    cases xr with
    |nil=>simp at hxl
    |cons r t=>rfl)
   have wY:=qH (show ∀X,RR X lv rest→X.cell? ⟨b,off,none⟩=some (.string ky) by
    intro X hX;obtain⟨b',off',u',he,h1,_,_⟩:=rr_at (HX.out X hX) hxl;injection he with he;injection he with e1 e2 _;subst e1;subst e2;rw[mt]
    simpa using h1)
   obtain⟨m0,hm0⟩:∃m0,(abovP all0.length cs).length=m0:=⟨_,rfl⟩
   have oD:m0≤cs.length:=by rw[←hm0];exact abovP_len _ _
   have hm2:cs.length≤1000000:=by have:=zt.out;omega
   have Ec:=qH hm0;have lc:=qH (show clip (n0:Int)=n0 by unfold clip;omega);clear mt hm0;gi_wp2_with (first|(gi_at_call 114;refine(CallsIn.inRound l (callsIn_wide.2 pY.out)).mono ?_;rintro e w1 ⟨v1,rfl,ma,hb1⟩;have sZ:=qH (FB.own (show w1.ownsRow W.heap.size 5 1 v1 pg.length (bvs pg) by rw[cW.out];exact ma));obtain⟨A1,c1,rfl,_⟩:=own_shape ma;have an:=qH hb1;have lV:=qH (HST.out.below hb1);clear ma hb1)|(refine⟨fun h=>(by simp[Fence.wide] at h),?_⟩)|(refine⟨(show Fence.wide.fn _ from trivial),?_⟩))
   have cO:=qH (lV.out.below (Below.refl _ _).drew);have yp:=qH (sZ.out.below (Below.refl _ _).drew);have ET:=qH (show SR lv rest B (.slice Ap n0 cp) w1.drew from⟨cO.out.rr,cO.out.bp⟩);have rX:=qH ((KeepsOthers.of_grownBy (grown_none an.out) (fun _ _ h=>by cases h)).trans (KeepsOthers.drew _));have tR:=qH ((an.out.trans ((Below.refl _ _).drew)).mono HST.out.be.size);have hA:=cO.out.ba.cell;refine wpIn_region_round (S:=SR lv rest B (.slice Ap n0 cp)) (by kernel_rfl) (by kernel_rfl) (fun a w h=>(by simp[Exit.then,Exit.inBlock] at h;exact hQo _ _ h)) ET.out (fun hHeld=>?_);generalize w1.drew=wd at *;refine wpAnyH_take (i:=1) (oi:=⟨some 36,.move (.tmp 7),40,"tree.go:27",#[],none⟩) (v:=?_) rfl (by kernel_rfl) (by kernel_rfl) (by kernel_rfl) (fun _ _ _ h=>(hQp _ _ _ (by simpa [Exit.then,Exit.inBlock] using h)).elim) (Or.inl ⟨by rfl,?_⟩) (by assumption) ?_;rotate_left
   ·intro X hSw;go_simp;try (with_reducible rfl)
   try simp only[Act.put,zA,zB,zC]
   refine wpAnyH_take (i:=2) (oi:=⟨some 37,.indexAddr 40 (.tmp 36) (.const (.int .i64 0)),0,"tree.go:27",#[⟨1,.data⟩],none⟩) (v:=?_) rfl (by kernel_rfl) (by kernel_rfl) (by kernel_rfl) (fun _ _ _ h=>(hQp _ _ _ (by simpa [Exit.then,Exit.inBlock] using h)).elim) (Or.inl ⟨by rfl,?_⟩) (by assumption) ?_;rotate_left
   ·intro X hSw;go_simp;try (with_reducible rfl)
   try simp only[Act.put,zA,zB,zC]
   refine wpAnyH_take (i:=3) (oi:=⟨some 38,.fieldAddr 78 (.tmp 37) 0,0,"tree.go:27",#[⟨2,.data⟩],none⟩) (v:=?_) rfl (by kernel_rfl) (by kernel_rfl) (by kernel_rfl) (fun _ _ _ h=>(hQp _ _ _ (by simpa [Exit.then,Exit.inBlock] using h)).elim) (Or.inl ⟨by rfl,?_⟩) (by assumption) ?_;rotate_left
   ·intro X hSw;go_simp;try (with_reducible rfl)
   try simp only[Act.put,zA,zB,zC]
   refine wpAnyH_take (i:=4) (oi:=⟨some 39,.load 9 (.tmp 38),9,"tree.go:27",#[⟨3,.data⟩],none⟩) (v:=?_) rfl (by kernel_rfl) (by kernel_rfl) (by kernel_rfl) (fun _ _ _ h=>(hQp _ _ _ (by simpa [Exit.then,Exit.inBlock] using h)).elim) (Or.inl ⟨by rfl,?_⟩) (by assumption) ?_;rotate_left
   ·intro X hSw;have hq:=wY.out X hSw.1;go_simp;try (with_reducible rfl)
   try simp only[Act.put,zA,zB,zC]
   refine wpAnyH_take (i:=5) (oi:=⟨some 40,.load 26 (.tmp 4),26,"tree.go:27",#[],none⟩) (v:=?_) rfl (by kernel_rfl) (by kernel_rfl) (by kernel_rfl) (fun _ _ _ h=>(hQp _ _ _ (by simpa [Exit.then,Exit.inBlock] using h)).elim) (Or.inl ⟨by rfl,?_⟩) (by assumption) ?_;rotate_left
   ·intro X hSw;have hq:=hSw.2.cell;go_simp;try (with_reducible rfl)
   try simp only[Act.put,zA,zB,zC]
   refine wpAnyH_take (i:=6) (oi:=⟨some 41,.call ⟨.builtin .len,#[.tmp 40],#[26]⟩,3,"tree.go:27",#[⟨5,.data⟩],none⟩) (v:=?_) rfl (by kernel_rfl) (by kernel_rfl) (by kernel_rfl) (fun _ _ _ h=>(hQp _ _ _ (by simpa [Exit.then,Exit.inBlock] using h)).elim) (Or.inl ⟨by rfl,?_⟩) (by assumption) ?_;rotate_left
   ·intro X hSw;go_simp;try (with_reducible rfl)
   try simp only[Act.put,zA,zB,zC]
   refine rdA (rs:= [0,7]) ?_;refine AllReadyH.cons (o:=⟨some 35,.load 40 (.tmp 6),40,"tree.go:27",#[],none⟩) rfl (fun K hK=>?_) (AllReadyH.cons (o:=⟨some 42,.call ⟨.value (.func 115),#[.tmp 41],#[3]⟩,46,"tree.go:27",#[⟨6,.data⟩],none⟩) rfl (fun K hK=>?_) AllReadyH.nil)
   ·go_simp
    refine hK.out _ _ ?_ (fun _=>?_)
    ·assumption
    clear hK K;try simp only[Act.put,zA,zB,zC]
    refine rdA (rs:= [7]) ?_;refine arC (fun K hK=>?_);go_simp;refine(num_any _ _).mono ?_;rintro e w4⟨v4,rfl,bH,hb4⟩;rw[lc.out] at bH;have il:=qH (FB.own bH);obtain⟨A4,c4,rfl,_⟩:=own_shape bH;have fd:SR lv rest B (.slice Ap n0 cp) w4:=hHeld.below hb4;have aF:=qH (cO.out.below hb4);have lu:=qH (yp.out.below hb4);have hA:=aF.out.ba.cell;have gJ:=qH (KeepsOthers.of_grownBy (grown_none hb4) (fun _ _ h=>(by cases h)));have pT:=qH (hb4.mono cO.out.be.size);simp only[];refine hK.out _ _ ?_ (fun _=>?_)
    ·exact fd
    clear hK K hHeld hb4 bH;try simp only[Act.put,zA,zB,zC]
    refine wpAnyH_take (i:=8) (oi:=⟨some 43,.build 78 #[(0,.tmp 39),(1,.tmp 42)],78,"tree.go:27",#[⟨4,.data⟩,⟨7,.data⟩],none⟩) (v:=?_) rfl (by kernel_rfl) (by kernel_rfl) (by kernel_rfl) (fun _ _ _ h=>(hQp _ _ _ (by simpa [Exit.then,Exit.inBlock] using h)).elim) (Or.inl ⟨by rfl,?_⟩) (by assumption) ?_;rotate_left
    ·intro X hSw;go_simp;try (with_reducible rfl)
    try simp only[Act.put,zA,zB,zC]
    refine rdA (rs:= [9]) ?_;refine arC (fun K hK=>?_);go_simp;have gy:=fd.below ((Below.refl _ _).alloc (Nat.le_refl _) (Obj.cells #[.string ky,.slice A4 (numL n0).length c4] 78));have hA:=(aF.out.below ((Below.refl _ _).alloc (Nat.le_refl _) (Obj.cells #[.string ky,.slice A4 (numL n0).length c4] 78))).ba.cell;refine hK.out _ _ ?_ (fun _=>?_)
    ·exact gy
    clear hK K;try simp only[Act.put,zA,zB,zC]
    refine rdA (rs:= [10]) ?_;refine arC (fun K hK=>?_);obtain⟨us,ah,ho,hf⟩:=aF.out.oa;have jP:=qH (show us.length=m0 by have h:=congrArg List.length ah;rw[List.length_map] at h;exact h.trans Ec.out);have jD:=own_below ho ((Below.refl _ _).alloc (Nat.le_refl _) (Obj.cells #[.string ky,.slice A4 (numL n0).length c4] 78));have lG:=aF.out.hs;refine step_own rfl (.tmp 35) (.tmp 44) 40 40 rfl base 78 (.agg #[.string ⟨#[]⟩,.slice none 0 0]) 2 40 Tryz.underlying40 info78 rfl rfl jD rfl (src_two _ (by simp) Tryz.underlying40 78 _ _ rfl rfl) ((Below.refl base _)) (Nat.le_refl _) ?_ ?_ ?_ ?_
    ·have:=jP.out;unfold maxLen;omega
    ·have:=jP.out;omega
    ·simp;omega
    intro v5 w5 aI au hg5;obtain⟨bA,nJ,aP,cH,jX⟩:=aF.out.pushA ah ho hf (il.out.base_ (base':=base) cO.out.hs) aI hg5;obtain⟨g5,c5,rfl⟩:=ownsRow_succ aI;have lW:=bA.cell;have iA:=bA.frozen;have mN:=qH (((appended_kx aF.out.ba (by decide) ho aF.out.hs aF.out.hA aI hg5).fb (fun _=> .inl (by decide)) lu.out).base_ (base':=w0.heap.size) HST.out.be.size);have bk:=qH aP;have eS:=qH (gJ.out.trans cH);have jf:=qH (pT.out.trans jX);have gQ:SR lv rest B (.slice Ap n0 cp) (w5.setCell ⟨Ba,0,none⟩ (.slice (some ⟨g5,0,none⟩) (us.length+1) c5)):=⟨aP.rr,aP.bp⟩
    refine hK.out _ _ ?_ (fun _=>?_)
    ·exact nJ
    clear hK K aP cH jX;try simp only[Act.put,zA,zB,zC]
    refine rdA (rs:= [11]) ?_;refine arC (fun K hK=>?_);go_simp;refine hK.out _ _ ?_ (fun _=>?_)
    ·exact gQ
    clear hK K;try simp only[Act.put,zA,zB,zC]
    refine wpAnyH_done (by kernel_rfl) ?_ _;simp only[Exit.then];obtain⟨up,hup,hpo,dW⟩:=bk.out.op;have bt:=qH (show up.length=n0 by have h:=congrArg List.length hup;rw[List.length_map,List.length_append,pages_len] at h;rw[zt.out];exact h);have kn:=qH hup;have np:=qH hpo;have lj:=qH dW;have hP:=bk.out.bp.cell;clear hup hpo dW;generalize w5.setCell ⟨Ba,0,none⟩ (.slice (some ⟨g5,0,none⟩) (us.length+1) c5)=w6 at *;gi_wp2_with (first|(gi_at_builtin;refine wpListIn_append_own _ rfl _ _ 26 rfl w0.heap.size 46 AM (.slice none 0 0) 1 24 Tryz.underlying26 hi hz0 hz1 hz2 rfl (by decide) _ _ _ rfl (np.out.alloc _) ⟨(w6).heap.size,0,none⟩ 1 1 [.slice A1 256 c1] rfl rfl (cell_one_new _ _ _) (by simp[Value.oneCell']) (by have:=bt.out;unfold maxLen;omega) (by have:=bt.out;omega) (by have:=bk.out.be.size;simp;omega) ?_;intro v8 w8 ho8 hg8 _;obtain⟨ec,cQ,gc,gY⟩:=bk.out.pushP kn.out np.out lj.out mN.out ho8 hg8;obtain⟨g8,c8,rfl⟩:=ownsRow_succ ho8;have ra:=ec.cell;have BH:=ec.frozen;have kw:=qH cQ;have kq:=qH gc;have kH:=qH gY;clear cQ gc gY ho8 hg8 ec)|(refine⟨fun h=>(by simp[Fence.wide] at h),?_⟩)|(refine⟨(show Fence.wide.fn _ from trivial),?_⟩))
    exact rV.out bq.out _ _ _ _ (by rw[eF.out,de.out,←List.append_assoc,HKEY.out];exact kw.out) (rX.out.trans (eS.out.trans kq.out)) (tR.out.trans (jf.out.trans kH.out))
   ·go_simp
    refine(num_any _ _).mono ?_;rintro e w4⟨v4,rfl,bH,hb4⟩;rw[lc.out] at bH;have il:=qH (FB.own bH);obtain⟨A4,c4,rfl,_⟩:=own_shape bH;have fd:SR lv rest B (.slice Ap n0 cp) w4:=hHeld.below hb4;have aF:=qH (cO.out.below hb4);have lu:=qH (yp.out.below hb4);have hA:=aF.out.ba.cell;have gJ:=qH (KeepsOthers.of_grownBy (grown_none hb4) (fun _ _ h=>(by cases h)));have pT:=qH (hb4.mono cO.out.be.size);simp only[];refine hK.out _ _ ?_ (fun _=>?_)
    ·exact fd
    clear hK K hHeld hb4 bH;try simp only[Act.put,zA,zB,zC]
    refine wpAnyH_take (i:=8) (oi:=⟨some 43,.build 78 #[(0,.tmp 39),(1,.tmp 42)],78,"tree.go:27",#[⟨4,.data⟩,⟨7,.data⟩],none⟩) (v:=?_) rfl (by kernel_rfl) (by kernel_rfl) (by kernel_rfl) (fun _ _ _ h=>(hQp _ _ _ (by simpa [Exit.then,Exit.inBlock] using h)).elim) (Or.inl ⟨by rfl,?_⟩) (by assumption) ?_;rotate_left
    ·intro X hSw;go_simp;try (with_reducible rfl)
    try simp only[Act.put,zA,zB,zC]
    refine rdA (rs:= [0,9]) ?_;refine AllReadyH.cons (o:=⟨some 35,.load 40 (.tmp 6),40,"tree.go:27",#[],none⟩) rfl (fun K hK=>?_) (AllReadyH.cons (o:=⟨some 44,.buildSlice 40 1 #[(0,.tmp 43)],40,"tree.go:27",#[⟨8,.data⟩],none⟩) rfl (fun K hK=>?_) AllReadyH.nil)
    ·go_simp
     refine hK.out _ _ ?_ (fun _=>?_)
     ·assumption
     clear hK K;try simp only[Act.put,zA,zB,zC]
     refine rdA (rs:= [9]) ?_;refine arC (fun K hK=>?_);go_simp;have gy:=fd.below ((Below.refl _ _).alloc (Nat.le_refl _) (Obj.cells #[.string ky,.slice A4 (numL n0).length c4] 78));have hA:=(aF.out.below ((Below.refl _ _).alloc (Nat.le_refl _) (Obj.cells #[.string ky,.slice A4 (numL n0).length c4] 78))).ba.cell;refine hK.out _ _ ?_ (fun _=>?_)
     ·exact gy
     clear hK K;try simp only[Act.put,zA,zB,zC]
     refine rdA (rs:= [10]) ?_;refine arC (fun K hK=>?_);obtain⟨us,ah,ho,hf⟩:=aF.out.oa;have jP:=qH (show us.length=m0 by have h:=congrArg List.length ah;rw[List.length_map] at h;exact h.trans Ec.out);have jD:=own_below ho ((Below.refl _ _).alloc (Nat.le_refl _) (Obj.cells #[.string ky,.slice A4 (numL n0).length c4] 78));have lG:=aF.out.hs;refine step_own rfl (.tmp 35) (.tmp 44) 40 40 rfl base 78 (.agg #[.string ⟨#[]⟩,.slice none 0 0]) 2 40 Tryz.underlying40 info78 rfl rfl jD rfl (src_two _ (by simp) Tryz.underlying40 78 _ _ rfl rfl) ((Below.refl base _)) (Nat.le_refl _) ?_ ?_ ?_ ?_
     ·have:=jP.out;unfold maxLen;omega
     ·have:=jP.out;omega
     ·simp;omega
     intro v5 w5 aI au hg5;obtain⟨bA,nJ,aP,cH,jX⟩:=aF.out.pushA ah ho hf (il.out.base_ (base':=base) cO.out.hs) aI hg5;obtain⟨g5,c5,rfl⟩:=ownsRow_succ aI;have lW:=bA.cell;have iA:=bA.frozen;have mN:=qH (((appended_kx aF.out.ba (by decide) ho aF.out.hs aF.out.hA aI hg5).fb (fun _=> .inl (by decide)) lu.out).base_ (base':=w0.heap.size) HST.out.be.size);have bk:=qH aP;have eS:=qH (gJ.out.trans cH);have jf:=qH (pT.out.trans jX);have gQ:SR lv rest B (.slice Ap n0 cp) (w5.setCell ⟨Ba,0,none⟩ (.slice (some ⟨g5,0,none⟩) (us.length+1) c5)):=⟨aP.rr,aP.bp⟩
     refine hK.out _ _ ?_ (fun _=>?_)
     ·exact nJ
     clear hK K aP cH jX;try simp only[Act.put,zA,zB,zC]
     refine rdA (rs:= [11]) ?_;refine arC (fun K hK=>?_);go_simp;refine hK.out _ _ ?_ (fun _=>?_)
     ·exact gQ
     clear hK K;try simp only[Act.put,zA,zB,zC]
     refine wpAnyH_done (by kernel_rfl) ?_ _;simp only[Exit.then];obtain⟨up,hup,hpo,dW⟩:=bk.out.op;have bt:=qH (show up.length=n0 by have h:=congrArg List.length hup;rw[List.length_map,List.length_append,pages_len] at h;rw[zt.out];exact h);have kn:=qH hup;have np:=qH hpo;have lj:=qH dW;have hP:=bk.out.bp.cell;clear hup hpo dW;generalize w5.setCell ⟨Ba,0,none⟩ (.slice (some ⟨g5,0,none⟩) (us.length+1) c5)=w6 at *;gi_wp2_with (first|(gi_at_builtin;refine wpListIn_append_own _ rfl _ _ 26 rfl w0.heap.size 46 AM (.slice none 0 0) 1 24 Tryz.underlying26 hi hz0 hz1 hz2 rfl (by decide) _ _ _ rfl (np.out.alloc _) ⟨(w6).heap.size,0,none⟩ 1 1 [.slice A1 256 c1] rfl rfl (cell_one_new _ _ _) (by simp[Value.oneCell']) (by have:=bt.out;unfold maxLen;omega) (by have:=bt.out;omega) (by have:=bk.out.be.size;simp;omega) ?_;intro v8 w8 ho8 hg8 _;obtain⟨ec,cQ,gc,gY⟩:=bk.out.pushP kn.out np.out lj.out mN.out ho8 hg8;obtain⟨g8,c8,rfl⟩:=ownsRow_succ ho8;have ra:=ec.cell;have BH:=ec.frozen;have kw:=qH cQ;have kq:=qH gc;have kH:=qH gY;clear cQ gc gY ho8 hg8 ec)|(refine⟨fun h=>(by simp[Fence.wide] at h),?_⟩)|(refine⟨(show Fence.wide.fn _ from trivial),?_⟩))
     exact rV.out bq.out _ _ _ _ (by rw[eF.out,de.out,←List.append_assoc,HKEY.out];exact kw.out) (rX.out.trans (eS.out.trans kq.out)) (tR.out.trans (jf.out.trans kH.out))
    ·go_simp
     have gy:=fd.below ((Below.refl _ _).alloc (Nat.le_refl _) (Obj.cells #[.string ky,.slice A4 (numL n0).length c4] 78));have hA:=(aF.out.below ((Below.refl _ _).alloc (Nat.le_refl _) (Obj.cells #[.string ky,.slice A4 (numL n0).length c4] 78))).ba.cell;refine hK.out _ _ ?_ (fun _=>?_)
     ·exact gy
     clear hK K;try simp only[Act.put,zA,zB,zC]
     refine rdA (rs:= [0]) ?_;refine arC (fun K hK=>?_);go_simp;refine hK.out _ _ ?_ (fun _=>?_)
     ·assumption
     clear hK K;try simp only[Act.put,zA,zB,zC]
     refine rdA (rs:= [10]) ?_;refine arC (fun K hK=>?_);obtain⟨us,ah,ho,hf⟩:=aF.out.oa;have jP:=qH (show us.length=m0 by have h:=congrArg List.length ah;rw[List.length_map] at h;exact h.trans Ec.out);have jD:=own_below ho ((Below.refl _ _).alloc (Nat.le_refl _) (Obj.cells #[.string ky,.slice A4 (numL n0).length c4] 78));have lG:=aF.out.hs;refine step_own rfl (.tmp 35) (.tmp 44) 40 40 rfl base 78 (.agg #[.string ⟨#[]⟩,.slice none 0 0]) 2 40 Tryz.underlying40 info78 rfl rfl jD rfl (src_two _ (by simp) Tryz.underlying40 78 _ _ rfl rfl) ((Below.refl base _)) (Nat.le_refl _) ?_ ?_ ?_ ?_
     ·have:=jP.out;unfold maxLen;omega
     ·have:=jP.out;omega
     ·simp;omega
     intro v5 w5 aI au hg5;obtain⟨bA,nJ,aP,cH,jX⟩:=aF.out.pushA ah ho hf (il.out.base_ (base':=base) cO.out.hs) aI hg5;obtain⟨g5,c5,rfl⟩:=ownsRow_succ aI;have lW:=bA.cell;have iA:=bA.frozen;have mN:=qH (((appended_kx aF.out.ba (by decide) ho aF.out.hs aF.out.hA aI hg5).fb (fun _=> .inl (by decide)) lu.out).base_ (base':=w0.heap.size) HST.out.be.size);have bk:=qH aP;have eS:=qH (gJ.out.trans cH);have jf:=qH (pT.out.trans jX);have gQ:SR lv rest B (.slice Ap n0 cp) (w5.setCell ⟨Ba,0,none⟩ (.slice (some ⟨g5,0,none⟩) (us.length+1) c5)):=⟨aP.rr,aP.bp⟩
     refine hK.out _ _ ?_ (fun _=>?_)
     ·exact nJ
     clear hK K aP cH jX;try simp only[Act.put,zA,zB,zC]
     refine rdA (rs:= [11]) ?_;refine arC (fun K hK=>?_);go_simp;refine hK.out _ _ ?_ (fun _=>?_)
     ·exact gQ
     clear hK K;try simp only[Act.put,zA,zB,zC]
     refine wpAnyH_done (by kernel_rfl) ?_ _;simp only[Exit.then];obtain⟨up,hup,hpo,dW⟩:=bk.out.op;have bt:=qH (show up.length=n0 by have h:=congrArg List.length hup;rw[List.length_map,List.length_append,pages_len] at h;rw[zt.out];exact h);have kn:=qH hup;have np:=qH hpo;have lj:=qH dW;have hP:=bk.out.bp.cell;clear hup hpo dW;generalize w5.setCell ⟨Ba,0,none⟩ (.slice (some ⟨g5,0,none⟩) (us.length+1) c5)=w6 at *;gi_wp2_with (first|(gi_at_builtin;refine wpListIn_append_own _ rfl _ _ 26 rfl w0.heap.size 46 AM (.slice none 0 0) 1 24 Tryz.underlying26 hi hz0 hz1 hz2 rfl (by decide) _ _ _ rfl (np.out.alloc _) ⟨(w6).heap.size,0,none⟩ 1 1 [.slice A1 256 c1] rfl rfl (cell_one_new _ _ _) (by simp[Value.oneCell']) (by have:=bt.out;unfold maxLen;omega) (by have:=bt.out;omega) (by have:=bk.out.be.size;simp;omega) ?_;intro v8 w8 ho8 hg8 _;obtain⟨ec,cQ,gc,gY⟩:=bk.out.pushP kn.out np.out lj.out mN.out ho8 hg8;obtain⟨g8,c8,rfl⟩:=ownsRow_succ ho8;have ra:=ec.cell;have BH:=ec.frozen;have kw:=qH cQ;have kq:=qH gc;have kH:=qH gY;clear cQ gc gY ho8 hg8 ec)|(refine⟨fun h=>(by simp[Fence.wide] at h),?_⟩)|(refine⟨(show Fence.wide.fn _ from trivial),?_⟩))
     exact rV.out bq.out _ _ _ _ (by rw[eF.out,de.out,←List.append_assoc,HKEY.out];exact kw.out) (rX.out.trans (eS.out.trans kq.out)) (tR.out.trans (jf.out.trans kH.out))
attribute [local go_sem] Oper.semAt_some
theorem rb_keptB{A B:World}{row:Option Nat}{v:Value}{l:List UInt8}(h:RB A v l)(hg:A.grownBy B row)(hr:∀r,row=some r→∃o:Obj,A.heap[r]? =some o∧o.isCells=false):RB B v l:=by
 obtain⟨A',c,rfl,h1,h2,h3⟩:=h;refine⟨A',c,rfl,h1,h2,h3.imp id fun h=>?_⟩;obtain⟨b,off,rfl,hb,hc⟩:=h;exact⟨b,off,rfl,Nat.lt_of_lt_of_le hb hg.size,fun j hj=>cell_kept (hc j hj) hg hr⟩
theorem rr_kept{A B:World}{row:Option Nat}{v:Value}{rs:List Rw}(h:RR A v rs)(hg:A.grownBy B row)(hr:∀r,row=some r→∃o:Obj,A.heap[r]? =some o∧o.isCells=false):RR B v rs:=by
 obtain⟨A',c,rfl,h1,h2,h3⟩:=h;refine⟨A',c,rfl,h1,h2,h3.imp id fun h=>?_⟩;obtain⟨b,off,rfl,hb,hc⟩:=h;refine⟨b,off,rfl,Nat.lt_of_lt_of_le hb hg.size,fun j hj=>?_⟩;obtain⟨h4,u,h5,h6⟩:=hc j hj;exact⟨cell_kept h4 hg hr,u,cell_kept h5 hg hr,rb_keptB h6 hg hr⟩
theorem leave2{P:Program}{W:World}{tmps:Array Value}{a b:Value}(h2:tmps.getD 2 undef=a)(h3:tmps.getD 3 undef=b):(results Tryz.f74 tmps).run P W= .ok (.tuple #[a,b]) W:=by
 subst h2;subst h3;exact results_tmp2 rfl _ _ _
theorem below_grown{n₀:Nat}{A B:World}{row:Option Nat}(hg:A.grownBy B row)(hA:n₀≤A.heap.size)(hr:∀r,row=some r→n₀≤r):Below n₀ A B:=(Below.refl _ _).grown hg hA hr
theorem build_any(v:Value)(rs:List Rw)(w:World)(hv:RR w v rs):
  Calls Tryz.prog 74 #[v] w (GivesBd w (buildL rs)):=by
 have HV:=qH hv;have ki:=rising_any v rs w hv;obtain⟨A,c,rfl,hlc,fw⟩:=rr_shape hv;have hB:buildL rs=if risingL rs=false∨5000<rs.length then none else buildF 5 0 [] rs:=rfl
 clear hv;refine(callsIn_wide (n:=3)).1 ?_;refine callsIn_of_wp_marks Tryz.func74 rfl trivial ?_ rfl;simp only[Tryz.ntmps74,List.size_toArray,List.length_cons,List.length_nil,Nat.reduceAdd,Nat.reduceSub,Array.replicate_succ,Array.replicate_zero,List.push_toArray,List.append_toArray,List.nil_append,List.cons_append];by_cases hbig:5000<rs.length
 ·rw[if_pos (.inr hbig)] at hB
  have HB:=qH hB;have cA:(5000:Int)<(rs.length:Int):=by omega
  clear hB ki;gi_wp2;refine wpIn_wide.2 (wp_scope_straight ((wpIn_wide (n:=3)).1 ?_));gi_wp2_with (refine⟨(show Fence.wide.fn _ from trivial),?_⟩)
  rw[Exit.noGoto_ret];exact⟨_,results_tmp2 rfl _ _ _,GivesBd.none_ HB.out (Below.refl _ _)⟩
 ·have cA:(rs.length:Int)≤5000:=by omega
  cases hr:risingL rs with
  |false=>
   rw[if_pos (.inl hr)] at hB;have HB:=qH hB;rw[hr] at ki;have qC:=qH ki;clear ki hr hB;gi_wp2;refine wpIn_wide.2 (wp_scope_straight ((wpIn_wide (n:=3)).1 ?_));gi_wp2_with (first|(gi_at_call 112;refine(callsIn_wide.2 qC.out).mono ?_;rintro e w1 ⟨rfl,hb1⟩;have an:=qH hb1;clear hb1)|(refine⟨(show Fence.wide.fn _ from trivial),?_⟩))
   rw[Exit.noGoto_ret];exact⟨_,leave2 rfl rfl,GivesBd.none_ HB.out an.out⟩
  |true=>
   rw[if_neg (by rw[hr];simp;omega)] at hB;have b7:=qH hB;rw[hr] at ki;have qC:=qH ki;clear ki hr hB;gi_wp2;refine wpIn_wide.2 (wp_scope_straight ((wpIn_wide (n:=3)).1 ?_));gi_wp2_with (first|(gi_at_call 112;refine(callsIn_wide.2 qC.out).mono ?_;rintro e w1 ⟨rfl,hb1⟩;have an:=qH hb1;clear hb1)|(refine⟨(show Fence.wide.fn _ from trivial),?_⟩))
   refine wpIn_label ?_;gi_wp2;obtain⟨B,pL⟩:∃B,B=w1.heap.size:=⟨_,rfl⟩
   have hB:w.heap.size≤B:=by rw[pL];exact an.out.size
   have bP:=Boxed.new w1 26 (.slice none 0 0);have mf:Below w.heap.size w (w1.alloc (.cells #[.slice none 0 0] 26)):=an.out.alloc an.out.size _;rw[←pL] at bP⊢;clear pL;generalize w1.alloc (.cells #[.slice none 0 0] 26)=W1 at *;refine wpIn_loop (fun a W=>∃(k:Nat) (all:List (List UInt8)) (rest:List Rw) (lv pv:Value) (ds:List Deferred) (u1 u2 u3 u5 u6 u7 u8 u9 pF pW pw pr pu pz u16 qr rt rF rH rJ u23 u24 pV u26 pe u28 qg o0 zi u32 u33 xy wt x9 ym zM vr xI zk yv xX u44 yw vi zL yE yB ze xq vD xp xu xA:Value),(k≤5∧Boxed W B 26 pv∧OP 5 46 W w.heap.size pv all∧(RR w lv rest∨OR 5 78 W w.heap.size lv rest)∧Below w.heap.size w W∧Marks w.heap.size W.heap.size W ds∧buildF (5-k) k all rest=buildL rs∧rest.length≤5000+k∧all.length≤k*6000)∧a={tmps:=#[lv,u1,u2,u3,.pointer (some ⟨B,0,none⟩),u5,u6,u7,u8,u9,pF,pW,pw,pr,pu,pz,u16,qr,.int .i64 (k:Int),rt,rF,rH,rJ,u23,u24,pV,u26,pe,u28,qg,o0,zi,u32,u33,xy,wt,x9,ym,zM,vr,xI,zk,yv,xX,u44,yw,vi,zL,yE,yB,ze,xq,vD,xp,xu,xA],defers:=ds})
    (fun a _=>5-(intOf (a.tmps.getD 18 undef)).toNat) ?_ ?_
   ·exact⟨0,[],rs,_,_,[],_,_,_,_,_,_,_,_,_,_,_,_,_,_,_,_,_,_,_,_,_,_,_,_,_,_,_,_,_,_,_,_,_,_,_,_,_,_,_,_,_,_,_,_,_,_,_,_,_,_,_,_,_,⟨by omega,bP,OP.nil_ _ _ _ _,.inl HV.out,mf,trivial,b7.out.symm,by omega,by simp⟩,rfl⟩
   ·rintro _ W ⟨k,all,rest,lv,pv,ds,u1,u2,u3,u5,u6,u7,u8,u9,pF,pW,pw,pr,pu,pz,u16,qr,rt,rF,rH,rJ,u23,u24,pV,u26,pe,u28,qg,o0,zi,u32,u33,xy,wt,x9,ym,zM,vr,xI,zk,yv,xX,u44,yw,vi,zL,yE,yB,ze,xq,vD,xp,xu,xA,⟨hk,bp,hop,ph,ad,hmk,dV,hrl,hal⟩,rfl⟩
    have iw:RR W lv rest:=by
     rcases ph with h|h
     ·exact rr_below h ad (Nat.le_refl _)
     ·exact h.rr
    obtain⟨Al,cl,rfl,IV,Gs⟩:=rr_shape iw;have bM:=qH iw;have uO:=qH bp;have b8:=qH hop;have Bh:=qH ph;have aG:=qH ad;have F1:=qH hmk;have uy:=qH dV;clear iw bp hop ph ad hmk dV bP mf;by_cases hlt:k<5
    ·gi_wp2_with (first|(gi_at_call 113;refine(groups_in _ _ _ _ _).mono ?_;rintro e w2 ⟨rfl,rfl⟩)|(refine⟨(show Fence.wide.fn _ from trivial),?_⟩))
     have xB:=aG.out.size;have a1:=fun(o:Obj) (X:World)=>(Below.refl X.heap.size X).alloc (Nat.le_refl _) o
     have tw:St w B W.heap.size (W.heap.size+1) k W.heap.size (.slice Al rest.length cl) rest all [] pv (.slice none 0 0) (((W.alloc (.cells #[.int .i64 (k:Int)] 3)).alloc (.cells #[.slice none 0 0] 40)).alloc (.cells #[.slice Al rest.length cl] 40)):=by
      have hb1:Below W.heap.size W (((W.alloc (.cells #[.int .i64 (k:Int)] 3)).alloc (.cells #[.slice none 0 0] 40)).alloc (.cells #[.slice Al rest.length cl] 40)):=(((Below.refl _ W).alloc (Nat.le_refl _) _).alloc (by simp) _).alloc (by simp;omega) _;have dC:KX (fun _ _=>True) W (((W.alloc (.cells #[.int .i64 (k:Int)] 3)).alloc (.cells #[.slice none 0 0] 40)).alloc (.cells #[.slice Al rest.length cl] 40)):=KX.below hb1;refine⟨dC.boxed trivial uO.out,((Boxed.new W _ _).alloc _).alloc _,?_,dC.op (fun _=>trivial) (fun _=>trivial) b8.out,OR.nil_ _ _ _ _,Bh.out.imp id (fun h=>⟨dC.or_ (fun _=>trivial) (fun _ _=>trivial) h,fun g hg=>?_⟩),aG.out.trans (hb1.mono xB),hB,Nat.le_succ _,xB,hb1.size⟩
      ·have:=(Boxed.new (W.alloc (.cells #[.int .i64 (k:Int)] 3)) 40 (.slice none 0 0)).alloc (.cells #[.slice Al rest.length cl] 40)
       rw[World.size_alloc] at this;exact this
      ·obtain⟨us,_,ho,_⟩:=h
       rcases ho.2 with ⟨he,_⟩|⟨g',cap,cur,he,_,hgb,_⟩
       ·rw[he] at hg;simp[Value.ownBlock] at hg
       ·rw[he] at hg
        obtain rfl:g'=g:=by simpa [Value.ownBlock] using hg
        exact(Array.getElem?_eq_some_iff.1 hgb).1
     have bA:=(Boxed.new ((W.alloc (.cells #[.int .i64 (k:Int)] 3)).alloc (.cells #[.slice none 0 0] 40)) 40 (.slice Al rest.length cl)).cell;rw[World.size_alloc,World.size_alloc] at bA;have wh:Marks w.heap.size W.heap.size (((W.alloc (.cells #[.int .i64 (k:Int)] 3)).alloc (.cells #[.slice none 0 0] 40)).alloc (.cells #[.slice Al rest.length cl] 40)) ds:=F1.out.keep fun D hD hk=>((((Below.refl _ W).alloc (Nat.le_refl _) _).alloc (by simp) _).alloc (by simp;omega) _:Below W.heap.size W _).block D hD|>.trans hk
     have kA:(((W.alloc (.cells #[.int .i64 (k:Int)] 3)).alloc (.cells #[.slice none 0 0] 40)).alloc (.cells #[.slice Al rest.length cl] 40)).heap.size=W.heap.size+3:=by simp
     obtain⟨W0,hW0⟩:∃W0,W0=(((W.alloc (.cells #[.int .i64 (k:Int)] 3)).alloc (.cells #[.slice none 0 0] 40)).alloc (.cells #[.slice Al rest.length cl] 40)):=⟨_,rfl⟩
     rw[←hW0] at tw bA wh kA⊢;clear a1 hW0;have De:=wh.wide (show W.heap.size≤W0.heap.size by omega);refine wpIn_rangeFunc_ownG rfl (by decide) (gf:=146) (lb:=#[.pointer (some ⟨W.heap.size+1+1,0,none⟩)]) rfl trivial (enters_of Tryz.func146 (by kernel_rfl) rfl)
      (groups_stops 2 (W.heap.size+1+1) (.slice Al rest.length cl) rest W0 (by omega) bA tw.rr) (fun h k x=>k (h x)) (fun X l o o' hl hlo hc _ hx=>?kb) (Below.refl _ _) (fun _=>rfl)
      (fun pre X=>(∃pv av,St w B W.heap.size (W.heap.size+1) k W.heap.size (.slice Al rest.length cl) rest (all++pagesF k (pre.map (·.1.2))) (abovP all.length (pre.map (·.1.2))) pv av X)∧Marks w.heap.size W0.heap.size X ds∧((pre.map (·.1.2)).all (pageOk k)=true∧pre.length≤rest.length+1))
      (fun c pre X=>(c= .exit 0∧(pre.map (·.1.2)).all (pageOk k)=false)∧Below w.heap.size w X∧Marks w.heap.size W0.heap.size X ds)
      ?oi ?ox ⟨⟨pv,_,by simpa [pagesF,abovP] using tw⟩,De,rfl,by simp⟩
      (fun x=>{tmps:=#[.slice Al rest.length cl,u1,u2,u3,.pointer (some ⟨B,0,none⟩),.pointer (some ⟨W.heap.size,0,none⟩),.pointer (some ⟨W.heap.size+1,0,none⟩),x.1.1,u8,u9,pF,pW,pw,pr,pu,pz,u16,qr,.int .i64 (k:Int),.bool true,.int .i64 (k:Int),.slice Al rest.length cl,.func (.func 146) #[] #[.pointer (some ⟨W.heap.size+1+1,0,none⟩)],x.1.1,u24,pV,u26,pe,u28,qg,o0,zi,u32,u33,xy,wt,x9,ym,zM,vr,xI,zk,yv,xX,u44,yw,vi,zL,yE,yB,ze,xq,vD,xp,xu,xA],defers:= []}) ?assign ?body ?done ?stop
     case kb=>exact rr_kept hx (grownBy_putObj' X l o') (fun r e=>by cases e;exact⟨o,hlo,hc⟩)
     case oi=>
      rintro pre X Y row⟨⟨pv',wX,h⟩,hm,h2⟩ hg hr;exact⟨⟨pv',wX,h.keep (KX.of_grown hg (fun r e=>(hr r e).2)) (h.be.trans (below_grown hg h.be.size (fun r e=>by have:=(hr r e).1;omega)))⟩,
       hm.keep (fun D hD hk=>(hg.block D (Array.getElem?_eq_some_iff.1 hk).1 (fun e=>by have:=(hr D e.symm).1;omega)).trans hk),h2⟩
     case ox=>
      rintro c' pre X Y row⟨h1,h,hm⟩ hg hr;exact⟨h1,h.trans (below_grown hg h.size (fun r e=>by have:=(hr r e).1;omega)),
       hm.keep (fun D hD hk=>(hg.block D (Array.getElem?_eq_some_iff.1 hk).1 (fun e=>by have:=(hr D e.symm).1;omega)).trans hk)⟩
     case assign=>
      intro l x X K hK;gi_wp2;exact hK
     case body=>
      rintro l pre⟨⟨xv,xr⟩,hx⟩ X⟨⟨pv',wX,hst⟩,hm,hok,hpl⟩ hlt'
      dsimp only at hx
      obtain⟨Ax,cx,rfl,_,_⟩:=rr_shape (hx X hst.rr)
      dsimp only
      refine round_body (by omega) hst hx (by rw[List.length_map];omega) (fun _ _ h=>h) (fun _ _ _ h=>h) (fun hok' Y pv2 av2 a h1 h2 h3=>?_) (fun hok' Y a h1 h2 h3=>?_)
      ·exact⟨h2.from _,fun _=>h1.rr,⟨pv2,av2,by rw[List.map_append];exact h1⟩,hm.keep (fun D hD hk=>h2.same D _ hk rfl),by rw[List.map_append,List.all_append,hok];simp[hok'],by rw[List.length_append];simp;omega⟩
      ·exact⟨h2.from _,⟨rfl,by rw[List.map_append,List.all_append,hok];simp[hok']⟩,h1.be,hm.keep (fun D hD hk=>h2.same D _ hk rfl)⟩
     case done=>
      rintro D xs X hD hS⟨⟨pv',wX,hst⟩,hm,hok,hxl⟩ hK;rw[hS] at hst hok;have hlv:=level_groups (n:=k) (by omega) all.length rest;rw[hok,if_pos rfl] at hlv;have dV:=uy.out;rw[show 5-k=(4-k)+1 from by omega,build_step,hlv] at dV;simp only[pages_len] at dV;have dZ:Marks w.heap.size X.heap.size X ({target:= .collected D,args:=#[]}::ds):=⟨⟨D,rfl,by omega,(Array.getElem?_eq_some_iff.1 hK).1,hK,fun d hd=>hm.ne hD d hd⟩,hm.wide (by have:=(Array.getElem?_eq_some_iff.1 hK).1;omega)⟩
      obtain⟨Ap,cp,hpv,_,_⟩:=hst.op.shape;obtain⟨n1,iz⟩:∃n1,n1=(all++pagesF (k:Int) (groupsL rest)).length:=⟨_,rfl⟩
      rw[←iz] at hpv;subst hpv;have KJ:=qH iz;clear iz;obtain⟨Aa,ca,rfl⟩:=or_shape hst.oa;have hcb:=hst.ba.cell;have Lj:=hst.bp.cell;have HST:=qH hst;have iu:=qH dZ;have hone:=abovP_one all.length rest;have hgl:=groupsL_len rest;by_cases oD:(abovP all.length (groupsL rest)).length≤1
      ·have E:=qH (show buildL rs=some (all++pagesF k (groupsL rest)) by rw[←dV,if_pos (hone.1 oD)])
       obtain⟨m,hm⟩:∃m,m=(abovP all.length (groupsL rest)).length:=⟨_,rfl⟩
       rw[←hm] at oD hcb;have Ei:(m:Int)≤1:=by omega
       clear dV hst dZ hone hok hlv hS hm hxl;gi_wp2;rw[Exit.noGoto_ret];exact leaves_marks iu.out (fun W' dC hb=>⟨_,leave2 rfl rfl,GivesBd.some_ E.out (dC.op (fun _=>trivial) (fun _=>trivial) HST.out.op) (HST.out.be.trans hb)⟩)
      ·have hne:¬(groupsL rest).length=1:=fun h=>oD (hone.2 h)
       rw[if_neg hne] at dV;have Bu:=qH dV;have Ie:=qH (abovP_more (from_:=all.length) hne);obtain⟨m,hm⟩:∃m,m=(abovP all.length (groupsL rest)).length:=⟨_,rfl⟩
       have HM:=qH hm;rw[←hm] at oD hcb;have Ei:(1:Int)<(m:Int):=by omega
       clear dV hst dZ hone hok hlv hS hm hxl;gi_wp2;refine⟨⟨k+1,all++pagesF k (groupsL rest),aboveF all.length (groupsL rest),_,_,_,_,_,_,_,_,_,_,_,_,_,_,_,_,_,_,_,_,_,_,_,_,_,_,_,_,_,_,_,_,_,_,_,_,_,_,_,_,_,_,_,_,_,_,_,_,_,_,_,_,_,_,_,_,⟨by omega,HST.out.bp,HST.out.op,.inr ?_,HST.out.be,iu.out,?_,?_,?_⟩,rfl⟩,?_⟩
       ·have:=HST.out.oa
        rw[←HM.out,Ie.out] at this;exact this.base_ xB
       ·rw[show 5-(k+1)=4-k from by omega]
        exact Bu.out
       ·rw[above_len];omega
       ·rw[List.length_append,pages_len];omega
       ·simp[intOf];omega
     case stop=>
      rintro D c' pre X hD Iq⟨⟨rfl,hbad⟩,ef,hm⟩ hK;have dZ:Marks w.heap.size X.heap.size X ({target:= .collected D,args:=#[]}::ds):=⟨⟨D,rfl,by omega,(Array.getElem?_eq_some_iff.1 hK).1,hK,fun d hd=>hm.ne hD d hd⟩,hm.wide (by have:=(Array.getElem?_eq_some_iff.1 hK).1;omega)⟩
      have hlv:=level_groups (n:=k) (by omega) all.length rest;obtain⟨t,ht⟩:=Iq;rw[←ht,List.all_append,hbad] at hlv;simp only[Bool.false_and,Bool.false_eq_true,if_false] at hlv;have dV:=uy.out;rw[show 5-k=(4-k)+1 from by omega,build_step,hlv] at dV;have E:=qH (show buildL rs=none from dV.symm);have iu:=qH dZ;have dd:=qH ef;clear dZ hlv ht dV ef hm hbad;gi_wp2;rw[Exit.noGoto_ret];exact leaves_marks iu.out (fun W' _ hb=>⟨_,leave2 rfl rfl,GivesBd.none_ E.out (dd.out.trans hb)⟩)
    ·obtain rfl:k=5:=by omega
     have dV:=uy.out;rw[Nat.sub_self,buildF] at dV;have E:=qH (show buildL rs=none from dV.symm);clear dV;gi_wp2;rw[Exit.noGoto_ret];exact leaves_marks F1.out (fun W' _ hb=>⟨_,leave2 rfl rfl,GivesBd.none_ E.out (aG.out.trans hb)⟩)
end Go.Proofs.YtmbkaedhllfoeaaGreat
namespace Go.Pg
open Go.Rst Go.Crc
theorem groups_flatten(l:List Rw):(groupsL l).flatten=l:=by
 have key:∀(m:Nat) (l:List Rw),l.length≤m→(groupsL l).flatten=l:=by
  intro m
  induction m with
  |zero=>
   intro l h;obtain rfl:l= []:=List.eq_nil_of_length_eq_zero (by omega);rfl
  |succ m ih=>
   intro l h;by_cases he:l.length≤gsize l
   ·rw[groupsL_end he,List.flatten_cons,List.flatten_nil,List.append_nil,List.take_of_length_le he]
   ·have h1:=gsize_pos (l:=l) (fun e=>by subst e;simp at he)
    rw[groupsL_more he,List.flatten_cons,ih _ (by rw[List.length_drop];omega),List.take_append_drop]
 exact key l.length l (Nat.le_refl _)
inductive TreeAt:Nat→List (List UInt8)→List Rw→List (List UInt8)→Prop
 |root {n:Nat} {all:List (List UInt8)} {l:List Rw}:n≤4→(groupsL l).all (pageOk n)=true→(groupsL l).length=1→TreeAt n all l (all++pagesF n (groupsL l))
 |up {n:Nat} {all:List (List UInt8)} {l:List Rw} {ps:List (List UInt8)}:n≤4→(groupsL l).all (pageOk n)=true→¬(groupsL l).length=1→
   TreeAt (n+1) (all++pagesF n (groupsL l)) (aboveF all.length (groupsL l)) ps→TreeAt n all l ps
theorem treeAt_of:∀(f n:Nat) (all:List (List UInt8)) (l:List Rw) (ps:List (List UInt8)),f+n=5→buildF f n all l=some ps→TreeAt n all l ps
 |0,_,_,_,_,_,h=>by simp[buildF] at h
 |f+1,n,all,l,ps,hf,h=>by
  rw[build_step,level_groups (by omega)] at h;by_cases ho:(groupsL l).all (pageOk n)=true
  ·rw[if_pos ho] at h
   simp only[pages_len] at h;by_cases h1:(groupsL l).length=1
   ·rw[if_pos h1] at h
    injection h with h;rw[←h];exact .root (by omega) ho h1
   ·rw[if_neg h1] at h
    exact .up (by omega) ho h1 (treeAt_of f (n+1) _ _ ps (by omega) h)
  ·rw[if_neg ho] at h
   cases h
theorem tree_of{l:List Rw}{ps:List (List UInt8)}(h:buildL l=some ps):Sorted l∧l.length≤5000∧TreeAt 0 [] l ps:=by
 unfold buildL at h;split at h
 ·cases h
 ·rename_i hn
  simp only[not_or,Bool.not_eq_false,Nat.not_lt] at hn;exact⟨(sorted_rising l).1 hn.1,hn.2,treeAt_of 5 0 [] l ps rfl h⟩
theorem tree_pre{n:Nat}{all:List (List UInt8)}{l:List Rw}{ps:List (List UInt8)}(h:TreeAt n all l ps):
  (groupsL l).all (pageOk n)=true∧∃t,ps=all++pagesF n (groupsL l)++t∧∀p∈t,∃(m:Nat) (c:List Rw),n<m∧p=encL m c∧pageOk m c=true:=by
 induction h with
 |root _ ho _=>exact⟨ho,[],by simp,fun p hp=>by cases hp⟩
 | @up n all l ps _ ho _ _ ih=>
  obtain⟨aQ,t,ht,hp⟩:=ih;refine⟨ho,pagesF (n+1:Nat) (groupsL (aboveF all.length (groupsL l)))++t,by rw[ht,List.append_assoc],fun p oR=>?_⟩;rcases List.mem_append.1 oR with oR|oR
  ·unfold pagesF at oR
   obtain⟨c,hc,rfl⟩:=List.mem_map.1 oR;exact⟨n+1,c,by omega,rfl,List.all_eq_true.1 aQ c hc⟩
  ·obtain⟨m,c,h1,h2,h3⟩:=hp p oR
   exact⟨m,c,by omega,h2,h3⟩
theorem dec_page{m:Nat}{c:List Rw}(h:pageOk m c=true):decR (encL m c)=(m,c,0):=by
 have:=dec_enc h
 simpa using this
theorem rowsF_zero:∀(gs:List (List Rw)) (acc:List Rw) (tail:List (List UInt8)),gs.all (pageOk (0:Nat))=true→(acc++gs.flatten).length≤5000→rowsFT (pagesF (0:Nat) gs++tail) acc=rowsFT tail (acc++gs.flatten)
 | [],acc,tail,_,_=>by simp[pagesF]
 |c::gs,acc,tail,ho,hl=>by
  rw[List.all_cons,Bool.and_eq_true] at ho;have e:pagesF (0:Nat) (c::gs)++tail=encL (0:Nat) c::(pagesF (0:Nat) gs++tail):=rfl;rw[e,rowsFT,dec_page ho.1];have hl2:acc.length≤5000:=by rw[List.length_append] at hl;omega
  simp only[ne_eq,not_true,if_false,true_and,hl2,if_true];rw[rowsF_zero gs (acc++c) tail ho.2 (by simpa [List.append_assoc] using hl)];rw[List.flatten_cons,List.append_assoc]
theorem rowsF_skip:∀(t:List (List UInt8)) (acc:List Rw),(∀p∈t,∃(m:Nat) (c:List Rw),0<m∧p=encL m c∧pageOk m c=true)→rowsFT t acc=(acc,0)
 | [],_,_=>rfl
 |p::t,acc,h=>by
  obtain⟨m,c,h1,h2,h3⟩:=h p (List.mem_cons_self);rw[rowsFT,h2,dec_page h3];have hm:¬m=0:=by omega
  simp only[ne_eq,not_true,if_false,hm,false_and];exact rowsF_skip t acc (fun q hq=>h q (List.mem_cons_of_mem _ hq))
theorem rows_tree{l:List Rw}{ps:List (List UInt8)}(h:buildL l=some ps):rowsT ps=(l,0):=by
 obtain⟨_,hl,ht⟩:=tree_of h;obtain⟨ho,t,hp,hq⟩:=tree_pre ht;have hf:=groups_flatten l;have:rowsFT ps []=(l,0):=by
  rw[hp,List.nil_append,rowsF_zero _ _ _ ho (by rw[List.nil_append,hf];exact hl),List.nil_append,hf];exact rowsF_skip t l hq
 unfold rowsT;rw[this];simp[h]
end Go.Pg
namespace Go.Pg
open Go.Rst Go.Crc
theorem pages_ok{l:List Rw}{ps:List (List UInt8)}(h:buildL l=some ps):∀p∈ps,∃(m:Nat) (c:List Rw),p=encL m c∧pageOk m c=true:=by
 obtain⟨_,_,ht⟩:=tree_of h;obtain⟨ho,t,hp,hq⟩:=tree_pre ht;intro p hm;rw[hp,List.nil_append] at hm;rcases List.mem_append.1 hm with hm|hm
 ·unfold pagesF at hm
  obtain⟨c,hc,rfl⟩:=List.mem_map.1 hm;exact⟨0,c,rfl,List.all_eq_true.1 ho c hc⟩
 ·obtain⟨m,c,_,h2,h3⟩:=hq p hm
  exact⟨m,c,h2,h3⟩
theorem built_256{l:List Rw}{ps:List (List UInt8)}(h:buildL l=some ps):∀p∈ps,p.length=256:=fun p hp=>by
 obtain⟨m,c,rfl,h1⟩:=pages_ok h p hp;exact encL_length h1
theorem treeAt_pos{n:Nat}{all:List (List UInt8)}{l:List Rw}{ps:List (List UInt8)}(h:TreeAt n all l ps):all.length<ps.length:=by
 induction h with
 |root _ _ h1=>simp only[List.length_append,pages_len];omega
 |up _ _ _ _ ih=>
  simp only[List.length_append,pages_len] at ih;omega
theorem built_ne{l:List Rw}{ps:List (List UInt8)}(h:buildL l=some ps):ps≠ []:=by
 have:=treeAt_pos (tree_of h).2.2;intro e;subst e;simp at this
theorem built_sorted{l:List Rw}{ps:List (List UInt8)}(h:buildL l=some ps):Sorted l∧l.length≤5000:=⟨(tree_of h).1,(tree_of h).2.1⟩
theorem build_nil:∃p,buildL []=some [p]:=by
 refine⟨encL ((0:Nat):Int) [],?_⟩;unfold buildL;rw[if_neg (by decide),build_step,level_groups (by omega),groups_nil,if_pos (by decide)];rfl
end Go.Pg
namespace Go.Pg
theorem rowsF_go{ps:List (List UInt8)}{k:Nat}{acc:List Rw}(h:k<ps.length):rowsFT (ps.drop k) acc=if (decR ps[k]).2.2≠0 then ([],(decR ps[k]).2.2) else rowsFT (ps.drop (k+1)) (if (decR ps[k]).1=0∧acc.length≤5000 then acc++(decR ps[k]).2.1 else acc):=by
 rw[List.drop_eq_getElem_cons h,rowsFT]
end Go.Pg
namespace Go.Proofs.YtmbkaedhllfoeaaGreat
open Go.RowKit Go.Rst Go.Pg Go.Crc
def GivesRw(w:World)(r:List Rw×Nat)(e:Ending)(w':World):Prop:=∃v,e= .returned (.tuple #[v,.int .u16 r.2])∧OR 5 78 w' w.heap.size v r.1∧Below w.heap.size w w'
theorem GivesRw.err{w w':World}{r:List Rw×Nat}{x:Nat}(h:r=([],x))(hb:Below w.heap.size w w'):GivesRw w r (.returned (.tuple #[.slice none 0 0,.int .u16 x])) w':=by
 subst h;exact⟨_,rfl,OR.nil_ _ _ _ _,hb⟩
theorem GivesRw.ok{w w':World}{r:List Rw×Nat}{l:List Rw}{v:Value}(h:r=(l,0))(ho:OR 5 78 w' w.heap.size v l)(hb:Below w.heap.size w w'):GivesRw w r (.returned (.tuple #[v,.int .u16 0])) w':=by
 subst h;exact⟨_,rfl,ho,hb⟩
theorem rows_any(v:Value)(ps:List (List UInt8))(w:World)(hv:RP w v ps):
  Calls Tryz.prog 46 #[v] w (GivesRw w (rowsT ps)):=by
 have HV:=qH hv;have hT:rowsT ps=if (rowsFT ps []).2≠0 then ([],(rowsFT ps []).2) else if buildL (rowsFT ps []).1=some ps then ((rowsFT ps []).1,0) else ([],11):=rfl
 have HT:=qH hT;obtain⟨A,c,rfl,hlc,hc,_⟩:=hv;unfold maxLen at hc;clear hT;go_enter Tryz.func46,Tryz.ntmps46;go_wp2
 go_loopw [4,14] (fun lv i wr=>∃(k:Nat) (acc:List Rw),k≤ps.length∧i= .int .i64 k∧OR 5 78 wr w.heap.size lv acc∧Below w.heap.size w wr∧rowsFT (ps.drop k) acc=rowsFT ps []∧acc.length≤5250) (fun _ i _=>ps.length-(intOf i).toNat)
 case atStart=>exact⟨0,[],Nat.zero_le _,rfl,OR.nil_ _ _ _ _,Below.refl _ _,rfl,by simp⟩
 case round=>
  obtain⟨k,acc,hk,rfl,aK,ad,hrf,hacc⟩:=hrel;obtain⟨Wo,iq⟩:∃x,x=wr:=⟨_,rfl⟩
  subst iq;obtain⟨Al,cl,rfl⟩:=or_shape aK;have da:=qH aK;have HB:=qH ad;have gi:=qH hrf;clear aK ad hrf;by_cases hlt:k<ps.length
  ·have hrf:=gi.out
   rw[rowsF_go hlt] at hrf;obtain⟨bb,off,u,rfl,hbb,hx0,hr⟩:=rp_at HV.out hlt;have hx:=(HB.out.cell (p:=⟨bb,off+k,none⟩) hbb).trans hx0;have hdec:=dec_any u ps[k] Wo (hr.below HB.out);obtain⟨A1,c1,hu,_,_,_⟩:=hr;obtain⟨pl,hpl⟩:∃pl,pl=ps[k].length:=⟨_,rfl⟩
   rw[←hpl] at hu;subst hu;have vU:=decR_len ps[k];unfold GivesDec at hdec;generalize hd1:(decR ps[k]).1=lev at *;generalize hd2:(decR ps[k]).2.1=l at *;generalize hd3:(decR ps[k]).2.2=e at *;have jM:=qH hdec;have bM:=qH hrf;have q1:(0:Int)≤(k:Int):=by omega
   have q2:(k:Int)<ps.length:=by omega
   clear hdec hrf hd1 hd2 hd3 hpl hx0 gi;by_cases he:e=0
   ·subst he
    have hgg:=bM.out;rw[if_neg (by decide)] at hgg;by_cases hap:lev=0∧acc.length≤5000
    ·rw[if_pos hap] at hgg
     have E:=qH hgg;obtain⟨rfl,Kz⟩:=hap;have Dj:(acc.length:Int)≤5000:=by omega
     clear hgg;go_wp2_with fail
     refine jM.out.mono ?_;rintro ee w2⟨v2,rfl,aQ,hb2⟩;have ae:=qH (HB.out.trans (hb2.mono HB.out.size));obtain⟨us,ah,ho,hf⟩:=da.out.below hb2;obtain⟨us2,dq,mg,hf2⟩:=aQ.base_ (base':=w.heap.size) HB.out.size;have eY:us.length=acc.length:=by have h:=congrArg List.length ah;rw[List.length_map] at h;exact h
     have gG:us2.length=l.length:=by have h:=congrArg List.length dq;rw[List.length_map] at h;exact h
     have hsrc:=OR.src (tx:=40) mg hf2 Tryz.underlying40;obtain⟨A2,c2,rfl⟩:=or_shape aQ;rw[eY] at ho;rw[gG] at hsrc;have cD:=qH hsrc;have HO:=qH ho;have bt:=qH eY;have mF:=qH gG;have ce:=qH ah;have oo:=qH dq;clear aQ hb2 mg eY gG hsrc ho ah dq;go_wp2_with (at_builtin;refine wpList_own rfl (.tmp 34) (.tmp 35) 40 40 rfl w.heap.size 78 (.agg #[.string ⟨#[]⟩,.slice none 0 0]) 2 40 Tryz.underlying40 info78 rfl rfl HO.out rfl cD.out ae.out (Nat.le_refl _) ?_ ?_ ?_ ?_)
     ·unfold maxLen;omega
     ·omega
     ·exact ae.out.size
     intro v4 w4 bH hb4 hg4;have aM:=OR.join (e:=5) (eR:=78) (us:=us) (us2:=us2) (by decide) (by rw[bt.out];exact HO.out) hf hf2 (by rw[bt.out,mF.out];exact bH) hg4;rw[ce.out,oo.out] at aM;obtain⟨A4,c4,rfl⟩:=or_shape aM;have nO:=qH aM;have ai:=qH hb4;clear aM hb4 hg4 bH hf hf2;go_wp2;go_roundw
     case rel=>exact⟨k+1,acc++l,by omega,by go_num,nO.out,ai.out,E.out,by rw[List.length_append];omega⟩
     case measure=>simp[intOf];omega
    ·rw[if_neg hap] at hgg
     have E:=qH hgg;clear hgg;by_cases hl0:lev=0
     ·subst hl0
      have Dj:(5000:Int)<(acc.length:Int):=by omega
      clear hap;go_wp2_with fail
      refine jM.out.mono ?_;rintro ee w2⟨v2,rfl,aQ,hb2⟩;obtain⟨A2,c2,rfl⟩:=or_shape aQ;have ae:=qH (HB.out.trans (hb2.mono HB.out.size));have em:=qH (da.out.below hb2);clear aQ hb2;go_wp2;go_roundw
      case rel=>exact⟨k+1,acc,by omega,by go_num,em.out,ae.out,E.out,hacc⟩
      case measure=>simp[intOf];omega
     ·have hl0':((lev:Int)==0)=false:=by rw[beq_eq_false_iff_ne];omega
      clear hap hl0;go_wp2_with fail
      refine jM.out.mono ?_;rintro ee w2⟨v2,rfl,aQ,hb2⟩;obtain⟨A2,c2,rfl⟩:=or_shape aQ;have ae:=qH (HB.out.trans (hb2.mono HB.out.size));have em:=qH (da.out.below hb2);clear aQ hb2;go_wp2;go_roundw
      case rel=>exact⟨k+1,acc,by omega,by go_num,em.out,ae.out,E.out,hacc⟩
      case measure=>simp[intOf];omega
   ·have hgg:=bM.out
    rw[if_pos he] at hgg;have E:=qH (show rowsT ps=([],e) by rw[HT.out,←hgg,if_pos he]);have he':((e:Int) !=0)=true:=by rw[bne_iff_ne];omega
    clear hgg he;go_wp2_with fail
    refine jM.out.mono ?_;rintro ee w2⟨v2,rfl,aQ,hb2⟩;obtain⟨A2,c2,rfl⟩:=or_shape aQ;have ae:=qH (HB.out.trans (hb2.mono HB.out.size));clear aQ hb2;go_wp2
    go_ret2
    exact GivesRw.err E.out ae.out
  ·obtain rfl:k=ps.length:=by omega
   have hrf:=gi.out;rw[List.drop_length,rowsFT] at hrf;have oG:rowsT ps=if buildL acc=some ps then (acc,0) else ([],11):=by rw[HT.out,←hrf,if_neg (by simp)]
   have lT:=build_any _ acc Wo da.out.rr;have cZ:=qH lT;have wG:=qH oG;clear hrf oG lT
   cases hb:buildL acc with
   |none=>
    rw[hb] at cZ;have E:=qH (show rowsT ps=([],11) by rw[wG.out,hb,if_neg (by simp)]);have kW:=qH (show Calls Tryz.prog 74 _ Wo (GivesBd Wo none) from cZ.out);clear hb cZ;go_wp2_with fail
    refine kW.out.mono ?_;rintro ee w2⟨v2,rfl,aQ,hb2⟩;obtain⟨A2,c2,rfl,_,_⟩:=aQ.shape;have ae:=qH (HB.out.trans (hb2.mono HB.out.size));clear aQ hb2;go_wp2
    go_ret2
    exact GivesRw.err E.out ae.out
   |some qs=>
    rw[hb] at cZ;have E0:=qH (show rowsT ps=if qs=ps then (acc,0) else ([],11) by rw[wG.out,hb];simp);have kW:=qH (show Calls Tryz.prog 74 _ Wo (GivesBd Wo (some qs)) from cZ.out);clear hb cZ;go_wp2_with fail
    refine kW.out.mono ?_;rintro ee w2⟨v2,rfl,aQ,hb2⟩;have aQ:OP 5 46 w2 Wo.heap.size v2 qs:=aQ;have aj:=HB.out.trans (hb2.mono HB.out.size);have o9:=qH (eqF_any v2 _ qs ps w2 aQ.rp (rp_below HV.out aj (Nat.le_refl _)));obtain⟨A2,c2,rfl,_,_⟩:=aQ.shape;have ae:=qH aj;have em:=qH (da.out.below hb2);clear aQ hb2 aj;by_cases hqp:qs=ps
    ·have E:=qH (show rowsT ps=(acc,0) by rw[E0.out,if_pos hqp])
     have mw:decide (qs=ps)=true:=by rw[decide_eq_true_iff];exact hqp
     rw[mw] at o9;clear hqp mw;go_wp2_with fail
     refine o9.out.mono ?_;rintro ee w3⟨rfl,rfl⟩;go_wp2
     go_ret2
     exact GivesRw.ok E.out em.out ae.out
    ·have E:=qH (show rowsT ps=([],11) by rw[E0.out,if_neg hqp])
     have mw:decide (qs=ps)=false:=by rw[decide_eq_false_iff_not];exact hqp
     rw[mw] at o9;clear hqp mw;go_wp2_with fail
     refine o9.out.mono ?_;rintro ee w3⟨rfl,rfl⟩;go_wp2
     go_ret2
     exact GivesRw.err E.out ae.out
end Go.Proofs.YtmbkaedhllfoeaaGreat
set_option linter.unusedVariables false
namespace Go.Pg
def rowsR:List (List UInt8)→List Rw→List Rw×Nat
 | [],acc=>(acc,0)
 |p::ps,acc=>if (decR p).2.2≠0 then ([],(decR p).2.2) else rowsR ps (if (decR p).1=0 then acc++(decR p).2.1 else acc)
theorem rowsR_go{ps:List (List UInt8)}{k:Nat}{acc:List Rw}(h:k<ps.length):rowsR (ps.drop k) acc=if (decR ps[k]).2.2≠0 then ([],(decR ps[k]).2.2) else rowsR (ps.drop (k+1)) (if (decR ps[k]).1=0 then acc++(decR ps[k]).2.1 else acc):=by
 rw[List.drop_eq_getElem_cons h,rowsR]
theorem rowsR_both:∀(ps:List (List UInt8)) (a b:List Rw),(a=b∨(5000<a.length∧5000<b.length))→(rowsFT ps a).2=(rowsR ps b).2∧((rowsR ps b).2≠0∨(rowsFT ps a).1=(rowsR ps b).1∨(5000<(rowsFT ps a).1.length∧5000<(rowsR ps b).1.length))
 | [],a,b,h=>⟨rfl,.inr h⟩
 |p::ps,a,b,h=>by
  rw[rowsFT,rowsR];by_cases he:(decR p).2.2≠0
  ·rw[if_pos he,if_pos he]
   exact⟨rfl,.inl he⟩
  ·rw[if_neg he,if_neg he]
   refine rowsR_both ps _ _ ?_;by_cases h0:(decR p).1=0
   ·rw[if_pos h0]
    rcases h with rfl|⟨h1,h2⟩
    ·by_cases h5:a.length≤5000
     ·rw[if_pos ⟨h0,h5⟩];exact .inl rfl
     ·rw[if_neg (fun hh=>h5 hh.2)]
      exact .inr ⟨by omega,by rw[List.length_append];omega⟩
    ·rw[if_neg (fun hh=>by have:=hh.2;omega)]
     exact .inr ⟨h1,by rw[List.length_append];omega⟩
   ·rw[if_neg (fun hh=>h0 hh.1),if_neg h0]
    exact h
theorem build_many{rs:List Rw}(h:5000<rs.length):buildL rs=none:=by
 have hB:buildL rs=if risingL rs=false∨5000<rs.length then none else buildF 5 0 [] rs:=rfl
 rw[hB,if_pos (.inr h)]
theorem rowsT_R(ps:List (List UInt8)):rowsT ps=if (rowsR ps []).2≠0 then ([],(rowsR ps []).2) else if buildL (rowsR ps []).1=some ps then ((rowsR ps []).1,0) else ([],11):=by
 obtain⟨h1,h2⟩:=rowsR_both ps [] [] (.inl rfl);unfold rowsT;rw[h1];by_cases he:(rowsR ps []).2≠0
 ·rw[if_pos he,if_pos he]
 ·rw[if_neg he,if_neg he]
  rcases h2 with h2|h2|⟨h3,h4⟩
  ·exact absurd h2 he
  ·rw[h2]
  ·rw[build_many h3,build_many h4,if_neg (by simp),if_neg (by simp)]
end Go.Pg
namespace Go.Proofs.YtmbkaedhllfoeaaGreat
open Go.RowKit Go.Rst Go.Pg Go.Crc
theorem refSame2_any(va vb:Value)(ps qs:List (List UInt8))(w:World)(ha:RP w va ps)(hb:RP w vb qs):
  Calls Tryz.prog 133 #[va,vb] w fun e w'=>e= .returned (.bool (decide (ps=qs)))∧Below w.heap.size w w':=by
 have HA:=qH ha;have HB:=qH hb;obtain⟨A1,c1,rfl,Bd,hc1,_⟩:=ha;obtain⟨A2,c2,rfl,hl2,hc2,_⟩:=hb;unfold maxLen at hc1 hc2;by_cases hlen:ps.length=qs.length
 rotate_left
 ·have HD:=qH (show decide (ps=qs)=false by rw[decide_eq_false_iff_not];intro h;exact hlen (by rw[h]))
  have oY:((ps.length:Int) !=(qs.length:Int))=true:=by rw[bne_iff_ne];omega
  clear hlen;go_enter Tryz.func133,Tryz.ntmps133;go_wp2;go_ret;exact⟨by rw[HD.out];rfl,Below.refl _ _⟩
 have HLEN:=qH hlen;have oY:((ps.length:Int) !=(qs.length:Int))=false:=by rw[bne_eq_false_iff_eq];omega
 clear hlen;go_enter Tryz.func133,Tryz.ntmps133;go_wp2
 go_loopw [5] (fun i wr=>∃k:Nat,k≤ps.length∧i= .int .i64 k∧ps.take k=qs.take k∧∃m,wr=w.drewN m) (fun i _=>ps.length-(intOf i).toNat)
 case atStart=>exact⟨0,Nat.zero_le _,rfl,rfl,0,rfl⟩
 case round=>
  obtain⟨k,hk,rfl,htk,m,rfl⟩:=hrel;by_cases hlt:k<ps.length
  ·have gV:k<qs.length:=by rw[←HLEN.out];exact hlt
   obtain⟨b1,o1,u1,rfl,hb1,hx1,hr1⟩:=rp_at HA.out hlt;obtain⟨b2,o2,u2,rfl,hb2,hx2,hr2⟩:=rp_at HB.out gV;have ix:=fun j=>(show(w.drewN j).cell? ⟨b1,o1+k,none⟩=_ from hx1)
   have pG:=fun j=>(show(w.drewN j).cell? ⟨b2,o2+k,none⟩=_ from hx2)
   have q1:(0:Int)≤(k:Int):=by omega
   have q2:(k:Int)<ps.length:=by omega
   have q3:(k:Int)<qs.length:=by omega
   by_cases hpq:ps[k]=qs[k]
   ·have jA:ps.take (k+1)=qs.take (k+1):=by rw[List.take_succ_eq_append_getElem hlt,List.take_succ_eq_append_getElem gV,htk,hpq]
    have nn:=qH jA;rw[←hpq] at hr2;have hs1:=fun(j:Nat)=>str22 (hr1.keep (w':=w.drewN j) (Nat.le_refl _) (fun _ _ _=>rfl))
    have hs2:=fun(j:Nat)=>str22 (hr2.keep (w':=w.drewN j) (Nat.le_refl _) (fun _ _ _=>rfl))
    clear htk jA hpq hr1 hr2;generalize ps[k]=p at *;go_wp2
    go_quiet (fail)
    go_wp2;go_roundw
    case rel=>exact⟨k+1,by omega,by go_num,nn.out,_,rfl⟩
    case measure=>simp[intOf];omega
   ·have HD:=qH (show decide (ps=qs)=false by rw[decide_eq_false_iff_not];intro h;subst h;exact hpq rfl)
    have hs1:=fun(j:Nat)=>str22 (hr1.keep (w':=w.drewN j) (Nat.le_refl _) (fun _ _ _=>rfl))
    have hs2:=fun(j:Nat)=>str22 (hr2.keep (w':=w.drewN j) (Nat.le_refl _) (fun _ _ _=>rfl))
    have hv1:((⟨ps[k].toArray⟩:ByteArray).toList !=(⟨qs[k].toArray⟩:ByteArray).toList)=true:=bne_iff_ne.2 (ba_neL (ba_ne hpq));have hv2:((⟨ps[k].toArray⟩:ByteArray).toList==(⟨qs[k].toArray⟩:ByteArray).toList)=false:=beq_eq_false_iff_ne.2 (ba_neL (ba_ne hpq));generalize (⟨ps[k].toArray⟩:ByteArray)=z1 at hs1 hv1 hv2;generalize (⟨qs[k].toArray⟩:ByteArray)=z2 at hs2 hv1 hv2;clear htk hpq hr1 hr2;go_wp2
    go_quiet (fail)
    go_wp2;go_ret;exact⟨by rw[HD.out];rfl,rfl,rfl,rfl,Nat.le_refl _,fun _ _=>rfl⟩
  ·have hkk:k=ps.length:=by omega
   subst hkk;have HD:=qH (show decide (ps=qs)=true by rw[decide_eq_true_iff];rw[List.take_length,HLEN.out,List.take_length] at htk;exact htk);clear htk;go_wp2;go_ret;exact⟨by rw[HD.out];rfl,rfl,rfl,rfl,Nat.le_refl _,fun _ _=>rfl⟩
def GivesRwI(w:World)(r:List Rw×Nat)(e:Ending)(w':World):Prop:=∃v,e= .returned (.tuple #[v,.int .i64 (r.2:Int)])∧OR 5 78 w' w.heap.size v r.1∧Below w.heap.size w w'
theorem GivesRwI.err{w w':World}{r:List Rw×Nat}{x:Nat}(h:r=([],x))(hb:Below w.heap.size w w'):GivesRwI w r (.returned (.tuple #[.slice none 0 0,.int .i64 (x:Int)])) w':=by
 subst h;exact⟨_,rfl,OR.nil_ _ _ _ _,hb⟩
theorem GivesRwI.ok{w w':World}{r:List Rw×Nat}{l:List Rw}{v:Value}(h:r=(l,0))(ho:OR 5 78 w' w.heap.size v l)(hb:Below w.heap.size w w'):GivesRwI w r (.returned (.tuple #[v,.int .i64 0])) w':=by
 subst h;exact⟨_,rfl,ho,hb⟩
theorem refRows8_any(v:Value)(ps:List (List UInt8))(w:World)(hv:RP w v ps)(iV:ps.length≤2000):
  Calls Tryz.prog 98 #[v] w (GivesRwI w (rowsT ps)):=by
 have HV:=qH hv;have hT:=rowsT_R ps;have HT:=qH hT;obtain⟨A,c,rfl,hlc,hc,_⟩:=hv;unfold maxLen at hc;clear hT;go_enter Tryz.func98,Tryz.ntmps98;go_wp2
 go_loopw [4,5] (fun lv i wr=>∃(k:Nat) (acc:List Rw),k≤ps.length∧i= .int .i64 k∧OR 5 78 wr w.heap.size lv acc∧Below w.heap.size w wr∧rowsR (ps.drop k) acc=rowsR ps []∧acc.length≤250*k) (fun _ i _=>ps.length-(intOf i).toNat)
 case atStart=>exact⟨0,[],Nat.zero_le _,rfl,OR.nil_ _ _ _ _,Below.refl _ _,rfl,by simp⟩
 case round=>
  obtain⟨k,acc,hk,rfl,aK,ad,hrf,hacc⟩:=hrel;obtain⟨Wo,iq⟩:∃x,x=wr:=⟨_,rfl⟩
  subst iq;obtain⟨Al,cl,rfl⟩:=or_shape aK;have da:=qH aK;have HB:=qH ad;have gi:=qH hrf;clear aK ad hrf;by_cases hlt:k<ps.length
  ·have hrf:=gi.out
   rw[rowsR_go hlt] at hrf;obtain⟨bb,off,u,rfl,hbb,hx0,hr⟩:=rp_at HV.out hlt;have hx:=(HB.out.cell (p:=⟨bb,off+k,none⟩) hbb).trans hx0;have hdec:=refDec_any u ps[k] Wo (hr.below HB.out);obtain⟨A1,c1,hu,_,_,_⟩:=hr;obtain⟨pl,hpl⟩:∃pl,pl=ps[k].length:=⟨_,rfl⟩
   rw[←hpl] at hu;subst hu;have vU:=decR_len ps[k];rw[←dec_same] at hdec;unfold GivesRD at hdec;generalize hd1:(decR ps[k]).1=lev at *;generalize hd2:(decR ps[k]).2.1=l at *;generalize hd3:(decR ps[k]).2.2=e at *;have jM:=qH hdec;have bM:=qH hrf;have q1:(0:Int)≤(k:Int):=by omega
   have q2:(k:Int)<ps.length:=by omega
   clear hdec hrf hd1 hd2 hd3 hpl hx0 gi;by_cases he:e=0
   ·subst he
    have hgg:=bM.out;rw[if_neg (by decide)] at hgg;by_cases hap:lev=0
    ·rw[if_pos hap] at hgg
     have E:=qH hgg;subst hap;clear hgg;go_wp2_with fail
     refine jM.out.mono ?_;rintro ee w2⟨v2,rfl,aQ,hb2⟩;have ae:=qH (HB.out.trans (hb2.mono HB.out.size));obtain⟨us,ah,ho,hf⟩:=da.out.below hb2;obtain⟨us2,dq,mg,hf2⟩:=aQ.base_ (base':=w.heap.size) HB.out.size;have eY:us.length=acc.length:=by have h:=congrArg List.length ah;rw[List.length_map] at h;exact h
     have gG:us2.length=l.length:=by have h:=congrArg List.length dq;rw[List.length_map] at h;exact h
     have hsrc:=OR.src (tx:=40) mg hf2 Tryz.underlying40;obtain⟨A2,c2,rfl⟩:=or_shape aQ;rw[eY] at ho;rw[gG] at hsrc;have cD:=qH hsrc;have HO:=qH ho;have bt:=qH eY;have mF:=qH gG;have ce:=qH ah;have oo:=qH dq;clear aQ hb2 mg eY gG hsrc ho ah dq;go_wp2_with (at_builtin;refine wpList_own rfl (.tmp 31) (.tmp 32) 40 40 rfl w.heap.size 78 (.agg #[.string ⟨#[]⟩,.slice none 0 0]) 2 40 Tryz.underlying40 info78 rfl rfl HO.out rfl cD.out ae.out (Nat.le_refl _) ?_ ?_ ?_ ?_)
     ·unfold maxLen;omega
     ·omega
     ·exact ae.out.size
     intro v4 w4 bH hb4 hg4;have aM:=OR.join (e:=5) (eR:=78) (us:=us) (us2:=us2) (by decide) (by rw[bt.out];exact HO.out) hf hf2 (by rw[bt.out,mF.out];exact bH) hg4;rw[ce.out,oo.out] at aM;obtain⟨A4,c4,rfl⟩:=or_shape aM;have nO:=qH aM;have ai:=qH hb4;clear aM hb4 hg4 bH hf hf2;go_wp2;go_roundw
     case rel=>exact⟨k+1,acc++l,by omega,by go_num,nO.out,ai.out,E.out,by rw[List.length_append];omega⟩
     case measure=>simp[intOf];omega
    ·rw[if_neg hap] at hgg
     have E:=qH hgg;clear hgg;have hl0:=hap
     ·have hl0':((lev:Int)==0)=false:=by rw[beq_eq_false_iff_ne];omega
      clear hap hl0;go_wp2_with fail
      refine jM.out.mono ?_;rintro ee w2⟨v2,rfl,aQ,hb2⟩;obtain⟨A2,c2,rfl⟩:=or_shape aQ;have ae:=qH (HB.out.trans (hb2.mono HB.out.size));have em:=qH (da.out.below hb2);clear aQ hb2;go_wp2;go_roundw
      case rel=>exact⟨k+1,acc,by omega,by go_num,em.out,ae.out,E.out,by omega⟩
      case measure=>simp[intOf];omega
   ·have hgg:=bM.out
    rw[if_pos he] at hgg;have E:=qH (show rowsT ps=([],e) by rw[HT.out,←hgg,if_pos he]);have he':((e:Int) !=0)=true:=by rw[bne_iff_ne];omega
    clear hgg he;go_wp2_with fail
    refine jM.out.mono ?_;rintro ee w2⟨v2,rfl,aQ,hb2⟩;obtain⟨A2,c2,rfl⟩:=or_shape aQ;have ae:=qH (HB.out.trans (hb2.mono HB.out.size));clear aQ hb2;go_wp2
    go_ret2
    exact GivesRwI.err E.out ae.out
  ·obtain rfl:k=ps.length:=by omega
   have hrf:=gi.out;rw[List.drop_length,rowsR] at hrf;have oG:rowsT ps=if buildL acc=some ps then (acc,0) else ([],11):=by rw[HT.out,←hrf,if_neg (by simp)]
   have lT:=refBuild_any _ acc Wo da.out.rr;have cZ:=qH lT;have wG:=qH oG;clear hrf oG lT
   cases hb:buildL acc with
   |none=>
    rw[hb] at cZ;have E:=qH (show rowsT ps=([],11) by rw[wG.out,hb,if_neg (by simp)]);have kW:=qH (show Calls Tryz.prog 58 _ Wo (GivesBd Wo none) from cZ.out);clear hb cZ;go_wp2_with fail
    refine kW.out.mono ?_;rintro ee w2⟨v2,rfl,aQ,hb2⟩;obtain⟨A2,c2,rfl,_,_⟩:=aQ.shape;have ae:=qH (HB.out.trans (hb2.mono HB.out.size));clear aQ hb2;go_wp2
    go_ret2
    exact GivesRwI.err E.out ae.out
   |some qs=>
    rw[hb] at cZ;have E0:=qH (show rowsT ps=if qs=ps then (acc,0) else ([],11) by rw[wG.out,hb];simp);have kW:=qH (show Calls Tryz.prog 58 _ Wo (GivesBd Wo (some qs)) from cZ.out);clear hb cZ;go_wp2_with fail
    refine kW.out.mono ?_;rintro ee w2⟨v2,rfl,aQ,hb2⟩;have aQ:OP 5 46 w2 Wo.heap.size v2 qs:=aQ;have aj:=HB.out.trans (hb2.mono HB.out.size);have o9:=qH (refSame2_any v2 _ qs ps w2 aQ.rp (rp_below HV.out aj (Nat.le_refl _)));obtain⟨A2,c2,rfl,_,_⟩:=aQ.shape;have ae:=qH aj;have em:=qH (da.out.below hb2);clear aQ hb2 aj;by_cases hqp:qs=ps
    ·have E:=qH (show rowsT ps=(acc,0) by rw[E0.out,if_pos hqp])
     have mw:decide (qs=ps)=true:=by rw[decide_eq_true_iff];exact hqp
     rw[mw] at o9;clear hqp mw;go_wp2_with fail
     refine o9.out.mono ?_;rintro ee w3⟨rfl,hb3⟩;have kO:=qH (em.out.below hb3);have ak:=qH (ae.out.trans (hb3.mono ae.out.size));clear hb3;go_wp2
     go_ret2
     exact GivesRwI.ok E.out kO.out ak.out
    ·have E:=qH (show rowsT ps=([],11) by rw[E0.out,if_neg hqp])
     have mw:decide (qs=ps)=false:=by rw[decide_eq_false_iff_not];exact hqp
     rw[mw] at o9;clear hqp mw;go_wp2_with fail
     refine o9.out.mono ?_;rintro ee w3⟨rfl,hb3⟩;have ak:=qH (ae.out.trans (hb3.mono ae.out.size));clear hb3;go_wp2
     go_ret2
     exact GivesRwI.err E.out ak.out
end Go.Proofs.YtmbkaedhllfoeaaGreat
