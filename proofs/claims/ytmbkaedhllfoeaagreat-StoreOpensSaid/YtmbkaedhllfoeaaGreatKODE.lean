/-
  Texts of the proof, put together.
-/
import Derived.StillTailTactics
import Derived.Test.YtmbkaedhllfoeaaGreatKOCI
import Derived.Test.YtmbkaedhllfoeaaGreatKOWr
set_option maxRecDepth 100000
set_option maxHeartbeats 4000000
set_option linter.unusedVariables false
namespace Go.Str
def hEp(l:List UInt8):Nat:=(l.getD 2 0).toNat*16777216+(l.getD 3 0).toNat*65536+(l.getD 4 0).toNat*256+(l.getD 5 0).toNat
def hAr(l:List UInt8):Nat:=(l.getD 6 0).toNat
def hPg(l:List UInt8):Nat:=(l.getD 7 0).toNat*256+(l.getD 8 0).toNat
def hOk(l:List UInt8)(most:Nat):Bool:=if 1≤hEp l∧hEp l≤1073741824∧hAr l<2∧1≤hPg l∧hPg l≤most then (headL (hEp l) (hAr l) (hPg l)==l) else false
end Go.Str
namespace Go.Proofs.YtmbkaedhllfoeaaGreat
open Go.RowKit Go.Rst Go.Dv Go.Crc Go.Str
theorem or_up(x y i:Nat)(h:y<2^i):x*2^i|||y=x*2^i+y:=by
 have:=Nat.shiftLeft_add_eq_or_of_lt (b:=y) (i:=i) h x;rw[Nat.shiftLeft_eq] at this;exact this.symm
theorem hw_or1(a b:Nat)(h:b<256):a*16777216|||b*65536=a*16777216+b*65536:=or_up a (b*65536) 24 (by omega)
theorem hw_or2(a b c:Nat)(h:c<256):(a*16777216+b*65536)|||c*256=a*16777216+b*65536+c*256:=by
 have:=or_up (a*256+b) (c*256) 16 (by omega);rw[show(a*256+b)*2^16=a*16777216+b*65536 by omega] at this;exact this
theorem hw_or3(a b c d:Nat)(h:d<256):(a*16777216+b*65536+c*256)|||d=a*16777216+b*65536+c*256+d:=by
 have:=or_up (a*65536+b*256+c) d 8 (by omega);rw[show(a*65536+b*256+c)*2^8=a*16777216+b*65536+c*256 by omega] at this;exact this
theorem hw_or4(a b:Nat)(h:b<256):a*256|||b=a*256+b:=or_up a b 8 (by omega)
theorem rdHead_any(b:Value)(l:List UInt8)(most:Nat)(w:World)(h:RB w b l)(hl:l.length=64)(hm:most≤600):
  Calls Tryz.prog 84 #[b,.int .i64 (most:Int)] w fun e w'=>e= .returned (.tuple #[.agg #[.int .i64 (Str.hEp l:Int),.int .i64 (Str.hAr l:Int),.int .i64 (Str.hPg l:Int)],.bool (Str.hOk l most)])∧Below w.heap.size w w':=by
 obtain⟨A,c,rfl,hc1,hc2,hc3⟩:=h;rcases hc3 with h0|⟨g,off,rfl,hg,hc⟩
 ·rw[h0] at hl;simp at hl
 unfold maxLen at hc2;rw[hl] at hc1⊢;have jD:=qH (show RB w (.slice (some ⟨g,off,none⟩) 64 c) l from⟨_,c,by rw[hl],by omega,by unfold maxLen;omega,.inr ⟨g,off,rfl,hg,hc⟩⟩);have H2:=qH (fun X (hX:Below w.heap.size w X)=>(hX.cell (p:=⟨g,off+2,none⟩) hg).trans (show w.cell? ⟨g,off+2,none⟩=some (.int .u8 (((l[2]'(by omega)).toNat:Nat):Int)) from hc 2 (by rw[hl];omega)));have H3:=qH (fun X (hX:Below w.heap.size w X)=>(hX.cell (p:=⟨g,off+3,none⟩) hg).trans (show w.cell? ⟨g,off+3,none⟩=some (.int .u8 (((l[3]'(by omega)).toNat:Nat):Int)) from hc 3 (by rw[hl];omega)));have H4:=qH (fun X (hX:Below w.heap.size w X)=>(hX.cell (p:=⟨g,off+4,none⟩) hg).trans (show w.cell? ⟨g,off+4,none⟩=some (.int .u8 (((l[4]'(by omega)).toNat:Nat):Int)) from hc 4 (by rw[hl];omega)));have H5:=qH (fun X (hX:Below w.heap.size w X)=>(hX.cell (p:=⟨g,off+5,none⟩) hg).trans (show w.cell? ⟨g,off+5,none⟩=some (.int .u8 (((l[5]'(by omega)).toNat:Nat):Int)) from hc 5 (by rw[hl];omega)));have H6:=qH (fun X (hX:Below w.heap.size w X)=>(hX.cell (p:=⟨g,off+6,none⟩) hg).trans (show w.cell? ⟨g,off+6,none⟩=some (.int .u8 (((l[6]'(by omega)).toNat:Nat):Int)) from hc 6 (by rw[hl];omega)));have H7:=qH (fun X (hX:Below w.heap.size w X)=>(hX.cell (p:=⟨g,off+7,none⟩) hg).trans (show w.cell? ⟨g,off+7,none⟩=some (.int .u8 (((l[7]'(by omega)).toNat:Nat):Int)) from hc 7 (by rw[hl];omega)));have H8:=qH (fun X (hX:Below w.heap.size w X)=>(hX.cell (p:=⟨g,off+8,none⟩) hg).trans (show w.cell? ⟨g,off+8,none⟩=some (.int .u8 (((l[8]'(by omega)).toNat:Nat):Int)) from hc 8 (by rw[hl];omega)));obtain⟨n2,fU⟩:∃n,n=(l[2]'(by omega)).toNat:=⟨_,rfl⟩
 have hx2:n2<256:=by rw[fU];exact UInt8.toNat_lt _
 rw[←fU] at H2;have DI:=qH fU;clear fU;obtain⟨n3,my⟩:∃n,n=(l[3]'(by omega)).toNat:=⟨_,rfl⟩
 have hx3:n3<256:=by rw[my];exact UInt8.toNat_lt _
 rw[←my] at H3;have CD:=qH my;clear my;obtain⟨n4,dt⟩:∃n,n=(l[4]'(by omega)).toNat:=⟨_,rfl⟩
 have BJ:n4<256:=by rw[dt];exact UInt8.toNat_lt _
 rw[←dt] at H4;have EK:=qH dt;clear dt;obtain⟨n5,di⟩:∃n,n=(l[5]'(by omega)).toNat:=⟨_,rfl⟩
 have sP:n5<256:=by rw[di];exact UInt8.toNat_lt _
 rw[←di] at H5;have xI:=qH di;clear di;obtain⟨n6,pD⟩:∃n,n=(l[6]'(by omega)).toNat:=⟨_,rfl⟩
 have sy:n6<256:=by rw[pD];exact UInt8.toNat_lt _
 rw[←pD] at H6;have EI:=qH pD;clear pD;obtain⟨n7,pW⟩:∃n,n=(l[7]'(by omega)).toNat:=⟨_,rfl⟩
 have Hr:n7<256:=by rw[pW];exact UInt8.toNat_lt _
 rw[←pW] at H7;have D7:=qH pW;clear pW;obtain⟨n8,pM⟩:∃n,n=(l[8]'(by omega)).toNat:=⟨_,rfl⟩
 have IG:n8<256:=by rw[pM];exact UInt8.toNat_lt _
 rw[←pM] at H8;have FY:=qH pM;clear pM;have hw2:IntKind.i64.wrap (n2:Int)=(n2:Int):=by rw[IntKind.wrap_i64];omega
 have hw3:IntKind.i64.wrap (n3:Int)=(n3:Int):=by rw[IntKind.wrap_i64];omega
 have hw4:IntKind.i64.wrap (n4:Int)=(n4:Int):=by rw[IntKind.wrap_i64];omega
 have Lq:IntKind.i64.wrap (n5:Int)=(n5:Int):=by rw[IntKind.wrap_i64];omega
 have zx:IntKind.i64.wrap (n6:Int)=(n6:Int):=by rw[IntKind.wrap_i64];omega
 have Bu:IntKind.i64.wrap (n7:Int)=(n7:Int):=by rw[IntKind.wrap_i64];omega
 have JB:IntKind.i64.wrap (n8:Int)=(n8:Int):=by rw[IntKind.wrap_i64];omega
 have hs2:IntKind.i64.wrap ((n2:Int)*16777216)=(n2:Int)*16777216:=by rw[IntKind.wrap_i64];omega
 have hs3:IntKind.i64.wrap ((n3:Int)*65536)=(n3:Int)*65536:=by rw[IntKind.wrap_i64];omega
 have hs4:IntKind.i64.wrap ((n4:Int)*256)=(n4:Int)*256:=by rw[IntKind.wrap_i64];omega
 have po:IntKind.i64.wrap ((n7:Int)*256)=(n7:Int)*256:=by rw[IntKind.wrap_i64];omega
 obtain⟨P1,vG⟩:∃P,P=n2*16777216+n3*65536:=⟨_,rfl⟩
 have mC:bits .or .i64 ((n2:Int)*16777216) ((n3:Int)*65536)=(P1:Int):=by
  have h:=or_i64 (n2*16777216) (n3*65536) (by omega) (by omega);rw[hw_or1 n2 n3 (by omega),←vG] at h
  simpa using h
 obtain⟨P2,f6⟩:∃P,P=P1+n4*256:=⟨_,rfl⟩
 have aP:bits .or .i64 (P1:Int) ((n4:Int)*256)=(P2:Int):=by
  have h:=or_i64 P1 (n4*256) (by omega) (by omega);rw[vG,hw_or2 n2 n3 n4 (by omega),←vG,←f6] at h
  simpa using h
 obtain⟨EP,zj⟩:∃P,P=P2+n5:=⟨_,rfl⟩
 have cX:bits .or .i64 (P2:Int) (n5:Int)=(EP:Int):=by
  have h:=or_i64 P2 n5 (by omega) (by omega);rw[f6,vG,hw_or3 n2 n3 n4 n5 (by omega),←vG,←f6,←zj] at h;exact h
 obtain⟨PG,vF⟩:∃P,P=n7*256+n8:=⟨_,rfl⟩
 have bD:bits .or .i64 ((n7:Int)*256) (n8:Int)=(PG:Int):=by
  have h:=or_i64 (n7*256) n8 (by omega) (by omega);rw[hw_or4 n7 n8 (by omega),←vF] at h
  simpa using h
 have rE:=qH (show EP=n2*16777216+n3*65536+n4*256+n5 by omega);have vp:=qH vF;have he:Str.hEp l=EP:=by rw[rE.out,DI.out,CD.out,EK.out,xI.out];unfold Str.hEp;simp only[List.getD_eq_getElem?_getD];rw[List.getElem?_eq_getElem (by omega),List.getElem?_eq_getElem (by omega),List.getElem?_eq_getElem (by omega),List.getElem?_eq_getElem (by omega)];rfl
 have ha:Str.hAr l=n6:=by rw[EI.out];unfold Str.hAr;rw[List.getD_eq_getElem?_getD,List.getElem?_eq_getElem (by omega)];rfl
 have ia:Str.hPg l=PG:=by rw[vp.out,D7.out,FY.out];unfold Str.hPg;simp only[List.getD_eq_getElem?_getD];rw[List.getElem?_eq_getElem (by omega),List.getElem?_eq_getElem (by omega)];rfl
 have hok:Str.hOk l most=if 1≤EP∧EP≤1073741824∧n6<2∧1≤PG∧PG≤most then (Str.headL EP n6 PG==l) else false:=by unfold Str.hOk;rw[he,ha,ia]
 rw[he,ha,ia];have bm:=qH hok;clear vG f6 zj vF he ha ia hok;clear hc;go_enter Tryz.func84,Tryz.ntmps84;go_wp2;refine wp_region_held_drew (S:=Below w.heap.size w) (by kernel_rfl) (((Below.refl _ _).alloc (Nat.le_refl _) _).drew) (fun hHeld=>?_);refine tkC 0 ?_;refine tkC 1 ?_;refine tkA 2 (v:=?_) ?_ ?_;rotate_left
 ·intro X hSw;have hq:=H2.out X hSw;go_simp;try (with_reducible rfl)
 try simp only[Act.put,zA,zB,zC]
 refine tkC 3 ?_;refine tkC 4 ?_;refine tkC 5 ?_;refine tkC 6 ?_;refine tkA 7 (v:=?_) ?_ ?_;rotate_left
 ·intro X hSw;have hq:=H3.out X hSw;go_simp;try (with_reducible rfl)
 try simp only[Act.put,zA,zB,zC]
 refine tkC 8 ?_;refine tkC 9 ?_;refine tkC 10 ?_;refine tkC 11 ?_;refine tkC 12 ?_;refine tkA 13 (v:=?_) ?_ ?_;rotate_left
 ·intro X hSw;have hq:=H4.out X hSw;go_simp;try (with_reducible rfl)
 try simp only[Act.put,zA,zB,zC]
 refine tkC 14 ?_;refine tkC 15 ?_;refine tkC 16 ?_;refine tkC 17 ?_;refine tkC 18 ?_;refine tkA 19 (v:=?_) ?_ ?_;rotate_left
 ·intro X hSw;have hq:=H5.out X hSw;go_simp;try (with_reducible rfl)
 try simp only[Act.put,zA,zB,zC]
 refine tkC 20 ?_;refine tkC 21 ?_;refine tkC 22 ?_;refine tkC 23 ?_;refine tkA 24 (v:=?_) ?_ ?_;rotate_left
 ·intro X hSw;have hq:=H6.out X hSw;go_simp;try (with_reducible rfl)
 try simp only[Act.put,zA,zB,zC]
 refine tkC 25 ?_;refine tkC 26 ?_;refine tkC 27 ?_;refine tkA 28 (v:=?_) ?_ ?_;rotate_left
 ·intro X hSw;have hq:=H7.out X hSw;go_simp;try (with_reducible rfl)
 try simp only[Act.put,zA,zB,zC]
 refine tkC 29 ?_;refine tkC 30 ?_;refine tkC 31 ?_;refine tkC 32 ?_;refine tkA 33 (v:=?_) ?_ ?_;rotate_left
 ·intro X hSw;have hq:=H8.out X hSw;go_simp;try (with_reducible rfl)
 try simp only[Act.put,zA,zB,zC]
 refine tkC 34 ?_;refine tkC 35 ?_;refine tkC 36 ?_;refine rdA (rs:= [37]) ?_;refine arC (fun K hK=>?_);go_simp;try (go_wp2_with fail)
 have ac:=(show Below w.heap.size w ((w.alloc (.cells #[.int .i64 0,.int .i64 0,.int .i64 0] 91)).alloc (.cells #[.int .i64 0,.int .i64 0,.int .i64 0] 91)).drew from(((Below.refl _ w).alloc (Nat.le_refl _) _).alloc (by simp) _).drew)
 refine hK.out _ _ ?_ (fun _=>?_)
 ·exact ac
 clear hK K hHeld;have hHeld:=ac;clear ac;try simp only[Act.put,zA,zB,zC]
 refine rdA (rs:= [38]) ?_;refine arC (fun K hK=>?_);go_simp;try (go_wp2_with fail)
 have ac:=(show Below w.heap.size w ((w.alloc (.cells #[.int .i64 0,.int .i64 0,.int .i64 0] 91)).alloc (.cells #[.int .i64 (EP:Int),.int .i64 (n6:Int),.int .i64 (PG:Int)] 91)).drew from(((Below.refl _ w).alloc (Nat.le_refl _) _).alloc (by simp) _).drew)
 refine hK.out _ _ ?_ (fun _=>?_)
 ·exact ac
 clear hK K hHeld;have hHeld:=ac;clear ac;try simp only[Act.put,zA,zB,zC]
 refine wpAnyH_done (by kernel_rfl) ?_ _;obtain⟨W2,hW2⟩:∃W2,W2=((w.alloc (.cells #[.int .i64 0,.int .i64 0,.int .i64 0] 91)).alloc (.cells #[.int .i64 (EP:Int),.int .i64 (n6:Int),.int .i64 (PG:Int)] 91)).drew:=⟨_,rfl⟩
 rw[←hW2] at hHeld⊢;have au:Dv.Blk W2 (w.heap.size+1) 91 #[.int .i64 (EP:Int),.int .i64 (n6:Int),.int .i64 (PG:Int)]:=by rw[hW2];have h:=heap_alloc_new (w.alloc (.cells #[.int .i64 0,.int .i64 0,.int .i64 0] 91)) (.cells #[.int .i64 (EP:Int),.int .i64 (n6:Int),.int .i64 (PG:Int)] 91);rw[World.size_alloc] at h;exact h
 have hb4:Dv.Blk W2 w.heap.size 91 #[.int .i64 0,.int .i64 0,.int .i64 0]:=by rw[hW2];exact(Below.heap_alloc _ _ _ (by simp)).trans (heap_alloc_new w _)
 have aG:=qH au;have ah:=qH hb4;have aF:=qH hHeld;have q0:=au.cell 0;have q1:=au.cell 1;have q2:=au.cell 2;simp at q0 q1 q2;clear hW2 hHeld au hb4;clear hw2 hw3 hw4 Lq zx Bu JB hs2 hs3 hs4 po mC aP cX bD;by_cases hA:(1:Int)≤(EP:Int)
 ·by_cases hB:(EP:Int)≤1073741824
  ·by_cases hC:(n6:Int)<2
   ·by_cases hD:(1:Int)≤(PG:Int)
    ·by_cases hE:(PG:Int)≤(most:Int)
     ·go_wp2
      refine wp_region_held_drew (S:=fun X=>Dv.Blk X (w.heap.size+1) 91 #[.int .i64 (EP:Int),.int .i64 (n6:Int),.int .i64 (PG:Int)]) (by kernel_rfl) aG.out (fun hHeld=>?_);refine tkA 0 (v:=?_) ?_ ?_;rotate_left
      ·intro X hSw;have z0:=hSw.cell 0;have z1:=hSw.cell 1;have z2:=hSw.cell 2;simp at z0 z1 z2;go_simp;try (with_reducible rfl)
      try simp only[Act.put,zA,zB,zC]
      refine tkC 1 ?_;refine tkC 2 ?_;refine tkA 3 (v:=?_) ?_ ?_;rotate_left
      ·intro X hSw;have z0:=hSw.cell 0;have z1:=hSw.cell 1;have z2:=hSw.cell 2;simp at z0 z1 z2;go_simp;try (with_reducible rfl)
      try simp only[Act.put,zA,zB,zC]
      refine tkC 5 ?_;refine rdA (rs:= [4]) ?_;refine arC (fun K hK=>?_);go_simp;refine(headsec_any EP n6 PG (by omega) (by omega) (by omega) _).mono ?_;rintro e w7⟨v7,rfl,mB,bR⟩;have bJ:=qH ((Below.refl W2.heap.size W2).drew.trans bR);have yd:=qH (RB.own mB);obtain⟨A7,c7,rfl,_⟩:=own_shape mB;have yD:=qH (aG.out.below bJ.out aG.out.lt);have fH:=qH (ah.out.below bJ.out ah.out.lt);clear mB bR;try (go_wp2_with fail)
      have ac:=yD.out;refine hK.out _ _ ?_ (fun _=>?_)
      ·exact ac
      clear hK K hHeld;have hHeld:=ac;clear ac;try simp only[Act.put,zA,zB,zC]
      refine rdA (rs:= [6]) ?_;refine arC (fun K hK=>?_);go_simp;refine(equal_any _ _ _ l _ yd.out (jD.out.below (aF.out.trans (bJ.out.mono aF.out.size)))).mono ?_;rintro e w8⟨rfl,rfl⟩;try (go_wp2_with fail)
      refine hK.out _ _ ?_ (fun _=>?_)
      ·exact hHeld
      clear hK K;try simp only[Act.put,zA,zB,zC]
      refine tkC 7 ?_;refine rdA (rs:= [8]) ?_;refine arC (fun K hK=>?_);have f0:=fH.out.frozen 0;have f1:=fH.out.frozen 1;have f2:=fH.out.frozen 2;have p0:=fH.out.cell 0;have p1:=fH.out.cell 1;have p2:=fH.out.cell 2;simp at p0 p1 p2;go_simp;clear f0 f1 f2 p0 p1 p2;have ac:=(show Dv.Blk ((((w7.setCell ⟨w.heap.size,0,none⟩ (.int .i64 (EP:Int))).setCell ⟨w.heap.size,1,none⟩ (.int .i64 (n6:Int))).setCell ⟨w.heap.size,2,none⟩ (.int .i64 (PG:Int)))) (w.heap.size+1) 91 #[.int .i64 (EP:Int),.int .i64 (n6:Int),.int .i64 (PG:Int)] from((yD.out.far (by simp) _).far (by simp) _).far (by simp) _)
      refine hK.out _ _ ?_ (fun _=>?_)
      ·exact ac
      clear hK K hHeld;have hHeld:=ac;clear ac;try simp only[Act.put,zA,zB,zC]
      refine tkC 9 ?_;refine wpAnyH_done (by kernel_rfl) ?_ _;obtain⟨W3,hW3⟩:∃W3,W3=(((w7.setCell ⟨w.heap.size,0,none⟩ (.int .i64 (EP:Int))).setCell ⟨w.heap.size,1,none⟩ (.int .i64 (n6:Int))).setCell ⟨w.heap.size,2,none⟩ (.int .i64 (PG:Int))):=⟨_,rfl⟩
      rw[←hW3];have hb4:Dv.Blk W3 w.heap.size 91 #[.int .i64 (EP:Int),.int .i64 (n6:Int),.int .i64 (PG:Int)]:=by rw[hW3];exact((fH.out.set_ 0 _).set_ 1 _).set_ 2 _
      have ad:Below w.heap.size w W3:=by rw[hW3];exact((((aF.out.trans (bJ.out.mono aF.out.size)).setCell (Nat.le_refl _) _).setCell (Nat.le_refl _) _).setCell (Nat.le_refl _) _)
      have i9:=qH hb4;have hO:=qH ad;clear hb4 ad hW3 hHeld;go_wp2;refine bodyPost_ret (leaveRH rfl rfl i9.out) rfl ?_;exact⟨by rw[bm.out,if_pos (by omega)];rfl,hO.out⟩
     ·go_wp2
      refine wp_region_held_drew (S:=fun X=>Dv.Blk X (w.heap.size+1) 91 #[.int .i64 (EP:Int),.int .i64 (n6:Int),.int .i64 (PG:Int)]) (by kernel_rfl) aG.out (fun hHeld=>?_);refine tkA 0 (v:=?_) ?_ ?_;rotate_left
      ·intro X hSw;have z0:=hSw.cell 0;have z1:=hSw.cell 1;have z2:=hSw.cell 2;simp at z0 z1 z2;go_simp;try (with_reducible rfl)
      try simp only[Act.put,zA,zB,zC]
      refine tkC 1 ?_;refine tkC 2 ?_;refine tkB 3 ?_;refine tkB 4 ?_;refine tkB 5 ?_;refine tkB 6 ?_;refine tkC 7 ?_;refine rdA (rs:= [8]) ?_;refine arC (fun K hK=>?_);have f0:=ah.out.frozen 0;have f1:=ah.out.frozen 1;have f2:=ah.out.frozen 2;have p0:=ah.out.cell 0;have p1:=ah.out.cell 1;have p2:=ah.out.cell 2;simp at p0 p1 p2;go_simp;clear f0 f1 f2 p0 p1 p2;have ac:=(show Dv.Blk ((((W2.setCell ⟨w.heap.size,0,none⟩ (.int .i64 (EP:Int))).setCell ⟨w.heap.size,1,none⟩ (.int .i64 (n6:Int))).setCell ⟨w.heap.size,2,none⟩ (.int .i64 (PG:Int))).drew) (w.heap.size+1) 91 #[.int .i64 (EP:Int),.int .i64 (n6:Int),.int .i64 (PG:Int)] from((aG.out.far (by simp) _).far (by simp) _).far (by simp) _)
      refine hK.out _ _ ?_ (fun _=>?_)
      ·exact ac
      clear hK K hHeld;have hHeld:=ac;clear ac;try simp only[Act.put,zA,zB,zC]
      refine tkC 9 ?_;refine wpAnyH_done (by kernel_rfl) ?_ _;obtain⟨W3,hW3⟩:∃W3,W3=(((W2.setCell ⟨w.heap.size,0,none⟩ (.int .i64 (EP:Int))).setCell ⟨w.heap.size,1,none⟩ (.int .i64 (n6:Int))).setCell ⟨w.heap.size,2,none⟩ (.int .i64 (PG:Int))).drew:=⟨_,rfl⟩
      rw[←hW3];have hb4:Dv.Blk W3 w.heap.size 91 #[.int .i64 (EP:Int),.int .i64 (n6:Int),.int .i64 (PG:Int)]:=by rw[hW3];exact((ah.out.set_ 0 _).set_ 1 _).set_ 2 _
      have ad:Below w.heap.size w W3:=by rw[hW3];exact(((aF.out.setCell (Nat.le_refl _) _).setCell (Nat.le_refl _) _).setCell (Nat.le_refl _) _).drew
      have i9:=qH hb4;have hO:=qH ad;clear hb4 ad hW3 hHeld;go_wp2;refine bodyPost_ret (leaveRH rfl rfl i9.out) rfl ?_;exact⟨by rw[bm.out,if_neg (by omega)];rfl,hO.out⟩
    ·go_wp2
     refine wp_region_held_drew (S:=fun X=>Dv.Blk X (w.heap.size+1) 91 #[.int .i64 (EP:Int),.int .i64 (n6:Int),.int .i64 (PG:Int)]) (by kernel_rfl) aG.out (fun hHeld=>?_);refine tkA 0 (v:=?_) ?_ ?_;rotate_left
     ·intro X hSw;have z0:=hSw.cell 0;have z1:=hSw.cell 1;have z2:=hSw.cell 2;simp at z0 z1 z2;go_simp;try (with_reducible rfl)
     try simp only[Act.put,zA,zB,zC]
     refine tkC 1 ?_;refine tkC 2 ?_;refine tkB 3 ?_;refine tkB 4 ?_;refine tkB 5 ?_;refine tkB 6 ?_;refine tkC 7 ?_;refine rdA (rs:= [8]) ?_;refine arC (fun K hK=>?_);have f0:=ah.out.frozen 0;have f1:=ah.out.frozen 1;have f2:=ah.out.frozen 2;have p0:=ah.out.cell 0;have p1:=ah.out.cell 1;have p2:=ah.out.cell 2;simp at p0 p1 p2;go_simp;clear f0 f1 f2 p0 p1 p2;have ac:=(show Dv.Blk ((((W2.setCell ⟨w.heap.size,0,none⟩ (.int .i64 (EP:Int))).setCell ⟨w.heap.size,1,none⟩ (.int .i64 (n6:Int))).setCell ⟨w.heap.size,2,none⟩ (.int .i64 (PG:Int))).drew) (w.heap.size+1) 91 #[.int .i64 (EP:Int),.int .i64 (n6:Int),.int .i64 (PG:Int)] from((aG.out.far (by simp) _).far (by simp) _).far (by simp) _)
     refine hK.out _ _ ?_ (fun _=>?_)
     ·exact ac
     clear hK K hHeld;have hHeld:=ac;clear ac;try simp only[Act.put,zA,zB,zC]
     refine tkC 9 ?_;refine wpAnyH_done (by kernel_rfl) ?_ _;obtain⟨W3,hW3⟩:∃W3,W3=(((W2.setCell ⟨w.heap.size,0,none⟩ (.int .i64 (EP:Int))).setCell ⟨w.heap.size,1,none⟩ (.int .i64 (n6:Int))).setCell ⟨w.heap.size,2,none⟩ (.int .i64 (PG:Int))).drew:=⟨_,rfl⟩
     rw[←hW3];have hb4:Dv.Blk W3 w.heap.size 91 #[.int .i64 (EP:Int),.int .i64 (n6:Int),.int .i64 (PG:Int)]:=by rw[hW3];exact((ah.out.set_ 0 _).set_ 1 _).set_ 2 _
     have ad:Below w.heap.size w W3:=by rw[hW3];exact(((aF.out.setCell (Nat.le_refl _) _).setCell (Nat.le_refl _) _).setCell (Nat.le_refl _) _).drew
     have i9:=qH hb4;have hO:=qH ad;clear hb4 ad hW3 hHeld;go_wp2;refine bodyPost_ret (leaveRH rfl rfl i9.out) rfl ?_;exact⟨by rw[bm.out,if_neg (by omega)];rfl,hO.out⟩
   ·go_wp2
    refine wp_region_held_drew (S:=fun X=>Dv.Blk X (w.heap.size+1) 91 #[.int .i64 (EP:Int),.int .i64 (n6:Int),.int .i64 (PG:Int)]) (by kernel_rfl) aG.out (fun hHeld=>?_);refine tkA 0 (v:=?_) ?_ ?_;rotate_left
    ·intro X hSw;have z0:=hSw.cell 0;have z1:=hSw.cell 1;have z2:=hSw.cell 2;simp at z0 z1 z2;go_simp;try (with_reducible rfl)
    try simp only[Act.put,zA,zB,zC]
    refine tkC 1 ?_;refine tkC 2 ?_;refine tkB 3 ?_;refine tkB 4 ?_;refine tkB 5 ?_;refine tkB 6 ?_;refine tkC 7 ?_;refine rdA (rs:= [8]) ?_;refine arC (fun K hK=>?_);have f0:=ah.out.frozen 0;have f1:=ah.out.frozen 1;have f2:=ah.out.frozen 2;have p0:=ah.out.cell 0;have p1:=ah.out.cell 1;have p2:=ah.out.cell 2;simp at p0 p1 p2;go_simp;clear f0 f1 f2 p0 p1 p2;have ac:=(show Dv.Blk ((((W2.setCell ⟨w.heap.size,0,none⟩ (.int .i64 (EP:Int))).setCell ⟨w.heap.size,1,none⟩ (.int .i64 (n6:Int))).setCell ⟨w.heap.size,2,none⟩ (.int .i64 (PG:Int))).drew) (w.heap.size+1) 91 #[.int .i64 (EP:Int),.int .i64 (n6:Int),.int .i64 (PG:Int)] from((aG.out.far (by simp) _).far (by simp) _).far (by simp) _)
    refine hK.out _ _ ?_ (fun _=>?_)
    ·exact ac
    clear hK K hHeld;have hHeld:=ac;clear ac;try simp only[Act.put,zA,zB,zC]
    refine tkC 9 ?_;refine wpAnyH_done (by kernel_rfl) ?_ _;obtain⟨W3,hW3⟩:∃W3,W3=(((W2.setCell ⟨w.heap.size,0,none⟩ (.int .i64 (EP:Int))).setCell ⟨w.heap.size,1,none⟩ (.int .i64 (n6:Int))).setCell ⟨w.heap.size,2,none⟩ (.int .i64 (PG:Int))).drew:=⟨_,rfl⟩
    rw[←hW3];have hb4:Dv.Blk W3 w.heap.size 91 #[.int .i64 (EP:Int),.int .i64 (n6:Int),.int .i64 (PG:Int)]:=by rw[hW3];exact((ah.out.set_ 0 _).set_ 1 _).set_ 2 _
    have ad:Below w.heap.size w W3:=by rw[hW3];exact(((aF.out.setCell (Nat.le_refl _) _).setCell (Nat.le_refl _) _).setCell (Nat.le_refl _) _).drew
    have i9:=qH hb4;have hO:=qH ad;clear hb4 ad hW3 hHeld;go_wp2;refine bodyPost_ret (leaveRH rfl rfl i9.out) rfl ?_;exact⟨by rw[bm.out,if_neg (by omega)];rfl,hO.out⟩
  ·go_wp2
   refine wp_region_held_drew (S:=fun X=>Dv.Blk X (w.heap.size+1) 91 #[.int .i64 (EP:Int),.int .i64 (n6:Int),.int .i64 (PG:Int)]) (by kernel_rfl) aG.out (fun hHeld=>?_);refine tkA 0 (v:=?_) ?_ ?_;rotate_left
   ·intro X hSw;have z0:=hSw.cell 0;have z1:=hSw.cell 1;have z2:=hSw.cell 2;simp at z0 z1 z2;go_simp;try (with_reducible rfl)
   try simp only[Act.put,zA,zB,zC]
   refine tkC 1 ?_;refine tkC 2 ?_;refine tkB 3 ?_;refine tkB 4 ?_;refine tkB 5 ?_;refine tkB 6 ?_;refine tkC 7 ?_;refine rdA (rs:= [8]) ?_;refine arC (fun K hK=>?_);have f0:=ah.out.frozen 0;have f1:=ah.out.frozen 1;have f2:=ah.out.frozen 2;have p0:=ah.out.cell 0;have p1:=ah.out.cell 1;have p2:=ah.out.cell 2;simp at p0 p1 p2;go_simp;clear f0 f1 f2 p0 p1 p2;have ac:=(show Dv.Blk ((((W2.setCell ⟨w.heap.size,0,none⟩ (.int .i64 (EP:Int))).setCell ⟨w.heap.size,1,none⟩ (.int .i64 (n6:Int))).setCell ⟨w.heap.size,2,none⟩ (.int .i64 (PG:Int))).drew) (w.heap.size+1) 91 #[.int .i64 (EP:Int),.int .i64 (n6:Int),.int .i64 (PG:Int)] from((aG.out.far (by simp) _).far (by simp) _).far (by simp) _)
   refine hK.out _ _ ?_ (fun _=>?_)
   ·exact ac
   clear hK K hHeld;have hHeld:=ac;clear ac;try simp only[Act.put,zA,zB,zC]
   refine tkC 9 ?_;refine wpAnyH_done (by kernel_rfl) ?_ _;obtain⟨W3,hW3⟩:∃W3,W3=(((W2.setCell ⟨w.heap.size,0,none⟩ (.int .i64 (EP:Int))).setCell ⟨w.heap.size,1,none⟩ (.int .i64 (n6:Int))).setCell ⟨w.heap.size,2,none⟩ (.int .i64 (PG:Int))).drew:=⟨_,rfl⟩
   rw[←hW3];have hb4:Dv.Blk W3 w.heap.size 91 #[.int .i64 (EP:Int),.int .i64 (n6:Int),.int .i64 (PG:Int)]:=by rw[hW3];exact((ah.out.set_ 0 _).set_ 1 _).set_ 2 _
   have ad:Below w.heap.size w W3:=by rw[hW3];exact(((aF.out.setCell (Nat.le_refl _) _).setCell (Nat.le_refl _) _).setCell (Nat.le_refl _) _).drew
   have i9:=qH hb4;have hO:=qH ad;clear hb4 ad hW3 hHeld;go_wp2;refine bodyPost_ret (leaveRH rfl rfl i9.out) rfl ?_;exact⟨by rw[bm.out,if_neg (by omega)];rfl,hO.out⟩
 ·go_wp2
  refine wp_region_held_drew (S:=fun X=>Dv.Blk X (w.heap.size+1) 91 #[.int .i64 (EP:Int),.int .i64 (n6:Int),.int .i64 (PG:Int)]) (by kernel_rfl) aG.out (fun hHeld=>?_);refine tkA 0 (v:=?_) ?_ ?_;rotate_left
  ·intro X hSw;have z0:=hSw.cell 0;have z1:=hSw.cell 1;have z2:=hSw.cell 2;simp at z0 z1 z2;go_simp;try (with_reducible rfl)
  try simp only[Act.put,zA,zB,zC]
  refine tkC 1 ?_;refine tkC 2 ?_;refine tkB 3 ?_;refine tkB 4 ?_;refine tkB 5 ?_;refine tkB 6 ?_;refine tkC 7 ?_;refine rdA (rs:= [8]) ?_;refine arC (fun K hK=>?_);have f0:=ah.out.frozen 0;have f1:=ah.out.frozen 1;have f2:=ah.out.frozen 2;have p0:=ah.out.cell 0;have p1:=ah.out.cell 1;have p2:=ah.out.cell 2;simp at p0 p1 p2;go_simp;clear f0 f1 f2 p0 p1 p2;have ac:=(show Dv.Blk ((((W2.setCell ⟨w.heap.size,0,none⟩ (.int .i64 (EP:Int))).setCell ⟨w.heap.size,1,none⟩ (.int .i64 (n6:Int))).setCell ⟨w.heap.size,2,none⟩ (.int .i64 (PG:Int))).drew) (w.heap.size+1) 91 #[.int .i64 (EP:Int),.int .i64 (n6:Int),.int .i64 (PG:Int)] from((aG.out.far (by simp) _).far (by simp) _).far (by simp) _)
  refine hK.out _ _ ?_ (fun _=>?_)
  ·exact ac
  clear hK K hHeld;have hHeld:=ac;clear ac;try simp only[Act.put,zA,zB,zC]
  refine tkC 9 ?_;refine wpAnyH_done (by kernel_rfl) ?_ _;obtain⟨W3,hW3⟩:∃W3,W3=(((W2.setCell ⟨w.heap.size,0,none⟩ (.int .i64 (EP:Int))).setCell ⟨w.heap.size,1,none⟩ (.int .i64 (n6:Int))).setCell ⟨w.heap.size,2,none⟩ (.int .i64 (PG:Int))).drew:=⟨_,rfl⟩
  rw[←hW3];have hb4:Dv.Blk W3 w.heap.size 91 #[.int .i64 (EP:Int),.int .i64 (n6:Int),.int .i64 (PG:Int)]:=by rw[hW3];exact((ah.out.set_ 0 _).set_ 1 _).set_ 2 _
  have ad:Below w.heap.size w W3:=by rw[hW3];exact(((aF.out.setCell (Nat.le_refl _) _).setCell (Nat.le_refl _) _).setCell (Nat.le_refl _) _).drew
  have i9:=qH hb4;have hO:=qH ad;clear hb4 ad hW3 hHeld;go_wp2;refine bodyPost_ret (leaveRH rfl rfl i9.out) rfl ?_;exact⟨by rw[bm.out,if_neg (by omega)];rfl,hO.out⟩
end Go.Proofs.YtmbkaedhllfoeaaGreat
